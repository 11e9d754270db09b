import PyProof.Rows.All
import Wide.All
import OpenK.AllK
import Wide.FinOn
import HandS.ForMost
import HandS.IsInst
import HandS.Property
import HandS.OwnEq
import HandS.SlotsOwn
import HandS.Style
import HandS.Wide
import HandS.WideBits
import HandS.Conv
import HandS.Evl
import HandS.EndBits
import HandS.Zip
import KE.KTupSum
import HandS.Walk
import HandS.Deep
import HandS.SortRule
import KE.GoesMore
import KE.GoesEnum
import HandS.TupAny
import HandS.MakeKw
import KE.KFmtOwn
import PySem.Challenge.RW_sureparts_k17_whole_ways_and_forms
set_option Elab.async false
set_option linter.all false
set_option maxRecDepth 100000
set_option maxHeartbeats 2000000
/-! Own rules beside the hand layer: what is walked may be a list or a tuple; sum of a tuple; slices with a step; an own == with either answer; calls by names alone. -/
namespace SB
open PySem PySem.Spec PyProof.Rows L2

/-- a list or a tuple of these values at a -/
def Sq (K : PySem.W.Frag) (H : Hp) (a : Addr) (xs : List V) : Prop := SqL K H a xs ∨ SqT K H a xs

section
variable {X : Cx} {tg : Expr}
/-- for x in NAME, a list or a tuple -/
def iSeq (K : PySem.W.Frag) (i : Nat) : TI := fun σ H R => ∃ a, σ[i]? = some (some (.ref a)) ∧ (((∃ xs, SqL K H a xs) ∧ R (Itl K a) H) ∨ ((∃ xs, SqT K H a xs) ∧ R (Itt K a) H))
theorem pi_seq {l : Expr} {i : Nat} (hl : PE X l (tVar i)) : PI X tg l (iSeq X.K i) := by
  refine ⟨fun pins s σ H R I h => ?_⟩
  obtain ⟨a, hs, h | h⟩ := h
  · exact (pi_list hl).run pins s σ H R I ⟨.ref a, hs, a, rfl, h.1, h.2⟩
  · exact (pi_tup hl).run pins s σ H R I ⟨.ref a, hs, a, rfl, h.1, h.2⟩

/-- sum of a list or a tuple of whole numbers -/
def rSumSq (K : PySem.W.Frag) : List V → Hp → VK → Prop := fun vs H Q => ∃ (a : Addr) (ns : List Int), vs = [V.ref a] ∧ Sq K H a (ns.map V.int) ∧ Q (.int ns.sum) H
theorem cr_sumSq (hc : X.calm = true) : CallR X (.builtin "sum") (rSumSq X.K) := by
  intro pins s σ H vs us Q I r h
  obtain ⟨a, ns, rfl, hs | hs, q⟩ := h
  · exact cr_sum hc pins s σ H _ us Q I r ⟨a, ns, rfl, hs, q⟩
  · obtain ⟨its, rv, ht, _⟩ := I.tuple hs
    rw [Vals.ref1 r]
    have hi := rv.ints
    obtain ⟨xs, e⟩ := hi.allInts.items
    have hn : numsOf (intItems xs).toList = ns := by rw [← e]; exact hi.numsOf
    rw [nums_intItems] at hn
    have ht' : s.heap.IsTuple a (intItems xs) := by rw [← e]; exact ht
    refine PySem.W.ktm_sumG (I.ok.hd hc) ht' fun h' tk t' hk => ?_
    rw [preSum_eq, List.take_of_length_le (by simp), hn]
    exact ⟨.int _, H, I.kept hk, ⟨_, rfl⟩, q⟩

/-- xs[::k], k above 0: a new list of some of its items -/
def wStep (K : PySem.W.Frag) (x : V) (Q : VK) : Option Int → Hp → Prop
  | some k, H2 => ∃ a xs, x = .ref a ∧ 0 < k ∧ SqL K H2 a xs ∧ ∀ ys p, (∀ v, v ∈ ys → v ∈ xs) → ys.length ≤ xs.length → H2 p = none → Q (.ref p) (upd H2 p (.lst ys))
  | none, _ => False
def tStepL (K : PySem.W.Frag) (te tk : TE) : TE := fun σ H Q => te σ H fun x H1 => tk σ H1 fun y H2 => ∃ k, y = .int k ∧ wStep K x Q (some k) H2
theorem vals_pick {xs : List V} {us : List Value} (r : Vals xs us) : ∀ (js : List Nat), ∃ ys, Vals ys (js.filterMap (us[·]?)) ∧ (∀ v, v ∈ ys → v ∈ xs) ∧ ys.length ≤ js.length := by
  intro js
  induction js with
  | nil => exact ⟨[], .nil, (fun v h => absurd h (by simp)), Nat.le_refl _⟩
  | cons j js ih =>
    obtain ⟨ys, rv, hm, hl⟩ := ih
    by_cases hj : j < xs.length
    · obtain ⟨u, hu, ru⟩ := r.get (show xs[j]? = some xs[j] by simp [hj])
      refine ⟨xs[j] :: ys, ?_, fun v h => ?_, by simp; omega⟩
      · rw [List.filterMap_cons_some hu]
        exact .cons ru rv
      · rcases List.mem_cons.mp h with e | h
        · rw [e]; exact List.getElem_mem hj
        · exact hm v h
    · have hu : us[j]? = none := by
        rw [List.getElem?_eq_none_iff]
        have := r.length
        omega
      refine ⟨ys, ?_, hm, by simp; omega⟩
      rw [List.filterMap_cons_none hu]
      exact rv
theorem step_len {n : Nat} {k : Int} (hk : 0 < k) : (sliceRange (sliceBounds none none (some k) n).1 (sliceBounds none none (some k) n).2.1 (sliceBounds none none (some k) n).2.2).length ≤ n := by
  have e : sliceBounds none none (some k) n = (0, (n : Int), k) := by
    unfold sliceBounds
    simp only [Option.getD_some]
    rw [if_pos hk, if_pos hk]
  rw [e]
  refine Nat.le_trans (sliceRange_len_le 0 n k (by omega)) ?_
  rw [if_pos hk]
  omega
theorem pe_stepL {e st : Expr} {te tk : TE} {p3 pos : Pos} (he : PE X e te) (hk : PE X st tk) (htail : ∀ a b, subscriptTail e (.Slice none none (some st) p3) (.ref a) (.ref b) = subscriptTail e (.Slice none none (some st) p3) (.ref a) (.ref b) := by intro _ _; rfl) : PE X (.Subscript e (.Slice none none (some st) p3) pos) (tStepL X.K te tk) := by
  refine ⟨fun pins s σ H Q I h => ?_⟩
  refine Subscript_ (thn (he.run pins s σ H _ I h) fun v s1 ⟨x, H1, I1, r1, q1⟩ => ?_)
  have hst : PO X (some st) (tPart tk) := po_some hk
  refine wpAny_Slice (thn (po_none.run pins s1 σ H1 (fun o H2 => o = none ∧ H2 = H1) I1 ⟨rfl, rfl⟩) fun vl s2 ⟨l, H2, I2, pl, el, e2⟩ => ?_)
  subst el e2
  refine thn (po_none.run pins s2 σ H2 (fun o H3 => o = none ∧ H3 = H2) I2 ⟨rfl, rfl⟩) fun vu s3 ⟨u, H3, I3, pu, eu, e3⟩ => ?_
  subst eu e3
  refine thn (hst.run pins s3 σ H3 (wStep X.K x Q) I3 q1) fun vs s4 ⟨o, H4, I4, ps, w⟩ => ?_
  cases o with
  | none => exact w.elim
  | some k =>
  obtain ⟨a, xs, ex, hk0, hx, q⟩ := w
  subst ex
  cases r1
  have I5 : Inv X pins σ H4 { s4 with heap := s4.heap.push { cls := .type "slice", data := .fields #[vl, vu, vs] } } := I4.kept (t' := s4.toks) fun b ob q => Heap.get?_push_of_some _ q
  obtain ⟨its, r, ht, hz⟩ := I5.list hx
  have hlen := r.length
  show wpAny (model X.prog X.w) X.A (subscriptTail e (.Slice none none (some st) p3) (.ref a) (.ref s4.heap.objs.size)) (EP X pins σ Q) X.xe { s4 with heap := s4.heap.push { cls := .type "slice", data := .fields #[vl, vu, vs] } }
  refine tail_any (ops := [.ref a, .ref s4.heap.objs.size]) ht.isList.typeIs (PySem.slot_list_getitem.lookup) ?_ (by with_unfolding_all rfl)
  refine wpAny_getItem_list_slice ht.isList (Heap.IsSliceOf.new _ vl vu vs) pl pu ps (fun z => by cases z; omega) ?_ (by rw [List.size_toArray]; omega)
  obtain ⟨ys, rv, hm, hl⟩ := vals_pick r (sliceRange (sliceBounds none none (some k) its.toArray.size).1 (sliceBounds none none (some k) its.toArray.size).2.1 (sliceBounds none none (some k) its.toArray.size).2.2)
  have hl2 : ys.length ≤ xs.length := by
    refine Nat.le_trans hl (Nat.le_trans (step_len hk0) ?_)
    rw [List.size_toArray]
    omega
  refine ⟨.ref _, _, I5.laid (t' := s4.toks) (o := .lst ys) (fun b ob q => Heap.get?_push_of_some _ q) (Nat.le_refl _) ?_, rfl, q ys _ hm hl2 (I5.hok.fresh (Nat.le_refl _))⟩
  have hpk : slicePick its.toArray none none (some k) = (List.filterMap (its[·]?) (sliceRange (sliceBounds none none (some k) its.toArray.size).1 (sliceBounds none none (some k) its.toArray.size).2.1 (sliceBounds none none (some k) its.toArray.size).2.2)).toArray := by
    unfold slicePick
    simp
  refine ⟨Nat.le_trans hl2 hz, _, 0, rv, ?_⟩
  rw [hpk]
  exact Heap.get?_push_size _ rfl
end

/-! ### own == with either answer -/
/-- the type of what stands on the right -/
inductive TyR (H : Hp) : V → Value → Prop where
  | non : TyR H .non (.type "NoneType")
  | bl (x : Bool) : TyR H (.bl x) (.type "bool")
  | int (i : Int) : TyR H (.int i) (.type "int")
  | str (x : Str) : TyR H (.str x) (.type "str")
  | lst {a : Addr} {xs : List V} (e : H a = some (.lst xs)) : TyR H (.ref a) (.type "list")
  | tup {a : Addr} {xs : List V} (e : H a = some (.tup xs)) : TyR H (.ref a) (.type "tuple")
  | ins {a C dx : Addr} {fs : List (Str × V)} (e : H a = some (.ins C dx fs)) : TyR H (.ref a) (.ref C)
section
variable {X : Cx} {pins : List (Addr × Obj)} {σ : L2.St} {H : Hp} {s : Shared}
theorem looks_of {M : Model} {y : V} {u t : Value} (I : Inv X pins σ H s) (ry : RelV y u) (ty : TyR H y t) : PySem.W.Looks M s.heap (typeOf u) t := by
  cases ty with
  | non => cases (show u = Value.none from ry); exact PySem.W.Looks.of_pure rfl
  | bl y => cases (show u = Value.bool y from ry); exact PySem.W.Looks.of_pure rfl
  | int i => obtain ⟨t, q⟩ := (show ∃ t, u = Value.int i t from ry); cases q; exact PySem.W.Looks.of_pure rfl
  | str y => obtain ⟨t, q⟩ := (show ∃ t, u = Value.str y t from ry); cases q; exact PySem.W.Looks.of_pure rfl
  | @lst a xs ea =>
    cases (show u = Value.ref a from ry)
    obtain ⟨_, _, n, _, h1⟩ := (show ObjOk X.prog X.w H s.heap a (.lst xs) from I.hok a _ ea)
    exact (PySem.W.Looks.ld h1).andThen .now
  | @tup a xs ea =>
    cases (show u = Value.ref a from ry)
    obtain ⟨_, _, _, o, h1, h2, _⟩ := (show ObjOk X.prog X.w H s.heap a (.tup xs) from I.hok a _ ea)
    exact h2 ▸ (PySem.W.Looks.ld h1).andThen .now
  | @ins a C dx fs ea =>
    cases (show u = Value.ref a from ry)
    obtain ⟨mA, O, _⟩ := ins_get I.hok ea
    obtain ⟨od, J, _⟩ := O.look
    exact J.type
def rEqOwn (K : PySem.W.Frag) (C : Addr) (sp : Sp) (E : XK) : R2 := fun x y H Q => ∃ a dx fs tb, x = .ref a ∧ H a = some (.ins C dx fs) ∧ TyR H y tb ∧ PySem.W.notFirst K C tb = true ∧ sp [x, y] H (fun v H' => ∃ b, v = .bl b ∧ Q (.bl b) H') E
theorem op_eqOwn {CX : CXT} {n : Nat} {C f : Addr} {fd : FuncData} {ps : List Str} {sp : Sp} {E : XK} (F : FnOk X.prog X.w X.K X.mg X.base CX n f fd ps sp) (hr : Room n X.A)
    (hs : PySem.W.findIn X.K (.ref C) "__eq__" = some (some (.ref f))) (hf : PySem.W.isFn X.K (.ref f) = true) (hb : Binds X.K fd ps []) (hx : Passes CX X E) : OpR X (compareOp .Eq) (rEqOwn X.K C sp E) := by
  intro pins s σ H x y v u Q I rx ry h
  obtain ⟨a, dx, fs, tb, rfl, ha, ty, hn, q⟩ := h
  cases (show v = Value.ref a from rx)
  obtain ⟨mA, J, _⟩ := ins_get I.hok ha
  obtain ⟨od, J, _⟩ := J.look
  obtain ⟨m, hF⟩ := I.fr
  show wpAny (model X.prog X.w) X.A (richCompare .Eq (.ref a) u) (EP X pins σ Q) X.xe s
  refine PySem.W.cmp_K (op := .Eq) (tb := tb) hr.units0 hF I.ok.mod.kin J (looks_of I ry ty) hn hs hf ?_
  have hl := F.len _ _ _ _ q
  have r2 : Vals [V.ref a, y] [Value.ref a, u] := .cons rfl (.cons ry .nil)
  refine wpAny_call (codeAny_mono (F.run X.A X.stack s H ⟨[.ref a, u], []⟩ [.ref a, u] [.ref a, y] _ E hr I.env0 (by
    have := hb s [.ref a, u] I.kIn (by simpa using hl)
    simpa using this) r2 q) fun r s' hq => ?_)
  cases r with
  | error e => exact hx pins σ H s e s' I hq
  | ok fl =>
    cases fl with
    | ret w =>
      obtain ⟨z, H', I', rz, b, ez, qz⟩ := I.after hq
      subst ez
      cases (show w = Value.bool b from rz)
      exact ⟨.bl b, H', I', rfl, qz⟩
    | next => exact False.elim hq
    | brk => exact False.elim hq
    | cont => exact False.elim hq
end

/-! ### f(k = v, ..), no value by position -/
section
variable {X : Cx} {CX : CXT} {k : Nat} {f : Addr} {fd : FuncData} {ps ks : List Str} {sp : Sp} {E : XK} {x : Str} {p pos : Pos} {kws : List Keyword} {tk : TA} {g : List Value → List Value → List Value} {gV : List V → List V → List V}
def tCallK0 (sp : Sp) (gV : List V → List V → List V) (E : XK) (tk : TA) : TE := fun σ H Q => tk σ H fun zs H2 => sp (gV [] zs) H2 Q E
theorem pe_callK0 (F : FnOk X.prog X.w X.K X.mg X.base CX k f fd ps sp) (hr : Room k X.A) (hg : Gl X x) (hm : X.mg x = some (.ref f)) (hk : PySem.W.keepIn X.K (.ref f) = true) (hb : KBinds X.K fd ps ks g gV) (hx : Passes CX X E)
    (hkw : PK X kws tk) (hall : (backToKw pos (keywordEach kws X.env)).all (·.1.isSome) = true := by rfl) (hks : (backToKw pos (keywordEach kws X.env)).filterMap (·.1) = ks := by rfl)
    (hdb : (x == ("__debug__" : Str)) = false := by decide)
    (hpl : ((backTo pos (starEach [] X.env)).any (·.1) || (backToKw pos (keywordEach kws X.env)).any (·.1.isNone)) = false := by rfl) :
    PE X (.Call (.Name x p) [] kws pos) (tCallK0 sp gV E tk) := by
  refine ⟨fun pins s σ H Q I h => ?_⟩
  refine wpAny_Call_Name_kw (ld_glob I hg hm ?_ hdb)
  refine PySem.W.callWith_KW0 (h₀ := X.base) I.ok.mod.kin hk hall (thn (hkw.run pos pins s σ H _ I h) fun ws s2 ⟨zs, H2, I2, rz, q2⟩ => ⟨I2.kIn, ?_⟩) hpl
  rw [hks]
  exact run_fnk F hr hb hx I2 .nil rz q2
end
end SB

set_option maxRecDepth 100000
set_option maxHeartbeats 2000000
/-! Data in the heap: pairs, lists of pairs, lists of numbers, lists of lists; what stands beside one list that is drawn from. -/
namespace SB
open PySem PySem.Spec PyProof.Rows L2
abbrev Ex := Evl.Ex
/-- what is new in H' -/
def nw (H H' : Hp) : Hp := fun b => if H b = none then H' b else none
theorem nw_at {H H' : Hp} {a : Addr} {o : HO} (h0 : H a = none) (h : H' a = some o) : nw H H' a = some o := by
  unfold nw; rw [if_pos h0]; exact h
theorem nw_of {H H' : Hp} {a : Addr} {o : HO} (h : nw H H' a = some o) : H a = none ∧ H' a = some o := by
  unfold nw at h
  by_cases c : H a = none
  · rw [if_pos c] at h; exact ⟨c, h⟩
  · rw [if_neg c] at h; cases h
theorem nw_ex {H H' : Hp} : Ex (nw H H') H' := fun a o h => (nw_of h).2
theorem nw_mono {H H1 H2 H3 : Hp} (e : Ex H H1) (e2 : Ex H2 H3) : Ex (nw H1 H2) (nw H H3) := fun a o h => nw_at (Evl.fresh_back e (nw_of h).1) (e2 a o (nw_of h).2)
/-- all but p -/
def dr (p : Addr) (H : Hp) : Hp := fun b => if b = p then none else H b
theorem dr_at {p : Addr} {H : Hp} {a : Addr} {o : HO} (h : a ≠ p) (e : H a = some o) : dr p H a = some o := by
  unfold dr; rw [if_neg h]; exact e
theorem dr_of {p : Addr} {H : Hp} {a : Addr} {o : HO} (e : dr p H a = some o) : a ≠ p ∧ H a = some o := by
  unfold dr at e
  by_cases c : a = p
  · rw [if_pos c] at e; cases e
  · rw [if_neg c] at e; exact ⟨c, e⟩
theorem dr_ex {p : Addr} {H : Hp} : Ex (dr p H) H := fun a o h => (dr_of h).2
theorem dr_mono {p : Addr} {H H' : Hp} (e : Ex H H') : Ex (dr p H) (dr p H') := fun a o h => dr_at (dr_of h).1 (e a o (dr_of h).2)
theorem nw_dr {p : Addr} {H H' : Hp} {o : HO} (hp : H p = some o) : Ex (nw H H') (dr p H') := fun a u h => dr_at (fun z => by rw [z] at h; rw [(nw_of h).1] at hp; cases hp) (nw_of h).2
theorem dr_upd {p : Addr} {H : Hp} {o : HO} : dr p (upd H p o) = dr p H := by
  funext b
  unfold dr
  by_cases c : b = p
  · rw [if_pos c, if_pos c]
  · rw [if_neg c, if_neg c, upd_ne c]
theorem dr_new {p q : Addr} {H : Hp} {o : HO} (hq : H q = none) : Ex (dr p H) (dr p (upd H q o)) := dr_mono (Evl.Ex.new hq)

/-! ### pairs of whole numbers, lists of them -/
def IsPr (H : Hp) (v : V) (p : Int × Int) : Prop := ∃ t, v = .ref t ∧ H t = some (.tup [.int p.1, .int p.2])
abbrev Ar (H : Hp) (xs : List V) (ar : List (Int × Int)) : Prop := Paired (IsPr H) xs ar
theorem p2_mono {α β : Type} {R S : α → β → Prop} (h : ∀ a b, R a b → S a b) : ∀ {xs : List α} {ys : List β}, Paired R xs ys → Paired S xs ys
  | _, _, .nil => .nil
  | _, _, .cons r q => .cons (h _ _ r) (p2_mono h q)
theorem IsPr.mono {H H' : Hp} (e : Ex H H') {v : V} {p : Int × Int} (h : IsPr H v p) : IsPr H' v p := by
  obtain ⟨t, ev, ht⟩ := h
  exact ⟨t, ev, e _ _ ht⟩
theorem Ar.mono {H H' : Hp} (e : Ex H H') {xs : List V} {ar : List (Int × Int)} (h : Ar H xs ar) : Ar H' xs ar := p2_mono (fun _ _ => IsPr.mono e) h
theorem p2_get {α β : Type} {R : α → β → Prop} : ∀ {xs : List α} {ys : List β}, Paired R xs ys → ∀ {i : Nat} {x : α}, xs[i]? = some x → ∃ y, ys[i]? = some y ∧ R x y
  | _, _, .nil, i, x, h => by simp at h
  | _, _, .cons (b := b) r q, 0, x, h => ⟨b, rfl, (Option.some.inj h) ▸ r⟩
  | _, _, .cons r q, i + 1, x, h => by
    obtain ⟨y, e, r'⟩ := p2_get q (i := i) (x := x) (by simpa using h)
    exact ⟨y, by simpa using e, r'⟩
theorem p2_snoc {α β : Type} {R : α → β → Prop} {x : α} {y : β} : ∀ {xs : List α} {ys : List β}, Paired R xs ys → R x y → Paired R (xs ++ [x]) (ys ++ [y])
  | _, _, .nil, h => .cons h .nil
  | _, _, .cons r q, h => .cons r (p2_snoc q h)
theorem p2_len {α β : Type} {R : α → β → Prop} : ∀ {xs : List α} {ys : List β}, Paired R xs ys → xs.length = ys.length
  | _, _, .nil => rfl
  | _, _, .cons r q => by simp [p2_len q]
theorem p2_mem {α β : Type} {R : α → β → Prop} {x : α} : ∀ {xs : List α} {ys : List β}, Paired R xs ys → x ∈ xs → ∃ y, y ∈ ys ∧ R x y
  | _, _, .nil, h => by cases h
  | _, _, .cons r q, h => by
    rcases List.mem_cons.mp h with e | h
    · subst e; exact ⟨_, List.mem_cons_self, r⟩
    · obtain ⟨y, hy, ry⟩ := p2_mem q h
      exact ⟨y, List.mem_cons_of_mem _ hy, ry⟩
theorem p2_rev {α β : Type} {R : α → β → Prop} : ∀ {xs : List α} {ys : List β}, Paired R xs ys → Paired R xs.reverse ys.reverse
  | _, _, .nil => .nil
  | _, _, .cons r q => by rw [List.reverse_cons, List.reverse_cons]; exact p2_snoc (p2_rev q) r
theorem p2_drop {α β : Type} {R : α → β → Prop} : ∀ (n : Nat) {xs : List α} {ys : List β}, Paired R xs ys → Paired R (xs.drop n) (ys.drop n)
  | 0, _, _, h => h
  | n + 1, _, _, .nil => .nil
  | n + 1, _, _, .cons r q => by simpa using p2_drop n q
/-- a list or a tuple of values at a -/
def Sq2 (H : Hp) (a : Addr) (xs : List V) : Prop := H a = some (.lst xs) ∨ H a = some (.tup xs)
theorem Sq2.mono {H H' : Hp} (e : Ex H H') {a : Addr} {xs : List V} (h : Sq2 H a xs) : Sq2 H' a xs := h.imp (e _ _) (e _ _)
theorem Sq2.inj {H : Hp} {a : Addr} {xs ys : List V} (h : Sq2 H a xs) (k : Sq2 H a ys) : xs = ys := by
  rcases h with h | h <;> rcases k with k | k <;> rw [h] at k <;> cases k <;> rfl
theorem sqL {K : PySem.W.Frag} {H : Hp} {a : Addr} {xs : List V} (h : H a = some (.lst xs)) : SqL K H a xs := .inl (.inl h)
theorem sqT {K : PySem.W.Frag} {H : Hp} {a : Addr} {xs : List V} (h : H a = some (.tup xs)) : SqT K H a xs := .inl (.inl h)
theorem Sq2.sq {K : PySem.W.Frag} {H : Hp} {a : Addr} {xs : List V} (h : Sq2 H a xs) : Sq K H a xs := h.imp sqL sqT
theorem Sq2.or {K : PySem.W.Frag} {H : Hp} {a : Addr} {xs : List V} (h : Sq2 H a xs) : SqL K H a xs ∨ SqT K H a xs := h.imp sqL sqT

/-! ### the walk of a list or a tuple that stands still, in a for, in a comprehension -/
section
variable {K : PySem.W.Frag} {a : Addr} {xs : List V}
theorem for_seq {i : Nat} {g : TG} {tb : TS} {D : Ends} {σ : L2.St} {H : Hp} (h : Sq2 H a xs) (hs0 : σ[i]? = some (some (.ref a))) (Pv : Nat → L2.St → Hp → Prop) (h0 : Pv 0 σ H) (hl : ∀ j σ H', j ≤ xs.length → Pv j σ H' → ∀ o, H a = some o → H' a = some o)
    (hs : ∀ j x σ H, xs[j]? = some x → Pv j σ H → g x σ H fun σ2 H2 => tb { D with nx := Pv (j + 1), ct := Pv (j + 1), bk := D.nx } σ2 H2) (hd : ∀ σ H, Pv xs.length σ H → D.nx σ H) : tFor (iSeq K i) g tb D σ H := by
  refine ⟨a, hs0, ?_⟩
  rcases h with h | h
  · exact .inl ⟨⟨xs, sqL h⟩, for_list (K := K) (a := a) (xs := xs) Pv h0 (fun j σ H' hj p => sqL (hl j σ H' hj p _ h)) hs hd⟩
  · exact .inr ⟨⟨xs, sqT h⟩, for_tup (K := K) (a := a) (xs := xs) Pv h0 (fun j σ H' hj p => sqT (hl j σ H' hj p _ h)) hs hd⟩

/-- what a comprehension keeps: i turns taken, the list at D holds acc, what is known beside D -/
def CW (P : Nat → List V → Hp → Prop) (H1 : Hp) (D : Addr) (i : Nat) (H : Hp) : Prop := ∃ acc, H D = some (.lst acc) ∧ acc.length ≤ i ∧ Ex H1 (dr D H) ∧ P i acc (dr D H)
theorem cw_put {P : Nat → List V → Hp → Prop} {H1 H H4 : Hp} {D : Addr} {i : Nat} {acc : List V} {y : V} (hD : H D = some (.lst acc)) (hl : acc.length ≤ i) (hi : i < 100000) (e1 : Ex H1 (dr D H)) (e : Ex H H4) (p : P (i + 1) (acc ++ [y]) (dr D H4)) :
    ∃ acc', H4 D = some (.lst acc') ∧ acc'.length < sizeLine ∧ CW P H1 D (i + 1) (upd H4 D (.lst (acc' ++ [y]))) := by
  refine ⟨acc, e _ _ hD, Evl.sz_lt (by omega), acc ++ [y], upd_same, by simp; omega, ?_, ?_⟩
  · rw [dr_upd]; exact e1.trans (dr_mono e)
  · rw [dr_upd]; exact p
theorem cw_skip {P : Nat → List V → Hp → Prop} {H1 H H4 : Hp} {D : Addr} {i : Nat} {acc : List V} (hD : H D = some (.lst acc)) (hl : acc.length ≤ i) (e1 : Ex H1 (dr D H)) (e : Ex H H4) (p : P (i + 1) acc (dr D H4)) : CW P H1 D (i + 1) H4 :=
  ⟨acc, e _ _ hD, by omega, e1.trans (dr_mono e), p⟩
theorem dr_none {D : Addr} {H : Hp} (h : H D = none) : dr D H = H := by
  funext b
  unfold dr
  by_cases c : b = D
  · rw [if_pos c, c, h]
  · rw [if_neg c]
theorem lcW {J : It} {n : Nat} {G : Hp → Prop} {Y : Nat → Hp → V → Hp → Prop} (w : Walk J n G Y) {g : TG} {tt : TT} {te : TE} {vs : List Nat} {σ : L2.St} {H1 : Hp} {D : Addr} {Qd : Hp → Prop} (hD : H1 D = none) (P : Nat → List V → Hp → Prop) (hG : ∀ H, Ex H1 H → G H) (h0 : P 0 [] H1)
    (hs : ∀ i x acc H H', i < n → H D = some (.lst acc) → acc.length ≤ i → Ex H1 (dr D H) → P i acc (dr D H) → Y i H x H' → g x (wipe σ vs) H' fun σ2 H2 => wipe σ2 vs = wipe σ vs ∧ tt σ2 H2 fun b H3 =>
      if b = true then te σ2 H3 fun y H4 => ∃ acc, H4 D = some (.lst acc) ∧ acc.length < sizeLine ∧ CW P H1 D (i + 1) (upd H4 D (.lst (acc ++ [y]))) else CW P H1 D (i + 1) H3)
    (hd : ∀ acc H, H D = some (.lst acc) → acc.length ≤ n → Ex H1 (dr D H) → P n acc (dr D H) → Qd H) :
    ∃ W : Nat → Nat → Hp → Prop, (∃ m, W 0 m (upd H1 D (.lst []))) ∧ ∀ i m H, W i m H →
      (J.stop i H ∧ Qd H) ∨ (J.go i H ∧ ∃ Nx : Hp → Prop, (∀ H', Nx H' → ∃ m', m' < m ∧ W (i + 1) m' H') ∧ ∀ x H', J.yld i H x H' → g x (wipe σ vs) H' fun σ2 H2 => wipe σ2 vs = wipe σ vs ∧ tt σ2 H2 fun b H3 =>
        if b = true then te σ2 H3 fun y H4 => ∃ acc, H4 D = some (.lst acc) ∧ acc.length < sizeLine ∧ Nx (upd H4 D (.lst (acc ++ [y]))) else Nx H3) := by
  refine lc_it w (Qd := Qd) (CW P H1 D) ⟨[], upd_same, Nat.le_refl _, ?_, ?_⟩ (fun i H _ p => ?_) (fun i x H H' hi p y => ?_) fun H p => ?_
  · rw [dr_upd, dr_none hD]; exact Evl.Ex.refl _
  · rw [dr_upd, dr_none hD]; exact h0
  · obtain ⟨acc, _, _, e, _⟩ := p
    exact hG H (e.trans dr_ex)
  · obtain ⟨acc, p1, p2, p3, p4⟩ := p
    exact hs i x acc H H' hi p1 p2 p3 p4 y
  · obtain ⟨acc, p1, p2, p3, p4⟩ := p
    exact hd acc H p1 p2 p3 p4
end
/-! ### reading words -/
section
variable {H : Hp} {Q : VK} {i j : Int} {b c : Bool}
theorem rI0_int {g : Int → Int → V} : rI0 g (.int i) (.int j) H Q = Q (g i j) H := by
  apply propext
  exact ⟨fun ⟨_, _, e1, e2, q⟩ => by cases e1; cases e2; exact q, fun q => ⟨_, _, rfl, rfl, q⟩⟩
theorem rI_int {C : Int → Int → Prop} {g : Int → Int → V} : rI C g (.int i) (.int j) H Q = (C i j ∧ Q (g i j) H) := by
  apply propext
  exact ⟨fun ⟨_, _, e1, e2, c, q⟩ => by cases e1; cases e2; exact ⟨c, q⟩, fun ⟨c, q⟩ => ⟨_, _, rfl, rfl, c, q⟩⟩
theorem rEq_int : rEq (.int i) (.int j) H Q = Q (.bl (decide (i = j))) H := by
  apply propext
  have e : (decide (V.int i = V.int j)) = decide (i = j) := by simp
  unfold rEq
  rw [e]
  exact ⟨fun q => q.2, fun q => ⟨rfl, q⟩⟩
theorem rNe_int : rNe (.int i) (.int j) H Q = Q (.bl (!decide (i = j))) H := by
  apply propext
  have e : (decide (V.int i = V.int j)) = decide (i = j) := by simp
  unfold rNe
  rw [e]
  exact ⟨fun q => q.2, fun q => ⟨rfl, q⟩⟩
theorem rEq_bl : rEq (.bl b) (.bl c) H Q = Q (.bl (decide (b = c))) H := by
  apply propext
  have e : (decide (V.bl b = V.bl c)) = decide (b = c) := by simp
  unfold rEq
  rw [e]
  exact ⟨fun q => q.2, fun q => ⟨rfl, q⟩⟩
theorem rNe_bl : rNe (.bl b) (.bl c) H Q = Q (.bl (!decide (b = c))) H := by
  apply propext
  have e : (decide (V.bl b = V.bl c)) = decide (b = c) := by simp
  unfold rNe
  rw [e]
  exact ⟨fun q => q.2, fun q => ⟨rfl, q⟩⟩
theorem isi_ty {K : PySem.W.Frag} {x : V} {T1 T2 : String} {b : Bool} (ty : TyX K H x (.type T1)) (h : kitB T1 T2 = some b) (q : Q (.bl b) H) : rIsi K [x, .ty T2] H Q := ⟨x, .ty T2, .type T1, .type T2, b, rfl, .ty _, ty, kit_ty h, q⟩
theorem ixL {K : PySem.W.Frag} {p : Addr} {xs : List V} {v : V} (h : SqL K H p xs) (a : atI xs i = some v) (q : Q v H) : rIxL K (.ref p) (.int i) H Q := ⟨p, xs, i, v, rfl, rfl, h, a, q⟩
theorem ixT {K : PySem.W.Frag} {p : Addr} {xs : List V} {v : V} (h : SqT K H p xs) (a : atI xs i = some v) (q : Q v H) : rIxT K (.ref p) (.int i) H Q := ⟨p, xs, i, v, rfl, rfl, h, a, q⟩
theorem allR {K : PySem.W.Frag} {p : Addr} {xs : List V} (bs : List Bool) (h : SqL K H p xs) (e : xs = bs.map V.bl) (q : Q (.bl (bs.all id)) H) : rAll K [.ref p] H Q := ⟨p, bs, rfl, e ▸ h, q⟩
theorem sumR {K : PySem.W.Frag} {p : Addr} {xs : List V} (ns : List Int) (h : SqL K H p xs) (e : xs = ns.map V.int) (q : Q (.int ns.sum) H) : rSum K [.ref p] H Q := ⟨p, ns, rfl, e ▸ h, q⟩
theorem sumSqR {K : PySem.W.Frag} {p : Addr} (ns : List Int) (h : Sq K H p (ns.map V.int)) (q : Q (.int ns.sum) H) : rSumSq K [.ref p] H Q := ⟨p, ns, rfl, h, q⟩
end
end SB

set_option maxRecDepth 100000
set_option maxHeartbeats 2000000
/-! Plain data that are compared: pairs, lists of them, lists of numbers, lists of lists. -/
namespace SB
open PySem PySem.Spec PyProof.Rows L2
def dI (i : Int) : PyData := .int i
def dPr (p : Int × Int) : PyData := .tuple [.int p.1, .int p.2]
def dPrs (ar : List (Int × Int)) : PyData := .list (ar.map dPr)
def dIs (ns : List Int) : PyData := .list (ns.map PyData.int)
def dRows (rs : List (List Int)) : PyData := .list (rs.map dIs)
theorem lay_map {α : Type} {f : α → PyData} (h : ∀ a, (f a).canLay0 = true) : ∀ xs : List α, PyData.canLayAll0 (xs.map f) = true
  | [] => by simp [PyData.canLayAll0]
  | a :: r => by simp [PyData.canLayAll0, h a, lay_map h r]
theorem depth_map {α : Type} {f : α → PyData} {n : Nat} (h : ∀ a, (f a).depth ≤ n) : ∀ xs : List α, PyData.depthAll (xs.map f) ≤ n
  | [] => by simp [PyData.depthAll]
  | a :: r => by
    have h1 := h a
    have h2 := depth_map h r
    simp only [List.map_cons, PyData.depthAll]
    omega
theorem dPr_lay (p : Int × Int) : (dPr p).canLay0 = true := by simp [dPr, PyData.canLay0, PyData.canLayAll0]
theorem dPr_depth (p : Int × Int) : (dPr p).depth ≤ 2 := by simp [dPr, PyData.depth, PyData.depthAll]
theorem dPrs_lay (ar : List (Int × Int)) : (dPrs ar).canLay0 = true := by simp only [dPrs, PyData.canLay0]; exact lay_map dPr_lay ar
theorem dPrs_depth (ar : List (Int × Int)) : (dPrs ar).depth ≤ 3 := by
  have h := depth_map dPr_depth ar
  simp only [dPrs, PyData.depth]; omega
theorem dIs_lay (ns : List Int) : (dIs ns).canLay0 = true := by simp only [dIs, PyData.canLay0]; exact lay_map (fun _ => by simp [PyData.canLay0]) ns
theorem dIs_depth (ns : List Int) : (dIs ns).depth ≤ 1 := by
  have h := depth_map (f := PyData.int) (n := 0) (fun _ => by simp [PyData.depth]) ns
  simp only [dIs, PyData.depth]; omega
theorem dRows_lay (rs : List (List Int)) : (dRows rs).canLay0 = true := by simp only [dRows, PyData.canLay0]; exact lay_map dIs_lay rs
theorem dRows_depth (rs : List (List Int)) : (dRows rs).depth ≤ 2 := by
  have h := depth_map dIs_depth rs
  simp only [dRows, PyData.depth]; omega
theorem shaped_of {d : PyData} (h : d.canLay0 = true) {n : Nat} (k : d.depth ≤ n) (hn : n ≤ 64 := by decide) : SeqAt.shaped d = true := by
  unfold SeqAt.shaped
  rw [h, Bool.true_and]
  exact decide_eq_true (Nat.le_trans k hn)
theorem dPrs_sh (ar : List (Int × Int)) : SeqAt.shaped (dPrs ar) = true := shaped_of (dPrs_lay ar) (dPrs_depth ar)
theorem dIs_sh (ns : List Int) : SeqAt.shaped (dIs ns) = true := shaped_of (dIs_lay ns) (dIs_depth ns)
theorem dRows_sh (rs : List (List Int)) : SeqAt.shaped (dRows rs) = true := shaped_of (dRows_lay rs) (dRows_depth rs)
/-- a web's places and arrows -/
def dPA (n : Int) (ar : List (Int × Int)) : PyData := .tuple [.int n, dPrs ar]
theorem dPA_sh (n : Int) (ar : List (Int × Int)) : SeqAt.shaped (dPA n ar) = true := by
  refine shaped_of (n := 4) ?_ ?_
  · simp [dPA, PyData.canLay0, PyData.canLayAll0, dPrs_lay]
  · have h := dPrs_depth ar
    simp only [dPA, PyData.depth, PyData.depthAll]; omega
theorem eqv_map {α : Type} [DecidableEq α] {f : α → PyData} (h : ∀ a b, PyData.eqv (f a) (f b) = decide (a = b)) : ∀ xs ys : List α, PyData.eqvAll (xs.map f) (ys.map f) = decide (xs = ys)
  | [], [] => by simp [PyData.eqvAll]
  | [], b :: r => by simp [PyData.eqvAll]
  | a :: r, [] => by simp [PyData.eqvAll]
  | a :: r, b :: s => by
    simp only [List.map_cons, PyData.eqvAll, h a b, eqv_map h r s]
    by_cases c : a = b <;> by_cases d : r = s <;> simp [c, d]
theorem dI_eqv (a b : Int) : PyData.eqv (.int a) (.int b) = decide (a = b) := by
  simp only [PyData.eqv]
  by_cases h : a = b <;> simp [h]
theorem dPr_eqv (a b : Int × Int) : PyData.eqv (dPr a) (dPr b) = decide (a = b) := by
  obtain ⟨a1, a2⟩ := a; obtain ⟨b1, b2⟩ := b
  simp only [dPr, PyData.eqv, PyData.eqvAll]
  by_cases h : a1 = b1 <;> by_cases k : a2 = b2 <;> simp [h, k]
theorem dPrs_eqv (a b : List (Int × Int)) : PyData.eqv (dPrs a) (dPrs b) = decide (a = b) := by
  simp only [dPrs, PyData.eqv]; exact eqv_map dPr_eqv a b
theorem dIs_eqv (a b : List Int) : PyData.eqv (dIs a) (dIs b) = decide (a = b) := by
  simp only [dIs, PyData.eqv]; exact eqv_map dI_eqv a b
theorem dRows_eqv (a b : List (List Int)) : PyData.eqv (dRows a) (dRows b) = decide (a = b) := by
  simp only [dRows, PyData.eqv]; exact eqv_map dIs_eqv a b
theorem dPA_eqv (n m : Int) (a b : List (Int × Int)) : PyData.eqv (dPA n a) (dPA m b) = decide (n = m ∧ a = b) := by
  simp only [dPA, PyData.eqv, PyData.eqvAll]
  rw [show (n == m) = decide (n = m) by by_cases h : n = m <;> simp [h], dPrs_eqv]
  by_cases h : n = m <;> by_cases k : a = b <;> simp [h, k]
section
variable {K : PySem.W.Frag} {H : Hp}
theorem dpAll_of {α : Type} {R : V → α → Prop} {f : α → PyData} (h : ∀ v a, R v a → Dp K H v (f a)) : ∀ {xs : List V} {ys : List α}, Paired R xs ys → DpAll K H xs (ys.map f)
  | _, _, .nil => .nil
  | _, _, .cons r q => .cons (h _ _ r) (dpAll_of h q)
theorem dp_pr {v : V} {p : Int × Int} (h : IsPr H v p) : Dp K H v (dPr p) := by
  obtain ⟨t, rfl, ht⟩ := h
  exact .tup (sqT ht) (.cons (.int _) (.cons (.int _) .nil))
theorem dp_prs {q : Addr} {xs : List V} {ar : List (Int × Int)} (h : H q = some (.lst xs)) (a : Ar H xs ar) : Dp K H (.ref q) (dPrs ar) := .lst (sqL h) (dpAll_of (f := dPr) (fun _ _ h => dp_pr h) a)
theorem dp_ints : ∀ ns : List Int, DpAll K H (ns.map V.int) (ns.map PyData.int)
  | [] => .nil
  | n :: r => .cons (.int n) (dp_ints r)
theorem dp_is {q : Addr} {ns : List Int} (h : H q = some (.lst (ns.map V.int))) : Dp K H (.ref q) (dIs ns) := .lst (sqL h) (dp_ints ns)
/-- == of data -/
theorem eqD {x y : V} {d e : PyData} {Q : VK} (hx : Dp K H x d) (hy : Dp K H y e) (sx : SeqAt.shaped d = true) (sy : SeqAt.shaped e = true) (q : Q (.bl (PyData.eqv d e)) H) : rEqD K x y H Q := ⟨d, e, hx, hy, sx, sy, q⟩
theorem neD {x y : V} {d e : PyData} {Q : VK} (hx : Dp K H x d) (hy : Dp K H y e) (sx : SeqAt.shaped d = true) (sy : SeqAt.shaped e = true) (q : Q (.bl (!PyData.eqv d e)) H) : rNeD K x y H Q := ⟨d, e, hx, hy, sx, sy, q⟩
end
theorem inV_int (t : Int) (ns : List Int) : inV (.int t) (ns.map V.int) = decide (t ∈ ns) := by
  unfold inV
  induction ns with
  | nil => simp
  | cons n r ih =>
    rw [List.map_cons, List.any_cons, ih]
    show ((n == t) || decide (t ∈ r)) = decide (t ∈ n :: r)
    by_cases h : n = t
    · subst h; simp
    · have h' : ¬ t = n := fun z => h z.symm
      simp [h, h']
theorem flat_ints (ns : List Int) : (ns.map V.int).all flatV = true := by
  induction ns with
  | nil => rfl
  | cons n r ih => rw [List.map_cons, List.all_cons, ih]; rfl
/-! ### rings -/
/-- of arrows that rise by r there is one whose tail no head reaches -/
theorem least_of {r : Int → Int} : ∀ (ar : List (Int × Int)), ar ≠ [] → ∃ p, p ∈ ar ∧ ∀ q ∈ ar, r p.1 ≤ r q.1
  | [], h => absurd rfl h
  | [p], _ => ⟨p, List.mem_cons_self, fun q hq => by rcases List.mem_cons.mp hq with e | e; (subst e; exact Int.le_refl _); cases e⟩
  | p :: q :: s, _ => by
    obtain ⟨m, hm, hl⟩ := least_of (r := r) (q :: s) (by simp)
    by_cases c : r p.1 ≤ r m.1
    · refine ⟨p, List.mem_cons_self, fun x hx => ?_⟩
      rcases List.mem_cons.mp hx with e | e
      · subst e; exact Int.le_refl _
      · exact Int.le_trans c (hl x e)
    · refine ⟨m, List.mem_cons_of_mem _ hm, fun x hx => ?_⟩
      rcases List.mem_cons.mp hx with e | e
      · subst e; omega
      · exact hl x e
theorem inner_less {r : Int → Int} {ar : List (Int × Int)} (h : ar ≠ []) (hr : ∀ p ∈ ar, r p.1 < r p.2) : (ar.filter fun p => decide (p.1 ∈ ar.map (·.2))).length < ar.length := by
  obtain ⟨p, hp, hl⟩ := least_of (r := r) ar h
  have hn : ¬ p.1 ∈ ar.map (·.2) := fun z => by
    obtain ⟨q, hq, e⟩ := List.mem_map.mp z
    have h1 := hr q hq
    have h2 := hl q hq
    rw [e] at h1
    omega
  have h1 := List.length_filter_le (fun p => decide (p.1 ∈ ar.map (·.2))) ar
  refine Nat.lt_of_le_of_ne h1 fun h2 => ?_
  have h3 := List.length_filter_eq_length_iff.mp h2 p hp
  exact absurd (of_decide_eq_true h3) hn

/-! ### comprehensions over a list or a tuple; what a class tells -/
section
variable {K : PySem.W.Frag} {H : Hp} {a : Addr} {xs : List V}
theorem lcSeq {i : Nat} {g : TG} {tt : TT} {te : TE} {vs : List Nat} {σ : L2.St} {Q : VK} (h : Sq2 H a xs) (hs0 : σ[i]? = some (some (.ref a))) (P : Nat → List V → Hp → Prop) (h0 : P 0 [] H)
    (hs : ∀ D i x acc H1, i < xs.length → xs[i]? = some x → H D = none → H1 D = some (.lst acc) → acc.length ≤ i → Ex H (dr D H1) → P i acc (dr D H1) → g x (wipe σ vs) H1 fun σ2 H2 => wipe σ2 vs = wipe σ vs ∧ tt σ2 H2 fun b H3 =>
      if b = true then te σ2 H3 fun y H4 => ∃ acc, H4 D = some (.lst acc) ∧ acc.length < sizeLine ∧ CW P H D (i + 1) (upd H4 D (.lst (acc ++ [y]))) else CW P H D (i + 1) H3)
    (hd : ∀ D acc H1, H D = none → H1 D = some (.lst acc) → acc.length ≤ xs.length → Ex H (dr D H1) → P xs.length acc (dr D H1) → Q (.ref D) H1) : tLc (iSeq K i) g tt te vs σ H Q := by
  refine ⟨a, hs0, ?_⟩
  rcases h with h | h
  · refine .inl ⟨⟨xs, sqL h⟩, fun D hD => lcW (walk_list (xs := xs)) hD P (fun H' e => sqL (e _ _ h)) h0 (fun i x acc H1 H2 hi hacc hl e1 hp y => ?_) fun acc H1 h1 h2 h3 h4 => hd D acc H1 hD h1 h2 h3 h4⟩
    obtain ⟨rfl, hx⟩ := y
    exact hs D i x acc _ hi hx hD hacc hl e1 hp
  · refine .inr ⟨⟨xs, sqT h⟩, fun D hD => lcW (walk_tup (xs := xs)) hD P (fun H' e => sqT (e _ _ h)) h0 (fun i x acc H1 H2 hi hacc hl e1 hp y => ?_) fun acc H1 h1 h2 h3 h4 => hd D acc H1 hD h1 h2 h3 h4⟩
    obtain ⟨rfl, hx⟩ := y
    exact hs D i x acc _ hi hx hD hacc hl e1 hp
/-- over a list that stands at a (behind what tells it) -/
theorem lcLst {g : TG} {tt : TT} {te : TE} {vs : List Nat} {σ : L2.St} {Q : VK} (h : H a = some (.lst xs)) (P : Nat → List V → Hp → Prop) (h0 : P 0 [] H)
    (hs : ∀ D i x acc H1, i < xs.length → xs[i]? = some x → H D = none → H1 D = some (.lst acc) → acc.length ≤ i → Ex H (dr D H1) → P i acc (dr D H1) → g x (wipe σ vs) H1 fun σ2 H2 => wipe σ2 vs = wipe σ vs ∧ tt σ2 H2 fun b H3 =>
      if b = true then te σ2 H3 fun y H4 => ∃ acc, H4 D = some (.lst acc) ∧ acc.length < sizeLine ∧ CW P H D (i + 1) (upd H4 D (.lst (acc ++ [y]))) else CW P H D (i + 1) H3)
    (hd : ∀ D acc H1, H D = none → H1 D = some (.lst acc) → acc.length ≤ xs.length → Ex H (dr D H1) → P xs.length acc (dr D H1) → Q (.ref D) H1) :
    ∃ a', V.ref a = V.ref a' ∧ (∃ ys, SqL K H a' ys) ∧ ∀ D, H D = none → ∃ W : Nat → Nat → Hp → Prop, (∃ m, W 0 m (upd H D (.lst []))) ∧ ∀ i m H, W i m H →
      ((Itl K a').stop i H ∧ Q (.ref D) H) ∨ ((Itl K a').go i H ∧ ∃ Nx : Hp → Prop, (∀ H', Nx H' → ∃ m', m' < m ∧ W (i + 1) m' H') ∧ ∀ x H', (Itl K a').yld i H x H' → g x (wipe σ vs) H' fun σ2 H2 => wipe σ2 vs = wipe σ vs ∧ tt σ2 H2 fun b H3 =>
        if b = true then te σ2 H3 fun y H4 => ∃ acc, H4 D = some (.lst acc) ∧ acc.length < sizeLine ∧ Nx (upd H4 D (.lst (acc ++ [y]))) else Nx H3) := by
  refine ⟨a, rfl, ⟨xs, sqL h⟩, fun D hD => lcW (Qd := fun H1 => Q (.ref D) H1) (walk_list (xs := xs)) hD P (fun H' e => sqL (e _ _ h)) h0 (fun i x acc H1 H2 hi hacc hl e1 hp y => ?_) fun acc H1 h1 h2 h3 h4 => hd D acc H1 hD h1 h2 h3 h4⟩
  obtain ⟨rfl, hx⟩ := y
  exact hs D i x acc _ hi hx hD hacc hl e1 hp
/-- over a name that holds a list -/
theorem lcVar {i : Nat} {g : TG} {tt : TT} {te : TE} {vs : List Nat} {σ : L2.St} {Q : VK} (h : H a = some (.lst xs)) (hs0 : σ[i]? = some (some (.ref a))) (P : Nat → List V → Hp → Prop) (h0 : P 0 [] H)
    (hs : ∀ D i x acc H1, i < xs.length → xs[i]? = some x → H D = none → H1 D = some (.lst acc) → acc.length ≤ i → Ex H (dr D H1) → P i acc (dr D H1) → g x (wipe σ vs) H1 fun σ2 H2 => wipe σ2 vs = wipe σ vs ∧ tt σ2 H2 fun b H3 =>
      if b = true then te σ2 H3 fun y H4 => ∃ acc, H4 D = some (.lst acc) ∧ acc.length < sizeLine ∧ CW P H D (i + 1) (upd H4 D (.lst (acc ++ [y]))) else CW P H D (i + 1) H3)
    (hd : ∀ D acc H1, H D = none → H1 D = some (.lst acc) → acc.length ≤ xs.length → Ex H (dr D H1) → P xs.length acc (dr D H1) → Q (.ref D) H1) : tLc (iList K (tVar i)) g tt te vs σ H Q :=
  ⟨.ref a, hs0, lcLst h P h0 hs hd⟩
/-- a, b = (i, j) -/
theorem gPr {i j : Nat} {v : V} {p : Int × Int} {σ : L2.St} {Q : L2.St → Hp → Prop} (h : IsPr H v p) (q : Q ((σ.set i (some (.int p.1))).set j (some (.int p.2))) H) : gTup K 2 (gCons (gName i) (gCons (gName j) gNil)) v σ H Q := by
  obtain ⟨t, rfl, ht⟩ := h
  exact ⟨t, _, rfl, sqT ht, rfl, _, _, rfl, _, _, rfl, rfl, q⟩
/-- the field of an instance that a name holds -/
theorem fldV {i : Nat} {f : Str} {σ : L2.St} {Q : VK} {p C dx : Addr} {fs : List (Str × V)} {v : V} (hs : σ[i]? = some (some (.ref p))) (h : H p = some (.ins C dx fs)) (c : Cls K C) (n : NoAttr K C f) (l : fs.lookup f = some v) (q : Q v H) : tFld K (tVar i) f σ H Q :=
  ⟨.ref p, hs, p, C, dx, fs, v, rfl, h, c, n, l, q⟩
theorem isi_own {C : Addr} {x : V} {t : Value} {b : Bool} {Q : VK} (ty : TyX K H x t) (h : PySem.W.kitOne K t (.ref C) = some b) (q : Q (.bl b) H) : rIsi K [x, .ref C] H Q := ⟨x, .ref C, t, .ref C, b, rfl, .own C, ty, h, q⟩
theorem isiT_ty {tp : Addr} {x : V} {T1 : String} {Ts : List String} {b : Bool} {Q : VK} (ht : H tp = some (.tup (Ts.map V.ty))) (ty : TyX K H x (.type T1)) (h : PySem.W.kitAny K (.type T1) (Ts.map Value.type) = some b) (q : Q (.bl b) H) : rIsiT K [x, .ref tp] H Q := by
  refine ⟨x, tp, _, _, _, b, rfl, ht, ?_, ty, h, q⟩
  clear h ht
  induction Ts with
  | nil => exact .nil
  | cons t r ih => exact .cons (.ty t) ih
theorem kit_self {C : Addr} : PySem.W.kitOne K (.ref C) (.ref C) = some true := by
  unfold PySem.W.kitOne
  rw [if_pos (by simp)]
theorem kit_no {C : Addr} {T : String} {l : List Value} (h1 : PySem.W.isClsIn K C = true) (h2 : PySem.W.typeIn K (.ref C) = some (.type "type")) (hm : PySem.fastBuiltinMro T = some l) (hl : l.contains (.ref C) = false) : PySem.W.kitOne K (.type T) (.ref C) = some false := by
  unfold PySem.W.kitOne
  rw [if_neg (by simp)]
  show (if ((PySem.W.clsIn K C).isSome && PySem.W.typeIn K (.ref C) == some (.type "type")) = true then PySem.W.subIn K (.type T) (.ref C) else none) = some false
  have h1' : (PySem.W.clsIn K C).isSome = true := h1
  rw [if_pos (by rw [h1', h2]; rfl)]
  show (PySem.fastBuiltinMro T).map (·.contains (.ref C)) = some false
  rw [hm]
  show some (l.contains (.ref C)) = some false
  rw [hl]
theorem mro_list {C : Addr} : ∃ l, PySem.fastBuiltinMro "list" = some l ∧ l.contains (Value.ref C) = false := ⟨_, (by rfl : PySem.fastBuiltinMro "list" = some [.type "list", .type "object"]), by simp⟩
theorem mro_tuple {C : Addr} : ∃ l, PySem.fastBuiltinMro "tuple" = some l ∧ l.contains (Value.ref C) = false := ⟨_, (by rfl : PySem.fastBuiltinMro "tuple" = some [.type "tuple", .type "object"]), by simp⟩
theorem mro_int {C : Addr} : ∃ l, PySem.fastBuiltinMro "int" = some l ∧ l.contains (Value.ref C) = false := ⟨_, (by rfl : PySem.fastBuiltinMro "int" = some [.type "int", .type "object"]), by simp⟩
theorem mro_none {C : Addr} : ∃ l, PySem.fastBuiltinMro "NoneType" = some l ∧ l.contains (Value.ref C) = false := ⟨_, (by rfl : PySem.fastBuiltinMro "NoneType" = some [.type "NoneType", .type "object"]), by simp⟩
theorem nf_of {C : Addr} {T : String} (h : ∃ l, PySem.fastBuiltinMro T = some l ∧ l.contains (Value.ref C) = false) : PySem.W.notFirst K C (.type T) = true := by
  obtain ⟨l, hm, hl⟩ := h
  unfold PySem.W.notFirst
  have e : PySem.W.subIn K (.type T) (.ref C) = some false := by
    show (PySem.fastBuiltinMro T).map (·.contains (.ref C)) = some false
    rw [hm]
    show some (l.contains (.ref C)) = some false
    rw [hl]
  rw [e]
  simp
theorem nf_self {C : Addr} : PySem.W.notFirst K C (.ref C) = true := by
  unfold PySem.W.notFirst
  simp
theorem ty_ins {p C dx : Addr} {fs : List (Str × V)} (h : H p = some (.ins C dx fs)) (c : Cls K C) (h1 : PySem.W.findIn K (.ref C) "__class__" = some (some (.builtin "object.__class__"))) (h4 : PySem.W.mroIn K C (.type "object") = some true) : TyX K H (.ref p) (.ref C) :=
  .base (.ins h c h1 (by rfl) (by rfl) h4)
end

/-! ### the readings, where all is given -/
section
variable {σ : L2.St} {H : Hp} {Q : VK} {QB : Bool → Hp → Prop} {QA : List V → Hp → Prop} {D : Ends} {ta tb te : TE} {t u : TT} {tu tw : TS} {tr : TA} {i j : Nat} {v : V} {g : TG} {QG : L2.St → Hp → Prop}
theorem rd_var : tVar i σ H Q = ∃ v, σ[i]? = some (some v) ∧ Q v H := rfl
theorem rd_c : tC v σ H Q = Q v H := rfl
theorem rd_seq : tSeq tu tw D σ H = tu { D with nx := tw D } σ H := rfl
theorem rd_next : tNext D σ H = D.nx σ H := rfl
theorem rd_ret : tRet te D σ H = te σ H D.rt := rfl
theorem rd_retN : tRetN D σ H = D.rt .non H := rfl
theorem rd_drop : tDrop te D σ H = te σ H fun _ H1 => D.nx σ H1 := rfl
theorem rd_asg : tAsg te g D σ H = te σ H fun x H1 => g x σ H1 D.nx := rfl
theorem rd_op {r : R2} : tOp r ta tb σ H Q = ta σ H fun x H1 => tb σ H1 fun y H2 => r x y H2 Q := rfl
theorem rd_un {r : V → Hp → VK → Prop} : tUn r ta σ H Q = ta σ H fun x H1 => r x H1 Q := rfl
theorem rd_call {sp : Sp} {dvs : List V} {E : XK} : tCall sp dvs E tr σ H Q = tr σ H fun vs H1 => sp (vs ++ dvs) H1 Q E := rfl
theorem rd_callK0 {sp : Sp} {gV : List V → List V → List V} {E : XK} : tCallK0 sp gV E tr σ H Q = tr σ H fun zs H2 => sp (gV [] zs) H2 Q E := rfl
theorem rd_cons : tCons ta tr σ H QA = ta σ H fun x H1 => tr σ H1 fun xs H2 => QA (x :: xs) H2 := rfl
theorem rd_nil : tNil σ H QA = QA [] H := rfl
theorem rd_cb {r : List V → Hp → VK → Prop} : tCB r tr σ H Q = tr σ H fun vs H1 => r vs H1 Q := rfl
theorem rd_test : tTest te σ H QB = te σ H fun x H' => ∃ k, x = .bl k ∧ QB k H' := rfl
theorem rd_b : tB te σ H QB = te σ H fun x H1 => ∃ c, x = .bl c ∧ QB c H1 := rfl
theorem rd_andV : tAndV ta tb σ H Q = ta σ H fun x H1 => ∃ c, x = .bl c ∧ if c = true then tb σ H1 Q else Q (.bl false) H1 := rfl
theorem rd_orV : tOrV ta tb σ H Q = ta σ H fun x H1 => ∃ c, x = .bl c ∧ if c = true then Q (.bl true) H1 else tb σ H1 Q := rfl
theorem rd_notV : tNotV ta σ H Q = ta σ H fun x H1 => ∃ c, x = .bl c ∧ Q (.bl (!c)) H1 := rfl
theorem rd_and : tAnd t u σ H QB = t σ H fun c H1 => if c = true then u σ H1 QB else QB false H1 := rfl
theorem rd_or : tOr t u σ H QB = t σ H fun c H1 => if c = true then QB true H1 else u σ H1 QB := rfl
theorem rd_not : tNot t σ H QB = t σ H fun c H1 => QB (!c) H1 := rfl
theorem rd_if : tIf t ta tb σ H Q = t σ H fun c H1 => if c = true then ta σ H1 Q else tb σ H1 Q := rfl
theorem rd_ifS : tIfS t tu tw D σ H = t σ H fun b H1 => if b = true then tu D σ H1 else tw D σ H1 := rfl
theorem rd_tup : tTup tr σ H Q = tr σ H fun xs H1 => xs.length ≤ sizeLine ∧ ∀ p, H1 p = none → Q (.ref p) (upd H1 p (.tup xs)) := rfl
theorem rd_lst : tLst tr σ H Q = tr σ H fun xs H1 => xs.length ≤ sizeLine ∧ ∀ p, H1 p = none → Q (.ref p) (upd H1 p (.lst xs)) := rfl
theorem rd_yes : tYes σ H QB = QB true H := rfl
theorem rd_par : tPar i j tr D σ H = tr σ H fun vs H1 => ∃ v w, vs = [v, w] ∧ D.nx ((σ.set i (some v)).set j (some w)) H1 := rfl
theorem rd_name : gName i v σ H QG = QG (σ.set i (some v)) H := rfl
theorem rd_prop {C : Addr} {sp : Sp} {dvs : List V} {E : XK} : tProp C sp dvs E ta σ H Q = ta σ H fun x H1 => ∃ a dx fs, x = .ref a ∧ H1 a = some (.ins C dx fs) ∧ sp (.ref a :: dvs) H1 Q E := rfl
theorem rd_sfld {K : PySem.W.Frag} {f : Str} : sFld K ta tb f D σ H = tb σ H fun y H1 => ta σ H1 fun x H2 => ∃ a C dx fs, x = .ref a ∧ H2 a = some (.ins C dx fs) ∧ Cls K C ∧ NoAttr K C f ∧ fs.length < 1000 ∧ D.nx σ (upd H2 a (.ins C dx (putF f y fs))) := rfl
theorem rd_step {K : PySem.W.Frag} : tStepL K ta tb σ H Q = ta σ H fun x H1 => tb σ H1 fun y H2 => ∃ k, y = .int k ∧ wStep K x Q (some k) H2 := rfl
theorem rd_wstep {K : PySem.W.Frag} {x : V} {k : Int} : wStep K x Q (some k) H = ∃ a xs, x = .ref a ∧ 0 < k ∧ SqL K H a xs ∧ ∀ ys p, (∀ v, v ∈ ys → v ∈ xs) → ys.length ≤ xs.length → H p = none → Q (.ref p) (upd H p (.lst ys)) := rfl
theorem rd_revL {K : PySem.W.Frag} : tRevL K ta σ H Q = ta σ H fun x H1 => ∃ a xs, x = .ref a ∧ SqL K H1 a xs ∧ ∀ p, H1 p = none → Q (.ref p) (upd H1 p (.lst xs.reverse)) := rfl
theorem rNotB_bl {a b : Bool} : rNotB (.bl a) (.bl b) H Q = Q (.bl (!decide (a = b))) H := by
  apply propext
  exact ⟨fun ⟨_, _, e1, e2, q⟩ => by cases e1; cases e2; exact q, fun q => ⟨_, _, rfl, rfl, q⟩⟩
theorem rd_bm {K : PySem.W.Frag} {T : String} {r : V → List V → Hp → VK → Prop} : tBM K T r ta tr σ H Q = ta σ H fun x H1 => tyV K T x H1 ∧ tr σ H1 fun xs H2 => r x xs H2 Q := rfl
end

/-! ### walks, in a comprehension and in a for -/
def LcJ (J : It) (g : TG) (tt : TT) (te : TE) (vs : List Nat) (σ : L2.St) (H1 : Hp) (Q : VK) : Prop := ∀ D, H1 D = none → ∃ W : Nat → Nat → Hp → Prop, (∃ m, W 0 m (upd H1 D (.lst []))) ∧ ∀ i m H, W i m H →
  (J.stop i H ∧ Q (.ref D) H) ∨ (J.go i H ∧ ∃ Nx : Hp → Prop, (∀ H', Nx H' → ∃ m', m' < m ∧ W (i + 1) m' H') ∧ ∀ x H', J.yld i H x H' → g x (wipe σ vs) H' fun σ2 H2 => wipe σ2 vs = wipe σ vs ∧ tt σ2 H2 fun b H3 =>
    if b = true then te σ2 H3 fun y H4 => ∃ acc, H4 D = some (.lst acc) ∧ acc.length < sizeLine ∧ Nx (upd H4 D (.lst (acc ++ [y]))) else Nx H3)
section
variable {K : PySem.W.Frag} {σ : L2.St} {H : Hp} {Q : VK} {g : TG} {tt : TT} {te tl : TE} {vs : List Nat} {ta : TA}
theorem rd_lcL : tLc (iList K tl) g tt te vs σ H Q = tl σ H fun x H1 => ∃ a, x = .ref a ∧ (∃ xs, SqL K H1 a xs) ∧ LcJ (Itl K a) g tt te vs σ H1 Q := rfl
theorem rd_lcZ : tLc (iZip K ta) g tt te vs σ H Q = ta σ H fun us H1 => ∃ a b xs ys, us = [.ref a, .ref b] ∧ SqL K H1 a xs ∧ SqL K H1 b ys ∧ LcJ (Itz K a b) g tt te vs σ H1 Q := rfl
theorem rd_lcR : tLc (iRng1 ta) g tt te vs σ H Q = ta σ H fun us H1 => ∃ j : Int, us = [.int j] ∧ -(2 ^ 62) ≤ j ∧ j < 2 ^ 62 ∧ LcJ (Itr 0 j.toNat) g tt te vs σ H1 Q := rfl
theorem lcJ {J : It} {n : Nat} {G : Hp → Prop} {Y : Nat → Hp → V → Hp → Prop} (w : Walk J n G Y) (hG : ∀ H', Ex H H' → G H') (P : Nat → List V → Hp → Prop) (h0 : P 0 [] H)
    (hs : ∀ D i x acc H1 H2, i < n → H D = none → H1 D = some (.lst acc) → acc.length ≤ i → Ex H (dr D H1) → P i acc (dr D H1) → Y i H1 x H2 → g x (wipe σ vs) H2 fun σ2 H3 => wipe σ2 vs = wipe σ vs ∧ tt σ2 H3 fun b H4 =>
      if b = true then te σ2 H4 fun y H5 => ∃ acc, H5 D = some (.lst acc) ∧ acc.length < sizeLine ∧ CW P H D (i + 1) (upd H5 D (.lst (acc ++ [y]))) else CW P H D (i + 1) H4)
    (hd : ∀ D acc H1, H D = none → H1 D = some (.lst acc) → acc.length ≤ n → Ex H (dr D H1) → P n acc (dr D H1) → Q (.ref D) H1) : LcJ J g tt te vs σ H Q :=
  fun D hD => lcW (Qd := fun H1 => Q (.ref D) H1) w hD P hG h0 (fun i x acc H1 H2 hi hacc hl e1 hp y => hs D i x acc H1 H2 hi hD hacc hl e1 hp y) fun acc H1 h1 h2 h3 h4 => hd D acc H1 hD h1 h2 h3 h4
/-- over a list -/
theorem lcA {a : Addr} {xs : List V} (h : H a = some (.lst xs)) (P : Nat → List V → Hp → Prop) (h0 : P 0 [] H)
    (hs : ∀ D i x acc H1, i < xs.length → xs[i]? = some x → H D = none → H1 D = some (.lst acc) → acc.length ≤ i → Ex H (dr D H1) → P i acc (dr D H1) → g x (wipe σ vs) H1 fun σ2 H2 => wipe σ2 vs = wipe σ vs ∧ tt σ2 H2 fun b H3 =>
      if b = true then te σ2 H3 fun y H4 => ∃ acc, H4 D = some (.lst acc) ∧ acc.length < sizeLine ∧ CW P H D (i + 1) (upd H4 D (.lst (acc ++ [y]))) else CW P H D (i + 1) H3)
    (hd : ∀ D acc H1, H D = none → H1 D = some (.lst acc) → acc.length ≤ xs.length → Ex H (dr D H1) → P xs.length acc (dr D H1) → Q (.ref D) H1) :
    (∃ ys, SqL K H a ys) ∧ LcJ (Itl K a) g tt te vs σ H Q :=
  ⟨⟨xs, sqL h⟩, lcJ (walk_list (xs := xs)) (fun H' e => sqL (e _ _ h)) P h0 (fun D i x acc H1 H2 hi hD hacc hl e1 hp y => by
    obtain ⟨rfl, hx⟩ := y
    exact hs D i x acc _ hi hx hD hacc hl e1 hp) hd⟩
/-- over two lists of one length -/
theorem lcZ {a b : Addr} {xs ys : List V} (h : H a = some (.lst xs)) (h2 : H b = some (.lst ys)) (hn : xs.length = ys.length) (P : Nat → List V → Hp → Prop) (h0 : P 0 [] H)
    (hs : ∀ D i x y acc H1 p, i < xs.length → xs[i]? = some x → ys[i]? = some y → H D = none → H1 D = some (.lst acc) → acc.length ≤ i → Ex H (dr D H1) → P i acc (dr D H1) → H1 p = none → g (.ref p) (wipe σ vs) (upd H1 p (.tup [x, y])) fun σ2 H2 => wipe σ2 vs = wipe σ vs ∧ tt σ2 H2 fun b H3 =>
      if b = true then te σ2 H3 fun y H4 => ∃ acc, H4 D = some (.lst acc) ∧ acc.length < sizeLine ∧ CW P H D (i + 1) (upd H4 D (.lst (acc ++ [y]))) else CW P H D (i + 1) H3)
    (hd : ∀ D acc H1, H D = none → H1 D = some (.lst acc) → acc.length ≤ xs.length → Ex H (dr D H1) → P xs.length acc (dr D H1) → Q (.ref D) H1) :
    ∃ a1 b1, (a = a1 ∧ b = b1) ∧ ∃ ws, SqL K H a1 ws ∧ ∃ zs, SqL K H b1 zs ∧ LcJ (Itz K a1 b1) g tt te vs σ H Q :=
  ⟨a, b, ⟨rfl, rfl⟩, xs, sqL h, ys, sqL h2, lcJ (walk_zip (n := xs.length) (xs := xs) (ys := ys) (by omega)) (fun H' e => ⟨sqL (e _ _ h), sqL (e _ _ h2)⟩) P h0 (fun D i x acc H1 H2 hi hD hacc hl e1 hp y => by
    obtain ⟨T, x', y', rfl, hT, rfl, f1, f2⟩ := y
    exact hs D i x' y' acc H1 T hi f1 f2 hD hacc hl e1 hp hT) hd⟩
/-- over a range -/
theorem lcR {n : Int} (hn : 0 ≤ n ∧ n ≤ 100000) (P : Nat → List V → Hp → Prop) (h0 : P 0 [] H)
    (hs : ∀ D (i : Nat) acc H1, (i : Int) < n → H D = none → H1 D = some (.lst acc) → acc.length ≤ i → Ex H (dr D H1) → P i acc (dr D H1) → g (.int (i : Int)) (wipe σ vs) H1 fun σ2 H2 => wipe σ2 vs = wipe σ vs ∧ tt σ2 H2 fun b H3 =>
      if b = true then te σ2 H3 fun y H4 => ∃ acc, H4 D = some (.lst acc) ∧ acc.length < sizeLine ∧ CW P H D (i + 1) (upd H4 D (.lst (acc ++ [y]))) else CW P H D (i + 1) H3)
    (hd : ∀ D acc H1, H D = none → H1 D = some (.lst acc) → acc.length ≤ n.toNat → Ex H (dr D H1) → P n.toNat acc (dr D H1) → Q (.ref D) H1) :
    -(2 ^ 62) ≤ n ∧ n < 2 ^ 62 ∧ LcJ (Itr 0 n.toNat) g tt te vs σ H Q :=
  ⟨by omega, by omega, lcJ walk_range (fun _ _ => trivial) P h0 (fun D i x acc H1 H2 hi hD hacc hl e1 hp y => by
    obtain ⟨rfl, rfl⟩ := y
    show g (.int ((0 : Int) + (i : Int))) (wipe σ vs) _ _
    rw [Int.zero_add]
    exact hs D i acc _ (by omega) hD hacc hl e1 hp) hd⟩
variable {tu tw tz : TS} {D : Ends}
def ForK (J : It) (g : TG) (tb : TS) (D : Ends) (σ : L2.St) (H1 : Hp) : Prop := ∃ W : Nat → Nat → L2.St → Hp → Prop, (∃ m, W 0 m σ H1) ∧ ∀ i m σ H, W i m σ H →
  (J.stop i H ∧ D.nx σ H) ∨ (J.go i H ∧ ∃ N : L2.St → Hp → Prop, (∀ σ' H', N σ' H' → ∃ m', m' < m ∧ W (i + 1) m' σ' H') ∧ ∀ x H', J.yld i H x H' → g x σ H' fun σ2 H2 => tb { D with nx := N, ct := N, bk := D.nx } σ2 H2)
theorem rd_forL : tFor (iList K tl) g tu D σ H = tl σ H fun x H1 => ∃ a, x = .ref a ∧ (∃ xs, SqL K H1 a xs) ∧ ForK (Itl K a) g tu D σ H1 := rfl
theorem rd_forZ : tFor (iZip K ta) g tu D σ H = ta σ H fun us H1 => ∃ a b xs ys, us = [.ref a, .ref b] ∧ SqL K H1 a xs ∧ SqL K H1 b ys ∧ ForK (Itz K a b) g tu D σ H1 := rfl
theorem rd_forR : tFor (iRng1 ta) g tu D σ H = ta σ H fun us H1 => ∃ j : Int, us = [.int j] ∧ -(2 ^ 62) ≤ j ∧ j < 2 ^ 62 ∧ ForK (Itr 0 j.toNat) g tu D σ H1 := rfl
/-- a for over a list: Pv by the turn -/
theorem forA {a : Addr} {xs : List V} (h : H a = some (.lst xs)) (Pv : Nat → L2.St → Hp → Prop) (h0 : Pv 0 σ H) (hG : ∀ i σ H', i ≤ xs.length → Pv i σ H' → H' a = some (.lst xs))
    (hs : ∀ i x σ H', i < xs.length → xs[i]? = some x → Pv i σ H' → g x σ H' fun σ2 H2 => tu { D with nx := Pv (i + 1), ct := Pv (i + 1), bk := D.nx } σ2 H2) (hd : ∀ σ H', Pv xs.length σ H' → D.nx σ H') :
    (∃ ys, SqL K H a ys) ∧ ForK (Itl K a) g tu D σ H :=
  ⟨⟨xs, sqL h⟩, for_it (walk_list (xs := xs)) Pv h0 (fun i σ H' hi p => sqL (hG i σ H' hi p)) (fun i x σ H1 H2 hi p y => by
    obtain ⟨rfl, hx⟩ := y
    exact hs i x σ _ hi hx p) hd⟩
theorem forR {n : Int} (hn : 0 ≤ n ∧ n ≤ 100000) (Pv : Nat → L2.St → Hp → Prop) (h0 : Pv 0 σ H)
    (hs : ∀ (i : Nat) σ H', (i : Int) < n → Pv i σ H' → g (.int (i : Int)) σ H' fun σ2 H2 => tu { D with nx := Pv (i + 1), ct := Pv (i + 1), bk := D.nx } σ2 H2) (hd : ∀ σ H', Pv n.toNat σ H' → D.nx σ H') :
    -(2 ^ 62) ≤ n ∧ n < 2 ^ 62 ∧ ForK (Itr 0 n.toNat) g tu D σ H :=
  ⟨by omega, by omega, for_it walk_range Pv h0 (fun _ _ _ _ _ => trivial) (fun i x σ H1 H2 hi p y => by
    obtain ⟨rfl, rfl⟩ := y
    show g (.int ((0 : Int) + (i : Int))) σ _ _
    rw [Int.zero_add]
    exact hs i σ _ (by omega) p) hd⟩
theorem rd_make {C : Addr} {sp : Sp} {dvs : List V} {E : XK} : tMake C sp dvs E ta σ H Q = ta σ H fun vs H1 => ∀ x dx, H1 x = none → H1 dx = none → dx ≠ x → sp (.ref x :: (vs ++ dvs)) (upd (upd H1 dx (.own x)) x (.ins C dx [])) (fun v H2 => v = .non ∧ Q (.ref x) H2) E := rfl
theorem rd_meth {C : Addr} {m : Str} {sp : Sp} {dvs : List V} {E : XK} : tMeth C m sp dvs E tl ta σ H Q = tl σ H fun x H1 => ∃ a dx fs, x = .ref a ∧ H1 a = some (.ins C dx fs) ∧ fs.lookup m = none ∧ ta σ H1 fun vs H2 => sp (x :: (vs ++ dvs)) H2 Q E := rfl
end

/-- isinstance(x, (list, tuple)) of a list or a tuple -/
theorem isiLT {K : PySem.W.Frag} {H : Hp} {a : Addr} {xs : List V} {Q : VK} (sq : Sq2 H a xs) (q : ∀ H', Ex H H' → Q (.bl true) H') :
    2 ≤ sizeLine ∧ ∀ tp, H tp = none → rIsiT K [.ref a, .ref tp] (upd H tp (.tup [.ty "list", .ty "tuple"])) Q := by
  refine ⟨Evl.sz_of (by decide), fun tp htp => ?_⟩
  have e0 : Ex H (upd H tp (.tup [.ty "list", .ty "tuple"])) := Evl.Ex.new htp
  have hty : ∃ T1, TyX K (upd H tp (.tup [.ty "list", .ty "tuple"])) (.ref a) (.type T1) ∧ PySem.W.kitAny K (.type T1) (["list", "tuple"].map Value.type) = some true := by
    rcases sq.mono e0 with h | h
    · exact ⟨"list", .base (.lst h), kitAny_cons (b := true) (kit_ty (by decide +kernel)) (fun z => by cases z) (fun _ => rfl)⟩
    · exact ⟨"tuple", .base (.tup h), kitAny_cons (b := false) (kit_ty (by decide +kernel)) (fun _ => kitAny_cons (b := true) (kit_ty (by decide +kernel)) (fun z => by cases z) (fun _ => rfl)) (fun z => by cases z)⟩
  obtain ⟨T1, hty1, hty2⟩ := hty
  exact isiT_ty (Ts := ["list", "tuple"]) upd_same hty1 hty2 (q _ e0)
/-- a new instance's heap -/
theorem made_ex {H : Hp} {C x dx : Addr} (hx : H x = none) (hdx : H dx = none) : Ex H (upd (upd H dx (.own x)) x (.ins C dx [])) := fun b o h => by
  rw [upd_ne (ne_of_none h hx), upd_ne (ne_of_none h hdx)]; exact h
/-- behind __init__ -/
theorem init_ex {H H1 H' : Hp} {C x dx : Addr} (e1 : Ex H H1) (hx : H1 x = none) (hdx : H1 dx = none) (e : ∀ b o, (upd (upd H1 dx (.own x)) x (.ins C dx [])) b = some o → b ≠ x → H' b = some o) : Ex H H' := fun b o h =>
  e b o (made_ex hx hdx b o (e1 b o h)) (ne_of_none (e1 b o h) hx)

theorem map_get {ns : List Int} {i : Nat} {x : V} (h : (ns.map V.int)[i]? = some x) : ∃ z, ns[i]? = some z ∧ x = V.int z := by
  rw [List.getElem?_map] at h
  cases e : ns[i]? with
  | none => rw [e] at h; cases h
  | some z => rw [e] at h; exact ⟨z, rfl, (Option.some.inj h).symm⟩
theorem zip_get {α β : Type} : ∀ {xs : List α} {ys : List β} {i : Nat} {x : α} {y : β}, xs[i]? = some x → ys[i]? = some y → (xs.zip ys)[i]? = some (x, y)
  | [], _, i, _, _, h, _ => by simp at h
  | _ :: _, [], i, _, _, _, h => by simp at h
  | a :: r, b :: s, 0, x, y, h, k => by
    have e1 : a = x := Option.some.inj h
    have e2 : b = y := Option.some.inj k
    subst e1 e2; rfl
  | a :: r, b :: s, i + 1, x, y, h, k => by
    simpa using zip_get (xs := r) (ys := s) (i := i) (by simpa using h) (by simpa using k)
theorem at_ints {ns : List Int} {i : Int} (h0 : 0 ≤ i) (h : i < ns.length) : atI (ns.map V.int) i = some (V.int (ns.getD i.toNat 0)) := by
  have hj : i.toNat < ns.length := by omega
  refine at_of (j := i.toNat) (by omega) ?_
  rw [List.getElem?_map, List.getElem?_eq_getElem hj]
  simp [List.getD, hj]
theorem getD_ok {ns : List Int} {a b : Int} (h : ∀ z ∈ ns, a ≤ z ∧ z ≤ b) {i : Int} (h0 : 0 ≤ i) (hi : i < (ns.length : Int)) : a ≤ ns.getD i.toNat 0 ∧ ns.getD i.toNat 0 ≤ b := by
  have hj : i.toNat < ns.length := by omega
  have e : ns.getD i.toNat 0 = ns[i.toNat] := by simp [List.getD, hj]
  rw [e]
  exact h _ (List.getElem_mem hj)
/-! ### a comprehension of two: a list, a range -/
def Lc2J (J : It) (g : TG) (tt : TT) (wi1 : TI) (g1 : TG) (tt1 : TT) (te : TE) (vs vs1 : List Nat) (σ : L2.St) (H1 : Hp) (Q : VK) : Prop := ∀ D, H1 D = none → ∃ W : Nat → Nat → Hp → Prop, (∃ m, W 0 m (upd H1 D (.lst []))) ∧ ∀ i m H, W i m H →
  (J.stop i H ∧ Q (.ref D) H) ∨ (J.go i H ∧ ∃ Nx : Hp → Prop, (∀ H', Nx H' → ∃ m', m' < m ∧ W (i + 1) m' H') ∧ ∀ x H', J.yld i H x H' → g x (wipe σ vs) H' fun σ2 H2 => wipe σ2 vs = wipe σ vs ∧ tt σ2 H2 fun b H3 =>
    if b = true then wi1 σ2 H3 fun J1 H4 => ∃ W1 : Nat → Nat → Hp → Prop, (∃ m, W1 0 m H4) ∧ ∀ j k H, W1 j k H →
      (J1.stop j H ∧ Nx H) ∨ (J1.go j H ∧ ∃ Nx1 : Hp → Prop, (∀ H', Nx1 H' → ∃ k', k' < k ∧ W1 (j + 1) k' H') ∧ ∀ x H', J1.yld j H x H' → g1 x (wipe σ2 vs1) H' fun σ3 H5 => wipe σ3 vs1 = wipe σ2 vs1 ∧ tt1 σ3 H5 fun b H6 =>
        if b = true then te σ3 H6 fun y H7 => ∃ acc, H7 D = some (.lst acc) ∧ acc.length < sizeLine ∧ Nx1 (upd H7 D (.lst (acc ++ [y]))) else Nx1 H6)
    else Nx H3)
def CW2 (P : Nat → Nat → List V → Hp → Prop) (H1 : Hp) (D : Addr) (i j : Nat) (H : Hp) : Prop := ∃ acc, H D = some (.lst acc) ∧ Ex H1 (dr D H) ∧ P i j acc (dr D H)
theorem cw2_put {P : Nat → Nat → List V → Hp → Prop} {H1 H H4 : Hp} {D : Addr} {i j : Nat} {acc : List V} {y : V} (hD : H D = some (.lst acc)) (hl : acc.length < 100000) (e1 : Ex H1 (dr D H)) (e : Ex H H4) (p : P i (j + 1) (acc ++ [y]) (dr D H4)) :
    ∃ acc', H4 D = some (.lst acc') ∧ acc'.length < sizeLine ∧ CW2 P H1 D i (j + 1) (upd H4 D (.lst (acc' ++ [y]))) := by
  refine ⟨acc, e _ _ hD, Evl.sz_lt hl, acc ++ [y], upd_same, ?_, ?_⟩
  · rw [dr_upd]; exact e1.trans (dr_mono e)
  · rw [dr_upd]; exact p
section
variable {K : PySem.W.Frag} {σ : L2.St} {H : Hp} {Q : VK} {te tl : TE} {vs vs1 : List Nat} {ta1 : TA} {i5 i6 : Nat}
theorem rd_lc2 {g g1 : TG} {tt tt1 : TT} {wi1 : TI} : tLc2 (iList K tl) g tt wi1 g1 tt1 te vs vs1 σ H Q = tl σ H fun x H1 => ∃ a, x = .ref a ∧ (∃ xs, SqL K H1 a xs) ∧ Lc2J (Itl K a) g tt wi1 g1 tt1 te vs vs1 σ H1 Q := rfl
theorem lc2LR {a : Addr} {xs : List V} {n : Nat} (h : H a = some (.lst xs)) (hr : ∀ x H' (R : It → Hp → Prop), R (Itr 0 n) H' → iRng1 ta1 ((wipe σ vs).set i5 (some x)) H' R) (hw : ∀ x, wipe ((wipe σ vs).set i5 (some x)) vs = wipe σ vs)
    (hw1 : ∀ x y, wipe ((wipe ((wipe σ vs).set i5 (some x)) vs1).set i6 (some y)) vs1 = wipe ((wipe σ vs).set i5 (some x)) vs1) (P : Nat → Nat → List V → Hp → Prop) (h0 : P 0 0 [] H) (hnext : ∀ i acc B, i < xs.length → P i n acc B → P (i + 1) 0 acc B)
    (hs : ∀ D i x j acc H1, i < xs.length → xs[i]? = some x → j < n → H D = none → H1 D = some (.lst acc) → Ex H (dr D H1) → P i j acc (dr D H1) →
      te ((wipe ((wipe σ vs).set i5 (some x)) vs1).set i6 (some (.int (j : Int)))) H1 fun y H7 => ∃ acc, H7 D = some (.lst acc) ∧ acc.length < sizeLine ∧ CW2 P H D i (j + 1) (upd H7 D (.lst (acc ++ [y]))))
    (hd : ∀ D acc H1, H D = none → H1 D = some (.lst acc) → Ex H (dr D H1) → P xs.length 0 acc (dr D H1) → Q (.ref D) H1) :
    (∃ ys, SqL K H a ys) ∧ Lc2J (Itl K a) (gName i5) tYes (iRng1 ta1) (gName i6) tYes te vs vs1 σ H Q := by
  refine ⟨⟨xs, sqL h⟩, fun D hD => ⟨fun i m H' => m = xs.length - i ∧ i ≤ xs.length ∧ CW2 P H D i 0 H', ⟨_, rfl, Nat.zero_le _, [], upd_same, by rw [dr_upd, dr_none hD]; exact Evl.Ex.refl _, by rw [dr_upd, dr_none hD]; exact h0⟩, ?_⟩⟩
  rintro i m H1 ⟨rfl, hi, acc, hacc, e1, hp⟩
  have ha1 : H1 a = some (.lst xs) := dr_ex _ _ (e1 _ _ h)
  by_cases hlt : i < xs.length
  · refine .inr ⟨⟨xs, xs[i], sqL ha1, by simp [hlt]⟩, CW2 P H D (i + 1) 0, fun H' p' => ⟨xs.length - (i + 1), by omega, rfl, hlt, p'⟩, fun x H' y => ?_⟩
    obtain ⟨rfl, y⟩ := y
    have hx := y xs (sqL ha1)
    refine ⟨hw x, ?_⟩
    rw [rd_yes, if_pos rfl]
    refine hr x _ _ ?_
    refine ⟨fun j k H' => k = n - j ∧ j ≤ n ∧ CW2 P H D i j H', ⟨_, rfl, Nat.zero_le _, acc, hacc, e1, hp⟩, ?_⟩
    rintro j k H2 ⟨rfl, hj, acc2, hacc2, e2, hp2⟩
    by_cases hjn : j < n
    · refine .inr ⟨hjn, CW2 P H D i (j + 1), fun H' p' => ⟨n - (j + 1), by omega, rfl, hjn, p'⟩, fun x' H' y' => ?_⟩
      obtain ⟨rfl, rfl⟩ := y'
      refine ⟨hw1 x _, ?_⟩
      have := hs D i x j acc2 _ hlt hx hjn hD hacc2 e2 hp2
      rw [rd_yes, if_pos rfl]
      show te ((wipe ((wipe σ vs).set i5 (some x)) vs1).set i6 (some (.int ((0 : Int) + (j : Int))))) _ _
      rw [Int.zero_add]
      exact this
    · have e : j = n := by omega
      subst e
      exact .inl ⟨Nat.le_refl _, acc2, hacc2, e2, hnext i acc2 _ hlt hp2⟩
  · have e : i = xs.length := by omega
    subst e
    exact .inl ⟨⟨xs, sqL ha1, Nat.le_refl _⟩, hd D acc H1 hD hacc e1 hp⟩
end

theorem perm_erase {α : Type} : ∀ {l : List α} {k : Nat} {y : α}, l[k]? = some y → l.Perm (y :: l.eraseIdx k)
  | [], k, y, h => by simp at h
  | a :: r, 0, y, h => by
    have e : a = y := Option.some.inj h
    subst e
    exact List.Perm.refl _
  | a :: r, k + 1, y, h => by
    have ih := perm_erase (l := r) (k := k) (y := y) (by simpa using h)
    exact (List.Perm.cons a ih).trans (List.Perm.swap y a _)
theorem seqIx {d : Int} {n : Nat} (h0 : 0 ≤ d) (h : d < n) : seqIndex? d n = some d.toNat := by
  have : ixN n d = some d.toNat := by
    unfold ixN
    rw [if_pos h0, if_pos h]
  exact (ixN_seq this).1
/-- divmod by a small number -/
theorem divp_small {i j : Int} (h : 0 < j) (hj : j ≤ 100000) : CDivP i j := by
  refine ⟨h, ?_⟩
  show (decide ((if j == 0 then 0 else j.natAbs.log2 / 30 + 1) > 300) && _) = false
  have k : ¬ ((if j == 0 then 0 else j.natAbs.log2 / 30 + 1) > 300) := by
    have h1 : j.natAbs.log2 ≤ 100000 := Nat.le_trans (Nat.log2_le_self _) (by omega)
    have h2 : j.natAbs.log2 < 17 := (Nat.log2_lt (by omega)).mpr (by omega)
    split <;> omega
  rw [decide_eq_false k, Bool.false_and]
theorem nw_dr_mono {p : Addr} {H H2 H3 : Hp} {o : HO} (hp : H p = some o) (e : Ex (dr p H2) (dr p H3)) : Ex (nw H H2) (nw H H3) := fun a u h => by
  obtain ⟨h1, h2⟩ := nw_of h
  exact nw_at h1 (dr_ex _ _ (e _ _ (dr_at (fun z => by rw [z, hp] at h1; cases h1) h2)))
/-- a place other than p, behind a draw -/
theorem dr_keep {p a : Addr} {H H' : Hp} {o : HO} (e : Ex (dr p H) (dr p H')) (ha : a ≠ p) (h : H a = some o) : H' a = some o := dr_ex _ _ (e _ _ (dr_at ha h))
theorem ints_at {ns : List Int} {i : Nat} {z : Int} (h : ns[i]? = some z) : (ns.map V.int)[i]? = some (V.int z) := by rw [List.getElem?_map, h]; rfl

theorem erase_map {α β : Type} (f : α → β) : ∀ (l : List α) (k : Nat), (l.map f).eraseIdx k = (l.eraseIdx k).map f
  | [], k => by simp
  | a :: r, 0 => by simp
  | a :: r, k + 1 => by simp [erase_map f r k]
theorem perm_move {α : Type} {ls fs rs : List α} {k : Nat} {y : α} (h : ls[k]? = some y) (hp : (ls ++ fs).Perm rs) : (ls.eraseIdx k ++ (fs ++ [y])).Perm rs := by
  refine List.Perm.trans ?_ hp
  rw [← List.append_assoc]
  refine (List.perm_append_comm).trans ?_
  show (y :: (ls.eraseIdx k ++ fs)).Perm (ls ++ fs)
  exact ((perm_erase h).symm).append_right fs

theorem cut1 (xs : List V) : cutV xs (some 1) none = xs.drop 1 := by
  cases xs with
  | nil => simp [cutV]
  | cons a r =>
    unfold cutV
    have e : HT.sIx (a :: r).length 0 (some 1) = 1 := by
      unfold HT.sIx
      simp
    have e2 : HT.sIx (a :: r).length (a :: r).length none = (a :: r).length := by unfold HT.sIx; rfl
    rw [e, e2]
    simp
theorem p2_app {α β : Type} {R : α → β → Prop} : ∀ {xs : List α} {ys : List β} {xs' : List α} {ys' : List β}, Paired R xs ys → Paired R xs' ys' → Paired R (xs ++ xs') (ys ++ ys')
  | _, _, _, _, .nil, h => h
  | _, _, _, _, .cons r q, h => .cons r (p2_app q h)
end SB

set_option maxRecDepth 100000
set_option maxHeartbeats 4000000
/-! sorted of a list of tuples of whole numbers, of any lengths. -/
namespace SB
open PySem PySem.Spec PyProof.Rows L2
open HT (lexLt)
theorem lex_irr : ∀ a : List Int, lexLt a a = false
  | [] => rfl
  | x :: r => by rw [HT.lexLt_cons, if_pos rfl]; exact lex_irr r
theorem lex_asym : ∀ a b : List Int, lexLt a b = true → lexLt b a = false
  | [], [], h => by cases h
  | [], _ :: _, _ => rfl
  | _ :: _, [], h => by cases h
  | x :: r, y :: s, h => by
    rw [HT.lexLt_cons] at h ⊢
    by_cases e : x = y
    · subst e
      rw [if_pos rfl] at h ⊢
      exact lex_asym r s h
    · rw [if_neg e] at h
      rw [if_neg (fun z => e z.symm)]
      have := of_decide_eq_true h
      exact decide_eq_false (by omega)
theorem lex_ntr : ∀ a b c : List Int, lexLt a b = false → lexLt b c = false → lexLt a c = false
  | [], [], c, _, h => h
  | [], _ :: _, _, h, _ => by cases h
  | x :: r, [], [], _, _ => rfl
  | x :: r, [], _ :: _, _, h => by cases h
  | x :: r, y :: s, [], _, _ => rfl
  | x :: r, y :: s, z :: t, h1, h2 => by
    rw [HT.lexLt_cons] at h1 h2 ⊢
    by_cases e1 : x = y
    · subst e1
      rw [if_pos rfl] at h1
      by_cases e2 : x = z
      · subst e2
        rw [if_pos rfl] at h2 ⊢
        exact lex_ntr r s t h1 h2
      · rw [if_neg e2] at h2 ⊢
        exact h2
    · rw [if_neg e1] at h1
      have g1 := of_decide_eq_false h1
      by_cases e2 : y = z
      · subst e2
        rw [if_neg e1]
        exact h1
      · rw [if_neg e2] at h2
        have g2 := of_decide_eq_false h2
        rw [if_neg (by omega)]
        exact decide_eq_false (by omega)
theorem lex_anti : ∀ a b : List Int, lexLt a b = false → lexLt b a = false → a = b
  | [], [], _, _ => rfl
  | [], _ :: _, h, _ => by cases h
  | _ :: _, [], _, h => by cases h
  | x :: r, y :: s, h1, h2 => by
    rw [HT.lexLt_cons] at h1 h2
    by_cases e : x = y
    · subst e
      rw [if_pos rfl] at h1 h2
      rw [lex_anti r s h1 h2]
    · rw [if_neg e] at h1
      rw [if_neg (fun z => e z.symm)] at h2
      have := of_decide_eq_false h1
      have := of_decide_eq_false h2
      omega
/-- sorted, as lists of numbers -/
def SrtL (l : List (List Int)) : Prop := l.Pairwise fun a b => HT.lexLt b a = false
theorem srtL_uniq {l m : List (List Int)} (hl : SrtL l) (hm : SrtL m) (h : l.Perm m) : l = m :=
  List.Perm.eq_of_pairwise (le := fun a b => HT.lexLt b a = false) (fun a b _ _ h1 h2 => lex_anti a b h2 h1) hl hm h
theorem swo_lexk {α : Type} (k : α → List Int) : SrtO.Swo fun v u => lexLt (k v) (k u) := by
  refine ⟨fun x y h => lex_asym _ _ h, fun x y z h1 h2 => ?_⟩
  first
  | exact lex_ntr _ _ _ h1 h2
  | exact lex_ntr _ _ _ h2 h1
section
variable {prog : Program} {w : World} {A : Around} {E : Value → Shared → Prop} {s : Shared}
theorem kat_ints {b : Bool} {Q : Bool → Shared → Prop} : ∀ {us ws : List Value} {ns ms : List Int}, IntsAre us ns → IntsAre ws ms → ∀ i, Q (lexLt ns ms) s → PySem.W.KatLex prog w A b (decide (us.length < ws.length)) Q (us.zip ws) i s
  | _, _, _, _, .nil, .nil, i, h => PySem.W.kat_nil h
  | _, _, _, _, .nil, .cons y u (vs := ws) (ns := ms) _, i, h => PySem.W.kat_nil (by
    have e : decide (([] : List Value).length < (Value.int y u :: ws).length) = true := by simp
    rw [e]; exact h)
  | _, _, _, _, .cons x t (vs := us) (ns := ns) _, .nil, i, h => PySem.W.kat_nil (by
    have e : decide ((Value.int x t :: us).length < ([] : List Value).length) = false := by simp
    rw [e]; exact h)
  | _, _, _, _, .cons x t (vs := us) (ns := ns) h1, .cons y u (vs := ws) (ns := ms) h2, i, h => by
    rw [HT.lexLt_cons] at h
    rw [List.zip_cons_cons]
    refine PySem.W.kat_cons (SeqAt.EqAt.int_int x t y u prog w _ _ ?_)
    refine PySem.W.kat_go (fun e1 => ?_) (fun e1 => ?_)
    · have ex : x = y := by simpa using e1
      rw [if_pos ex] at h
      have e : decide ((Value.int x t :: us).length < (Value.int y u :: ws).length) = decide (us.length < ws.length) := by simp
      rw [e]
      exact PySem.W.kat_yes (kat_ints h1 h2 (i + 1) h)
    · have ex : ¬ x = y := by simpa using e1
      rw [if_neg ex] at h
      exact PySem.W.kat_no (TS.oneLt_ints _ h)
/-- a tuple of these numbers -/
def IsTI (h : Heap) (v : Value) (ns : List Int) : Prop := ∃ a o us n, v = .ref a ∧ h.get? a = some o ∧ o.cls = .type "tuple" ∧ o.data = .seq us n ∧ IntsAre us.toList ns
theorem IsTI.keeps {h h' : Heap} {v : Value} {ns : List Int} (p : IsTI h v ns) (k : ∀ b o, h.get? b = some o → o.cls = .type "tuple" → h'.get? b = some o) : IsTI h' v ns := by
  obtain ⟨a, o, us, n, e, ho, hc, hd, hi⟩ := p
  exact ⟨a, o, us, n, e, k _ _ ho hc, hc, hd, hi⟩
theorem tups_cmp {vs : List Value} {k : Value → List Int} (hp : ∀ v ∈ vs, IsTI s.heap v (k v)) : SrtO.Cmp prog w A s (PyProof.Rows.tuples' true) (fun p => p.1 ∈ vs) (SrtO.lt2 fun v u => lexLt (k v) (k u)) := by
  intro p q hm hm'
  have h1 := hp _ hm
  have h2 := hp _ hm'
  show wpAny (model prog w) A (PyProof.Rows.keyLt' (PyProof.Rows.tuples' true) p.1 q.1) (fun r s' => s' = s ∧ r = lexLt (k p.1) (k q.1)) (fun _ _ => False) s
  generalize k p.1 = x at h1 ⊢
  generalize k q.1 = y at h2 ⊢
  obtain ⟨a, o, us, n, e, ho, hc, hd, hi⟩ := h1
  obtain ⟨a', o', us', n', e', ho', hc', hd', hi'⟩ := h2
  rw [e, e']
  refine PySem.W.kat_lt ho hd ho' hd' ?_
  have := kat_ints (prog := prog) (w := w) (A := A) (b := true) (s := s) (Q := fun r s' => s' = s ∧ r = lexLt x y) hi hi' 0 ⟨rfl, rfl⟩
  simpa using this
theorem firsts_ti {h : Heap} {k : Value → List Int} : ∀ {vs : List Value}, (∀ v ∈ vs, IsTI h v (k v) ∧ k v ≠ []) → ∃ fs : List Value, PySem.W.KatTups h vs fs ∧ fs.length = vs.length ∧ ∀ f ∈ fs, ∃ x t, f = Value.int x t
  | [], _ => ⟨[], PySem.W.KatTups.nil, rfl, fun _ hm => by simp at hm⟩
  | v :: vs, hp => by
    obtain ⟨fs, h1, h2, h3⟩ := firsts_ti (vs := vs) fun v' hm => hp v' (List.mem_cons_of_mem _ hm)
    obtain ⟨⟨a, o, us, n, e, ho, hc, hd, hi⟩, hne⟩ := hp v List.mem_cons_self
    subst e
    obtain ⟨x, t, rest, hu⟩ : ∃ x t rest, us.toList = Value.int x t :: rest := by
      generalize us.toList = ul at hi
      generalize hk : k (.ref a) = kk at hi hne
      cases hi with
      | nil => exact absurd rfl hne
      | cons x t _ => exact ⟨x, t, _, rfl⟩
    have h0 : us[0]? = some (Value.int x t) := by
      rw [← Array.getElem?_toList, hu]; rfl
    refine ⟨.int x t :: fs, PySem.W.KatTups.cons ho hc hd h0 h1, by rw [List.length_cons, List.length_cons, h2], fun f hm => ?_⟩
    rcases List.mem_cons.mp hm with rfl | hm
    · exact ⟨x, t, rfl⟩
    · exact h3 f hm
theorem tups_sortable {a : Addr} {vs : List Value} {k : Value → List Int} (h0 : 0 < vs.length) (hp : ∀ v ∈ vs, IsTI s.heap v (k v) ∧ k v ≠ []) (ha : ∀ o, s.heap.get? a = some o → o.cls ≠ .type "tuple") : SrtO.SortableO prog w A s a vs fun v u => lexLt (k v) (k u) := by
  intro h' keep
  have hp' : ∀ v ∈ vs, IsTI h' v (k v) ∧ k v ≠ [] := fun v hm => ⟨(hp v hm).1.keeps fun b o e c => keep b o (fun z => by subst z; exact ha o e c) e, (hp v hm).2⟩
  obtain ⟨fs, h1, h2, h3⟩ := firsts_ti hp'
  refine ⟨PyProof.Rows.tuples' true, fun Q E hq => ?_, tups_cmp fun v hv => (hp' v hv).1⟩
  refine PySem.W.kat_kind (T := .type "int") h1 (by omega) (fun f hm => ?_) (by rfl) ?_
  · obtain ⟨x, t, rfl⟩ := h3 f hm
    exact PySem.W.Looks.now
  · have e : (Value.type "int" != Value.type "tuple") = true := by first | decide +kernel | rfl | decide
    rw [e]
    exact hq
theorem sorted_tups {l : Addr} {vs : List Value} {k : Value → List Int} {Q : Value → Shared → Prop} (hl : s.heap.IsList l vs.toArray) (hz : vs.length ≤ sizeLine) (hp : ∀ v ∈ vs, IsTI s.heap v (k v)) (hne : 2 ≤ vs.length → ∀ v ∈ vs, k v ≠ [])
    (h : ∀ (h' : Heap) (d : Addr) (out : List Value), SrtO.Srtd (fun v u => lexLt (k v) (k u)) out → SrtO.Stb (fun v u => lexLt (k v) (k u)) out vs → (∀ b o, s.heap.get? b = some o → h'.get? b = some o) → s.heap.objs.size ≤ d → (∃ n, h'.get? d = some (PyProof.Rows.seqObj "list" out.toArray n)) → Q (.ref d) { s with heap := h' }) :
    wpAny (model prog w) A (call (.builtin "sorted") [.ref l]) Q E s := by
  refine SrtO.sorted_ord (swo_lexk k) hl hz (fun h2 h₁ a ha kk => ?_) fun out hs hb => ?_
  · refine tups_sortable (s := { s with heap := h₁ }) (by omega) (fun v hm => ⟨(hp v hm).keeps fun b o e _ => (kk b o e).2, hne h2 v hm⟩) fun o e => ?_
    have e' : some o = some (PyProof.Rows.seqObj "list" vs.toArray 0) := e.symm.trans ha
    cases e'
    intro c
    exact absurd (Value.type.inj c) (by decide)
  · exact h _ _ out hs hb (fun b o e => PyProof.Rows.sortedAll_old e) (Nat.le_succ _) (PyProof.Rows.sortedAll_at s.heap vs out.toArray)
end
/-- sorted(xs), xs a list of tuples of whole numbers (k says which): a new list of them, in order -/
def rSortedTI (K : PySem.W.Frag) : List V → Hp → VK → Prop := fun vs H Q => ∃ (a : Addr) (xs : List V) (k : V → List Int), vs = [V.ref a] ∧ SqL K H a xs ∧ (∀ x ∈ xs, ∃ t, x = V.ref t ∧ H t = some (.tup ((k x).map V.int))) ∧ (2 ≤ xs.length → ∀ x ∈ xs, k x ≠ []) ∧
  ∀ ys p, ys.Perm xs → SrtL (ys.map k) → H p = none → Q (.ref p) (upd H p (.lst ys))
section
variable {X : Cx}
theorem cr_sortedTI : CallR X (.builtin "sorted") (rSortedTI X.K) := by
  intro pins s σ H vs us Q I r h
  obtain ⟨a, xs, k, rfl, hs, hx, hne, q⟩ := h
  obtain ⟨its, rv, hl, hz⟩ := I.list hs
  obtain ⟨u, rfl, ru⟩ := vals1 r
  obtain rfl : u = Value.ref a := ru
  obtain ⟨e1, e2⟩ := refs_back rv fun x m => by
    obtain ⟨t, e, _⟩ := hx x m
    exact ⟨t, e⟩
  refine sorted_tups (k := fun u => k (backV u)) hl.isList (by rw [← rv.length]; exact hz) (fun v hv => ?_) (fun h2 v hv => ?_) fun h' d out h1 h2 kp hd hn => ?_
  · obtain ⟨t, rfl⟩ := e2 v hv
    have hm : V.ref t ∈ xs := by rw [e1]; exact List.mem_map.mpr ⟨_, hv, rfl⟩
    obtain ⟨t', e, ht⟩ := hx _ hm
    cases e
    obtain ⟨_, its2, r2, o, ho, hc, n, hd⟩ := I.hok _ _ ht
    exact ⟨t, o, _, n, rfl, ho, hc, hd, intsAre_of r2⟩
  · refine hne (by rw [rv.length]; exact h2) _ ?_
    rw [e1]; exact List.mem_map.mpr ⟨_, hv, rfl⟩
  · have h3 : ∀ u ∈ out, ∃ a, u = Value.ref a := fun u hu => e2 u (h2.perm.mem_iff.mp hu)
    obtain ⟨n, hn⟩ := hn
    have hperm : (out.map backV).Perm xs := by rw [e1]; exact h2.perm.map _
    refine ⟨.ref d, upd H d (.lst (out.map backV)), I.laid (t' := s.toks) kp hd ⟨?_, out, n, vals_back h3, hn⟩, rfl, q _ d hperm ?_ (I.hok.fresh hd)⟩
    · rw [hperm.length_eq]; exact hz
    · unfold SrtL
      rw [List.map_map]
      exact List.pairwise_map.mpr h1
end
end SB

set_option maxRecDepth 100000
set_option maxHeartbeats 4000000
/-! zip of a tuple beside a list; a walk over zip of a list or a tuple beside a list. -/
namespace SB
open PySem PySem.Spec PyProof.Rows L2
/-- the tuple at a beside the list at b -/
def ItzS (K : PySem.W.Frag) (a b : Addr) : It where
  go := fun i H => ∃ (xs ys : List V) (x y : V), SqT K H a xs ∧ SqL K H b ys ∧ xs[i]? = some x ∧ ys[i]? = some y
  yld := fun i H v H' => ∃ T x y, v = .ref T ∧ H T = none ∧ H' = upd H T (.tup [x, y]) ∧ (∀ xs, SqT K H a xs → xs[i]? = some x) ∧ ∀ ys, SqL K H b ys → ys[i]? = some y
  stop := fun i H => ∃ xs ys : List V, SqT K H a xs ∧ SqL K H b ys ∧ ((xs.length = i ∧ i ≤ ys.length) ∨ (ys.length = i ∧ i ≤ xs.length))
def StzS (z TI TO i1 i2 a b : Addr) (i : Nat) (h : Heap) : Prop := IsZip h z TI TO .none ∧ IsTupOf2 h TI (.ref i1) (.ref i2) ∧ (∃ x y, IsTupOf2 h TO x y) ∧ h.IsTupleIter i1 a i ∧ h.IsListIter i2 b i
theorem five_of {z TI TO i1 i2 c : Addr} (h : c ∈ [z, TI, TO, i1, i2]) : c = z ∨ c = TI ∨ c = TO ∨ c = i1 ∨ c = i2 := by simpa using h
theorem stzs_live {z TI TO i1 i2 a b c : Addr} {i : Nat} {h : Heap} (st : StzS z TI TO i1 i2 a b i h) (hc : c ∈ [z, TI, TO, i1, i2]) : ∃ o, h.get? c = some o ∧ ∀ (v : Option Value), o.data ≠ Data.cell v := by
  obtain ⟨hz, hTI, ⟨x, y, hTO⟩, ⟨o1, e1, _, d1⟩, ⟨o2, e2, _, d2⟩⟩ := st
  rcases five_of hc with q | q | q | q | q <;> subst q
  · exact ⟨_, hz, fun v q => nomatch q⟩
  · exact ⟨_, hTI, fun v q => nomatch q⟩
  · exact ⟨_, hTO, fun v q => nomatch q⟩
  · exact ⟨o1, e1, fun v q => by rw [d1] at q; cases q⟩
  · exact ⟨o2, e2, fun v q => by rw [d2] at q; cases q⟩
theorem turn_zipS {P : Program} {w : World} {K : PySem.W.Frag} {elts : List Expr} {kk : Nat} {tpos : Pos} {a b z TI TO i1 i2 : Addr} (S : ZipSep2 z TI TO i1 i2 [i1, a] [i2, b]) (ha : a ≠ i1) (hb : b ≠ i2) :
    Turn P w K (.Tuple elts kk tpos) (ItzS K a b) [z, TI, TO, i1, i2] z (StzS z TI TO i1 i2 a b) := by
  refine ⟨by simp, fun i h st c hc => stzs_live st hc, fun i h h' st k => ?_, ?_, ?_, fun A i s Q E st h => wpAny_pyIter_zip st.1 h⟩
  · obtain ⟨hz, hTI, ⟨x, y, hTO⟩, h1, h2⟩ := st
    exact ⟨k z (by simp) _ hz, k TI (by simp) _ hTI, ⟨x, y, k TO (by simp) _ hTO⟩, h1.at fun o q => k i1 (by simp) o q, h2.at fun o q => k i2 (by simp) o q⟩
  · intro X hP hw hK hc i pins s σ H E I hf st hg
    subst hP hw hK
    have live := fun {c} (hc : c ∈ [z, TI, TO, i1, i2]) => stzs_live st hc
    obtain ⟨hz, hTI, ⟨x0, y0, hTO⟩, h1, h2⟩ := st
    obtain ⟨xs, ys, x, y, hqx, hqy, hx, hy⟩ := hg
    obtain ⟨its, rv, p, _⟩ := I.tuple hqx
    obtain ⟨its2, rv2, p2, _⟩ := I.list hqy
    obtain ⟨u, hu, ru⟩ := rv.get hx
    obtain ⟨u2, hu2, ru2⟩ := rv2.get hy
    have l1 : i < its.toArray.size := by
      have := (List.getElem?_eq_some_iff.mp hu).1
      simpa using this
    have l2 : i < its2.toArray.size := by
      have := (List.getElem?_eq_some_iff.mp hu2).1
      simpa using this
    have zl : z < s.heap.objs.size := Heap.lt_size hz
    refine wpAny_pyNext_zipD2_item S (Draws.tuple (A := X.A.in1) (show X.A.in1.handled = none from I.ok.hd hc) i1 a ha its.toArray) (Draws.list (A := X.A.in1) (show X.A.in1.handled = none from I.ok.hd hc) i2 b hb its2.toArray) hz hTI hTO ⟨h1, p⟩ ⟨h2, p2.isList⟩ l1 l2 fun x1 x2 h' tk e1 e2 z' TO' st1 st2 T' hsz hk => ?_
    obtain rfl : u = x1 := Option.some.inj (hu.symm.trans (by simpa using e1))
    obtain rfl : u2 = x2 := Option.some.inj (hu2.symm.trans (by simpa using e2))
    refine ⟨_, rfl, wpAny_letOwnedTupleGo_zip (s := { s with heap := h', toks := tk }) z' fun h'' z'' sb => ?_⟩
    have hall : ∀ c o, c ≠ z → c ≠ TO → c ≠ i1 → c ≠ i2 → s.heap.get? c = some o → h''.get? c = some o := fun c o c1 c2 c3 c4 q => (sb.2 c c1).trans (hk c o c1 c2 c3 c4 q)
    have hT2 : h''.get? s.heap.objs.size = some { cls := .type "tuple", data := .seq #[u, u2] } := (sb.2 _ (Nat.ne_of_gt zl)).trans T'
    have new : ObjOk X.prog X.w (upd H s.heap.objs.size (.tup [x, y])) h'' s.heap.objs.size (.tup [x, y]) :=
      ⟨by show 2 ≤ sizeLine; decide, [u, u2], .cons ru (.cons ru2 .nil), ⟨_, hT2, rfl, _, rfl⟩⟩
    have I1 : Inv X pins σ (upd H s.heap.objs.size (.tup [x, y])) { s with heap := h'', toks := tk } :=
      I.turnedNew (t' := tk) (ch := [z, TI, TO, i1, i2]) (fun c o hb q => hall c o (fun e => hb (by simp [e])) (fun e => hb (by simp [e])) (fun e => hb (by simp [e])) (fun e => hb (by simp [e])) q) hf (Nat.le_refl _) new
    refine ⟨.ref s.heap.objs.size, _, I1, rfl, ⟨_, x, y, rfl, I.hok.fresh (Nat.le_refl _), rfl, fun l hl => by rw [I.tuple_inj hl hqx]; exact hx, fun l hl => by rw [I.list_inj hl hqy]; exact hy⟩, ?_, fun c hcm => ?_⟩
    · refine ⟨z'', hall _ _ S.TIz S.TITO S.TIi1 S.TIi2 hTI, ⟨u, u2, (sb.2 _ S.TOz).trans TO'⟩, ?_, ?_⟩
      · exact st1.1.at fun o q => (sb.2 _ S.zi1.symm).trans q
      · exact st2.1.at fun o q => (sb.2 _ S.zi2.symm).trans q
    · obtain ⟨o, ho, _⟩ := live hcm
      rw [upd_ne (Nat.ne_of_lt (Heap.lt_size ho))]
      exact (hf c hcm).1
  · intro X hP hw hK hc i pins s σ H E I hf st hg
    subst hP hw hK
    obtain ⟨hz, hTI, ⟨x0, y0, hTO⟩, h1, h2⟩ := st
    obtain ⟨xs, ys, hqx, hqy, hend⟩ := hg
    obtain ⟨its, rv, p, _⟩ := I.tuple hqx
    obtain ⟨its2, rv2, p2, _⟩ := I.list hqy
    have l1 := rv.length
    have l2 := rv2.length
    refine wpAny_pyNext_zipD2_end S (Draws.tuple (A := X.A.in1) (show X.A.in1.handled = none from I.ok.hd hc) i1 a ha its.toArray) (Draws.list (A := X.A.in1) (show X.A.in1.handled = none from I.ok.hd hc) i2 b hb its2.toArray) hz hTI hTO ⟨h1, p⟩ ⟨h2, p2.isList⟩ (by simp; omega) (by simp; omega) (by simp; omega) fun h' tk hk => ⟨rfl, ?_⟩
    exact I.turnedL (t' := tk) (ch := [z, TI, TO, i1, i2]) (fun c o hb q => hk c o (fun e => hb (by simp [e])) (fun e => hb (by simp [e])) (fun e => hb (by simp [e])) (fun e => hb (by simp [e])) q) hf
/-- zip(x, y): x a list or a tuple, y a list -/
def iZipS (K : PySem.W.Frag) (ta : TA) : TI := fun σ H R => ta σ H fun vs H1 => ∃ a b xs ys, vs = [.ref a, .ref b] ∧ SqL K H1 b ys ∧ ((SqL K H1 a xs ∧ R (Itz K a b) H1) ∨ (SqT K H1 a xs ∧ R (ItzS K a b) H1))
theorem pi_zipS {X : Cx} {e e2 : Expr} {ta : TA} {p pos tpos : Pos} {elts : List Expr} {kk : Nat} (hg : Gl X "zip") (hm : X.mg "zip" = none) (ha : PA X [e, e2] ta)
    (hs : starEach [e, e2] X.env = (false, eval e X.env) :: starEach [e2] X.env := by rfl) (hpl : (backTo pos (starEach [e2] X.env)).any (·.1) = false := by rfl) :
    PI X (.Tuple elts kk tpos) (.Call (.Name "zip" p) [e, e2] [] pos) (iZipS X.K ta) := by
  refine ⟨fun pins s σ H R I h => ?_⟩
  refine Call_ (ld_blt I hg hm PyProof.Rows.boot_zip (PyProof.Rows.callWith_type1 (thn (ha.run pos pins s σ H _ I h) fun us s1 ⟨vs, H1, I1, r1, q1⟩ => ?_) hs hpl))
  obtain ⟨a, b, xs, ys, ex, hqy, q1⟩ := q1
  subst ex
  cases r1 with
  | cons r rr =>
    cases rr with
    | cons r' rr =>
      cases rr
      cases r
      cases r'
      have fresh5 : ∀ c, c ∈ [s1.heap.objs.size + 4, s1.heap.objs.size + 2, s1.heap.objs.size + 3, s1.heap.objs.size, s1.heap.objs.size + 1] → FpOk X pins H1 c := fun c hcm => by
        have hle : s1.heap.objs.size ≤ c := by
          rcases five_of hcm with q | q | q | q | q <;> rw [q] <;> first | exact Nat.le_refl _ | exact Nat.le_add_right _ _
        exact I1.fpOk hle (I1.hok.fresh hle)
      obtain ⟨its2, rv2, p2, _⟩ := I1.list hqy
      rcases q1 with ⟨hqx, q⟩ | ⟨hqx, q⟩
      · obtain ⟨its, rv, p1, _⟩ := I1.list hqx
        refine call_zip_2 p1.isList p2.isList fun h' hz hTI hTO h1 h2 hsz hk => wpAny_pyIter_zip hz ?_
        have I2 : Inv X pins σ H1 { s1 with heap := h' } := I1.kept (t' := s1.toks) hk
        exact ⟨_, [s1.heap.objs.size + 4, s1.heap.objs.size + 2, s1.heap.objs.size + 3, s1.heap.objs.size, s1.heap.objs.size + 1], _, _, H1, rfl, I2, turn_zip (PySem.W.ktu_apart s1.heap.objs.size a b p1.lt p2.lt), ⟨hz, hTI, ⟨_, _, hTO⟩, h1, h2⟩, fresh5, q⟩
      · obtain ⟨its, rv, p1, _⟩ := I1.tuple hqx
        have la : a < s1.heap.objs.size := let ⟨_, q, _⟩ := p1; Heap.lt_size q
        have lb : b < s1.heap.objs.size := p2.lt
        have S := zip_sep2 (N := s1.heap.objs.size) (fp1 := [a]) (fp2 := [b]) (fun c hc => by rw [List.mem_singleton.mp hc]; exact la) (fun c hc => by rw [List.mem_singleton.mp hc]; exact lb)
        refine zip_begins2 (begins_tuple a its.toArray) (begins_list b its2.toArray) p1 p2.isList fun h' hz hTI hTO h1 h2 hsz hk => wpAny_pyIter_zip hz ?_
        have I2 : Inv X pins σ H1 { s1 with heap := h' } := I1.kept (t' := s1.toks) hk
        refine ⟨_, [s1.heap.objs.size + 4, s1.heap.objs.size + 2, s1.heap.objs.size + 3, s1.heap.objs.size, s1.heap.objs.size + 1], _, _, H1, rfl, I2, turn_zipS S (Nat.ne_of_lt la) (show b ≠ s1.heap.objs.size + 1 from Nat.ne_of_lt (Nat.lt_succ_of_lt lb)), ⟨hz, hTI, ⟨_, _, hTO⟩, ⟨_, h1, rfl, rfl⟩, ⟨_, h2, rfl, rfl⟩⟩, fresh5, q⟩
section
variable {K : PySem.W.Frag} {a b : Addr} {xs ys : List V}
theorem walk_zipS (hn : xs.length = ys.length) : Walk (ItzS K a b) xs.length (fun H => SqT K H a xs ∧ SqL K H b ys) (YPair (fun i => xs[i]?) (fun i => ys[i]?)) := by
  refine ⟨fun i _ hi q => ?_, fun _ q => ⟨xs, ys, q.1, q.2, .inl ⟨rfl, by omega⟩⟩, fun i H v H' _ q y => ?_⟩
  · exact ⟨xs, ys, xs[i], ys[i]'(by omega), q.1, q.2, by simp [hi], by simp [show i < ys.length by omega]⟩
  · obtain ⟨T, x, z, h1, h2, h3, h4, h5⟩ := y
    exact ⟨T, x, z, h1, h2, h3, h4 xs q.1, h5 ys q.2⟩
variable {σ : L2.St} {H : Hp} {Q : VK} {g : TG} {tt : TT} {te tl : TE} {vs : List Nat} {ta : TA}
theorem rd_lcZS : tLc (iZipS K ta) g tt te vs σ H Q = ta σ H fun us H1 => ∃ a b xs ys, us = [.ref a, .ref b] ∧ SqL K H1 b ys ∧ ((SqL K H1 a xs ∧ LcJ (Itz K a b) g tt te vs σ H1 Q) ∨ (SqT K H1 a xs ∧ LcJ (ItzS K a b) g tt te vs σ H1 Q)) := rfl
/-- over a list or a tuple beside a list, of one length -/
theorem lcZS (h : Sq2 H a xs) (h2 : H b = some (.lst ys)) (hn : xs.length = ys.length) (P : Nat → List V → Hp → Prop) (h0 : P 0 [] H)
    (hs : ∀ D i x y acc H1 p, i < xs.length → xs[i]? = some x → ys[i]? = some y → H D = none → H1 D = some (.lst acc) → acc.length ≤ i → Ex H (dr D H1) → P i acc (dr D H1) → H1 p = none → g (.ref p) (wipe σ vs) (upd H1 p (.tup [x, y])) fun σ2 H2 => wipe σ2 vs = wipe σ vs ∧ tt σ2 H2 fun b H3 =>
      if b = true then te σ2 H3 fun y H4 => ∃ acc, H4 D = some (.lst acc) ∧ acc.length < sizeLine ∧ CW P H D (i + 1) (upd H4 D (.lst (acc ++ [y]))) else CW P H D (i + 1) H3)
    (hd : ∀ D acc H1, H D = none → H1 D = some (.lst acc) → acc.length ≤ xs.length → Ex H (dr D H1) → P xs.length acc (dr D H1) → Q (.ref D) H1) :
    ∃ a1 b1, (a = a1 ∧ b = b1) ∧ ∃ ws zs, SqL K H b1 zs ∧ ((SqL K H a1 ws ∧ LcJ (Itz K a1 b1) g tt te vs σ H Q) ∨ (SqT K H a1 ws ∧ LcJ (ItzS K a1 b1) g tt te vs σ H Q)) := by
  refine ⟨a, b, ⟨rfl, rfl⟩, xs, ys, sqL h2, ?_⟩
  rcases h with h | h
  · exact .inl ⟨sqL h, lcJ (walk_zip (n := xs.length) (xs := xs) (ys := ys) (by omega)) (fun H' e => ⟨sqL (e _ _ h), sqL (e _ _ h2)⟩) P h0 (fun D i x acc H1 H2 hi hD hacc hl e1 hp y => by
      obtain ⟨T, x', y', rfl, hT, rfl, f1, f2⟩ := y
      exact hs D i x' y' acc H1 T hi f1 f2 hD hacc hl e1 hp hT) hd⟩
  · exact .inr ⟨sqT h, lcJ (walk_zipS (xs := xs) (ys := ys) hn) (fun H' e => ⟨sqT (e _ _ h), sqL (e _ _ h2)⟩) P h0 (fun D i x acc H1 H2 hi hD hacc hl e1 hp y => by
      obtain ⟨T, x', y', rfl, hT, rfl, f1, f2⟩ := y
      exact hs D i x' y' acc H1 T hi f1 f2 hD hacc hl e1 hp hT) hd⟩
end
end SB

set_option maxRecDepth 100000
set_option maxHeartbeats 4000000
/-! o.m(k = v, ..) and C(k = v, ..), no value by position. -/
namespace SB
open PySem PySem.Spec PyProof.Rows L2
section
variable {X : Cx} {CX : CXT} {k : Nat} {f C : Addr} {fd : FuncData} {ps ks : List Str} {sp : Sp} {E : XK} {x m : Str} {p pos apos : Pos} {o : Expr} {kws : List Keyword} {ta : TE} {tk : TA} {g : List Value → List Value → List Value} {gV : List V → List V → List V}
def tMethK0 (C : Addr) (m : Str) (sp : Sp) (gV : List V → List V → List V) (E : XK) (ta : TE) (tk : TA) : TE := fun σ H Q => ta σ H fun x H1 => ∃ a dx fs, x = .ref a ∧ H1 a = some (.ins C dx fs) ∧ fs.lookup m = none ∧ tk σ H1 fun zs H2 => sp (gV [x] zs) H2 Q E
theorem pe_methK0 {pl : Sem Bool} (he : PE X o ta) (c : Cls X.K C) (hm : Meth X.K C m f) (F : FnOk X.prog X.w X.K X.mg X.base CX k f fd ps sp) (hr : Room k X.A) (hb : KBinds X.K fd ps ks g gV) (hx : Passes CX X E)
    (hkw : PK X kws tk) (hall : (backToKw pos (keywordEach kws X.env)).all (·.1.isSome) = true := by rfl) (hks : (backToKw pos (keywordEach kws X.env)).filterMap (·.1) = ks := by rfl)
    (hpl : ((backTo pos (starEach [] X.env)).any (·.1) || (backToKw pos (keywordEach kws X.env)).any (·.1.isNone)) = false := by rfl)
    (ht : eval (.Call (.Attribute o m apos) [] kws pos) X.env = (do
      let ov ← eval o X.env
      standAt apos.atName
      let (f, first) ← holding [ov] (getMethod ov m pl)
      callWith pos f first (backTo pos (starEach [] X.env)) (backToKw pos (keywordEach kws X.env))) := by rfl) :
    PE X (.Call (.Attribute o m apos) [] kws pos) (tMethK0 C m sp gV E ta tk) := by
  refine ⟨fun pins s σ H Q I h => ?_⟩
  refine PySem.W.methodCall_KW (pl := pl) (thn (he.run pins s σ H _ I h) fun u s1 ⟨x, H1, I1, rx, a, dx, fs, ex, ea, l, q⟩ => ?_) ht
  subst ex
  obtain rfl : u = Value.ref a := rx
  refine getmeth_ok I1 ea c hm l ?_
  refine PySem.W.callWith_KW0 (first := [.ref a]) (h₀ := X.base) I.ok.mod.kin hm.kp hall (thn (hkw.run pos pins s1 σ H1 _ I1 q) fun ws s2 ⟨zs, H2, I2, rz, q2⟩ => ⟨I2.kIn, ?_⟩) hpl
  rw [hks]
  exact run_fnk (us := [.ref a]) (vs := [.ref a]) F hr hb hx I2 (.cons rfl .nil) rz q2
def tMakeN0 (C : Addr) (m : Nat) (sp : Sp) (gV : List V → List V → List V) (E : XK) (tk : TA) : TE := fun σ H Q => tk σ H fun zs H2 => zs.length = m ∧
  ∀ x dx, H2 x = none → H2 dx = none → dx ≠ x → sp (gV [.ref x] zs) (upd (upd H2 dx (.own x)) x (.ins C dx [])) (fun v H3 => v = .non ∧ Q (.ref x) H3) E
theorem pe_makeN0 (M : Mk X.K C f) (F : FnOk X.prog X.w X.K X.mg X.base CX k f fd ps sp) (hr : Room (k + 1) X.A) (hg : Gl X x) (hm : X.mg x = some (.ref C)) (hb : KBn X.K fd ps 1 ks g gV) (hx : Passes CX X E)
    (hkw : PK X kws tk) (hall : (backToKw pos (keywordEach kws X.env)).all (·.1.isSome) = true := by rfl) (hks : (backToKw pos (keywordEach kws X.env)).filterMap (·.1) = ks := by rfl)
    (hdb : (x == ("__debug__" : Str)) = false := by decide)
    (hpl : ((backTo pos (starEach [] X.env)).any (·.1) || (backToKw pos (keywordEach kws X.env)).any (·.1.isNone)) = false := by rfl) :
    PE X (.Call (.Name x p) [] kws pos) (tMakeN0 C ks.length sp gV E tk) := by
  refine ⟨fun pins s σ H Q I h => ?_⟩
  refine wpAny_Call_Name_kw (ld_glob I hg hm ?_ hdb)
  refine PySem.W.callWith_KW0 (h₀ := X.base) I.ok.mod.kin M.kp hall (thn (hkw.run pos pins s σ H _ I h) fun ws s2 ⟨zs, H2, I2, rz, l2, q2⟩ => ⟨I2.kIn, ?_⟩) hpl
  rw [hks]
  exact run_makeN (n := 0) M F hr hb hx I2 .nil rz rfl l2 q2
theorem rd_methK0 {C : Addr} {m : Str} {σ : L2.St} {H : Hp} {Q : VK} : tMethK0 C m sp gV E ta tk σ H Q = ta σ H fun x H1 => ∃ a dx fs, x = .ref a ∧ H1 a = some (.ins C dx fs) ∧ fs.lookup m = none ∧ tk σ H1 fun zs H2 => sp (gV [x] zs) H2 Q E := rfl
theorem rd_makeN0 {C : Addr} {m : Nat} {σ : L2.St} {H : Hp} {Q : VK} : tMakeN0 C m sp gV E tk σ H Q = tk σ H fun zs H2 => zs.length = m ∧
  ∀ x dx, H2 x = none → H2 dx = none → dx ≠ x → sp (gV [.ref x] zs) (upd (upd H2 dx (.own x)) x (.ins C dx [])) (fun v H3 => v = .non ∧ Q (.ref x) H3) E := rfl
end
end SB

set_option maxRecDepth 100000
set_option maxHeartbeats 2000000
/-! Ways in a web without rings: from the first arrow on, level by level, backwards; how many. -/
namespace SB
open PySem PySem.Spec PyProof.Rows L2
abbrev Arw := List (Int × Int)
def extF (ar : Arw) (F : Int → List (List Int)) (x : Int) (pi : (Int × Int) × Nat) : List (List Int) := if pi.1.1 = x then (F pi.1.2).map (fun w => (pi.2 : Int) :: w) else []
def waysF (ar : Arw) : Nat → Int → Int → List (List Int)
  | 0, _, _ => []
  | f + 1, x, y => if x = y then [[]] else ar.zipIdx.flatMap (extF ar (fun z => waysF ar f z y) x)
def Pth (ar : Arw) : Int → Int → List Int → Prop
  | x, y, [] => x = y
  | x, y, i :: w => ∃ p, ar[i.toNat]? = some p ∧ 0 ≤ i ∧ p.1 = x ∧ Pth ar p.2 y w
def Rise (r : Int → Int) (ar : Arw) : Prop := ∀ p ∈ ar, r p.1 < r p.2
def hgt (r : Int → Int) (ar : Arw) (v : Int) : Nat := ar.countP fun p => decide (r v ≤ r p.1)
theorem zi_mem {ar : Arw} {pi : (Int × Int) × Nat} (h : pi ∈ ar.zipIdx) : ar[pi.2]? = some pi.1 := List.mk_mem_zipIdx_iff_getElem?.mp h
theorem zi_of {ar : Arw} {p : Int × Int} {i : Nat} (h : ar[i]? = some p) : (p, i) ∈ ar.zipIdx := List.mk_mem_zipIdx_iff_getElem?.mpr h
theorem cnt_add {α : Type} (A B C : α → Bool) : ∀ l : List α, (∀ q ∈ l, (A q = true → C q = true ∧ B q = false) ∧ (B q = true → C q = true)) → l.countP A + l.countP B ≤ l.countP C
  | [], _ => by simp
  | q :: l, h => by
    have ih := cnt_add A B C l fun x hx => h x (List.mem_cons_of_mem _ hx)
    obtain ⟨h1, h2⟩ := h q List.mem_cons_self
    rw [List.countP_cons, List.countP_cons, List.countP_cons]
    cases ha : A q <;> cases hb : B q <;> cases hc : C q <;> simp [ha, hb, hc] at h1 h2 ⊢ <;> omega
section
variable {r : Int → Int} {ar : Arw}
def outs (ar : Arw) (v : Int) : Nat := ar.countP fun p => decide (p.1 = v)
theorem hgt_down (hr : Rise r ar) {p : Int × Int} (hp : p ∈ ar) : hgt r ar p.2 + outs ar p.1 ≤ hgt r ar p.1 := by
  refine cnt_add _ _ _ ar fun q hq => ⟨fun h => ?_, fun h => ?_⟩
  · have h1 := of_decide_eq_true h
    have h2 := hr p hp
    exact ⟨decide_eq_true (by omega), decide_eq_false fun e => by rw [e] at h1; omega⟩
  · rw [of_decide_eq_true h]; exact decide_eq_true (Int.le_refl _)
theorem outs_pos {p : Int × Int} (hp : p ∈ ar) : 1 ≤ outs ar p.1 := by
  unfold outs
  exact List.countP_pos_iff.mpr ⟨p, hp, decide_eq_true rfl⟩
theorem hgt_lt (hr : Rise r ar) {p : Int × Int} (hp : p ∈ ar) : hgt r ar p.2 < hgt r ar p.1 := by
  have h1 := hgt_down hr hp
  have h2 := outs_pos hp
  omega
theorem hgt_le (v : Int) : hgt r ar v ≤ ar.length := List.countP_le_length
theorem pth_rise (hr : Rise r ar) : ∀ {w : List Int} {x y : Int}, Pth ar x y w → r x + w.length ≤ r y
  | [], x, y, h => by
    have e : x = y := h
    subst e; simp
  | i :: w, x, y, ⟨p, hp, _, e, h⟩ => by
    have h1 := pth_rise hr h
    have h2 := hr p (List.mem_of_getElem? hp)
    subst e
    simp only [List.length_cons]
    omega
theorem pth_same (hr : Rise r ar) {w : List Int} {x : Int} (h : Pth ar x x w) : w = [] := by
  have := pth_rise hr h
  cases w with
  | nil => rfl
  | cons i w => simp only [List.length_cons] at this; omega
theorem pth_mid (hr : Rise r ar) : ∀ {w : List Int} {x y : Int}, Pth ar x y w → hgt r ar y + w.length ≤ hgt r ar x
  | [], x, y, h => by
    have e : x = y := h
    subst e; simp
  | i :: w, x, y, ⟨p, hp, _, e, h⟩ => by
    have h1 := pth_mid hr h
    have h2 := hgt_lt hr (List.mem_of_getElem? hp)
    subst e
    simp only [List.length_cons]
    omega
theorem mem_waysF (hr : Rise r ar) {y : Int} : ∀ {f : Nat} {x : Int} {w : List Int}, hgt r ar x < f → (w ∈ waysF ar f x y ↔ Pth ar x y w)
  | 0, x, w, h => by omega
  | f + 1, x, w, h => by
    unfold waysF
    by_cases e : x = y
    · subst e
      rw [if_pos rfl]
      constructor
      · intro hw
        rcases List.mem_cons.mp hw with q | q
        · subst q; rfl
        · cases q
      · intro hw
        rw [pth_same hr hw]
        exact List.mem_cons_self
    · rw [if_neg e]
      constructor
      · intro hw
        obtain ⟨pi, h1, h2⟩ := List.mem_flatMap.mp hw
        unfold extF at h2
        by_cases c : pi.1.1 = x
        · rw [if_pos c] at h2
          obtain ⟨w', h3, rfl⟩ := List.mem_map.mp h2
          have h4 := zi_mem h1
          have h5 := hgt_lt hr (List.mem_of_getElem? h4)
          refine ⟨pi.1, by simpa using h4, by omega, c, (mem_waysF hr (by rw [c] at h5; omega)).mp h3⟩
        · rw [if_neg c] at h2; cases h2
      · intro hw
        match w, hw with
        | [], hw => exact absurd hw e
        | i :: w', ⟨p, h1, h2, h3, h4⟩ =>
          refine List.mem_flatMap.mpr ⟨(p, i.toNat), zi_of h1, ?_⟩
          unfold extF
          have h5 := hgt_lt hr (List.mem_of_getElem? h1)
          rw [if_pos h3]
          rw [h3] at h5
          refine List.mem_map.mpr ⟨w', (mem_waysF hr (show hgt r ar p.2 < f by omega)).mpr h4, ?_⟩
          show ((i.toNat : Nat) : Int) :: w' = i :: w'
          rw [Int.toNat_of_nonneg h2]
theorem zi_pw (ar : Arw) : ar.zipIdx.Pairwise fun a b => a.2 ≠ b.2 := by
  have h : (ar.zipIdx.map Prod.snd).Pairwise (· ≠ ·) := by
    rw [List.zipIdx_map_snd]
    exact List.nodup_range'
  exact List.pairwise_map.mp h
theorem nodup_waysF {y : Int} : ∀ {f : Nat} {x : Int}, (waysF ar f x y).Nodup
  | 0, x => List.nodup_nil
  | f + 1, x => by
    unfold waysF
    by_cases e : x = y
    · rw [if_pos e]; simp
    · rw [if_neg e]
      refine List.pairwise_flatMap.mpr ⟨fun pi _ => ?_, (zi_pw ar).imp fun {a b} hab u hu v hv => ?_⟩
      · unfold extF
        split
        · exact List.pairwise_map.mpr ((nodup_waysF (f := f)).imp fun {a b} h e => h (List.cons.inj e).2)
        · exact List.Pairwise.nil
      · unfold extF at hu hv
        split at hu
        · split at hv
          · obtain ⟨_, _, rfl⟩ := List.mem_map.mp hu
            obtain ⟨_, _, rfl⟩ := List.mem_map.mp hv
            intro e
            have := (List.cons.inj e).1
            exact hab (by omega)
          · cases hv
        · cases hu
theorem pth_snoc : ∀ {w : List Int} {x z i : Int}, Pth ar x z (w ++ [i]) ↔ ∃ p, ar[i.toNat]? = some p ∧ 0 ≤ i ∧ p.2 = z ∧ Pth ar x p.1 w
  | [], x, z, i => by
    constructor
    · rintro ⟨p, h1, h2, h3, h4⟩
      exact ⟨p, h1, h2, h4, h3.symm⟩
    · rintro ⟨p, h1, h2, h3, h4⟩
      exact ⟨p, h1, h2, Eq.symm h4, h3⟩
  | j :: w, x, z, i => by
    constructor
    · rintro ⟨q, h1, h2, h3, h4⟩
      obtain ⟨p, g1, g2, g3, g4⟩ := pth_snoc.mp h4
      exact ⟨p, g1, g2, g3, q, h1, h2, h3, g4⟩
    · rintro ⟨p, g1, g2, g3, q, h1, h2, h3, g4⟩
      exact ⟨q, h1, h2, h3, pth_snoc.mpr ⟨p, g1, g2, g3, g4⟩⟩
/-! ### level by level -/
def stepG (ar : Arw) (g : List Int × Int) (pi : (Int × Int) × Nat) : List (List Int × Int) := if pi.1.1 = g.2 then [(g.1 ++ [(pi.2 : Int)], pi.1.2)] else []
def nextG (ar : Arw) (g : List Int × Int) : List (List Int × Int) := ar.zipIdx.flatMap (stepG ar g)
def goN (ar : Arw) (x : Int) : Nat → List (List Int × Int)
  | 0 => [([], x)]
  | k + 1 => (goN ar x k).flatMap (nextG ar)
def hitG (y : Int) (g : List Int × Int) : List (List Int) := if g.2 = y then [g.1] else []
def fndN (ar : Arw) (x y : Int) : Nat → List (List Int)
  | 0 => []
  | k + 1 => fndN ar x y k ++ (goN ar x k).flatMap (hitG y)
theorem mem_goN {x : Int} : ∀ {k : Nat} {w : List Int} {z : Int}, (w, z) ∈ goN ar x k ↔ Pth ar x z w ∧ w.length = k
  | 0, w, z => by
    constructor
    · intro h
      rcases List.mem_cons.mp h with e | e
      · cases e; exact ⟨rfl, rfl⟩
      · cases e
    · rintro ⟨h1, h2⟩
      match w, h1, h2 with
      | [], h1, _ =>
        have e : x = z := h1
        subst e; exact List.mem_cons_self
  | k + 1, w, z => by
    constructor
    · intro h
      obtain ⟨g, h1, h2⟩ := List.mem_flatMap.mp h
      obtain ⟨pi, h3, h4⟩ := List.mem_flatMap.mp h2
      unfold stepG at h4
      split at h4
      · rename_i c
        have e := List.mem_singleton.mp h4
        obtain ⟨p1, p2⟩ := mem_goN.mp (show (g.1, g.2) ∈ goN ar x k from h1)
        cases e
        refine ⟨pth_snoc.mpr ⟨pi.1, by simpa using zi_mem h3, by omega, rfl, by rw [c]; exact p1⟩, by simp [p2]⟩
      · cases h4
    · rintro ⟨h1, h2⟩
      have hne : w ≠ [] := fun e => by rw [e] at h2; cases h2
      obtain ⟨w', i, rfl⟩ : ∃ w' i, w = w' ++ [i] := ⟨w.dropLast, w.getLast hne, (List.dropLast_concat_getLast hne).symm⟩
      obtain ⟨p, g1, g2, g3, g4⟩ := pth_snoc.mp h1
      refine List.mem_flatMap.mpr ⟨(w', p.1), mem_goN.mpr ⟨g4, by simpa using h2⟩, List.mem_flatMap.mpr ⟨(p, i.toNat), zi_of g1, ?_⟩⟩
      unfold stepG
      rw [if_pos rfl, ← g3]
      refine List.mem_singleton.mpr ?_
      show (w' ++ [i], p.2) = (w' ++ [((i.toNat : Nat) : Int)], p.2)
      rw [Int.toNat_of_nonneg g2]
theorem goN_pw {x : Int} : ∀ {k : Nat}, (goN ar x k).Pairwise fun a b => a.1 ≠ b.1
  | 0 => by simp [goN]
  | k + 1 => by
    refine List.pairwise_flatMap.mpr ⟨fun g _ => ?_, (goN_pw (k := k)).imp fun {a b} hab u hu v hv => ?_⟩
    · refine List.pairwise_flatMap.mpr ⟨fun pi _ => ?_, (zi_pw ar).imp fun {a b} hab u hu v hv => ?_⟩
      · unfold stepG; split <;> simp
      · unfold stepG at hu hv
        split at hu
        · split at hv
          · rw [List.mem_singleton.mp hu, List.mem_singleton.mp hv]
            intro e
            have e2 := List.append_cancel_left (show g.1 ++ [(a.2 : Int)] = g.1 ++ [(b.2 : Int)] from e)
            have := (List.cons.inj e2).1
            exact hab (by omega)
          · cases hv
        · cases hu
    · obtain ⟨p, _, hp⟩ := List.mem_flatMap.mp hu
      obtain ⟨q, _, hq⟩ := List.mem_flatMap.mp hv
      unfold stepG at hp hq
      split at hp
      · split at hq
        · rw [List.mem_singleton.mp hp, List.mem_singleton.mp hq]
          intro e
          exact hab (List.append_inj' (show a.1 ++ [(p.2 : Int)] = b.1 ++ [(q.2 : Int)] from e) rfl).1
        · cases hq
      · cases hp
theorem mem_fndN {x y : Int} : ∀ {k : Nat} {w : List Int}, w ∈ fndN ar x y k ↔ Pth ar x y w ∧ w.length < k
  | 0, w => by simp [fndN]
  | k + 1, w => by
    unfold fndN
    rw [List.mem_append, mem_fndN]
    constructor
    · rintro (⟨h1, h2⟩ | h)
      · exact ⟨h1, by omega⟩
      · obtain ⟨g, h1, h2⟩ := List.mem_flatMap.mp h
        unfold hitG at h2
        split at h2
        · rename_i c
          rw [List.mem_singleton.mp h2]
          obtain ⟨p1, p2⟩ := mem_goN.mp (show (g.1, g.2) ∈ goN ar x k from h1)
          exact ⟨by rw [← c]; exact p1, by omega⟩
        · cases h2
    · rintro ⟨h1, h2⟩
      by_cases c : w.length < k
      · exact .inl ⟨h1, c⟩
      · refine .inr (List.mem_flatMap.mpr ⟨(w, y), mem_goN.mpr ⟨h1, by omega⟩, ?_⟩)
        unfold hitG
        rw [if_pos rfl]; exact List.mem_cons_self
theorem nodup_fndN {x y : Int} : ∀ {k : Nat}, (fndN ar x y k).Nodup
  | 0 => List.nodup_nil
  | k + 1 => by
    unfold fndN
    refine List.nodup_append.mpr ⟨nodup_fndN, ?_, fun a ha b hb e => ?_⟩
    · refine List.pairwise_flatMap.mpr ⟨fun g _ => ?_, (goN_pw (k := k)).imp fun {a b} hab u hu v hv => ?_⟩
      · unfold hitG; split <;> simp
      · unfold hitG at hu hv
        split at hu
        · split at hv
          · rw [List.mem_singleton.mp hu, List.mem_singleton.mp hv]; exact hab
          · cases hv
        · cases hu
    · subst e
      have h1 := (mem_fndN.mp ha).2
      obtain ⟨g, h2, h3⟩ := List.mem_flatMap.mp hb
      unfold hitG at h3
      split at h3
      · have h4 := (mem_goN.mp (show (g.1, g.2) ∈ goN ar x k from h2)).2
        rw [List.mem_singleton.mp h3] at h1
        omega
      · cases h3
theorem goN_end (hr : Rise r ar) {x : Int} {k : Nat} (h : hgt r ar x < k) : goN ar x k = [] := by
  refine List.eq_nil_iff_forall_not_mem.mpr fun g hg => ?_
  obtain ⟨p1, p2⟩ := mem_goN.mp (show (g.1, g.2) ∈ goN ar x k from hg)
  have := pth_mid hr p1
  omega
theorem perm_fnd (hr : Rise r ar) {x y : Int} {k f : Nat} (hk : goN ar x k = []) (hf : hgt r ar x < f) : (fndN ar x y k).Perm (waysF ar f x y) := by
  refine (List.perm_ext_iff_of_nodup nodup_fndN nodup_waysF).mpr fun w => ?_
  rw [mem_fndN, mem_waysF hr hf]
  refine ⟨fun h => h.1, fun h => ⟨h, ?_⟩⟩
  refine Nat.lt_of_not_le fun hle => ?_
  -- the first k arrows of w are a way of length k
  have key : ∀ (u : List Int) (x' : Int) (n : Nat), Pth ar x' y u → n ≤ u.length → ∃ z, Pth ar x' z (u.take n) := by
    intro u
    induction u with
    | nil => intro x' n _ _; exact ⟨x', by simp [Pth]⟩
    | cons i u ih =>
      intro x' n hp hn
      cases n with
      | zero => exact ⟨x', by simp [Pth]⟩
      | succ n =>
        obtain ⟨p, g1, g2, g3, g4⟩ := hp
        obtain ⟨z, hz⟩ := ih p.2 n g4 (by simpa using hn)
        exact ⟨z, p, g1, g2, g3, hz⟩
  obtain ⟨z, hz⟩ := key w x k h hle
  have : (w.take k, z) ∈ goN ar x k := mem_goN.mpr ⟨hz, by rw [List.length_take]; omega⟩
  rw [hk] at this
  cases this
theorem ways_more (hr : Rise r ar) {x y : Int} {f f' : Nat} (h : hgt r ar x < f) (h' : hgt r ar x < f') : (waysF ar f x y).Perm (waysF ar f' x y) :=
  (List.perm_ext_iff_of_nodup nodup_waysF nodup_waysF).mpr fun w => by rw [mem_waysF hr h, mem_waysF hr h']
/-! ### backwards -/
abbrev swp (ar : Arw) : Arw := ar.map fun p => (p.2, p.1)
theorem pth_rev : ∀ {w : List Int} {x y : Int}, Pth (swp ar) y x w.reverse ↔ Pth ar x y w
  | [], x, y => ⟨fun h => Eq.symm h, fun h => Eq.symm h⟩
  | i :: w, x, y => by
    rw [List.reverse_cons, pth_snoc]
    constructor
    · rintro ⟨p, h1, h2, h3, h4⟩
      rw [List.getElem?_map] at h1
      cases e : ar[i.toNat]? with
      | none => rw [e] at h1; cases h1
      | some q =>
        rw [e] at h1
        have e2 : (q.2, q.1) = p := Option.some.inj h1
        subst e2
        exact ⟨q, e, h2, h3, pth_rev.mp h4⟩
    · rintro ⟨q, h1, h2, h3, h4⟩
      exact ⟨(q.2, q.1), by rw [List.getElem?_map, h1]; rfl, h2, h3, pth_rev.mpr h4⟩
theorem rise_swp (hr : Rise r ar) : Rise (fun z => - r z) (swp ar) := fun p hp => by
  obtain ⟨q, hq, rfl⟩ := List.mem_map.mp hp
  have := hr q hq
  show - r q.2 < - r q.1
  omega
theorem perm_rev (hr : Rise r ar) {x y : Int} {f f' : Nat} (h : hgt r ar x < f) (h' : hgt (fun z => - r z) (swp ar) y < f') : (waysF (swp ar) f' y x).Perm ((waysF ar f x y).map List.reverse) := by
  refine (List.perm_ext_iff_of_nodup nodup_waysF ?_).mpr fun w => ?_
  · exact List.pairwise_map.mpr ((nodup_waysF (ar := ar) (f := f) (x := x) (y := y)).imp fun {a b} h e => h (List.reverse_inj.mp e))
  · rw [mem_waysF (rise_swp hr) h', List.mem_map]
    constructor
    · intro hp
      refine ⟨w.reverse, (mem_waysF hr h).mpr (pth_rev.mp (by rw [List.reverse_reverse]; exact hp)), List.reverse_reverse _⟩
    · rintro ⟨u, hu, rfl⟩
      exact pth_rev.mpr ((mem_waysF hr h).mp hu)
end
end SB

set_option maxRecDepth 100000
set_option maxHeartbeats 2000000
/-! How many ways; forms of the rows that count them. -/
namespace SB
open PySem PySem.Spec PyProof.Rows L2
section
variable {r : Int → Int} {ar : Arw}
theorem sum_le_map {α : Type} (f g : α → Nat) : ∀ l : List α, (∀ a ∈ l, f a ≤ g a) → (l.map f).sum ≤ (l.map g).sum
  | [], _ => Nat.le_refl _
  | a :: l, h => by
    have := sum_le_map f g l fun x hx => h x (List.mem_cons_of_mem _ hx)
    have := h a List.mem_cons_self
    simp only [List.map_cons, List.sum_cons]; omega
theorem sum_if_le {α : Type} (B : α → Bool) (f : α → Nat) (k : Nat) : ∀ l : List α, (∀ a ∈ l, B a = true → f a ≤ k) → (l.map fun a => if B a = true then f a else 0).sum ≤ l.countP B * k
  | [], _ => by simp
  | a :: l, h => by
    have ih := sum_if_le B f k l fun x hx => h x (List.mem_cons_of_mem _ hx)
    have h1 := h a List.mem_cons_self
    rw [List.map_cons, List.sum_cons, List.countP_cons]
    cases hb : B a with
    | true =>
      have := h1 hb
      rw [if_pos rfl, if_pos rfl, Nat.add_mul, Nat.one_mul]; omega
    | false => rw [if_neg (by simp), if_neg (by simp), Nat.add_zero]; omega
theorem step_sum (hr : Rise r ar) (v : Int) : (ar.map fun p => if decide (p.1 = v) = true then 2 ^ hgt r ar p.2 else 0).sum ≤ 2 ^ hgt r ar v := by
  by_cases c : outs ar v = 0
  · have := sum_if_le (fun p : Int × Int => decide (p.1 = v)) (fun p => 2 ^ hgt r ar p.2) 0 ar fun p hp hb => by
      have := outs_pos hp
      rw [of_decide_eq_true hb] at this
      omega
    refine Nat.le_trans this ?_
    simp
  · have h1 : ∀ p ∈ ar, decide (p.1 = v) = true → 2 ^ hgt r ar p.2 ≤ 2 ^ (hgt r ar v - outs ar v) := fun p hp hb => by
      have h := hgt_down hr hp
      rw [of_decide_eq_true hb] at h
      exact Nat.pow_le_pow_right (by decide) (by omega)
    refine Nat.le_trans (sum_if_le (fun p : Int × Int => decide (p.1 = v)) (fun p => 2 ^ hgt r ar p.2) _ ar h1) ?_
    show outs ar v * 2 ^ (hgt r ar v - outs ar v) ≤ _
    have hle : outs ar v ≤ hgt r ar v := by
      obtain ⟨p, hp, hb⟩ := List.countP_pos_iff.mp (show 0 < ar.countP fun p => decide (p.1 = v) from Nat.pos_of_ne_zero c)
      have h := hgt_down hr hp
      rw [of_decide_eq_true hb] at h
      omega
    have h2 : outs ar v ≤ 2 ^ outs ar v := Nat.le_of_lt Nat.lt_two_pow_self
    calc outs ar v * 2 ^ (hgt r ar v - outs ar v) ≤ 2 ^ outs ar v * 2 ^ (hgt r ar v - outs ar v) := Nat.mul_le_mul_right _ h2
      _ = 2 ^ hgt r ar v := by rw [← Nat.pow_add]; congr 1; omega
theorem zi_sum {β : Type} (f : Int × Int → β) : ar.zipIdx.map (fun pi => f pi.1) = ar.map f := by
  have h : (ar.zipIdx.map Prod.fst).map f = ar.map f := by rw [List.zipIdx_map_fst]
  rw [List.map_map] at h
  exact h
theorem ways_len (hr : Rise r ar) {y : Int} : ∀ {f : Nat} {x : Int}, (waysF ar f x y).length ≤ 2 ^ hgt r ar x
  | 0, x => by simp [waysF]
  | f + 1, x => by
    unfold waysF
    split
    · exact Nat.one_le_two_pow
    · rw [List.length_flatMap]
      refine Nat.le_trans ?_ (step_sum hr x)
      rw [← zi_sum (ar := ar)]
      refine sum_le_map _ _ _ fun pi _ => ?_
      unfold extF
      by_cases c : pi.1.1 = x
      · rw [if_pos c, if_pos (decide_eq_true c), List.length_map]
        exact ways_len hr
      · rw [if_neg c, if_neg (by simpa using c)]; simp
def wtG (r : Int → Int) (ar : Arw) (l : List (List Int × Int)) : Nat := (l.map fun g => 2 ^ hgt r ar g.2).sum
theorem len_wt (l : List (List Int × Int)) : l.length ≤ wtG r ar l := by
  induction l with
  | nil => simp [wtG]
  | cons g l ih =>
    have : 1 ≤ 2 ^ hgt r ar g.2 := Nat.one_le_two_pow
    simp only [wtG, List.map_cons, List.sum_cons, List.length_cons] at ih ⊢
    omega
theorem wt_next (hr : Rise r ar) (g : List Int × Int) : wtG r ar (nextG ar g) ≤ 2 ^ hgt r ar g.2 := by
  refine Nat.le_trans ?_ (step_sum hr g.2)
  rw [← zi_sum (ar := ar)]
  unfold nextG wtG
  generalize ar.zipIdx = l
  induction l with
  | nil => simp
  | cons pi l ih =>
    rw [List.flatMap_cons, List.map_append, List.sum_append, List.map_cons, List.sum_cons]
    refine Nat.add_le_add ?_ ih
    unfold stepG
    by_cases c : pi.1.1 = g.2
    · rw [if_pos c, if_pos (decide_eq_true c)]; simp
    · rw [if_neg c, if_neg (by simpa using c)]; simp
theorem wt_flat (hr : Rise r ar) : ∀ l, wtG r ar (l.flatMap (nextG ar)) ≤ wtG r ar l
  | [] => by simp [wtG]
  | g :: l => by
    have h1 := wt_next hr g
    have h2 := wt_flat hr l
    simp only [wtG, List.flatMap_cons, List.map_append, List.sum_append, List.map_cons, List.sum_cons] at h1 h2 ⊢
    omega
theorem goN_len (hr : Rise r ar) {x : Int} {k : Nat} : (goN ar x k).length ≤ 2 ^ hgt r ar x := by
  refine Nat.le_trans (len_wt (r := r) (ar := ar) _) ?_
  induction k with
  | zero => simp [goN, wtG]
  | succ k ih => exact Nat.le_trans (wt_flat hr _) ih
theorem pow_small (h : ar.length ≤ 12) {v : Int} : 2 ^ hgt r ar v ≤ 4096 := Nat.le_trans (Nat.pow_le_pow_right (by decide) (Nat.le_trans (hgt_le v) h)) (by decide)
theorem hit_len (y : Int) : ∀ l : List (List Int × Int), (l.flatMap (hitG y)).length ≤ l.length
  | [] => by simp
  | g :: l => by
    have := hit_len y l
    rw [List.flatMap_cons, List.length_append, List.length_cons]
    have h : (hitG y g).length ≤ 1 := by unfold hitG; split <;> simp
    omega
theorem fndN_len (hr : Rise r ar) (h : ar.length ≤ 12) {x y : Int} : ∀ {k : Nat}, (fndN ar x y k).length ≤ k * 4096
  | 0 => by simp [fndN]
  | k + 1 => by
    have h1 := fndN_len hr h (x := x) (y := y) (k := k)
    have h2 := hit_len y (goN ar x k)
    have h3 := goN_len hr (x := x) (k := k)
    have h4 := pow_small (r := r) h (v := x)
    unfold fndN
    rw [List.length_append, Nat.add_mul]
    omega
/-! ### how many lead to a place -/
def cntW (ar : Arw) (f : Nat) (x v : Int) : Int := ((waysF ar f x v).length : Int)
theorem zi_len (F : Int × Int → List (List Int)) (l : Arw) : (l.zipIdx.flatMap fun pi => (F pi.1).map fun w => (pi.2 : Int) :: w).length = (l.map fun p => (F p).length).sum := by
  rw [List.length_flatMap]
  have : (l.zipIdx.map fun pi => ((F pi.1).map fun w => (pi.2 : Int) :: w).length) = l.zipIdx.map fun pi => (fun p => (F p).length) pi.1 := by
    refine List.map_congr_left fun pi _ => ?_
    rw [List.length_map]
  rw [this, zi_sum (fun p => (F p).length)]
theorem cast_sum (l : List Nat) : ((l.sum : Nat) : Int) = (l.map fun (n : Nat) => (n : Int)).sum := by
  induction l with
  | nil => rfl
  | cons a l ih => rw [List.sum_cons, List.map_cons, List.sum_cons, ← ih]; omega
theorem sum_zero {α : Type} (g : α → Int) : ∀ l : List α, (∀ a ∈ l, g a = 0) → (l.map g).sum = 0
  | [], _ => rfl
  | a :: l, h => by
    rw [List.map_cons, List.sum_cons, h a List.mem_cons_self, sum_zero g l fun x hx => h x (List.mem_cons_of_mem _ hx)]; rfl
theorem cnt_step (hr : Rise r ar) {f : Nat} (hf : ar.length < f) (x v : Int) : cntW ar f x v = (if v = x then 1 else 0) + (ar.map fun p => if p.2 = v then cntW ar f x p.1 else 0).sum := by
  have hx : hgt r ar x < f := Nat.lt_of_le_of_lt (hgt_le x) hf
  have hs : ∀ z, hgt (fun z => - r z) (swp ar) z < f := fun z => Nat.lt_of_le_of_lt (hgt_le z) (by simpa using hf)
  by_cases c : v = x
  · subst c
    rw [if_pos rfl]
    have h0 : (ar.map fun p => if p.2 = v then cntW ar f v p.1 else 0).sum = 0 := by
      refine sum_zero _ ar fun p hp => ?_
      by_cases e : p.2 = v
      · rw [if_pos e]
        have hn : waysF ar f v p.1 = [] := by
          refine List.eq_nil_iff_forall_not_mem.mpr fun w hw => ?_
          have h1 := pth_rise hr ((mem_waysF hr hx).mp hw)
          have h2 := hr p hp
          rw [e] at h2
          omega
        unfold cntW
        rw [hn]; rfl
      · rw [if_neg e]
    rw [h0]
    unfold cntW
    obtain ⟨f0, rfl⟩ : ∃ f0, f = f0 + 1 := ⟨f - 1, by omega⟩
    unfold waysF
    rw [if_pos rfl]; rfl
  · rw [if_neg c, Int.zero_add]
    have h1 := (perm_rev hr hx (hs v)).length_eq
    rw [List.length_map] at h1
    obtain ⟨f0, rfl⟩ : ∃ f0, f = f0 + 1 := ⟨f - 1, by omega⟩
    show ((waysF ar (f0 + 1) x v).length : Int) = _
    rw [← h1]
    have h2 : waysF (swp ar) (f0 + 1) v x = (swp ar).zipIdx.flatMap fun pi => (if pi.1.1 = v then waysF (swp ar) f0 pi.1.2 x else []).map fun w => (pi.2 : Int) :: w := by
      conv => lhs; unfold waysF
      rw [if_neg c]
      congr 1
      funext pi
      unfold extF
      split <;> rfl
    rw [h2, zi_len (fun p => if p.1 = v then waysF (swp ar) f0 p.2 x else []), cast_sum, List.map_map, List.map_map]
    congr 1
    refine List.map_congr_left fun p hp => ?_
    show ((if p.2 = v then waysF (swp ar) f0 p.1 x else []).length : Int) = if p.2 = v then cntW ar (f0 + 1) x p.1 else 0
    by_cases e : p.2 = v
    · rw [if_pos e, if_pos e]
      have hlt : hgt (fun z => - r z) (swp ar) p.1 < hgt (fun z => - r z) (swp ar) p.2 := hgt_lt (rise_swp hr) (List.mem_map.mpr ⟨p, hp, rfl⟩ : (p.2, p.1) ∈ swp ar)
      have hb := hgt_le (r := fun z => - r z) (ar := swp ar) p.2
      rw [List.length_map] at hb
      have h3 := (perm_rev hr hx (show hgt (fun z => - r z) (swp ar) p.1 < f0 by omega)).length_eq
      rw [List.length_map] at h3
      show ((waysF (swp ar) f0 p.1 x).length : Int) = ((waysF ar (f0 + 1) x p.1).length : Int)
      rw [h3]
    · rw [if_neg e, if_neg e]; rfl
end
/-! ### forms -/
def dot (ns ms : List Int) : Int := ((ns.zip ms).map fun q => q.1 * q.2).sum
def arsum (ar : Arw) (ns ms : List Int) : Int := (ar.map fun p => ns.getD p.1.toNat 0 * ms.getD p.2.toNat 0).sum
def formM (ar : Arw) (ns ms : List Int) : Int := dot ns ms - arsum ar ns ms
def addM (ns ts : List Int) : List Int := (ns.zip ts).map fun q => q.1 + q.2
theorem dot_comm : ∀ ns ms : List Int, dot ns ms = dot ms ns
  | [], [] => rfl
  | [], _ :: _ => rfl
  | _ :: _, [] => rfl
  | a :: r, b :: s => by
    have := dot_comm r s
    simp only [dot, List.zip_cons_cons, List.map_cons, List.sum_cons] at this ⊢
    rw [this, Int.mul_comm]
theorem arsum_comm (ns ms : List Int) : ∀ ar : Arw, arsum (swp ar) ms ns = arsum ar ns ms
  | [] => rfl
  | p :: s => by
    have := arsum_comm ns ms s
    simp only [arsum, swp, List.map_cons, List.sum_cons, List.map_map] at this ⊢
    rw [this, Int.mul_comm]
theorem form_comm (ar : Arw) (ns ms : List Int) : formM (swp ar) ms ns = formM ar ns ms := by
  unfold formM; rw [dot_comm, arsum_comm]
theorem dot_addL : ∀ (ns ts ms : List Int), ns.length = ts.length → dot (addM ns ts) ms = dot ns ms + dot ts ms
  | [], [], _, _ => rfl
  | _ :: _, _ :: _, [], _ => rfl
  | a :: r, b :: s, m :: ms, h => by
    have := dot_addL r s ms (by simpa using h)
    simp only [dot, addM, List.zip_cons_cons, List.map_cons, List.sum_cons] at this ⊢
    rw [this, Int.add_mul]; omega
theorem addM_get : ∀ (ns ts : List Int) (i : Nat), ns.length = ts.length → (addM ns ts).getD i 0 = ns.getD i 0 + ts.getD i 0
  | [], [], _, _ => by simp [addM]
  | _ :: _, _ :: _, 0, _ => by simp [addM]
  | a :: r, b :: s, i + 1, h => by
    have := addM_get r s i (by simpa using h)
    simpa [addM] using this
theorem arsum_addL (ms : List Int) {ns ts : List Int} (h : ns.length = ts.length) : ∀ ar : Arw, arsum ar (addM ns ts) ms = arsum ar ns ms + arsum ar ts ms
  | [] => rfl
  | p :: s => by
    have := arsum_addL ms h s
    simp only [arsum, List.map_cons, List.sum_cons] at this ⊢
    rw [this, addM_get _ _ _ h, Int.add_mul]; omega
theorem form_addL (ar : Arw) (ms : List Int) {ns ts : List Int} (h : ns.length = ts.length) : formM ar (addM ns ts) ms = formM ar ns ms + formM ar ts ms := by
  unfold formM; rw [dot_addL _ _ _ h, arsum_addL ms h]; omega
theorem swp_swp (ar : Arw) : swp (swp ar) = ar := by simp [swp, List.map_map, Function.comp_def]
theorem form_addR (ar : Arw) (ms : List Int) {ns ts : List Int} (h : ns.length = ts.length) : formM ar ms (addM ns ts) = formM ar ms ns + formM ar ms ts := by
  have := form_addL (swp ar) ms h
  rw [form_comm, form_comm, form_comm] at this
  exact this
theorem addM_len {ns ts : List Int} (h : ns.length = ts.length) : (addM ns ts).length = ns.length := by simp [addM]; omega
/-! rows given by a number for each place -/
def vecM (n : Nat) (c : Int → Int) : List Int := (List.range n).map fun (i : Nat) => c (i : Int)
theorem vecM_len (n : Nat) (c : Int → Int) : (vecM n c).length = n := by simp [vecM]
theorem vecM_get {n : Nat} {c : Int → Int} {i : Int} (h0 : 0 ≤ i) (h : i < n) : (vecM n c).getD i.toNat 0 = c i := by
  unfold vecM
  rw [List.getD_eq_getElem?_getD, List.getElem?_map, List.getElem?_range (by omega)]
  show c ((i.toNat : Nat) : Int) = c i
  rw [Int.toNat_of_nonneg h0]
def dotF (c : Int → Int) : List Int → Nat → Int
  | [], _ => 0
  | z :: s, i => c (i : Int) * z + dotF c s (i + 1)
theorem dot_range (c : Int → Int) : ∀ (row : List Int) (i : Nat), dot ((List.range' i row.length).map fun (j : Nat) => c (j : Int)) row = dotF c row i
  | [], i => rfl
  | z :: s, i => by
    have := dot_range c s (i + 1)
    rw [List.length_cons, List.range'_succ]
    simp only [dot, dotF, List.map_cons, List.zip_cons_cons, List.sum_cons] at this ⊢
    rw [this]
theorem dot_vec (c : Int → Int) (row : List Int) : dot (vecM row.length c) row = dotF c row 0 := by
  unfold vecM
  rw [List.range_eq_range']
  exact dot_range c row 0
theorem dotF_add (a b : Int → Int) : ∀ (row : List Int) (i : Nat), dotF (fun v => a v + b v) row i = dotF a row i + dotF b row i
  | [], _ => rfl
  | z :: s, i => by
    simp only [dotF]
    rw [dotF_add a b s (i + 1), Int.add_mul]; omega
theorem dotF_zero (c : Int → Int) : ∀ (row : List Int) (i : Nat), (∀ j : Nat, i ≤ j → c (j : Int) = 0) → dotF c row i = 0
  | [], _, _ => rfl
  | z :: s, i, h => by
    simp only [dotF]
    rw [h i (Nat.le_refl _), dotF_zero c s (i + 1) fun j hj => h j (by omega)]; omega
theorem dotF_unit (k : Int) : ∀ (row : List Int) (i m : Nat), m < row.length → dotF (fun v => if v = ((i + m : Nat) : Int) then k else 0) row i = k * row.getD m 0
  | [], i, m, h => by simp at h
  | z :: s, i, 0, _ => by
    simp only [dotF]
    rw [if_pos (by simp), dotF_zero _ s (i + 1) fun j hj => by rw [if_neg (by omega)]]
    simp
  | z :: s, i, m + 1, h => by
    simp only [dotF]
    have := dotF_unit k s (i + 1) m (by simpa using h)
    rw [if_neg (by omega), show i + (m + 1) = i + 1 + m by omega, this]
    simp
theorem dot_unit (k : Int) {row : List Int} {x : Int} (h0 : 0 ≤ x) (h : x < row.length) : dot (vecM row.length fun v => if v = x then k else 0) row = k * row.getD x.toNat 0 := by
  rw [dot_vec]
  have := dotF_unit k row 0 x.toNat (by omega)
  rw [Nat.zero_add, Int.toNat_of_nonneg h0] at this
  exact this
theorem form_unit {ar : Arw} {row : List Int} {x : Int} (h0 : 0 ≤ x) (h : x < row.length) (ok : ∀ p ∈ ar, 0 ≤ p.1 ∧ p.1 < (row.length : Int)) : formM ar (vecM row.length fun v => if v = x then 1 else 0) row = row.getD x.toNat 0 - ((ar.filter fun p => decide (p.1 = x)).map fun p => row.getD p.2.toNat 0).sum := by
  unfold formM
  rw [dot_unit 1 h0 h, Int.one_mul]
  congr 1
  induction ar with
  | nil => rfl
  | cons p s ih =>
    have ih := ih fun q hq => ok q (List.mem_cons_of_mem _ hq)
    obtain ⟨o1, o2⟩ := ok p List.mem_cons_self
    simp only [arsum, List.map_cons, List.sum_cons] at ih ⊢
    rw [ih, vecM_get o1 o2]
    by_cases c : p.1 = x
    · rw [if_pos c, List.filter_cons_of_pos (by simpa using c), List.map_cons, List.sum_cons, Int.one_mul]
    · rw [if_neg c, List.filter_cons_of_neg (by simpa using c), Int.zero_mul, Int.zero_add]
theorem form_count {ar : Arw} {row : List Int} {x : Int} {c : Int → Int} (h0 : 0 ≤ x) (h : x < row.length) (ok : ∀ p ∈ ar, 0 ≤ p.1 ∧ p.1 < (row.length : Int) ∧ 0 ≤ p.2 ∧ p.2 < (row.length : Int))
    (hc : ∀ v, c v = (if v = x then 1 else 0) + (ar.map fun p => if p.2 = v then c p.1 else 0).sum) : formM ar (vecM row.length c) row = row.getD x.toNat 0 := by
  have key : ∀ L : Arw, (∀ p ∈ L, p ∈ ar) → dot (vecM row.length fun v => (if v = x then 1 else 0) + (L.map fun p => if p.2 = v then c p.1 else 0).sum) row = row.getD x.toNat 0 + arsum L (vecM row.length c) row := by
    intro L
    induction L with
    | nil =>
      intro _
      have := dot_unit 1 h0 h
      simp only [List.map_nil, List.sum_nil, Int.add_zero, arsum]
      rw [this, Int.one_mul]
    | cons p L ih =>
      intro hL
      have ih := ih fun q hq => hL q (List.mem_cons_of_mem _ hq)
      obtain ⟨o1, o2, o3, o4⟩ := ok p (hL p List.mem_cons_self)
      have hu := dot_unit (c p.1) o3 o4
      rw [dot_vec] at ih hu ⊢
      have e : (fun v : Int => (if v = x then (1 : Int) else 0) + ((p :: L).map fun p => if p.2 = v then c p.1 else 0).sum) = fun v => ((if v = x then (1 : Int) else 0) + (L.map fun p => if p.2 = v then c p.1 else 0).sum) + (if v = p.2 then c p.1 else 0) := by
        funext v
        rw [List.map_cons, List.sum_cons]
        have : (if p.2 = v then c p.1 else 0) = if v = p.2 then c p.1 else 0 := by
          by_cases q : p.2 = v
          · rw [if_pos q, if_pos q.symm]
          · rw [if_neg q, if_neg (Ne.symm q)]
        rw [this]; omega
      rw [e, dotF_add, ih, hu]
      simp only [arsum, List.map_cons, List.sum_cons]
      rw [vecM_get o1 o2]; omega
  have := key ar fun p hp => hp
  have e : (fun v : Int => (if v = x then (1 : Int) else 0) + (ar.map fun p => if p.2 = v then c p.1 else 0).sum) = c := by
    funext v; exact (hc v).symm
  rw [e] at this
  unfold formM
  omega
end SB

set_option maxRecDepth 100000
set_option maxHeartbeats 4000000
/-! != where a class has an own == alone. -/
namespace SB
open PySem PySem.Spec PyProof.Rows L2
open Builtin in
theorem ne_bound {prog : Program} {w : World} {A : Around} {E : Value → Shared → Prop} {s : Shared} {K : PySem.W.Frag} {a C f : Addr} {ox : Obj} {od : Option Obj} {u : Value} {Q : Bool → Shared → Prop} (hu : A.in1.units < cLine) (X : K.In s.heap) (I : PySem.W.InstAt s.heap a ox C od)
    (hne : PySem.W.findIn K (.ref C) "__ne__" = some (some (.builtin "object.__ne__"))) (hm : PySem.W.mroIn K C (.type "object") = some true) (hs : PySem.W.findIn K (.ref C) "__eq__" = some (some (.ref f))) (hf : PySem.W.isFn K (.ref f) = true)
    (h : wpAny (model prog w) A.in1 (call (.ref f) [.ref a, u]) (fun v s' => ∃ b, v = .bool b ∧ Q b s') E s) :
    wpAny (model prog w) A (tryCompare (.ref a) "__ne__" u) (fun r s' => ∃ b, r = some (.bool (!b)) ∧ Q b s') E s := by
  unfold tryCompare
  refine wpAny_bind (m := callSpecialIfBound? (.ref a) (Str.ofString "__ne__") [u]) ?_
  have core : wpAny (model prog w) A (call (.builtin "object.__ne__") ([.ref a] ++ [u])) (fun v s' => ∃ b, v = .bool (!b) ∧ Q b s') E s := by
    refine wpAny_call (codeAny_call_builtin PySem.F.slot_object_ne.plain PySem.F.entry_object_ne (PySem.W.check_slot (i := "object.__ne__") (owner := "object") (n := "__ne__") (by decide +kernel) (by decide +kernel) (I.type.andThen (PySem.W.looks_mroIn X hm)) (PySem.F.args_object_ne_2 _ _) ?_))
    unfold Builtin.«object.__ne__»
    refine wpAny_bind (m := slotArgs "__ne__" 1 _) (wpAny_pure ?_)
    refine wpAny_bind (m := cRoomFor _ _) (wpAny_cRoomFor hu ?_)
    refine wpAny_bind (m := callSpecialIfBound? (.ref a) (Str.ofString "__eq__") [u]) (PySem.W.ifBound_K X I hs hf (wpAny_mono h (fun r s' hq => ?_) fun _ _ y => y))
    obtain ⟨b, rfl, q⟩ := hq
    refine wpAny_bind (m := truthy (.bool _)) (wpAny_truthy_bool ?_)
    first | exact ⟨b, rfl, q⟩ | exact wpAny_pure ⟨b, rfl, q⟩ | exact wpAny_pure ⟨_, rfl, b, rfl, q⟩
  simp only [callSpecialIfBound?, bindSpecialIfBound?]
  refine wpAny_holding (wpAny_bind (wpAny_bind (wpAny_bind (I.type.here ((PySem.W.looks_findIn X hne).here ?_)))))
  refine wpAny_bind (wpAny_askSetting (wpAny_ite ?_))
  have fin : wpAny (model prog w) A (call (.builtin "object.__ne__") ([.ref a] ++ [u]) >>= fun v => pure (some v)) (fun r s' => wpAny (model prog w) A (match r with | some .notImplemented | none => pure none | some v => pure (some v)) (fun r s' => ∃ b, r = some (.bool (!b)) ∧ Q b s') E s') E s :=
    wpAny_bind (wpAny_mono core (fun v s' ⟨b, e, q⟩ => by subst e; exact wpAny_pure (wpAny_pure ⟨b, rfl, q⟩)) fun _ _ y => y)
  split
  · exact wpAny_bind ((PySem.W.Looks.of_pure (PySem.F.slot_object_ne.bind _)).here (wpAny_pure (by exact fin)))
  · exact wpAny_tryCatch (wpAny_bind ((PySem.W.Looks.of_pure (PySem.F.slot_object_ne.bind _)).here (wpAny_pure (by exact fin))))
section
variable {X : Cx}
def rNeOwn (K : PySem.W.Frag) (C : Addr) (sp : Sp) (E : XK) : R2 := fun x y H Q => ∃ a dx fs tb, x = .ref a ∧ H a = some (.ins C dx fs) ∧ TyR H y tb ∧ PySem.W.notFirst K C tb = true ∧ sp [x, y] H (fun v H' => ∃ b, v = .bl b ∧ Q (.bl (!b)) H') E
theorem op_neOwn {CX : CXT} {n : Nat} {C f : Addr} {fd : FuncData} {ps : List Str} {sp : Sp} {E : XK} (F : FnOk X.prog X.w X.K X.mg X.base CX n f fd ps sp) (hr : Room (n + 1) X.A)
    (hne : PySem.W.findIn X.K (.ref C) "__ne__" = some (some (.builtin "object.__ne__"))) (hm : PySem.W.mroIn X.K C (.type "object") = some true)
    (hs : PySem.W.findIn X.K (.ref C) "__eq__" = some (some (.ref f))) (hf : PySem.W.isFn X.K (.ref f) = true) (hb : Binds X.K fd ps []) (hx : Passes CX X E) : OpR X (compareOp .NotEq) (rNeOwn X.K C sp E) := by
  intro pins s σ H x y v u Q I rx ry h
  obtain ⟨a, dx, fs, tb, rfl, ha, ty, hn, q⟩ := h
  cases (show v = Value.ref a from rx)
  obtain ⟨mA, J, _⟩ := ins_get I.hok ha
  obtain ⟨od, J, _⟩ := J.look
  obtain ⟨m, hF⟩ := I.fr
  have KX : X.K.In s.heap := I.kIn
  show wpAny (model X.prog X.w) X.A (richCompare .NotEq (.ref a) u) (EP X pins σ Q) X.xe s
  have hl := F.len _ _ _ _ q
  have r2 : Vals [V.ref a, y] [Value.ref a, u] := .cons rfl (.cons ry .nil)
  have call1 : wpAny (model X.prog X.w) X.A.in1 (call (.ref f) [.ref a, u]) (fun v s' => ∃ b, v = .bool b ∧ EP X pins σ Q (.bool (!b)) s') X.xe s := by
    refine wpAny_call (codeAny_mono (F.run X.A.in1 X.stack s H ⟨[.ref a, u], []⟩ [.ref a, u] [.ref a, y] _ E hr.in1 I.env0.in1 (by
      have := hb s [.ref a, u] I.kIn (by simpa using hl)
      simpa using this) r2 q) fun r s' hq => ?_)
    cases r with
    | error e => exact hx pins σ H s e s' I hq
    | ok fl =>
      cases fl with
      | ret w =>
        obtain ⟨z, H', I', rz, b, ez, qz⟩ := I.after hq
        subst ez
        cases (show w = Value.bool b from rz)
        exact ⟨b, rfl, .bl (!b), H', I', rfl, qz⟩
      | next => exact False.elim hq
      | brk => exact False.elim hq
      | cont => exact False.elim hq
  have one : wpAny (model X.prog X.w) X.A (tryCompare (.ref a) (cmpInfo .NotEq).2.1 u) (fun r s' => ∃ b, r = some (.bool (!b)) ∧ EP X pins σ Q (.bool (!b)) s') X.xe s :=
    ne_bound (Q := fun b s' => EP X pins σ Q (.bool (!b)) s') hr.in1.units0 KX J hne hm hs hf call1
  unfold richCompare
  simp only [oneThing_ref]
  refine wpAny_holding (wpAny_bind (wpAny_cRoomFor hr.units0 ?_))
  refine wpAny_bind (J.type.here (wpAny_bind ((looks_of I ry ty).here ?_)))
  split
  · rename_i q
    have e : PySem.W.subIn X.K tb (.ref C) = some false := by
      rcases Bool.or_eq_true_iff.mp hn with e | e
      · rw [beq_iff_eq.mp e] at q; simp at q
      · exact beq_iff_eq.mp e
    refine wpAny_bind ((PySem.W.looks_subIn KX e).here ?_)
    simp only [Bool.false_eq_true, if_false]
    refine wpAny_bind (wpAny_mono one (fun r s' z => ?_) fun _ _ e => e)
    obtain ⟨b, rfl, hq⟩ := z
    exact wpAny_pure hq
  · refine wpAny_bind (wpAny_pure ?_)
    simp only [Bool.false_eq_true, if_false]
    refine wpAny_bind (wpAny_mono one (fun r s' z => ?_) fun _ _ e => e)
    obtain ⟨b, rfl, hq⟩ := z
    exact wpAny_pure hq
end
end SB

set_option maxRecDepth 100000
set_option maxHeartbeats 4000000
/-! t[::-1] of a tuple. -/
namespace SB
open PySem PySem.Spec PyProof.Rows L2 HT
section
variable {prog : Program} {w : World} {A : Around} {E : Value → Shared → Prop} {s : Shared}
theorem adj_rev (n : Nat) : Builtin.Slice.sliceAdjust none none (-1) (n : Int) = ((n : Int) - 1, -1) := by
  unfold Builtin.Slice.sliceAdjust
  simp
theorem places_rev (n : Nat) : Builtin.Slice.slicePlaces ((n : Int) - 1) (-1) (-1) = n := by
  unfold Builtin.Slice.slicePlaces
  simp
  omega
theorem applied_rev {sl : Addr} {vl vu vs : Value} {n : Nat} {Q : Int × Int × Nat → Shared → Prop} (hs : s.heap.IsSliceOf sl vl vu vs) (pl : IsPart vl none) (pu : IsPart vu none) (ps : IsPart vs (some (-1)))
    (h : Q ((n : Int) - 1, -1, n) s) : wpAny (model prog w) A (Builtin.Slice.sliceApplied (.ref sl) (pure (n : Int))) Q E s := by
  obtain ⟨os, hos, hcs, hds⟩ := id hs
  unfold Builtin.Slice.sliceApplied Builtin.Slice.sliceFields
  refine wpAny_bind (wpAny_bind (wpAny_field hos hds (x := vl) rfl (wpAny_bind (wpAny_field hos hds (x := vu) rfl (wpAny_bind (wpAny_field hos hds (x := vs) rfl (wpAny_pure ?_)))))))
  refine wpAny_bind (slicePart_ ps ?_)
  show wpAny _ _ (if ((-1 : Int) == 0) = true then _ else _) _ _ s
  rw [if_neg (by decide)]
  refine wpAny_bind (slicePart_ pl (wpAny_bind (slicePart_ pu (wpAny_bind (wpAny_pure ?_)))))
  show wpAny _ _ (match Builtin.Slice.sliceAdjust none none (-1) (n : Int) with | (lo, hi) => pure (lo, (-1 : Int), Builtin.Slice.slicePlaces lo hi (-1))) _ _ s
  rw [adj_rev]
  show wpAny _ _ (pure ((n : Int) - 1, (-1 : Int), Builtin.Slice.slicePlaces ((n : Int) - 1) (-1) (-1))) _ _ s
  rw [places_rev]
  exact wpAny_pure h
theorem pick_rev (xs : List Value) : ((List.range xs.length).filterMap fun (m : Nat) => xs.toArray[((xs.length : Int) - 1 + (m : Int) * (-1)).toNat]?) = xs.reverse := by
  have h : ∀ m, m < xs.length → xs.toArray[((xs.length : Int) - 1 + (m : Int) * (-1)).toNat]? = some (xs.reverse.getD m .none) := by
    intro m hm
    have e : ((xs.length : Int) - 1 + (m : Int) * (-1)).toNat = xs.length - 1 - m := by omega
    rw [e, List.getElem?_toArray, List.getD_eq_getElem?_getD, List.getElem?_reverse hm, List.getElem?_eq_getElem (by omega)]
    rfl
  have gen : ∀ (l : List Nat), (∀ m ∈ l, m < xs.length) → (l.filterMap fun (m : Nat) => xs.toArray[((xs.length : Int) - 1 + (m : Int) * (-1)).toNat]?) = l.map fun m => xs.reverse.getD m .none := by
    intro l
    induction l with
    | nil => intro _; rfl
    | cons m l ih =>
      intro hl
      have e := h m (hl m List.mem_cons_self)
      simp only [List.filterMap_cons, e, List.map_cons]
      rw [ih fun x hx => hl x (List.mem_cons_of_mem _ hx)]
  have h2 := gen (List.range xs.length) fun m hm => List.mem_range.mp hm
  rw [h2]
  refine List.ext_getElem (by simp) fun i h1 h2 => ?_
  rw [List.getElem_map, List.getElem_range, List.getD_eq_getElem?_getD, List.getElem?_eq_getElem h2]
  rfl
theorem item_rev {t sl : Addr} {xs : List Value} {vl vu vs : Value} {Q : Value → Shared → Prop} (ht : IsTup s.heap t xs.toArray) (hs : s.heap.IsSliceOf sl vl vu vs) (pl : IsPart vl none) (pu : IsPart vu none) (ps : IsPart vs (some (-1)))
    (hz : xs.length ≤ sizeLine) (h : Q (.ref s.heap.objs.size) { s with heap := s.heap.push { cls := .type "tuple", data := .seq xs.reverse.toArray } }) : wpAny (model prog w) A (getItem (.ref t) (.ref sl)) Q E s := by
  have hfit : sizeOk (.seq xs.reverse.toArray) := by
    show xs.reverse.toArray.size ≤ sizeLine
    rw [List.size_toArray, List.length_reverse]; exact hz
  have hTs : s.TypeIs (.ref sl) "slice" := let ⟨os, h1, h2, _⟩ := hs; ⟨os, h1, h2⟩
  unfold getItem
  try with_reducible refine wpAny_holding ?_
  first | refine wpAny_bind (wpAny_pure ?_) | skip
  refine wpAny_bind (wpAny_sequenceKey ht.typeIs (by decide) ?_)
  refine wpAny_bind (wpAny_callSpecial?_slot (name := Str.ofString "__getitem__") ht.typeIs PyProof.Rows.slot_tuple_getitem
    (wpAny_call_entry PyProof.Rows.slot_tuple_getitem ht.typeIs entry_tuple_getitem ?_ (args_tuple_getitem _ _)))
  show wpAny _ _ (Builtin.Tuple.tupleItemsOf (.ref t) >>= _) _ _ s
  refine wpAny_bind (tupleItemsOf_ ht ?_)
  refine wpAny_bind (wpAny_typeOf hTs ?_)
  rw [if_pos (by decide)]
  refine wpAny_bind (applied_rev (n := xs.toArray.size) hs pl pu ps ?_)
  have hno : ¬ ((((xs.toArray.size : Int) - 1 == 0) && ((-1 : Int) == 1) && (xs.toArray.size == xs.toArray.size)) = true) := by simp
  show wpAny _ _ (if ((((xs.toArray.size : Int) - 1 == 0) && ((-1 : Int) == 1) && (xs.toArray.size == xs.toArray.size)) = true) then _ else _) _ _ s
  rw [if_neg hno, List.size_toArray, pick_rev]
  first
    | exact wpAny_bind (m := Builtin.Tuple.tupleExact _) (wpAny_newObj_type (wpAny_pure ⟨_, rfl, wpAny_pure h⟩) hfit)
    | exact wpAny_bind (m := Builtin.Tuple.tupleExact _) (wpAny_newObj_type (wpAny_bind (wpAny_pure (wpAny_pure ⟨_, rfl, wpAny_pure h⟩))) hfit)
    | exact wpAny_bind (wpAny_bind (m := Builtin.Tuple.tupleExact _) (wpAny_newObj_type (wpAny_pure (wpAny_pure ⟨_, rfl, wpAny_pure h⟩)) hfit))
    | exact wpAny_bind (wpAny_bind (m := Builtin.Tuple.tupleExact _) (wpAny_newObj_type (wpAny_pure ⟨_, rfl, wpAny_pure h⟩) hfit))
end
def tRevT (K : PySem.W.Frag) (te : TE) : TE := fun σ H Q => te σ H fun x H1 => ∃ a xs, x = .ref a ∧ SqT K H1 a xs ∧ ∀ p, H1 p = none → Q (.ref p) (upd H1 p (.tup xs.reverse))
theorem rd_revT {K : PySem.W.Frag} {te : TE} {σ : L2.St} {H : Hp} {Q : VK} : tRevT K te σ H Q = te σ H fun x H1 => ∃ a xs, x = .ref a ∧ SqT K H1 a xs ∧ ∀ p, H1 p = none → Q (.ref p) (upd H1 p (.tup xs.reverse)) := rfl
theorem pe_revT {X : Cx} {e : Expr} {te : TE} {k : Nat} {p1 p2 p3 pos : Pos} (he : PE X e te) : PE X (.Subscript e (.Slice none none (some (.UnaryOp .USub (.Constant (.int 1) k p1) p2)) p3) pos) (tRevT X.K te) := by
  refine ⟨fun pins s σ H Q I h => ?_⟩
  refine Subscript_ (thn (he.run pins s σ H _ I h) fun v s1 ⟨x, H1, I1, r1, a, xs, ex, hx, q⟩ => ?_)
  subst ex
  cases r1
  have hst : PO X (some (.UnaryOp .USub (.Constant (.int 1) k p1) p2)) (tPart (tUn (rU fun i => .int (-i)) (tC (.int 1)))) := po_some (pe_un un_neg pe_int)
  refine wpAny_Slice (thn (po_none.run pins s1 σ H1 (fun o H2 => o = none ∧ H2 = H1) I1 ⟨rfl, rfl⟩) fun vl s2 ⟨l, H2, I2, pl, el, e2⟩ => ?_)
  subst el e2
  refine thn (po_none.run pins s2 σ H2 (fun o H3 => o = none ∧ H3 = H2) I2 ⟨rfl, rfl⟩) fun vu s3 ⟨u, H3, I3, pu, eu, e3⟩ => ?_
  subst eu e3
  refine thn (hst.run pins s3 σ H3 (fun o H4 => o = some (-1) ∧ H4 = H3) I3 ⟨1, rfl, -1, rfl, rfl, rfl⟩) fun vs s4 ⟨o, H4, I4, ps, eo, e4⟩ => ?_
  subst eo e4
  have I5 : Inv X pins σ H4 { s4 with heap := s4.heap.push { cls := .type "slice", data := .fields #[vl, vu, vs] } } := I4.kept (t' := s4.toks) fun b ob q => Heap.get?_push_of_some _ q
  obtain ⟨its, r, ht, hz⟩ := I5.tuple hx
  show wpAny (model X.prog X.w) X.A (subscriptTail e (.Slice none none (some (.UnaryOp .USub (.Constant (.int 1) k p1) p2)) p3) (.ref a) (.ref s4.heap.objs.size)) (EP X pins σ Q) X.xe { s4 with heap := s4.heap.push { cls := .type "slice", data := .fields #[vl, vu, vs] } }
  refine tail_any (ops := [.ref a, .ref s4.heap.objs.size]) ht.typeIs (PyProof.Rows.slot_tuple_getitem.lookup) ?_ (by with_unfolding_all rfl)
  refine item_rev ht (Heap.IsSliceOf.new _ vl vu vs) pl pu ps (by rw [← r.length]; exact hz) ?_
  refine ⟨.ref _, _, I5.laid (t' := s4.toks) (o := .tup xs.reverse) (fun b ob q => Heap.get?_push_of_some _ q) (Nat.le_refl _) ?_, rfl, q _ (I5.hok.fresh (Nat.le_refl _))⟩
  exact ⟨by rw [List.length_reverse]; exact hz, _, r.reverse, ⟨_, Heap.get?_push_size _ rfl, rfl, _, rfl⟩⟩
end SB

set_option maxRecDepth 100000
set_option maxHeartbeats 2000000
/-! Ways in the heap: tuples of whole numbers, lists of them; enumerate. -/
namespace SB
open PySem PySem.Spec PyProof.Rows L2
/-- a tuple of these numbers -/
def IsW (H : Hp) (v : V) (w : List Int) : Prop := ∃ t, v = .ref t ∧ H t = some (.tup (w.map V.int))
abbrev Wl (H : Hp) (xs : List V) (ws : List (List Int)) : Prop := Paired (IsW H) xs ws
theorem IsW.mono {H H' : Hp} (e : Ex H H') {v : V} {w : List Int} (h : IsW H v w) : IsW H' v w := let ⟨t, a, b⟩ := h; ⟨t, a, e _ _ b⟩
theorem wl_mono {H H' : Hp} (e : Ex H H') {xs : List V} {ws : List (List Int)} (h : Wl H xs ws) : Wl H' xs ws := p2_mono (fun _ _ => IsW.mono e) h
/-- a list that is changed leaves tuples alone -/
theorem IsW.set {H : Hp} {g : Addr} {ys : List V} {o : HO} (hg : H g = some (.lst ys)) {v : V} {w : List Int} (h : IsW H v w) : IsW (upd H g o) v w := by
  obtain ⟨t, a, b⟩ := h
  exact ⟨t, a, by rw [upd_ne (fun z => by rw [z, hg] at b; cases b)]; exact b⟩
theorem wl_set {H : Hp} {g : Addr} {ys : List V} {o : HO} (hg : H g = some (.lst ys)) {xs : List V} {ws : List (List Int)} (h : Wl H xs ws) : Wl (upd H g o) xs ws := p2_mono (fun _ _ => IsW.set hg) h
theorem IsW.drp {H : Hp} {g : Addr} {ys : List V} (hg : H g = some (.lst ys)) {v : V} {w : List Int} (h : IsW H v w) : IsW (dr g H) v w := by
  obtain ⟨t, a, b⟩ := h
  exact ⟨t, a, dr_at (fun z => by rw [z, hg] at b; cases b) b⟩
theorem wl_drp {H : Hp} {g : Addr} {ys : List V} (hg : H g = some (.lst ys)) {xs : List V} {ws : List (List Int)} (h : Wl H xs ws) : Wl (dr g H) xs ws := p2_mono (fun _ _ => IsW.drp hg) h
/-- a way and a place -/
def IsG (H : Hp) (v : V) (g : List Int × Int) : Prop := ∃ t u, v = .ref t ∧ H t = some (.tup [.ref u, .int g.2]) ∧ H u = some (.tup (g.1.map V.int))
abbrev Gl' (H : Hp) (xs : List V) (gs : List (List Int × Int)) : Prop := Paired (IsG H) xs gs
theorem IsG.mono {H H' : Hp} (e : Ex H H') {v : V} {w : List Int × Int} (h : IsG H v w) : IsG H' v w := let ⟨t, u, a, b, c⟩ := h; ⟨t, u, a, e _ _ b, e _ _ c⟩
theorem gl_mono {H H' : Hp} (e : Ex H H') {xs : List V} {ws : List (List Int × Int)} (h : Gl' H xs ws) : Gl' H' xs ws := p2_mono (fun _ _ => IsG.mono e) h
theorem IsG.set {H : Hp} {g : Addr} {ys : List V} {o : HO} (hg : H g = some (.lst ys)) {v : V} {w : List Int × Int} (h : IsG H v w) : IsG (upd H g o) v w := by
  obtain ⟨t, u, a, b, c⟩ := h
  exact ⟨t, u, a, by rw [upd_ne (fun z => by rw [z, hg] at b; cases b)]; exact b, by rw [upd_ne (fun z => by rw [z, hg] at c; cases c)]; exact c⟩
theorem gl_set {H : Hp} {g : Addr} {ys : List V} {o : HO} (hg : H g = some (.lst ys)) {xs : List V} {ws : List (List Int × Int)} (h : Gl' H xs ws) : Gl' (upd H g o) xs ws := p2_mono (fun _ _ => IsG.set hg) h
/-! compared -/
def dT (w : List Int) : PyData := .tuple (w.map PyData.int)
def dW (ws : List (List Int)) : PyData := .list (ws.map dT)
def dG1 (g : List Int × Int) : PyData := .tuple [dT g.1, .int g.2]
def dG (gs : List (List Int × Int)) : PyData := .list (gs.map dG1)
theorem dT_lay (w : List Int) : (dT w).canLay0 = true := by simp only [dT, PyData.canLay0]; exact lay_map (fun _ => by simp [PyData.canLay0]) w
theorem dT_depth (w : List Int) : (dT w).depth ≤ 1 := by
  have h := depth_map (f := PyData.int) (n := 0) (fun _ => by simp [PyData.depth]) w
  simp only [dT, PyData.depth]; omega
theorem dW_sh (ws : List (List Int)) : SeqAt.shaped (dW ws) = true := by
  refine shaped_of (n := 2) ?_ ?_
  · simp only [dW, PyData.canLay0]; exact lay_map dT_lay ws
  · have h := depth_map dT_depth ws
    simp only [dW, PyData.depth]; omega
theorem dG1_lay (g : List Int × Int) : (dG1 g).canLay0 = true := by simp [dG1, PyData.canLay0, PyData.canLayAll0, dT_lay]
theorem dG1_depth (g : List Int × Int) : (dG1 g).depth ≤ 2 := by
  have := dT_depth g.1
  simp only [dG1, PyData.depth, PyData.depthAll]; omega
theorem dG_sh (gs : List (List Int × Int)) : SeqAt.shaped (dG gs) = true := by
  refine shaped_of (n := 3) ?_ ?_
  · simp only [dG, PyData.canLay0]; exact lay_map dG1_lay gs
  · have h := depth_map dG1_depth gs
    simp only [dG, PyData.depth]; omega
theorem dT_eqv (a b : List Int) : PyData.eqv (dT a) (dT b) = decide (a = b) := by simp only [dT, PyData.eqv]; exact eqv_map dI_eqv a b
theorem dW_eqv (a b : List (List Int)) : PyData.eqv (dW a) (dW b) = decide (a = b) := by simp only [dW, PyData.eqv]; exact eqv_map dT_eqv a b
theorem dG1_eqv (a b : List Int × Int) : PyData.eqv (dG1 a) (dG1 b) = decide (a = b) := by
  obtain ⟨a1, a2⟩ := a; obtain ⟨b1, b2⟩ := b
  simp only [dG1, PyData.eqv, PyData.eqvAll, dT_eqv]
  by_cases h : a1 = b1 <;> by_cases k : a2 = b2 <;> simp [h, k]
theorem dG_eqv (a b : List (List Int × Int)) : PyData.eqv (dG a) (dG b) = decide (a = b) := by simp only [dG, PyData.eqv]; exact eqv_map dG1_eqv a b
section
variable {K : PySem.W.Frag} {H : Hp}
theorem dp_tw {v : V} {w : List Int} (h : IsW H v w) : Dp K H v (dT w) := by
  obtain ⟨t, rfl, ht⟩ := h
  exact .tup (sqT ht) (dp_ints w)
theorem dp_wl {q : Addr} {xs : List V} {ws : List (List Int)} (h : H q = some (.lst xs)) (a : Wl H xs ws) : Dp K H (.ref q) (dW ws) := .lst (sqL h) (dpAll_of (f := dT) (fun _ _ h => dp_tw h) a)
theorem dp_g {v : V} {g : List Int × Int} (h : IsG H v g) : Dp K H v (dG1 g) := by
  obtain ⟨t, u, rfl, ht, hu⟩ := h
  exact .tup (sqT ht) (.cons (.tup (sqT hu) (dp_ints g.1)) (.cons (.int g.2) .nil))
theorem dp_gl {q : Addr} {xs : List V} {gs : List (List Int × Int)} (h : H q = some (.lst xs)) (a : Gl' H xs gs) : Dp K H (.ref q) (dG gs) := .lst (sqL h) (dpAll_of (f := dG1) (fun _ _ h => dp_g h) a)
/-- tuple + tuple -/
theorem catW {a b : Addr} {u w : List Int} {Q : VK} (ha : H a = some (.tup (u.map V.int))) (hb : H b = some (.tup (w.map V.int))) (hl : u.length + w.length ≤ 100000) (q : ∀ t H', Ex H H' → H' t = some (.tup ((u ++ w).map V.int)) → Q (.ref t) H') : rCatA K (.ref a) (.ref b) H Q := by
  refine ⟨a, b, _, _, rfl, rfl, sqT ha, sqT hb, Evl.sz_of (by simpa using hl), fun e => ?_, fun _ e => ?_, fun _ _ p hp => ?_⟩
  · have e' : u = [] := by simpa using e
    subst e'
    exact q b H (Evl.Ex.refl _) hb
  · have e' : w = [] := by simpa using e
    subst e'
    exact q a H (Evl.Ex.refl _) (by rw [List.append_nil]; exact ha)
  · exact q p _ (Evl.Ex.new hp) (by rw [upd_same, List.map_append])
/-! a value's numbers, for sorted -/
def kfW (H : Hp) : V → List Int
  | .ref t => match H t with
    | some (.tup us) => us.map fun v => match v with
      | .int i => i
      | _ => 0
    | _ => []
  | _ => []
theorem kfW_of {v : V} {w : List Int} (h : IsW H v w) : kfW H v = w := by
  obtain ⟨t, rfl, ht⟩ := h
  simp only [kfW, ht, List.map_map]
  have : ∀ w : List Int, w.map ((fun v => match v with | V.int i => i | _ => 0) ∘ V.int) = w := by
    intro w
    induction w with
    | nil => rfl
    | cons a w ih => rw [List.map_cons, ih]; rfl
  exact this w
theorem wl_kf : ∀ {xs : List V} {ws : List (List Int)}, Wl H xs ws → xs.map (kfW H) = ws
  | _, _, .nil => rfl
  | _, _, .cons r q => by rw [List.map_cons, kfW_of r, wl_kf q]
theorem wl_self : ∀ {ys : List V}, (∀ y ∈ ys, ∃ w, IsW H y w) → Wl H ys (ys.map (kfW H))
  | [], _ => .nil
  | y :: ys, h => by
    obtain ⟨w, hw⟩ := h y List.mem_cons_self
    exact .cons (by rw [kfW_of hw]; exact hw) (wl_self fun z hz => h z (List.mem_cons_of_mem _ hz))
/-- sorted of a list of ways, () alone at most -/
theorem sortW {a : Addr} {xs : List V} {ws : List (List Int)} {Q : VK} (h : H a = some (.lst xs)) (hw : Wl H xs ws) (hn : 2 ≤ ws.length → ∀ w ∈ ws, w ≠ [])
    (q : ∀ l zs us, H l = none → Wl H zs us → SrtL us → us.Perm ws → Q (.ref l) (upd H l (.lst zs))) : rSortedTI K [.ref a] H Q := by
  refine ⟨a, xs, kfW H, rfl, sqL h, fun x hx => ?_, fun h2 x hx => ?_, fun ys p hp hs hf => ?_⟩
  · obtain ⟨w, _, t, rfl, ht⟩ := p2_mem hw hx
    exact ⟨t, rfl, by rw [kfW_of ⟨t, rfl, ht⟩]; exact ht⟩
  · obtain ⟨w, h3, h4⟩ := p2_mem hw hx
    rw [kfW_of h4]
    exact hn (by rw [← p2_len hw]; exact h2) w h3
  · refine q p ys (ys.map (kfW H)) hf (wl_self fun y hy => ?_) hs ?_
    · obtain ⟨w, _, h4⟩ := p2_mem hw (hp.mem_iff.mp hy)
      exact ⟨w, h4⟩
    · rw [← wl_kf hw]
      exact hp.map _
end
/-! ### for over enumerate -/
section
variable {K : PySem.W.Frag} {σ : L2.St} {H : Hp} {ta : TA} {g : TG} {tu : TS} {D : Ends}
theorem rd_forE : tFor (iEnum K ta) g tu D σ H = ta σ H fun us H1 => ∃ a xs, us = [.ref a] ∧ SqL K H1 a xs ∧ ForK (Ite K a) g tu D σ H1 := rfl
theorem forE {a : Addr} {xs : List V} (h : H a = some (.lst xs)) (Pv : Nat → L2.St → Hp → Prop) (h0 : Pv 0 σ H) (hG : ∀ i σ H', i ≤ xs.length → Pv i σ H' → H' a = some (.lst xs))
    (hs : ∀ i x t σ H', i < xs.length → xs[i]? = some x → H' t = none → Pv i σ H' → g (.ref t) σ (upd H' t (.tup [.int (i : Nat), x])) fun σ2 H2 => tu { D with nx := Pv (i + 1), ct := Pv (i + 1), bk := D.nx } σ2 H2) (hd : ∀ σ H', Pv xs.length σ H' → D.nx σ H') :
    ∃ ys, SqL K H a ys ∧ ForK (Ite K a) g tu D σ H := by
  refine ⟨xs, sqL h, for_it (walk_enum (xs := xs)) Pv h0 (fun i σ H' hi p => sqL (hG i σ H' hi p)) (fun i x σ H1 H2 hi p y => ?_) hd⟩
  obtain ⟨t, u, v, rfl, ht, rfl, e1, e2⟩ := y
  cases Option.some.inj e1
  exact hs i v t σ H1 hi e2 ht p
theorem maxR {K : PySem.W.Frag} {H : Hp} {Q : VK} {p : Addr} {xs : List V} (ns : List Int) (h : SqL K H p xs) (e : xs = ns.map V.int) (h0 : 0 < ns.length) (q : ∀ m, m ∈ ns → (∀ y, y ∈ ns → y ≤ m) → Q (.int m) H) : rMax K [.ref p] H Q := ⟨p, ns, rfl, e ▸ h, h0, q⟩
theorem anyR {K : PySem.W.Frag} {H : Hp} {Q : VK} {p : Addr} {xs : List V} (bs : List Bool) (h : SqL K H p xs) (e : xs = bs.map V.bl) (q : Q (.bl (bs.any id)) H) : rAny K [.ref p] H Q := ⟨p, bs, rfl, e ▸ h, q⟩
/-- xs[i], a list or a tuple -/
theorem ixS {K : PySem.W.Frag} {H : Hp} {Q : VK} {p : Addr} {xs : List V} {i : Int} {v : V} (h : Sq2 H p xs) (a : atI xs i = some v) (q : Q v H) : rIx K (.ref p) (.int i) H Q := by
  rcases h with h | h
  · exact .inl ⟨p, xs, i, v, rfl, rfl, sqL h, a, q⟩
  · exact .inr (.inl ⟨p, xs, i, v, rfl, rfl, sqT h, a, q⟩)
end
end SB

set_option maxRecDepth 100000
set_option maxHeartbeats 4000000
namespace W17
open PySem L2 SB
def top (i : Nat) : Stmt := PySem.Challenge.pw_sureparts_k17_whole_ways_and_forms.main.body.getD i (.Pass ⟨0, 0, 0, 0⟩)
abbrev sis_integer : Stmt := top 10
abbrev Nis_integer : List Str := ["value"]
theorem scis_integer : FnScope Nis_integer ["value"] (defScope sis_integer) := ⟨rfl, rfl, rfl, by decide +kernel, rfl, by decide +kernel, by decide +kernel⟩
abbrev sis_count : Stmt := top 11
abbrev Nis_count : List Str := ["value"]
theorem scis_count : FnScope Nis_count ["value"] (defScope sis_count) := ⟨rfl, rfl, rfl, by decide +kernel, rfl, by decide +kernel, by decide +kernel⟩
abbrev s_is_arrow : Stmt := top 17
abbrev N_is_arrow : List Str := ["places", "arrow", "end"]
theorem sc_is_arrow : FnScope N_is_arrow ["places", "arrow"] (defScope s_is_arrow) := ⟨rfl, rfl, rfl, by decide +kernel, rfl, by decide +kernel, by decide +kernel⟩
abbrev s_have_ring : Stmt := top 18
abbrev N_have_ring : List Str := ["arrows", "left", "reached", "inner", "_", "head", "tail"]
theorem sc_have_ring : FnScope N_have_ring ["arrows"] (defScope s_have_ring) := ⟨rfl, rfl, rfl, by decide +kernel, rfl, by decide +kernel, by decide +kernel⟩
abbrev s_are_arrows : Stmt := top 16
abbrev N_are_arrows : List Str := ["places", "arrows", "arrow"]
theorem sc_are_arrows : FnScope N_are_arrows ["places", "arrows"] (defScope s_are_arrows) := ⟨rfl, rfl, rfl, by decide +kernel, rfl, by decide +kernel, by decide +kernel⟩
abbrev sWeb__init_ : Stmt := inClass (top 15) 0
abbrev NWeb__init_ : List Str := ["self", "places", "arrows", "tail", "head"]
theorem scWeb__init_ : FnScope NWeb__init_ ["self", "places", "arrows"] (defScope sWeb__init_) := ⟨rfl, rfl, rfl, by decide +kernel, rfl, by decide +kernel, by decide +kernel⟩
abbrev sWeb_places : Stmt := inClass (top 15) 1
abbrev NWeb_places : List Str := ["self"]
theorem scWeb_places : FnScope NWeb_places ["self"] (defScope sWeb_places) := ⟨rfl, rfl, rfl, by decide +kernel, rfl, by decide +kernel, by decide +kernel⟩
abbrev sWeb_many : Stmt := inClass (top 15) 2
abbrev NWeb_many : List Str := ["self"]
theorem scWeb_many : FnScope NWeb_many ["self"] (defScope sWeb_many) := ⟨rfl, rfl, rfl, by decide +kernel, rfl, by decide +kernel, by decide +kernel⟩
abbrev sWeb_arrows : Stmt := inClass (top 15) 3
abbrev NWeb_arrows : List Str := ["self"]
theorem scWeb_arrows : FnScope NWeb_arrows ["self"] (defScope sWeb_arrows) := ⟨rfl, rfl, rfl, by decide +kernel, rfl, by decide +kernel, by decide +kernel⟩
abbrev scheck_place : Stmt := top 21
abbrev Ncheck_place : List Str := ["web", "place"]
theorem sccheck_place : FnScope Ncheck_place ["web", "place"] (defScope scheck_place) := ⟨rfl, rfl, rfl, by decide +kernel, rfl, by decide +kernel, by decide +kernel⟩
abbrev s_ways : Stmt := top 19
abbrev N_ways : List Str := ["arrows", "place", "other", "found", "at", "tail", "head", "way"]
theorem sc_ways : FnScope N_ways ["arrows", "place", "other"] (defScope s_ways) := ⟨rfl, rfl, rfl, by decide +kernel, rfl, by decide +kernel, by decide +kernel⟩
abbrev sWeb_ways : Stmt := inClass (top 15) 4
abbrev NWeb_ways : List Str := ["self", "place", "other"]
theorem scWeb_ways : FnScope NWeb_ways ["self", "place", "other"] (defScope sWeb_ways) := ⟨rfl, rfl, rfl, by decide +kernel, rfl, by decide +kernel, by decide +kernel⟩
abbrev sWeb__eq_ : Stmt := inClass (top 15) 5
abbrev NWeb__eq_ : List Str := ["self", "other"]
theorem scWeb__eq_ : FnScope NWeb__eq_ ["self", "other"] (defScope sWeb__eq_) := ⟨rfl, rfl, rfl, by decide +kernel, rfl, by decide +kernel, by decide +kernel⟩
abbrev scheck_web : Stmt := top 20
abbrev Ncheck_web : List Str := ["web"]
theorem sccheck_web : FnScope Ncheck_web ["web"] (defScope scheck_web) := ⟨rfl, rfl, rfl, by decide +kernel, rfl, by decide +kernel, by decide +kernel⟩
abbrev sturned_web : Stmt := top 22
abbrev Nturned_web : List Str := ["web", "tail", "head"]
theorem scturned_web : FnScope Nturned_web ["web"] (defScope sturned_web) := ⟨rfl, rfl, rfl, by decide +kernel, rfl, by decide +kernel, by decide +kernel⟩
abbrev sis_row : Stmt := top 26
abbrev Nis_row : List Str := ["web", "value", "size"]
theorem scis_row : FnScope Nis_row ["web", "value"] (defScope sis_row) := ⟨rfl, rfl, rfl, by decide +kernel, rfl, by decide +kernel, by decide +kernel⟩
abbrev scheck_row : Stmt := top 27
abbrev Ncheck_row : List Str := ["web", "row"]
theorem sccheck_row : FnScope Ncheck_row ["web", "row"] (defScope scheck_row) := ⟨rfl, rfl, rfl, by decide +kernel, rfl, by decide +kernel, by decide +kernel⟩
abbrev scheck_sizes : Stmt := top 28
abbrev Ncheck_sizes : List Str := ["sizes", "size"]
theorem sccheck_sizes : FnScope Ncheck_sizes ["sizes"] (defScope scheck_sizes) := ⟨rfl, rfl, rfl, by decide +kernel, rfl, by decide +kernel, by decide +kernel⟩
abbrev sform : Stmt := top 29
abbrev Nform : List Str := ["web", "row", "other", "at_places", "size", "late", "tail", "head"]
theorem scform : FnScope Nform ["web", "row", "other"] (defScope sform) := ⟨rfl, rfl, rfl, by decide +kernel, rfl, by decide +kernel, by decide +kernel⟩
abbrev ssimple_row : Stmt := top 30
abbrev Nsimple_row : List Str := ["web", "place", "other"]
theorem sk_simple_row : FnScope Nsimple_row ["web", "place"] (defScope ssimple_row) := ⟨rfl, rfl, rfl, by decide +kernel, rfl, by decide +kernel, by decide +kernel⟩
abbrev sways_row : Stmt := top 31
abbrev Nways_row : List Str := ["web", "place", "row", "other"]
theorem scways_row : FnScope Nways_row ["web", "place"] (defScope sways_row) := ⟨rfl, rfl, rfl, by decide +kernel, rfl, by decide +kernel, by decide +kernel⟩
abbrev s_law_pot : Stmt := top 33
abbrev N_law_pot : List Str := ["script", "k", "cell", "mixed"]
theorem sc_law_pot : FnScope N_law_pot ["script", "k"] (defScope s_law_pot) := ⟨rfl, rfl, rfl, by decide +kernel, rfl, by decide +kernel, by decide +kernel⟩
abbrev s_law_draw : Stmt := top 34
abbrev N_law_draw : List Str := ["pot", "sides", "digit"]
theorem sc_law_draw : FnScope N_law_draw ["pot", "sides"] (defScope s_law_draw) := ⟨rfl, rfl, rfl, by decide +kernel, rfl, by decide +kernel, by decide +kernel⟩
abbrev s_law_order : Stmt := top 36
abbrev N_law_order : List Str := ["pot", "many", "left", "found"]
theorem sc_law_order : FnScope N_law_order ["pot", "many"] (defScope s_law_order) := ⟨rfl, rfl, rfl, by decide +kernel, rfl, by decide +kernel, by decide +kernel⟩
abbrev s_law_web : Stmt := top 37
abbrev N_law_web : List Str := ["pot", "least", "most", "arrows", "places", "order", "found", "turn", "far"]
theorem sc_law_web : FnScope N_law_web ["pot", "least", "most", "arrows"] (defScope s_law_web) := ⟨rfl, rfl, rfl, by decide +kernel, rfl, by decide +kernel, by decide +kernel⟩
abbrev s_law_row : Stmt := top 38
abbrev N_law_row : List Str := ["pot", "places", "most", "found", "place"]
theorem sc_law_row : FnScope N_law_row ["pot", "places", "most"] (defScope s_law_row) := ⟨rfl, rfl, rfl, by decide +kernel, rfl, by decide +kernel, by decide +kernel⟩
abbrev s_law_ways : Stmt := top 39
abbrev N_law_ways : List Str := ["arrows", "place", "other", "found", "going", "late", "way", "here", "position", "arrow"]
theorem sc_law_ways : FnScope N_law_ways ["arrows", "place", "other"] (defScope s_law_ways) := ⟨rfl, rfl, rfl, by decide +kernel, rfl, by decide +kernel, by decide +kernel⟩
abbrev s_law_form : Stmt := top 40
abbrev N_law_form : List Str := ["arrows", "row", "other", "total", "one", "two", "tail", "head"]
theorem sc_law_form : FnScope N_law_form ["arrows", "row", "other"] (defScope s_law_form) := ⟨rfl, rfl, rfl, by decide +kernel, rfl, by decide +kernel, by decide +kernel⟩
abbrev s_law_ways_right : Stmt := top 41
abbrev N_law_ways_right : List Str := ["web", "arrows", "place", "back", "counts", "other", "due", "way"]
theorem sc_law_ways_right : FnScope N_law_ways_right ["web", "arrows", "place"] (defScope s_law_ways_right) := ⟨rfl, rfl, rfl, by decide +kernel, rfl, by decide +kernel, by decide +kernel⟩
abbrev s_law_forms_right : Stmt := top 42
abbrev N_law_forms_right : List Str := ["web", "arrows", "one", "two", "three", "due", "both", "near", "far"]
theorem sc_law_forms_right : FnScope N_law_forms_right ["web", "arrows", "one", "two", "three"] (defScope s_law_forms_right) := ⟨rfl, rfl, rfl, by decide +kernel, rfl, by decide +kernel, by decide +kernel⟩
abbrev s_law_simple_right : Stmt := top 43
abbrev N_law_simple_right : List Str := ["web", "arrows", "place", "row", "due", "heads", "counts", "other", "tail", "head"]
theorem sc_law_simple_right : FnScope N_law_simple_right ["web", "arrows", "place", "row"] (defScope s_law_simple_right) := ⟨rfl, rfl, rfl, by decide +kernel, rfl, by decide +kernel, by decide +kernel⟩
abbrev s_law_right : Stmt := top 44
abbrev N_law_right : List Str := ["pot", "places", "arrows", "web", "one", "two", "three", "place", "back", "tail", "head"]
theorem sc_law_right : FnScope N_law_right ["pot"] (defScope s_law_right) := ⟨rfl, rfl, rfl, by decide +kernel, rfl, by decide +kernel, by decide +kernel⟩
abbrev slaw : Stmt := top 45
abbrev Nlaw : List Str := ["script"]
theorem sclaw : FnScope Nlaw ["script"] (defScope slaw) := ⟨rfl, rfl, rfl, by decide +kernel, rfl, by decide +kernel, by decide +kernel⟩
def webF (n : Int) (q : Addr) : List (Str × V) := [("_places", .int n), ("_arrows", .ref q)]
def WebAt (C : Addr) (H : Hp) (p : Addr) (n : Int) (ar : List (Int × Int)) : Prop := ∃ dx q xs, H p = some (.ins C dx (webF n q)) ∧ H q = some (.lst xs) ∧ Ar H xs ar
theorem WebAt.mono {C : Addr} {H H' : Hp} (e : Ex H H') {p : Addr} {n : Int} {ar : List (Int × Int)} (h : WebAt C H p n ar) : WebAt C H' p n ar := by
  obtain ⟨dx, q, xs, h1, h2, h3⟩ := h
  exact ⟨dx, q, xs, e _ _ h1, e _ _ h2, h3.mono e⟩
theorem web_pl {n : Int} {q : Addr} : (webF n q).lookup ("_places" : Str) = some (.int n) := by rfl
theorem web_ar {n : Int} {q : Addr} : (webF n q).lookup ("_arrows" : Str) = some (.ref q) := by rfl
theorem web_no {n : Int} {q : Addr} {m : Str} (h1 : ¬ m = "_places") (h2 : ¬ m = "_arrows") : (webF n q).lookup m = none := by
  have e1 : (m == ("_places" : Str)) = false := by simpa using h1
  have e2 : (m == ("_arrows" : Str)) = false := by simpa using h2
  simp [webF, List.lookup, e1, e2]
def OkAr (n : Int) (p : Int × Int) : Prop := 0 ≤ p.1 ∧ p.1 < n ∧ 0 ≤ p.2 ∧ p.2 < n ∧ p.1 ≠ p.2
def Acyc (ar : List (Int × Int)) : Prop := ∃ r : Int → Int, ∀ p ∈ ar, r p.1 < r p.2
structure Good (n : Int) (ar : List (Int × Int)) : Prop where
  lo : 1 ≤ n
  hi : n ≤ 13
  inn : ∀ p ∈ ar, OkAr n p
  ac : Acyc ar
  len : ar.length ≤ 12
theorem good_swap {n : Int} {ar : List (Int × Int)} (G : Good n ar) : Good n (ar.map fun p => (p.2, p.1)) := by
  obtain ⟨g1, g2, g3, ⟨r, g4⟩, g5⟩ := G
  refine ⟨g1, g2, fun p hp => ?_, ⟨fun z => - r z, fun p hp => ?_⟩, by simpa using g5⟩
  · obtain ⟨q, hq, rfl⟩ := List.mem_map.mp hp
    obtain ⟨o1, o2, o3, o4, o5⟩ := g3 q hq
    exact ⟨o3, o4, o1, o2, fun z => o5 z.symm⟩
  · obtain ⟨q, hq, rfl⟩ := List.mem_map.mp hp
    have := g4 q hq
    show - r q.2 < - r q.1
    omega
theorem webN {C : Addr} {H H0 H' : Hp} {p dx q : Addr} {n : Int} {ys : List V} {ar : List (Int × Int)} (e : Ex H H0) (hp : H p = none) (hq : H0 q = none) (h1 : H' p = some (.ins C dx (webF n q))) (h2 : H' q = some (.lst ys)) (h3 : Ar (nw H0 H') ys ar) : WebAt C (nw H H') p n ar :=
  ⟨dx, q, ys, nw_at hp h1, nw_at (Evl.fresh_back e hq) h2, h3.mono (nw_mono e (Evl.Ex.refl _))⟩
structure RowOk (n : Int) (ns : List Int) : Prop where
  len : (ns.length : Int) = n
  ok : ∀ z ∈ ns, 0 ≤ z ∧ z ≤ 6
  sum : ns.sum ≤ 24
  nb : n ≤ 13
/-- a list (a list or a tuple) of numbers at a -/
def IL (H : Hp) (a : Addr) (ns : List Int) : Prop := H a = some (.lst (ns.map V.int))
def IS (H : Hp) (a : Addr) (ns : List Int) : Prop := Sq2 H a (ns.map V.int)
theorem IL.is {H : Hp} {a : Addr} {ns : List Int} (h : IL H a ns) : IS H a ns := .inl h
def sp_is_integer : Sp := fun vs H Q _ => ∃ n : Int, vs = [.int n] ∧ Q (.bl true) H
def sp_is_count : Sp := fun vs H Q _ => ∃ n : Int, vs = [.int n] ∧ Q (.bl (decide (0 ≤ n))) H
def sp__is_arrow : Sp := fun vs H Q _ => ∃ (n : Int) (v : V) (p : Int × Int), vs = [.int n, v] ∧ IsPr H v p ∧ OkAr n p ∧ ∀ H', Ex H H' → Q (.bl true) H'
def sp__have_ring : Sp := fun vs H Q _ => ∃ (a : Addr) (xs : List V) (ar : List (Int × Int)), vs = [.ref a] ∧ Sq2 H a xs ∧ Ar H xs ar ∧ Acyc ar ∧ ar.length ≤ 12 ∧ ∀ H', Ex H H' → Q (.bl false) H'
def sp__are_arrows : Sp := fun vs H Q _ => ∃ (n : Int) (a : Addr) (xs : List V) (ar : List (Int × Int)), vs = [.int n, .ref a] ∧ Sq2 H a xs ∧ Ar H xs ar ∧ Good n ar ∧ ∀ H', Ex H H' → Q (.bl true) H'
def sp_Web__init_ (C : Addr) : Sp := fun vs H Q _ => ∃ (p dx : Addr) (n : Int) (a : Addr) (xs : List V) (ar : List (Int × Int)), vs = [.ref p, .int n, .ref a] ∧ H p = some (.ins C dx []) ∧ Sq2 H a xs ∧ Ar H xs ar ∧ Good n ar ∧
  ∀ H' q ys, H q = none → (∀ b o, H b = some o → b ≠ p → H' b = some o) → H' p = some (.ins C dx (webF n q)) → H' q = some (.lst ys) → Ar (nw H H') ys ar → Q .non H'
def sp_Web_places (C : Addr) : Sp := fun vs H Q _ => ∃ (p : Addr) (n : Int) (ar : List (Int × Int)), vs = [.ref p] ∧ WebAt C H p n ar ∧ Q (.int n) H
def sp_Web_arrows (C : Addr) : Sp := fun vs H Q _ => ∃ (p : Addr) (n : Int) (ar : List (Int × Int)), vs = [.ref p] ∧ WebAt C H p n ar ∧ ∀ l xs, H l = none → Ar H xs ar → Q (.ref l) (upd H l (.lst xs))
/-- == : another web, or a value of another kind -/
def sp_Web__eq_ (C : Addr) : Sp := fun vs H Q _ => ∃ (p : Addr) (n : Int) (ar : List (Int × Int)) (v : V), vs = [.ref p, v] ∧ WebAt C H p n ar ∧
  ((∃ p2 n2 ar2, v = .ref p2 ∧ WebAt C H p2 n2 ar2 ∧ Q (.bl (decide (n = n2 ∧ ar = ar2))) H) ∨ ((v = .non ∨ (∃ i, v = .int i) ∨ (∃ a xs, v = .ref a ∧ Sq2 H a xs)) ∧ Q (.bl false) H))
def sp_check_web (C : Addr) : Sp := fun vs H Q _ => ∃ (p : Addr) (n : Int) (ar : List (Int × Int)), vs = [.ref p] ∧ WebAt C H p n ar ∧ Q .non H
def sp_turned_web (C : Addr) : Sp := fun vs H Q _ => ∃ (p : Addr) (n : Int) (ar : List (Int × Int)), vs = [.ref p] ∧ WebAt C H p n ar ∧ Good n ar ∧ ∀ H' q, Ex H H' → WebAt C (nw H H') q n (ar.map fun p => (p.2, p.1)) → Q (.ref q) H'
def sp_is_row (C : Addr) : Sp := fun vs H Q _ => ∃ (p a : Addr) (n : Int) (ar : List (Int × Int)) (ns : List Int), vs = [.ref p, .ref a] ∧ WebAt C H p n ar ∧ IS H a ns ∧ RowOk n ns ∧ ∀ H', Ex H H' → Q (.bl true) H'
def sp_check_row (C : Addr) : Sp := fun vs H Q _ => ∃ (p a : Addr) (n : Int) (ar : List (Int × Int)) (ns : List Int), vs = [.ref p, .ref a] ∧ WebAt C H p n ar ∧ IS H a ns ∧ RowOk n ns ∧ ∀ H', Ex H H' → Q .non H'
/-- the turns of the search for a ring -/
def WRing (H : Hp) (a : Addr) (rk : Int → Int) (m : Nat) (σ : L2.St) (H2 : Hp) : Prop := ∃ (l : Addr) (xs2 : List V) (ar2 : List (Int × Int)) (v2 v3 v4 v5 v6 : Option V),
  σ = [some (.ref a), some (.ref l), v2, v3, v4, v5, v6] ∧ Ex H H2 ∧ H2 l = some (.lst xs2) ∧ Ar H2 xs2 ar2 ∧ (∀ p ∈ ar2, rk p.1 < rk p.2) ∧ ar2.length ≤ 12 ∧ m = ar2.length
def PotAt (H : Hp) (p : Addr) : Prop := ∃ x y : Int, H p = some (.lst [.int x, .int y]) ∧ 0 ≤ x ∧ 0 ≤ y ∧ y ≤ 2147483563
theorem PotAt.some {H : Hp} {p : Addr} (h : PotAt H p) : ∃ o, H p = some o := by obtain ⟨x, y, e, _⟩ := h; exact ⟨_, e⟩
theorem PotAt.mono {H H' : Hp} (e : Ex H H') {p : Addr} (h : PotAt H p) : PotAt H' p := by
  obtain ⟨x, y, h, k⟩ := h
  exact ⟨x, y, e _ _ h, k⟩
def sp__law_pot (K : PySem.W.Frag) : Sp := fun vs H Q _ => ∃ (a : Addr) (ns : List Int), vs = [.ref a, .int 0] ∧ SqL K H a (ns.map V.int) ∧ ∀ p H', Ex H H' → PotAt H' p → Q (.ref p) H'
def sp__law_draw : Sp := fun vs H Q _ => ∃ (p : Addr) (n : Int), vs = [.ref p, .int n] ∧ PotAt H p ∧ 0 < n ∧ n ≤ 100000 ∧ ∀ d H', 0 ≤ d → d < n → Ex (dr p H) (dr p H') → PotAt H' p → Q (.int d) H'
/-- the order: a list of unlike numbers 0 .. n - 1 -/
def sp__law_order : Sp := fun vs H Q _ => ∃ (p : Addr) (n : Int), vs = [.ref p, .int n] ∧ PotAt H p ∧ 0 ≤ n ∧ n ≤ 1000 ∧ ∀ q os H', (os.length : Int) = n → os.Nodup → (∀ z ∈ os, 0 ≤ z ∧ z < n) → H q = none → Ex (dr p H) (dr p H') → PotAt H' p → IL H' q os → Q (.ref q) H'
def WOrder (H : Hp) (p : Addr) (n : Int) (l f : Addr) (m : Nat) (σ : L2.St) (H2 : Hp) : Prop := ∃ ls fs : List Int, σ = [some (.ref p), some (.int n), some (.ref l), some (.ref f)] ∧ Ex (dr p H) (dr p H2) ∧ PotAt H2 p ∧
  H2 l = some (.lst (ls.map V.int)) ∧ H2 f = some (.lst (fs.map V.int)) ∧ (ls ++ fs).Perm ((List.range n.toNat).map fun (i : Nat) => (i : Int)) ∧ m = ls.length
def WRow (H : Hp) (p : Addr) (n m : Int) (f : Addr) (i : Nat) (σ : L2.St) (H5 : Hp) : Prop := ∃ (ns : List Int) (v4 : Option V), σ = [some (.ref p), some (.int n), some (.int m), some (.ref f), v4] ∧ Ex (dr p H) (dr p H5) ∧ PotAt H5 p ∧
  H5 f = some (.lst (ns.map V.int)) ∧ ns.length = i ∧ ∀ z ∈ ns, 0 ≤ z ∧ z ≤ m
/-- a web's places and arrows -/
def PA2 (H : Hp) (t : Addr) (n : Int) (ar : List (Int × Int)) : Prop := ∃ l xs, H t = some (.tup [.int n, .ref l]) ∧ H l = some (.lst xs) ∧ Ar H xs ar
theorem PA2.mono {H H' : Hp} (e : Ex H H') {t : Addr} {n : Int} {ar : List (Int × Int)} (h : PA2 H t n ar) : PA2 H' t n ar := by
  obtain ⟨l, xs, h1, h2, h3⟩ := h
  exact ⟨l, xs, e _ _ h1, e _ _ h2, h3.mono e⟩
def sp__law_web : Sp := fun vs H Q _ => ∃ (p : Addr) (lo hi m : Int), vs = [.ref p, .int lo, .int hi, .int m] ∧ PotAt H p ∧ 1 ≤ lo ∧ lo ≤ hi ∧ hi ≤ 13 ∧ 0 ≤ m ∧ m ≤ 12 ∧
  ∀ t n ar H', Good n ar → lo ≤ n → n ≤ hi → (ar.length : Int) ≤ m → Ex (dr p H) (dr p H') → PotAt H' p → PA2 (nw H H') t n ar → Q (.ref t) H'
def sp__law_row : Sp := fun vs H Q _ => ∃ (p : Addr) (n m : Int), vs = [.ref p, .int n, .int m] ∧ PotAt H p ∧ 0 ≤ n ∧ n ≤ 13 ∧ 0 ≤ m ∧ m ≤ 1000 ∧
  ∀ q ns H', (ns.length : Int) = n → (∀ z ∈ ns, 0 ≤ z ∧ z ≤ m) → H q = none → Ex (dr p H) (dr p H') → PotAt H' p → IL H' q ns → Q (.ref q) H'
def sp__law_right : Sp := fun vs H Q _ => ∃ p : Addr, vs = [.ref p] ∧ PotAt H p ∧ ∀ H', Q (.bl true) H'
def sp_law (K : PySem.W.Frag) : Sp := fun vs H Q _ => ∃ (a : Addr) (ns : List Int), vs = [.ref a] ∧ SqL K H a (ns.map V.int) ∧ ∀ H', Q (.bl true) H'
def KBw : List Value → List Value → List Value := fun us ws => us ++ ws.reverse
def KBv : List V → List V → List V := fun us ws => us ++ ws.reverse
theorem sum_bound {m : Int} : ∀ ns : List Int, (∀ z ∈ ns, 0 ≤ z ∧ z ≤ m) → ns.sum ≤ (ns.length : Int) * m
  | [], _ => by simp
  | a :: r, h => by
    have h1 := h a List.mem_cons_self
    have h2 := sum_bound r fun z hz => h z (List.mem_cons_of_mem _ hz)
    rw [List.sum_cons, List.length_cons, Int.natCast_add, Int.add_mul]
    show a + r.sum ≤ (r.length : Int) * m + 1 * m
    omega

theorem Good.rise {n : Int} {ar : List (Int × Int)} (G : Good n ar) : ∃ r, Rise r ar := G.ac
theorem rise_h {r : Int → Int} {ar : List (Int × Int)} (h : ar.length ≤ 12) (v : Int) : hgt r ar v < 13 := Nat.lt_of_le_of_lt (hgt_le v) (by omega)
def sp_Web_many (C : Addr) : Sp := fun vs H Q _ => ∃ (p : Addr) (n : Int) (ar : List (Int × Int)), vs = [.ref p] ∧ WebAt C H p n ar ∧ Q (.int (ar.length : Nat)) H
def sp_check_place (C : Addr) : Sp := fun vs H Q _ => ∃ (p : Addr) (n : Int) (ar : List (Int × Int)) (x : Int), vs = [.ref p, .int x] ∧ WebAt C H p n ar ∧ 0 ≤ x ∧ x < n ∧ Q .non H
/-- the ways, where fewer than k arrows begin at x or above -/
def sp_waysK (k : Nat) : Sp := fun vs H Q _ => ∃ (a : Addr) (xs : List V) (ar : List (Int × Int)) (x y : Int) (r : Int → Int), vs = [.ref a, .int x, .int y] ∧ H a = some (.lst xs) ∧ Ar H xs ar ∧ Rise r ar ∧ ar.length ≤ 12 ∧ hgt r ar x < k ∧
  ∀ H' q zs, Ex H H' → H q = none → H' q = some (.lst zs) → Wl H' zs (waysF ar k x y) → Q (.ref q) H'
def sp__ways : Sp := sp_waysK 13
/-- sorted ways -/
def ToWays (H : Hp) (ar : List (Int × Int)) (x y : Int) (Q : VK) : Prop := ∀ H' q zs ws, Ex H H' → H q = none → H' q = some (.lst zs) → Wl H' zs ws → SrtL ws → ws.Perm (waysF ar 13 x y) → Q (.ref q) H'
def sp_Web_ways (C : Addr) : Sp := fun vs H Q _ => ∃ (p : Addr) (n : Int) (ar : List (Int × Int)) (x y : Int), vs = [.ref p, .int x, .int y] ∧ WebAt C H p n ar ∧ Good n ar ∧ 0 ≤ x ∧ x < n ∧ 0 ≤ y ∧ y < n ∧ ToWays H ar x y Q
def sp_check_sizes : Sp := fun vs H Q _ => ∃ (a : Addr) (ns : List Int), vs = [.ref a] ∧ IL H a ns ∧ (∀ z ∈ ns, z ≤ 6) ∧ ns.length ≤ 13 ∧ ns.sum ≤ 24 ∧ ∀ H', Ex H H' → Q .non H'
def sp_form (C : Addr) : Sp := fun vs H Q _ => ∃ (p a b : Addr) (n : Int) (ar : List (Int × Int)) (ns ms : List Int), vs = [.ref p, .ref a, .ref b] ∧ WebAt C H p n ar ∧ (∀ p ∈ ar, OkAr n p) ∧ ar.length ≤ 12 ∧ IS H a ns ∧ RowOk n ns ∧ IL H b ms ∧ RowOk n ms ∧ ∀ H', Ex H H' → Q (.int (formM ar ns ms)) H'
def unitW (x : Int) : Int → Int := fun v => if v = x then 1 else 0
def sp_simple_row (C : Addr) : Sp := fun vs H Q _ => ∃ (p : Addr) (n : Int) (ar : List (Int × Int)) (x : Int), vs = [.ref p, .int x] ∧ WebAt C H p n ar ∧ n ≤ 13 ∧ 0 ≤ x ∧ x < n ∧ ∀ H' q, Ex H H' → H q = none → IL H' q (vecM n.toNat (unitW x)) → Q (.ref q) H'
def sp_ways_row (C : Addr) : Sp := fun vs H Q _ => ∃ (p : Addr) (n : Int) (ar : List (Int × Int)) (x : Int), vs = [.ref p, .int x] ∧ WebAt C H p n ar ∧ Good n ar ∧ 0 ≤ x ∧ x < n ∧ (∀ z ∈ vecM n.toNat (cntW ar 13 x), z ≤ 6) ∧ (vecM n.toNat (cntW ar 13 x)).sum ≤ 24 ∧ ∀ H' q, Ex H H' → IL H' q (vecM n.toNat (cntW ar 13 x)) → Q (.ref q) H'
def sp__law_ways : Sp := fun vs H Q _ => ∃ (a : Addr) (xs : List V) (ar : List (Int × Int)) (n x y : Int), vs = [.ref a, .int x, .int y] ∧ H a = some (.lst xs) ∧ Ar H xs ar ∧ Good n ar ∧ ToWays H ar x y Q
def sp__law_form : Sp := fun vs H Q _ => ∃ (a b c : Addr) (xs : List V) (n : Int) (ar : List (Int × Int)) (ns ms : List Int), vs = [.ref a, .ref b, .ref c] ∧ H a = some (.lst xs) ∧ Ar H xs ar ∧ (∀ p ∈ ar, OkAr n p) ∧ ar.length ≤ 12 ∧ IL H b ns ∧ RowOk n ns ∧ IL H c ms ∧ RowOk n ms ∧ ∀ H', Ex H H' → Q (.int (formM ar ns ms)) H'
def sp__law_ways_right (C : Addr) : Sp := fun vs H Q _ => ∃ (p a : Addr) (xs : List V) (n : Int) (ar : List (Int × Int)) (x : Int), vs = [.ref p, .ref a, .int x] ∧ WebAt C H p n ar ∧ Good n ar ∧ H a = some (.lst xs) ∧ Ar H xs ar ∧ 0 ≤ x ∧ x < n ∧ ∀ H', Ex H H' → Q (.bl true) H'
def sp__law_forms_right (C : Addr) : Sp := fun vs H Q _ => ∃ (p a b c d : Addr) (xs : List V) (n : Int) (ar : List (Int × Int)) (ns ms ts : List Int), vs = [.ref p, .ref a, .ref b, .ref c, .ref d] ∧ WebAt C H p n ar ∧ Good n ar ∧ H a = some (.lst xs) ∧ Ar H xs ar ∧ IL H b ns ∧ RowOk n ns ∧ IL H c ms ∧ RowOk n ms ∧ IL H d ts ∧ RowOk n ts ∧ RowOk n (addM ns ts) ∧ ∀ H', Ex H H' → Q (.bl true) H'
def sp__law_simple_right (C : Addr) : Sp := fun vs H Q _ => ∃ (p a : Addr) (xs : List V) (b : Addr) (n : Int) (ar : List (Int × Int)) (x : Int) (ms : List Int), vs = [.ref p, .ref a, .int x, .ref b] ∧ WebAt C H p n ar ∧ Good n ar ∧ H a = some (.lst xs) ∧ Ar H xs ar ∧ 0 ≤ x ∧ x < n ∧ IL H b ms ∧ RowOk n ms ∧ ∀ H', Ex H H' → Q (.bl true) H'

/-- web != another web -/
theorem neqWeb {K : PySem.W.Frag} {C : Addr} {H : Hp} {Q : VK} {p p2 : Addr} {n n2 : Int} {ar ar2 : List (Int × Int)} (h : WebAt C H p n ar) (h2 : WebAt C H p2 n2 ar2) (q : Q (.bl (!decide (n = n2 ∧ ar = ar2))) H) : rNeOwn K C (sp_Web__eq_ C) E0 (.ref p) (.ref p2) H Q := by
  obtain ⟨dx, l, xs, h1, _, _⟩ := id h
  obtain ⟨dx2, l2, xs2, g1, _, _⟩ := id h2
  exact ⟨p, dx, _, .ref C, rfl, h1, .ins g1, nf_self, p, n, ar, .ref p2, rfl, h, .inl ⟨p2, n2, ar2, rfl, h2, _, rfl, q⟩⟩

/-- the ways found behind i arrows -/
def gW (ar : List (Int × Int)) (k : Nat) (x y : Int) (i : Nat) : List (List Int) := (ar.zipIdx.take i).flatMap (extF ar (fun z => waysF ar k z y) x)
theorem gW_zero {ar : List (Int × Int)} {k : Nat} {x y : Int} : gW ar k x y 0 = [] := by simp [gW]
theorem gW_succ {ar : List (Int × Int)} {k : Nat} {x y : Int} {i : Nat} {p : Int × Int} (h : ar[i]? = some p) : gW ar k x y (i + 1) = gW ar k x y i ++ (if p.1 = x then (waysF ar k p.2 y).map (fun w => (i : Int) :: w) else []) := by
  unfold gW
  have e : ar.zipIdx[i]? = some (p, i) := by rw [List.getElem?_zipIdx, h]; simp
  rw [List.take_add_one, e, List.flatMap_append]
  simp [extF]
theorem gW_all {ar : List (Int × Int)} {k : Nat} {x y : Int} (c : ¬ x = y) : gW ar k x y ar.length = waysF ar (k + 1) x y := by
  unfold gW
  rw [List.take_of_length_le (by simp)]
  conv => rhs; unfold waysF
  rw [if_neg c]
theorem gW_len {r : Int → Int} {ar : List (Int × Int)} (hr : Rise r ar) (hl : ar.length ≤ 12) {k : Nat} {x y : Int} (c : ¬ x = y) (i : Nat) : (gW ar k x y i).length ≤ 4096 := by
  have h1 := ways_len hr (y := y) (f := k + 1) (x := x)
  have h2 := pow_small (r := r) hl (v := x)
  rw [← gW_all c] at h1
  have h3 : (gW ar k x y i).length ≤ (gW ar k x y ar.length).length := by
    unfold gW
    rw [List.take_of_length_le (show ar.zipIdx.length ≤ ar.length by simp)]
    have e : ar.zipIdx.flatMap (extF ar (fun z => waysF ar k z y) x) = (ar.zipIdx.take i).flatMap (extF ar (fun z => waysF ar k z y) x) ++ (ar.zipIdx.drop i).flatMap (extF ar (fun z => waysF ar k z y) x) := by
      rw [← List.flatMap_append, List.take_append_drop]
    rw [e, List.length_append]; omega
  omega
def WWay (H : Hp) (a : Addr) (x y : Int) (g : Addr) (ar : List (Int × Int)) (k : Nat) (i : Nat) (σ : L2.St) (H2 : Hp) : Prop := ∃ (v4 v5 v6 : Option V) (zs : List V), σ = [some (.ref a), some (.int x), some (.int y), some (.ref g), v4, v5, v6, none] ∧ Ex H (dr g H2) ∧ H2 g = some (.lst zs) ∧ Wl H2 zs (gW ar k x y i)
/-- a way of these webs has at most 12 arrows -/
theorem way_len {r : Int → Int} {ar : List (Int × Int)} (hr : Rise r ar) (hl : ar.length ≤ 12) {f : Nat} {x y : Int} (h : hgt r ar x < f) {w : List Int} (hw : w ∈ waysF ar f x y) : w.length ≤ 12 := by
  have h1 := pth_mid hr ((mem_waysF hr h).mp hw)
  have h2 := hgt_le (r := r) (ar := ar) x
  omega
theorem ways_ne {r : Int → Int} {ar : List (Int × Int)} (hr : Rise r ar) {f : Nat} {x y : Int} (h : hgt r ar x < f) (h2 : 2 ≤ (waysF ar f x y).length) : ∀ w ∈ waysF ar f x y, w ≠ [] := by
  intro w hw e
  subst e
  have e : x = y := (mem_waysF hr h).mp hw
  subst e
  obtain ⟨f, rfl⟩ : ∃ f0, f = f0 + 1 := ⟨f - 1, by omega⟩
  unfold waysF at h2
  rw [if_pos rfl] at h2
  simp at h2

section
variable {ar : List (Int × Int)} {x y : Int} {k j i : Nat} {g : List Int × Int}
def hitP (ar : List (Int × Int)) (x y : Int) (k j : Nat) : List (List Int) := ((goN ar x k).take j).flatMap (hitG y)
def nxtP (ar : List (Int × Int)) (x : Int) (k j : Nat) : List (List Int × Int) := ((goN ar x k).take j).flatMap (nextG ar)
def stpP (ar : List (Int × Int)) (g : List Int × Int) (i : Nat) : List (List Int × Int) := (ar.zipIdx.take i).flatMap (stepG ar g)
theorem hitP_zero : hitP ar x y k 0 = [] := by simp [hitP]
theorem nxtP_zero : nxtP ar x k 0 = [] := by simp [nxtP]
theorem stpP_zero : stpP ar g 0 = [] := by simp [stpP]
theorem hitP_succ (h : (goN ar x k)[j]? = some g) : hitP ar x y k (j + 1) = hitP ar x y k j ++ hitG y g := by
  unfold hitP; rw [List.take_add_one, h, List.flatMap_append]; simp
theorem nxtP_succ (h : (goN ar x k)[j]? = some g) : nxtP ar x k (j + 1) = nxtP ar x k j ++ nextG ar g := by
  unfold nxtP; rw [List.take_add_one, h, List.flatMap_append]; simp
theorem stpP_succ {p : Int × Int} (h : ar[i]? = some p) : stpP ar g (i + 1) = stpP ar g i ++ stepG ar g (p, i) := by
  have e : ar.zipIdx[i]? = some (p, i) := by rw [List.getElem?_zipIdx, h]; simp
  unfold stpP; rw [List.take_add_one, e, List.flatMap_append]; simp
theorem hitP_all : fndN ar x y k ++ hitP ar x y k (goN ar x k).length = fndN ar x y (k + 1) := by
  unfold hitP; rw [List.take_length]; rfl
theorem nxtP_all : nxtP ar x k (goN ar x k).length = goN ar x (k + 1) := by
  unfold nxtP; rw [List.take_length]; rfl
theorem stpP_all : stpP ar g ar.length = nextG ar g := by
  unfold stpP nextG; rw [List.take_of_length_le (by simp)]
theorem fnd_len {r : Int → Int} (hr : Rise r ar) (hl : ar.length ≤ 12) (hk : k ≤ 13) : (fndN ar x y k ++ hitP ar x y k j).length < 90000 := by
  have h1 := fndN_len hr hl (x := x) (y := y) (k := k)
  have h2 := hit_len y ((goN ar x k).take j)
  have h3 := goN_len hr (x := x) (k := k)
  have h4 := pow_small (r := r) hl (v := x)
  have h5 : ((goN ar x k).take j).length ≤ (goN ar x k).length := by rw [List.length_take]; omega
  have h6 : k * 4096 ≤ 13 * 4096 := Nat.mul_le_mul_right _ hk
  unfold hitP
  rw [List.length_append]; omega
theorem nxt_len {r : Int → Int} (hr : Rise r ar) (hl : ar.length ≤ 12) (h : (goN ar x k)[j]? = some g) : (nxtP ar x k j ++ stpP ar g i).length ≤ 4096 := by
  have h3 := goN_len hr (x := x) (k := k + 1)
  have h4 := pow_small (r := r) hl (v := x)
  have e1 : stpP ar g i ++ (ar.zipIdx.drop i).flatMap (stepG ar g) = nextG ar g := by
    unfold stpP nextG
    rw [← List.flatMap_append, List.take_append_drop]
  have e2 : nxtP ar x k (j + 1) ++ ((goN ar x k).drop (j + 1)).flatMap (nextG ar) = goN ar x (k + 1) := by
    unfold nxtP
    rw [← List.flatMap_append, List.take_append_drop]; rfl
  have l1 := congrArg List.length e1
  have l2 := congrArg List.length e2
  rw [nxtP_succ h] at l2
  simp only [List.length_append] at l1 l2 ⊢
  omega
end
def WLev (H : Hp) (a : Addr) (x y : Int) (f : Addr) (ar : List (Int × Int)) (m : Nat) (σ : L2.St) (H2 : Hp) : Prop := ∃ (k : Nat) (gq : Addr) (v5 v6 v7 v8 v9 : Option V) (zs gs : List V),
  σ = [some (.ref a), some (.int x), some (.int y), some (.ref f), some (.ref gq), v5, v6, v7, v8, v9] ∧ Ex H H2 ∧ H2 f = some (.lst zs) ∧ Wl H2 zs (fndN ar x y k) ∧ H2 gq = some (.lst gs) ∧ Gl' H2 gs (goN ar x k) ∧ gq ≠ f ∧ k ≤ 13 ∧ m = 13 - k
def WGo (H : Hp) (a : Addr) (x y : Int) (f gq l : Addr) (ar : List (Int × Int)) (k : Nat) (gs : List V) (j : Nat) (σ : L2.St) (H2 : Hp) : Prop := ∃ (v6 v7 v8 v9 : Option V) (zs ls : List V),
  σ = [some (.ref a), some (.int x), some (.int y), some (.ref f), some (.ref gq), some (.ref l), v6, v7, v8, v9] ∧ Ex H H2 ∧ H2 f = some (.lst zs) ∧ Wl H2 zs (fndN ar x y k ++ hitP ar x y k j) ∧ H2 gq = some (.lst gs) ∧ Gl' H2 gs (goN ar x k) ∧ H2 l = some (.lst ls) ∧ Gl' H2 ls (nxtP ar x k j)
def WAr (H : Hp) (a : Addr) (x y : Int) (f gq l : Addr) (ar : List (Int × Int)) (k : Nat) (gs : List V) (j : Nat) (g : List Int × Int) (u : Addr) (i : Nat) (σ : L2.St) (H2 : Hp) : Prop := ∃ (v8 v9 : Option V) (zs ls : List V),
  σ = [some (.ref a), some (.int x), some (.int y), some (.ref f), some (.ref gq), some (.ref l), some (.ref u), some (.int g.2), v8, v9] ∧ Ex H H2 ∧ H2 f = some (.lst zs) ∧ Wl H2 zs (fndN ar x y k ++ hitP ar x y k (j + 1)) ∧ H2 gq = some (.lst gs) ∧ Gl' H2 gs (goN ar x k) ∧ H2 l = some (.lst ls) ∧ Gl' H2 ls (nxtP ar x k j ++ stpP ar g i) ∧ H2 u = some (.tup (g.1.map V.int))

def WWR (H1 : Hp) (p a : Addr) (x : Int) (b c : Addr) (ar : List (Int × Int)) (i : Nat) (σ : L2.St) (H2 : Hp) : Prop := ∃ (v5 v6 : Option V), σ = [some (.ref p), some (.ref a), some (.int x), some (.ref b), some (.ref c), v5, v6, none] ∧ Ex H1 H2 ∧ H2 c = some (.lst ((vecM i (cntW ar 13 x)).map V.int))
theorem vec_snoc (i : Nat) (f : Int → Int) : (vecM (i + 1) f).map V.int = (vecM i f).map V.int ++ [.int (f (i : Int))] := by simp [vecM, List.range_succ]

def WFin (H5 : Hp) (p : Addr) (n : Int) (l x q1 q2 q3 : Addr) (i : Nat) (σ : L2.St) (H6 : Hp) : Prop := ∃ v7 : Option V, σ = [some (.ref p), some (.int n), some (.ref l), some (.ref x), some (.ref q1), some (.ref q2), some (.ref q3), v7, none, none, none] ∧ Ex H5 H6
theorem row_to4 {n : Int} {ns : List Int} (n5 : n ≤ 5) (hl : (ns.length : Int) = n) (h : ∀ z ∈ ns, 0 ≤ z ∧ z ≤ 4) : RowOk n ns := by
  have hs := sum_bound ns h
  exact ⟨hl, fun z hz => by have := h z hz; omega, by omega, by omega⟩
theorem add_in {ns ts : List Int} (h : ∀ z ∈ ns, 0 ≤ z ∧ z ≤ 3) (h2 : ∀ z ∈ ts, 0 ≤ z ∧ z ≤ 1) : ∀ z ∈ addM ns ts, 0 ≤ z ∧ z ≤ 4 := by
  intro z hz
  obtain ⟨q, hq, rfl⟩ := List.mem_map.mp hz
  obtain ⟨a, b⟩ := List.of_mem_zip (show (q.1, q.2) ∈ ns.zip ts from hq)
  have := h _ a
  have := h2 _ b
  omega
theorem ways_self {ar : List (Int × Int)} {f : Nat} {x : Int} : waysF ar (f + 1) x x = [[]] := by unfold waysF; rw [if_pos rfl]
def KBw2 : List Value → List Value → List Value := fun us ws => us ++ (ws.take 2).reverse
def KBv2 : List V → List V → List V := fun us ws => us ++ (ws.take 2).reverse
theorem p2_take {α β : Type} {R : α → β → Prop} : ∀ (n : Nat) {xs : List α} {ys : List β}, Paired R xs ys → Paired R (xs.take n) (ys.take n)
  | 0, _, _, _ => by simpa using Paired.nil
  | n + 1, _, _, .nil => .nil
  | n + 1, _, _, .cons r q => by simpa using Paired.cons r (p2_take n q)
structure Txt (K : PySem.W.Frag) (mg : Str → Option Value) where
  q_Web_many : Addr
  q_Web_places : Addr
  C_Web : Addr
  a_is_integer : Addr
  d_is_integer : FuncData
  a_is_count : Addr
  d_is_count : FuncData
  a__is_arrow : Addr
  d__is_arrow : FuncData
  a__have_ring : Addr
  d__have_ring : FuncData
  a__are_arrows : Addr
  d__are_arrows : FuncData
  a_Web__init_ : Addr
  d_Web__init_ : FuncData
  a_Web_places : Addr
  d_Web_places : FuncData
  a_Web_many : Addr
  d_Web_many : FuncData
  a_Web_arrows : Addr
  d_Web_arrows : FuncData
  a_check_place : Addr
  d_check_place : FuncData
  a__ways : Addr
  d__ways : FuncData
  a_Web_ways : Addr
  d_Web_ways : FuncData
  a_Web__eq_ : Addr
  d_Web__eq_ : FuncData
  a_check_web : Addr
  d_check_web : FuncData
  a_turned_web : Addr
  d_turned_web : FuncData
  a_is_row : Addr
  d_is_row : FuncData
  a_check_row : Addr
  d_check_row : FuncData
  a_check_sizes : Addr
  d_check_sizes : FuncData
  a_form : Addr
  d_form : FuncData
  a_simple_row : Addr
  d_simple_row : FuncData
  a_ways_row : Addr
  d_ways_row : FuncData
  a__law_pot : Addr
  d__law_pot : FuncData
  a__law_draw : Addr
  d__law_draw : FuncData
  a__law_order : Addr
  d__law_order : FuncData
  a__law_web : Addr
  d__law_web : FuncData
  a__law_row : Addr
  d__law_row : FuncData
  a__law_ways : Addr
  d__law_ways : FuncData
  a__law_form : Addr
  d__law_form : FuncData
  a__law_ways_right : Addr
  d__law_ways_right : FuncData
  a__law_forms_right : Addr
  d__law_forms_right : FuncData
  a__law_simple_right : Addr
  d__law_simple_right : FuncData
  a__law_right : Addr
  d__law_right : FuncData
  a_law : Addr
  d_law : FuncData
  F_is_integer : Fun K "is_integer" "is_integer" sis_integer a_is_integer d_is_integer
  b_is_integer : Binds K d_is_integer ["value"] []
  m_is_integer : mg "is_integer" = some (.ref a_is_integer)
  F_is_count : Fun K "is_count" "is_count" sis_count a_is_count d_is_count
  b_is_count : Binds K d_is_count ["value"] []
  m_is_count : mg "is_count" = some (.ref a_is_count)
  F__is_arrow : Fun K "_is_arrow" "_is_arrow" s_is_arrow a__is_arrow d__is_arrow
  b__is_arrow : Binds K d__is_arrow ["places", "arrow"] []
  m__is_arrow : mg "_is_arrow" = some (.ref a__is_arrow)
  F__have_ring : Fun K "_have_ring" "_have_ring" s_have_ring a__have_ring d__have_ring
  b__have_ring : Binds K d__have_ring ["arrows"] []
  m__have_ring : mg "_have_ring" = some (.ref a__have_ring)
  F__are_arrows : Fun K "_are_arrows" "_are_arrows" s_are_arrows a__are_arrows d__are_arrows
  b__are_arrows : Binds K d__are_arrows ["places", "arrows"] []
  m__are_arrows : mg "_are_arrows" = some (.ref a__are_arrows)
  F_Web__init_ : Fun K "__init__" "Web.__init__" sWeb__init_ a_Web__init_ d_Web__init_
  b_Web__init_ : Binds K d_Web__init_ ["self", "places", "arrows"] []
  F_Web_places : Fun K "places" "Web.places" sWeb_places a_Web_places d_Web_places
  b_Web_places : Binds K d_Web_places ["self"] []
  F_Web_many : Fun K "many" "Web.many" sWeb_many a_Web_many d_Web_many
  b_Web_many : Binds K d_Web_many ["self"] []
  F_Web_arrows : Fun K "arrows" "Web.arrows" sWeb_arrows a_Web_arrows d_Web_arrows
  b_Web_arrows : Binds K d_Web_arrows ["self"] []
  F_check_place : Fun K "check_place" "check_place" scheck_place a_check_place d_check_place
  b_check_place : Binds K d_check_place ["web", "place"] []
  m_check_place : mg "check_place" = some (.ref a_check_place)
  F__ways : Fun K "_ways" "_ways" s_ways a__ways d__ways
  b__ways : Binds K d__ways ["arrows", "place", "other"] []
  m__ways : mg "_ways" = some (.ref a__ways)
  F_Web_ways : Fun K "ways" "Web.ways" sWeb_ways a_Web_ways d_Web_ways
  b_Web_ways : Binds K d_Web_ways ["self", "place", "other"] []
  F_Web__eq_ : Fun K "__eq__" "Web.__eq__" sWeb__eq_ a_Web__eq_ d_Web__eq_
  b_Web__eq_ : Binds K d_Web__eq_ ["self", "other"] []
  F_check_web : Fun K "check_web" "check_web" scheck_web a_check_web d_check_web
  b_check_web : Binds K d_check_web ["web"] []
  m_check_web : mg "check_web" = some (.ref a_check_web)
  F_turned_web : Fun K "turned_web" "turned_web" sturned_web a_turned_web d_turned_web
  b_turned_web : Binds K d_turned_web ["web"] []
  m_turned_web : mg "turned_web" = some (.ref a_turned_web)
  F_is_row : Fun K "is_row" "is_row" sis_row a_is_row d_is_row
  b_is_row : Binds K d_is_row ["web", "value"] []
  m_is_row : mg "is_row" = some (.ref a_is_row)
  F_check_row : Fun K "check_row" "check_row" scheck_row a_check_row d_check_row
  b_check_row : Binds K d_check_row ["web", "row"] []
  m_check_row : mg "check_row" = some (.ref a_check_row)
  F_check_sizes : Fun K "check_sizes" "check_sizes" scheck_sizes a_check_sizes d_check_sizes
  b_check_sizes : Binds K d_check_sizes ["sizes"] []
  m_check_sizes : mg "check_sizes" = some (.ref a_check_sizes)
  F_form : Fun K "form" "form" sform a_form d_form
  b_form : Binds K d_form ["web", "row", "other"] []
  m_form : mg "form" = some (.ref a_form)
  F_simple_row : Fun K "simple_row" "simple_row" ssimple_row a_simple_row d_simple_row
  b_simple_row : Binds K d_simple_row ["web", "place"] []
  m_simple_row : mg "simple_row" = some (.ref a_simple_row)
  F_ways_row : Fun K "ways_row" "ways_row" sways_row a_ways_row d_ways_row
  b_ways_row : Binds K d_ways_row ["web", "place"] []
  m_ways_row : mg "ways_row" = some (.ref a_ways_row)
  F__law_pot : Fun K "_law_pot" "_law_pot" s_law_pot a__law_pot d__law_pot
  b__law_pot : Binds K d__law_pot ["script", "k"] []
  m__law_pot : mg "_law_pot" = some (.ref a__law_pot)
  F__law_draw : Fun K "_law_draw" "_law_draw" s_law_draw a__law_draw d__law_draw
  b__law_draw : Binds K d__law_draw ["pot", "sides"] []
  m__law_draw : mg "_law_draw" = some (.ref a__law_draw)
  F__law_order : Fun K "_law_order" "_law_order" s_law_order a__law_order d__law_order
  b__law_order : Binds K d__law_order ["pot", "many"] []
  m__law_order : mg "_law_order" = some (.ref a__law_order)
  F__law_web : Fun K "_law_web" "_law_web" s_law_web a__law_web d__law_web
  b__law_web : Binds K d__law_web ["pot", "least", "most", "arrows"] []
  m__law_web : mg "_law_web" = some (.ref a__law_web)
  F__law_row : Fun K "_law_row" "_law_row" s_law_row a__law_row d__law_row
  b__law_row : Binds K d__law_row ["pot", "places", "most"] []
  m__law_row : mg "_law_row" = some (.ref a__law_row)
  F__law_ways : Fun K "_law_ways" "_law_ways" s_law_ways a__law_ways d__law_ways
  b__law_ways : Binds K d__law_ways ["arrows", "place", "other"] []
  m__law_ways : mg "_law_ways" = some (.ref a__law_ways)
  F__law_form : Fun K "_law_form" "_law_form" s_law_form a__law_form d__law_form
  b__law_form : Binds K d__law_form ["arrows", "row", "other"] []
  m__law_form : mg "_law_form" = some (.ref a__law_form)
  F__law_ways_right : Fun K "_law_ways_right" "_law_ways_right" s_law_ways_right a__law_ways_right d__law_ways_right
  b__law_ways_right : Binds K d__law_ways_right ["web", "arrows", "place"] []
  m__law_ways_right : mg "_law_ways_right" = some (.ref a__law_ways_right)
  F__law_forms_right : Fun K "_law_forms_right" "_law_forms_right" s_law_forms_right a__law_forms_right d__law_forms_right
  b__law_forms_right : Binds K d__law_forms_right ["web", "arrows", "one", "two", "three"] []
  m__law_forms_right : mg "_law_forms_right" = some (.ref a__law_forms_right)
  F__law_simple_right : Fun K "_law_simple_right" "_law_simple_right" s_law_simple_right a__law_simple_right d__law_simple_right
  b__law_simple_right : Binds K d__law_simple_right ["web", "arrows", "place", "row"] []
  m__law_simple_right : mg "_law_simple_right" = some (.ref a__law_simple_right)
  F__law_right : Fun K "_law_right" "_law_right" s_law_right a__law_right d__law_right
  b__law_right : Binds K d__law_right ["pot"] []
  m__law_right : mg "_law_right" = some (.ref a__law_right)
  F_law : Fun K "law" "law" slaw a_law d_law
  b_law : Binds K d_law ["script"] []
  m_law : mg "law" = some (.ref a_law)
  m_Web : mg "Web" = some (.ref C_Web)
  cl_Web : Cls K C_Web
  mk_Web : Mk K C_Web a_Web__init_
  hc1_Web : PySem.W.findIn K (.ref C_Web) "__class__" = some (some (.builtin "object.__class__"))
  hc4_Web : PySem.W.mroIn K C_Web (.type "object") = some true
  is_Web : PySem.W.isClsIn K C_Web = true
  ty_Web : PySem.W.typeIn K (.ref C_Web) = some (.type "type")
  nf_Web_places : NoAttr K C_Web "_places"
  nf_Web_arrows : NoAttr K C_Web "_arrows"
  p_Web_places : PropOf K C_Web "places" q_Web_places a_Web_places
  p_Web_many : PropOf K C_Web "many" q_Web_many a_Web_many
  me_Web_arrows : Meth K C_Web "arrows" a_Web_arrows
  me_Web_ways : Meth K C_Web "ways" a_Web_ways
  eq_Web : PySem.W.findIn K (.ref C_Web) "__eq__" = some (some (.ref a_Web__eq_))
  fe_Web : PySem.W.isFn K (.ref a_Web__eq_) = true
  n_len : mg "len" = none
  n_isinstance : mg "isinstance" = none
  n_int : mg "int" = none
  n_bool : mg "bool" = none
  n_list : mg "list" = none
  n_tuple : mg "tuple" = none
  n_all : mg "all" = none
  n_any : mg "any" = none
  n_sum : mg "sum" = none
  n_range : mg "range" = none
  n_zip : mg "zip" = none
  n_abs : mg "abs" = none
  n_max : mg "max" = none
  n_divmod : mg "divmod" = none
  n_sorted : mg "sorted" = none
  n_enumerate : mg "enumerate" = none
  t_MOST_PLACES : Tok
  g_MOST_PLACES : mg "MOST_PLACES" = some (.int 13 t_MOST_PLACES)
  t_MOST_ARROWS : Tok
  g_MOST_ARROWS : mg "MOST_ARROWS" = some (.int 12 t_MOST_ARROWS)
  t_MOST_ROW : Tok
  g_MOST_ROW : mg "MOST_ROW" = some (.int 6 t_MOST_ROW)
  t_MOST_SUM : Tok
  g_MOST_SUM : mg "MOST_SUM" = some (.int 24 t_MOST_SUM)
  kb_ways_row_place_web : KBinds K d_ways_row ["web", "place"] ["place", "web"] KBw KBv
  kb_simple_row_place_web : KBinds K d_simple_row ["web", "place"] ["place", "web"] KBw KBv
  kb_form_other_row_web : KBinds K d_form ["web", "row", "other"] ["other", "row", "web"] KBw KBv
  kb_Web_ways_other_place : KBinds K d_Web_ways ["self", "place", "other"] ["other", "place"] KBw2 KBv2
  kb_Web__init__arrows_places : KBn K d_Web__init_ ["self", "places", "arrows"] 1 ["arrows", "places"] KBw KBv
  ne_Web : PySem.W.findIn K (.ref C_Web) "__ne__" = some (some (.builtin "object.__ne__"))
end W17

set_option maxRecDepth 100000
set_option maxHeartbeats 4000000
namespace W17
open PySem L2 SB
local macro_rules | `(tactic| walk_at "rd") => `(tactic| first | simp only [rd_var, rd_c, rd_seq, rd_next, rd_ret, rd_retN, rd_drop, rd_asg, rd_op, rd_un, rd_call, rd_callK0, rd_cons, rd_nil, rd_cb, rd_test, rd_b, rd_andV, rd_orV, rd_notV, rd_and, rd_or, rd_not, rd_if, rd_ifS, rd_tup, rd_lst, rd_step, rd_wstep, rd_revL, rNotB_bl, rd_lcL, rd_lc2, rd_lcZ, rd_lcR, rd_lcZS, rd_forE, rd_revT, rd_methK0, rd_makeN0, rd_forL, rd_forZ, rd_forR, rd_make, rd_meth, rd_sfld, rd_bm, rd_prop, rd_yes, rd_par, rd_name, wipe, rI0_int, rI_int, rEq_int, rNe_int, rEq_bl, rNe_bl, L2.start, List.map_cons, List.map_nil, List.length_cons, List.length_nil, Nat.zero_add, Nat.reduceAdd, Nat.reduceSub, List.replicate, List.getElem?_cons_zero, List.getElem?_cons_succ, List.set_cons_zero, List.set_cons_succ, Option.some.injEq, exists_eq_left', exists_eq_left, exists_and_left, V.int.injEq, V.bl.injEq, V.ref.injEq, List.append_nil, List.cons_append, List.nil_append, List.cons.injEq, and_true, true_and, if_true, if_false, Bool.not_true, Bool.not_false, Bool.false_eq_true, ↓reduceIte, reduceCtorEq, decide_true, decide_false, false_and, exists_false, or_false, exists_const] | skip)
section
variable {P : Program} {w : World} {K : PySem.W.Frag} {mg : Str → Option Value} {base : Heap}
theorem ok_is_integer (T : Txt K mg) : FnOk P w K mg base CX0 1 T.a_is_integer T.d_is_integer ["value"] sp_is_integer := by
  refine T.F_is_integer.ok scis_integer (fun vs H Q E h => ?_) (fun cdv A outer s H vs Q E hr h => ?_)
  · obtain ⟨n, rfl, _⟩ := h; rfl
  · obtain ⟨n, rfl, k⟩ := h
    refine ⟨_, (pss_one (ps_ret (pe_and (pe_callB call_isi (by rfl) T.n_isinstance (by decide +kernel) (pa_cons (pv 0) (pa_cons (pe_bltn (v := .ty "int") rfl T.n_int (by decide +kernel) rfl) pa_nil))) (pe_one (pe_not (pe_callB call_isi (by rfl) T.n_isinstance (by decide +kernel) (pa_cons (pv 0) (pa_cons (pe_bltn (v := .ty "bool") rfl T.n_bool (by decide +kernel) rfl) pa_nil)))))))), ?_⟩
    walk_at "rd"
    refine isi_ty (.base (.int n)) (b := true) (by decide +kernel) ?_
    walk_at "rd"
    refine isi_ty (.base (.int n)) (b := false) (by decide +kernel) ?_
    walk_at "rd"
    exact k
theorem ok_is_count (T : Txt K mg) : FnOk P w K mg base CX0 2 T.a_is_count T.d_is_count ["value"] sp_is_count := by
  refine T.F_is_count.ok scis_count (fun vs H Q E h => ?_) (fun cdv A outer s H vs Q E hr h => ?_)
  · obtain ⟨n, rfl, _⟩ := h; rfl
  · obtain ⟨n, rfl, k⟩ := h
    refine ⟨_, (pss_one (ps_ret (pe_and (pe_call (ok_is_integer T) (hr.mono (by decide)) rfl T.m_is_integer T.F_is_integer.kp T.b_is_integer .nil pass0 (pa_cons (pv 0) pa_nil)) (pe_one (pe_cmpR op_ge (pv 0) pe_int (nomark _)))))), ?_⟩
    walk_at "rd"
    refine ⟨n, rfl, ?_⟩
    walk_at "rd"
    exact k
theorem ok__is_arrow (T : Txt K mg) : FnOk P w K mg base CX0 3 T.a__is_arrow T.d__is_arrow ["places", "arrow"] sp__is_arrow := by
  refine T.F__is_arrow.ok sc_is_arrow (fun vs H Q E h => ?_) (fun cdv A outer s H vs Q E hr h => ?_)
  · obtain ⟨n, v, p, rfl, _⟩ := h; rfl
  · obtain ⟨n, v, p, rfl, ⟨t, rfl, ht⟩, ok, k⟩ := h
    refine ⟨_, (pss_cons (ps_if (PW.pt (pw_or (pt_not (pt_val (pe_callB call_isi (by rfl) T.n_isinstance (by decide +kernel) (pa_cons (pv 1) (pa_cons (pe_bltn (v := .ty "tuple") rfl T.n_tuple (by decide +kernel) rfl) pa_nil))))) (pw_or1 (pt_cmpR op_ne (pe_callB call_len_seq (by rfl) T.n_len (by decide +kernel) (pa_cons (pv 1) pa_nil)) pe_int (nomark _))))) (pss_one (ps_ret pe_bl)) pss_nil)
        (pss_one (ps_ret (pe_and (pe_callB (cr_all rfl) (by rfl) T.n_all (by decide +kernel) (pa_cons (pe_lc (own := [("end", 2)]) rfl sc_is_arrow.nd (pi_tup (pv 1)) (blkOk_by (own := [("end", 2)]) (N := N_is_arrow) (sc := defScope s_is_arrow) (by decide +kernel)) (fun _ _ _ _ _ => (pg_name (i := 2) sc_is_arrow.nd rfl (Or.inl rfl) (Or.inr rfl))) (fun _ _ _ _ _ => pts_nil) (fun _ _ _ _ _ => (pe_and (pe_call (ok_is_count T) (hr.mono (by decide)) rfl T.m_is_count T.F_is_count.kp T.b_is_count .nil pass0 (pa_cons (pv 2) pa_nil)) (pe_one (pe_cmpR op_lt (pv 2) (pv 0) (nomark _)))))) pa_nil)) (pe_one (pe_cmpR op_ne (pe_ix ix_tup (pv 1) pe_int (fun _ _ => rfl)) (pe_ix ix_tup (pv 1) pe_int (fun _ _ => rfl)) (nomark _))))))), ?_⟩
    obtain ⟨o1, o2, o3, o4, o5⟩ := ok
    walk_at "rd"
    refine isi_ty (.base (.tup ht)) (b := true) (by decide +kernel) ?_
    walk_at "rd"
    refine ⟨_, .inr (sqT ht), ?_⟩
    walk_at "rd"
    rw [show (decide ((((2 : Nat) : Int)) = 2)) = true from rfl]
    walk_at "rd"
    refine ⟨_, rfl, t, rfl, ⟨_, sqT ht⟩, fun D hD => lcW walk_tup hD (fun i acc _ => acc = List.replicate i (V.bl true)) (fun H' e => sqT (e _ _ ht)) rfl ?_ ?_⟩
    · intro i x acc H1 H2 hi hacc hl e1 hp y
      obtain ⟨rfl, hx⟩ := y
      have hx' : ∃ z : Int, x = .int z ∧ 0 ≤ z ∧ z < n := by
        match i, hx with
        | 0, hx => exact ⟨p.1, (Option.some.inj hx).symm, o1, o2⟩
        | 1, hx => exact ⟨p.2, (Option.some.inj hx).symm, o3, o4⟩
      obtain ⟨z, rfl, hz0, hz1⟩ := hx'
      walk_at "rd"
      refine ⟨z, rfl, ?_⟩
      rw [decide_eq_true hz0]
      walk_at "rd"
      rw [decide_eq_true hz1]
      exact cw_put hacc hl (by simp at hi; omega) e1 (Evl.Ex.refl _) (by rw [hp]; exact List.replicate_succ'.symm)
    · intro acc H1 hacc hl e1 hp
      have e2 : Ex H H1 := e1.trans dr_ex
      walk_at "rd"
      refine allR (List.replicate 2 true) (sqL hacc) (by rw [hp]; rfl) ?_
      rw [show (List.replicate 2 true).all id = true from rfl]
      walk_at "rd"
      refine ixT (sqT (e2 _ _ ht)) (at_of (j := 0) rfl rfl) ?_
      refine ixT (sqT (e2 _ _ ht)) (at_of (j := 1) rfl rfl) ?_
      walk_at "rd"
      rw [decide_eq_false o5]
      exact k _ e2
theorem ok__have_ring (T : Txt K mg) : FnOk P w K mg base CX0 1 T.a__have_ring T.d__have_ring ["arrows"] sp__have_ring := by
  refine T.F__have_ring.ok sc_have_ring (fun vs H Q E h => ?_) (fun cdv A outer s H vs Q E hr h => ?_)
  · obtain ⟨a, xs, ar, rfl, _⟩ := h; rfl
  · obtain ⟨a, xs, ar, rfl, sq, harr, ⟨rk, hrk⟩, hlen, k⟩ := h
    refine ⟨_, (pss_cons (ps_set (i := 1) sc_have_ring.nd rfl (Or.inl rfl) (pe_callTy call_list_of (by rfl) T.n_list (by decide +kernel) (pa_cons (pv 0) pa_nil)))
        (pss_cons (ps_while PassesOwn.never (pt_truth (pv 1) (by intro _; rfl)) (pss_cons (ps_set (i := 2) sc_have_ring.nd rfl (Or.inr rfl) (pe_lc (own := [("_", 4), ("head", 5)]) rfl sc_have_ring.nd (pi_list (pv 1)) (blkOk_by (own := [("_", 4), ("head", 5)]) (N := N_have_ring) (sc := defScope s_have_ring) (by decide +kernel)) (fun _ _ _ _ _ => (show PG _ _ (gTup K 2 (gCons (gName 4) (gCons (gName 5) gNil))) from pg_tup rfl (pgs_cons (pg_name (i := 4) sc_have_ring.nd rfl (Or.inl rfl) (Or.inr rfl)) (pgs_cons (pg_name (i := 5) sc_have_ring.nd rfl (Or.inl rfl) (Or.inr rfl)) pgs_nil)))) (fun _ _ _ _ _ => pts_nil) (fun _ _ _ _ _ => (pv 5))))
        (pss_cons (ps_setLc (i := 3) (own := [("tail", 6), ("head", 5)]) rfl sc_have_ring.nd rfl rfl (sw_true rfl rfl rfl (by decide +kernel)) (pi_list (pv 1)) (blkOk_by (own := [("tail", 6), ("head", 5)]) (N := N_have_ring) (sc := defScope s_have_ring) (by decide +kernel)) (fun _ _ _ _ _ => (show PG _ _ (gTup K 2 (gCons (gName 6) (gCons (gName 5) gNil))) from pg_tup rfl (pgs_cons (pg_name (i := 6) sc_have_ring.nd rfl (Or.inl rfl) (Or.inr rfl)) (pgs_cons (pg_name (i := 5) sc_have_ring.nd rfl (Or.inl rfl) (Or.inr rfl)) pgs_nil)))) (fun _ _ _ _ _ => (pts_one (pt_cmpR (show OpR _ _ (rIn K false) from op_in_seq) (pv 6) (pv 2) (by rfl)))) (fun _ _ _ _ _ => (pe_tup (pa_cons (pv 6) (pa_cons (pv 5) pa_nil)))))
        (pss_cons (ps_if (pt_cmpR op_eq (pe_callB call_len_seq (by rfl) T.n_len (by decide +kernel) (pa_cons (pv 3) pa_nil)) (pe_callB call_len_seq (by rfl) T.n_len (by decide +kernel) (pa_cons (pv 1) pa_nil)) (nomark _)) (pss_one (ps_ret pe_bl)) pss_nil)
        (pss_one (ps_set (i := 1) sc_have_ring.nd rfl (Or.inl rfl) (pv 3)))))))
        (pss_one (ps_ret pe_bl)))), ?_⟩
    walk_at "rd"
    refine ⟨_, sq.or, fun l hl => ?_⟩
    walk_at "rd"
    refine ⟨WRing H a rk, ⟨_, l, xs, ar, _, _, _, _, _, rfl, Evl.Ex.new hl, upd_same, Ar.mono (Evl.Ex.new hl) harr, hrk, hlen, rfl⟩, ?_⟩
    rintro m σ H2 ⟨l2, xs2, ar2, v2, v3, v4, v5, v6, rfl, e2, hl2, ha2, hrk2, hlen2, rfl⟩
    walk_at "rd"
    refine ⟨!xs2.isEmpty, .inl ⟨xs2, sqL hl2, rfl⟩, ?_⟩
    have hxl := p2_len ha2
    by_cases hx : ar2 = []
    · have hx2 : xs2 = [] := by rw [hx] at hxl; exact List.length_eq_zero_iff.mp hxl
      rw [hx2]
      exact k H2 e2
    · have hx2 : (!xs2.isEmpty) = true := by
        cases xs2 with
        | nil => exact absurd (List.length_eq_zero_iff.mp hxl.symm) hx
        | cons _ _ => rfl
      rw [hx2]
      walk_at "rd"
      refine ⟨fun σ' H' => ∃ m', m' < ar2.length ∧ WRing H a rk m' σ' H', fun _ _ h => h, ?_⟩
      -- reached
      refine lcA hl2 (fun i acc _ => acc = ((ar2.take i).map (·.2)).map V.int) rfl ?_ ?_
      · intro D i x acc H3 hi hx hD hacc hl e1 hp
        obtain ⟨p, hp2, pr⟩ := p2_get ha2 hx
        refine gPr (pr.mono (e1.trans dr_ex)) ?_
        walk_at "rd"
        refine cw_put hacc hl (by omega) e1 (Evl.Ex.refl _) ?_
        rw [hp, List.take_add_one, hp2]
        simp
      · intro D acc H3 hD hacc hl e1 hp
        have e3 : Ex H2 H3 := e1.trans dr_ex
        walk_at "rd"
        have hp' : acc = (ar2.map (·.2)).map V.int := by rw [hp, hxl, List.take_length]
        -- inner
        refine lcA (e3 _ _ hl2) (fun i acc B => Ar B acc ((ar2.take i).filter fun p => decide (p.1 ∈ ar2.map (·.2)))) .nil ?_ ?_
        · intro D2 i x acc2 H4 hi hx hD2 hacc2 hl2' e4 hp2
          obtain ⟨p, hpa, pr⟩ := p2_get ha2 hx
          have e5 : Ex H3 H4 := e4.trans dr_ex
          refine gPr (pr.mono (e3.trans e5)) ?_
          walk_at "rd"
          refine ⟨D, _, rfl, .inl (sqL (e5 _ _ (hacc.trans (by rw [hp'])))), rfl, flat_ints _, ?_⟩
          rw [inV_int]
          walk_at "rd"
          have ht : (ar2.take (i + 1)).filter (fun p => decide (p.1 ∈ ar2.map (·.2))) = (ar2.take i).filter (fun p => decide (p.1 ∈ ar2.map (·.2))) ++ (if p.1 ∈ ar2.map (·.2) then [p] else []) := by
            rw [List.take_add_one, hpa, List.filter_append]
            by_cases c : p.1 ∈ ar2.map (·.2) <;> simp [c]
          by_cases c : p.1 ∈ ar2.map (·.2)
          · rw [if_pos (decide_eq_true c)]
            refine ⟨Evl.sz_of (by simp), fun q hq => ?_⟩
            refine cw_put hacc2 hl2' (by omega) e4 (Evl.Ex.new hq) ?_
            rw [ht, if_pos c]
            refine p2_snoc (Ar.mono (dr_new hq) hp2) ⟨q, rfl, dr_at (fun z => ?_) upd_same⟩
            rw [z, hacc2] at hq; cases hq
          · rw [if_neg (by simpa using c)]
            refine cw_skip hacc2 hl2' e4 (Evl.Ex.refl _) ?_
            rw [ht, if_neg c, List.append_nil]
            exact hp2
        · intro D2 acc2 H4 hD2 hacc2 hl2' e4 hp2
          have e5 : Ex H3 H4 := e4.trans dr_ex
          walk_at "rd"
          rw [hxl, List.take_length] at hp2
          have hless := inner_less hx hrk2
          have hl4 := p2_len hp2
          refine ⟨_, .inl (sqL hacc2), ?_⟩
          refine ⟨_, .inl (sqL (e5 _ _ (e3 _ _ hl2))), ?_⟩
          rw [decide_eq_false (show ¬ ((acc2.length : Int) = (xs2.length : Int)) by omega)]
          walk_at "rd"
          exact ⟨_, hless, D2, acc2, _, _, _, _, _, _, rfl, e2.trans (e3.trans e5), hacc2, Ar.mono dr_ex hp2, fun p h => hrk2 p ((List.mem_filter.mp h).1), by omega, rfl⟩
theorem ok__are_arrows (T : Txt K mg) : FnOk P w K mg base CX0 4 T.a__are_arrows T.d__are_arrows ["places", "arrows"] sp__are_arrows := by
  refine T.F__are_arrows.ok sc_are_arrows (fun vs H Q E h => ?_) (fun cdv A outer s H vs Q E hr h => ?_)
  · obtain ⟨n, a, xs, ar, rfl, _⟩ := h; rfl
  · obtain ⟨n, a, xs, ar, rfl, sq, harr, G, k⟩ := h
    refine ⟨_, (pss_cons (ps_if (PW.pt (pw_or (pt_not (pt_val (pe_callB call_isiT (by rfl) T.n_isinstance (by decide +kernel) (pa_cons (pv 1) (pa_cons (pe_tup (pa_cons (pe_bltn (v := .ty "list") rfl T.n_list (by decide +kernel) rfl) (pa_cons (pe_bltn (v := .ty "tuple") rfl T.n_tuple (by decide +kernel) rfl) pa_nil))) pa_nil))))) (pw_or1 (pt_cmpR op_gt (pe_callB call_len_seq (by rfl) T.n_len (by decide +kernel) (pa_cons (pv 1) pa_nil)) (pe_glob (v := .int _) rfl T.g_MOST_ARROWS ⟨_, rfl⟩) (nomark _))))) (pss_one (ps_ret pe_bl)) pss_nil)
        (pss_one (ps_ret (pe_and (pe_callB (cr_all rfl) (by rfl) T.n_all (by decide +kernel) (pa_cons (pe_lc (own := [("arrow", 2)]) rfl sc_are_arrows.nd (SB.pi_seq (pv 1)) (blkOk_by (own := [("arrow", 2)]) (N := N_are_arrows) (sc := defScope s_are_arrows) (by decide +kernel)) (fun _ _ _ _ _ => (pg_name (i := 2) sc_are_arrows.nd rfl (Or.inl rfl) (Or.inr rfl))) (fun _ _ _ _ _ => pts_nil) (fun _ _ _ _ _ => (pe_call (ok__is_arrow T) (hr.mono (by decide)) rfl T.m__is_arrow T.F__is_arrow.kp T.b__is_arrow .nil pass0 (pa_cons (pv 0) (pa_cons (pv 2) pa_nil))))) pa_nil)) (pe_one (pe_not (pe_call (ok__have_ring T) (hr.mono (by decide)) rfl T.m__have_ring T.F__have_ring.kp T.b__have_ring .nil pass0 (pa_cons (pv 1) pa_nil)))))))), ?_⟩
    walk_at "rd"
    refine ⟨Evl.sz_of (by simp), fun tp htp => ?_⟩
    have e0 : Ex H (upd H tp (.tup [.ty "list", .ty "tuple"])) := Evl.Ex.new htp
    have hxl := p2_len harr
    have hlen := G.len
    have hty : ∃ T1, TyX K (upd H tp (.tup [.ty "list", .ty "tuple"])) (.ref a) (.type T1) ∧ PySem.W.kitAny K (.type T1) (["list", "tuple"].map Value.type) = some true := by
      rcases sq.mono e0 with h | h
      · exact ⟨"list", .base (.lst h), kitAny_cons (b := true) (kit_ty (by decide +kernel)) (fun z => by cases z) (fun _ => rfl)⟩
      · exact ⟨"tuple", .base (.tup h), kitAny_cons (b := false) (kit_ty (by decide +kernel)) (fun _ => kitAny_cons (b := true) (kit_ty (by decide +kernel)) (fun z => by cases z) (fun _ => rfl)) (fun z => by cases z)⟩
    obtain ⟨T1, hty1, hty2⟩ := hty
    refine isiT_ty (Ts := ["list", "tuple"]) upd_same hty1 hty2 ?_
    walk_at "rd"
    refine ⟨_, (sq.mono e0).or, ?_⟩
    rw [decide_eq_false (show ¬ (12 : Int) < (xs.length : Int) by omega)]
    walk_at "rd"
    refine lcSeq (sq.mono e0) rfl (fun i acc _ => acc = List.replicate i (V.bl true)) rfl ?_ ?_
    · intro D i x acc H3 hi hx hD hacc hl e1 hp
      obtain ⟨p, hpa, pr⟩ := p2_get harr hx
      walk_at "rd"
      refine ⟨n, x, p, rfl, pr.mono (e0.trans (e1.trans dr_ex)), G.inn p (List.mem_of_getElem? hpa), fun H4 e4 => ?_⟩
      exact cw_put hacc hl (by omega) e1 e4 (by rw [hp]; exact List.replicate_succ'.symm)
    · intro D acc H3 hD hacc hl e1 hp
      have e3 : Ex H H3 := e0.trans (e1.trans dr_ex)
      walk_at "rd"
      refine allR (List.replicate xs.length true) (sqL hacc) (by rw [hp]; simp) ?_
      rw [show (List.replicate xs.length true).all id = true by simp]
      walk_at "rd"
      refine ⟨a, xs, ar, rfl, sq.mono e3, harr.mono e3, G.ac, G.len, fun H4 e4 => ?_⟩
      walk_at "rd"
      exact k H4 (e3.trans e4)
theorem ok_Web__init_ (T : Txt K mg) : FnOk P w K mg base CX0 5 T.a_Web__init_ T.d_Web__init_ ["self", "places", "arrows"] (sp_Web__init_ T.C_Web) := by
  refine T.F_Web__init_.ok scWeb__init_ (fun vs H Q E h => ?_) (fun cdv A outer s H vs Q E hr h => ?_)
  · obtain ⟨p, dx, n, a, xs, ar, rfl, _⟩ := h; rfl
  · obtain ⟨p, dx, n, a, xs, ar, rfl, hp, sq, harr, G, k⟩ := h
    refine ⟨_, (pss_cons (ps_if (PW.pt (pw_or (pt_not (pt_val (pe_call (ok_is_count T) (hr.mono (by decide)) rfl T.m_is_count T.F_is_count.kp T.b_is_count .nil pass0 (pa_cons (pv 1) pa_nil)))) (pw_or (pt_cmpR op_lt (pv 1) pe_int (nomark _)) (pw_or1 (pt_cmpR op_gt (pv 1) (pe_glob (v := .int _) rfl T.g_MOST_PLACES ⟨_, rfl⟩) (nomark _)))))) (pss_one ps_never) pss_nil)
        (pss_cons (ps_if (pt_not (pt_val (pe_call (ok__are_arrows T) (hr.mono (by decide)) rfl T.m__are_arrows T.F__are_arrows.kp T.b__are_arrows .nil pass0 (pa_cons (pv 1) (pa_cons (pv 2) pa_nil))))) (pss_one ps_never) pss_nil)
        (pss_cons (ps_fld (pv 0) (pv 1) rfl)
        (pss_one (ps_fld (pv 0) (pe_lc (own := [("tail", 3), ("head", 4)]) rfl scWeb__init_.nd (SB.pi_seq (pv 2)) (blkOk_by (own := [("tail", 3), ("head", 4)]) (N := NWeb__init_) (sc := defScope sWeb__init_) (by decide +kernel)) (fun _ _ _ _ _ => (show PG _ _ (gTup K 2 (gCons (gName 3) (gCons (gName 4) gNil))) from pg_tup rfl (pgs_cons (pg_name (i := 3) scWeb__init_.nd rfl (Or.inl rfl) (Or.inr rfl)) (pgs_cons (pg_name (i := 4) scWeb__init_.nd rfl (Or.inl rfl) (Or.inr rfl)) pgs_nil)))) (fun _ _ _ _ _ => pts_nil) (fun _ _ _ _ _ => (pe_tup (pa_cons (pv 3) (pa_cons (pv 4) pa_nil))))) rfl))))), ?_⟩
    have g1 := G.lo
    have g2 := G.hi
    have hxl := p2_len harr
    have hlen := G.len
    walk_at "rd"
    refine ⟨n, rfl, ?_⟩
    rw [decide_eq_true (show 0 ≤ n by omega), decide_eq_false (show ¬ n < 1 by omega), decide_eq_false (show ¬ (13 : Int) < n by omega)]
    walk_at "rd"
    refine ⟨n, a, xs, ar, rfl, sq, harr, G, fun H1 e1 => ?_⟩
    walk_at "rd"
    -- self._places = places
    refine ⟨T.C_Web, dx, [], e1 _ _ hp, T.cl_Web, T.nf_Web_places, (by show 0 < 1000; decide), ?_⟩
    have hpa : p ≠ a := fun z => by
      rw [z] at hp
      rcases sq with h | h <;> rw [h] at hp <;> cases hp
    have sq2 : Sq2 (upd H1 p (.ins T.C_Web dx (putF "_places" (.int n) []))) a xs := by
      rcases sq with h | h
      · exact .inl (by rw [upd_ne hpa.symm]; exact e1 _ _ h)
      · exact .inr (by rw [upd_ne hpa.symm]; exact e1 _ _ h)
    have e2 : ∀ b o, H b = some o → b ≠ p → (upd H1 p (.ins T.C_Web dx (putF "_places" (.int n) []))) b = some o := fun b o h hb => by rw [upd_ne hb]; exact e1 _ _ h
    have harr2 : Ar (upd H1 p (.ins T.C_Web dx (putF "_places" (.int n) []))) xs ar := p2_mono (fun v pr h => by
      obtain ⟨t, ev, ht⟩ := h
      refine ⟨t, ev, e2 _ _ ht fun z => ?_⟩
      rw [z, hp] at ht; cases ht) harr
    -- self._arrows = [..]
    walk_at "rd"
    refine lcSeq (i := 2) sq2 rfl (fun i acc B => Ar (nw H B) acc (ar.take i)) .nil ?_ ?_
    · intro D i x acc H3 hi hx hD hacc hl e3 hpp
      obtain ⟨pr, hpr, ipr⟩ := p2_get harr2 hx
      refine gPr (ipr.mono (e3.trans dr_ex)) ?_
      walk_at "rd"
      refine ⟨Evl.sz_of (by simp), fun q hq => ?_⟩
      refine cw_put hacc hl (by omega) e3 (Evl.Ex.new hq) ?_
      rw [List.take_add_one, hpr]
      have hqD : q ≠ D := fun z => by rw [z, hacc] at hq; cases hq
      have hqH : H q = none := by
        cases hh : H q with
        | none => rfl
        | some o =>
          by_cases hqp : q = p
          · have := dr_ex _ _ (e3 p _ upd_same)
            rw [← hqp, hq] at this; cases this
          · have := dr_ex _ _ (e3 q _ (e2 q o hh hqp))
            rw [hq] at this; cases this
      exact p2_snoc (Ar.mono (nw_mono (Evl.Ex.refl _) (dr_new hq)) hpp) ⟨q, rfl, nw_at hqH (dr_at hqD upd_same)⟩
    · intro D acc H3 hD hacc hl e3 hpp
      walk_at "rd"
      rw [hxl, List.take_length] at hpp
      have h3p : H3 p = some (.ins T.C_Web dx (putF "_places" (.int n) [])) := dr_ex _ _ (e3 p _ upd_same)
      have hDp : D ≠ p := fun z => by rw [← z, hacc] at h3p; cases h3p
      refine ⟨T.C_Web, dx, _, h3p, T.cl_Web, T.nf_Web_arrows, (by show 1 < 1000; decide), ?_⟩
      have hDH : H D = none := by
        cases hh : H D with
        | none => rfl
        | some o => rw [e2 D o hh hDp] at hD; cases hD
      refine k _ D acc hDH (fun b o hb hbp => ?_) upd_same (by rw [upd_ne hDp]; exact hacc) (p2_mono (fun v pr h => ?_) hpp)
      · rw [upd_ne hbp]
        exact dr_ex _ _ (e3 _ _ (e2 b o hb hbp))
      · obtain ⟨t, ev, ht⟩ := h
        obtain ⟨ht1, ht2⟩ := nw_of ht
        refine ⟨t, ev, nw_at ht1 ?_⟩
        rw [upd_ne (fun z => by rw [z, hp] at ht1; cases ht1)]
        exact (dr_of ht2).2
theorem ok_Web_places (T : Txt K mg) : FnOk P w K mg base CX0 1 T.a_Web_places T.d_Web_places ["self"] (sp_Web_places T.C_Web) := by
  refine T.F_Web_places.ok scWeb_places (fun vs H Q E h => ?_) (fun cdv A outer s H vs Q E hr h => ?_)
  · obtain ⟨p, n, ar, rfl, _⟩ := h; rfl
  · obtain ⟨p, n, ar, rfl, ⟨dx, q, xs, h1, h2, h3⟩, k⟩ := h
    refine ⟨_, (pss_one (ps_ret (pe_fld (pv 0) rfl))), ?_⟩
    walk_at "rd"
    exact fldV rfl h1 T.cl_Web T.nf_Web_places web_pl k
theorem ok_Web_arrows (T : Txt K mg) : FnOk P w K mg base CX0 1 T.a_Web_arrows T.d_Web_arrows ["self"] (sp_Web_arrows T.C_Web) := by
  refine T.F_Web_arrows.ok scWeb_arrows (fun vs H Q E h => ?_) (fun cdv A outer s H vs Q E hr h => ?_)
  · obtain ⟨p, n, ar, rfl, _⟩ := h; rfl
  · obtain ⟨p, n, ar, rfl, ⟨dx, q, xs, h1, h2, h3⟩, k⟩ := h
    refine ⟨_, (pss_one (ps_ret (pe_callTy call_list_of (by rfl) T.n_list (by decide +kernel) (pa_cons (pe_fld (pv 0) rfl) pa_nil)))), ?_⟩
    walk_at "rd"
    refine fldV rfl h1 T.cl_Web T.nf_Web_arrows web_ar ?_
    walk_at "rd"
    exact ⟨xs, .inl (sqL h2), fun l hl => k l xs hl h3⟩
theorem ok_Web__eq_ (T : Txt K mg) : FnOk P w K mg base CX0 1 T.a_Web__eq_ T.d_Web__eq_ ["self", "other"] (sp_Web__eq_ T.C_Web) := by
  refine T.F_Web__eq_.ok scWeb__eq_ (fun vs H Q E h => ?_) (fun cdv A outer s H vs Q E hr h => ?_)
  · obtain ⟨p, n, ar, v, rfl, _⟩ := h; rfl
  · obtain ⟨p, n, ar, v, rfl, ⟨dx, q, xs, h1, h2, h3⟩, k⟩ := h
    refine ⟨_, (pss_one (ps_ret (pe_and (pe_callB call_isi (by rfl) T.n_isinstance (by decide +kernel) (pa_cons (pv 1) (pa_cons (pe_glob (v := .ref _) rfl T.m_Web rfl) pa_nil))) (pe_and (pe_cmpR op_eq (pe_fld (pv 0) rfl) (pe_fld (pv 1) rfl) (nomark _)) (pe_one (pe_cmpR (op_eqD hr.units) (pe_fld (pv 0) rfl) (pe_fld (pv 1) rfl) (nomark _))))))), ?_⟩
    walk_at "rd"
    rcases k with ⟨p2, n2, ar2, rfl, ⟨dx2, q2, xs2, g1, g2, g3⟩, k⟩ | ⟨hv, k⟩
    · refine isi_own (ty_ins g1 T.cl_Web T.hc1_Web T.hc4_Web) kit_self ?_
      walk_at "rd"
      refine fldV rfl h1 T.cl_Web T.nf_Web_places web_pl ?_
      refine fldV rfl g1 T.cl_Web T.nf_Web_places web_pl ?_
      walk_at "rd"
      by_cases c : n = n2
      · rw [decide_eq_true c]
        walk_at "rd"
        refine fldV rfl h1 T.cl_Web T.nf_Web_arrows web_ar ?_
        refine fldV rfl g1 T.cl_Web T.nf_Web_arrows web_ar ?_
        refine eqD (dp_prs h2 h3) (dp_prs g2 g3) (dPrs_sh _) (dPrs_sh _) ?_
        rw [dPrs_eqv]
        simpa [c] using k
      · rw [decide_eq_false c]
        walk_at "rd"
        simpa [c] using k
    · have hty : ∃ T1 l, TyX K H v (.type T1) ∧ PySem.fastBuiltinMro T1 = some l ∧ l.contains (Value.ref T.C_Web) = false := by
        rcases hv with rfl | ⟨i, rfl⟩ | ⟨b, ys, rfl, hb | hb⟩
        · obtain ⟨l, m1, m2⟩ := mro_none (C := T.C_Web)
          exact ⟨_, l, .base .non, m1, m2⟩
        · obtain ⟨l, m1, m2⟩ := mro_int (C := T.C_Web)
          exact ⟨_, l, .base (.int i), m1, m2⟩
        · obtain ⟨l, m1, m2⟩ := mro_list (C := T.C_Web)
          exact ⟨_, l, .base (.lst hb), m1, m2⟩
        · obtain ⟨l, m1, m2⟩ := mro_tuple (C := T.C_Web)
          exact ⟨_, l, .base (.tup hb), m1, m2⟩
      obtain ⟨T1, l, t1, t2, t3⟩ := hty
      refine isi_own t1 (kit_no T.is_Web T.ty_Web t2 t3) ?_
      walk_at "rd"
      exact k
theorem ok_check_web (T : Txt K mg) : FnOk P w K mg base CX0 3 T.a_check_web T.d_check_web ["web"] (sp_check_web T.C_Web) := by
  refine T.F_check_web.ok sccheck_web (fun vs H Q E h => ?_) (fun cdv A outer s H vs Q E hr h => ?_)
  · obtain ⟨p, n, ar, rfl, _⟩ := h; rfl
  · obtain ⟨p, n, ar, rfl, ⟨dx, q, xs, h1, h2, h3⟩, k⟩ := h
    refine ⟨_, (pss_one (ps_if (pt_not (pt_val (pe_callB call_isi (by rfl) T.n_isinstance (by decide +kernel) (pa_cons (pv 0) (pa_cons (pe_glob (v := .ref _) rfl T.m_Web rfl) pa_nil))))) (pss_one ps_never) pss_nil)), ?_⟩
    walk_at "rd"
    refine isi_own (ty_ins h1 T.cl_Web T.hc1_Web T.hc4_Web) kit_self ?_
    walk_at "rd"
    exact k
theorem ok_turned_web (T : Txt K mg) : FnOk P w K mg base CX0 7 T.a_turned_web T.d_turned_web ["web"] (sp_turned_web T.C_Web) := by
  refine T.F_turned_web.ok scturned_web (fun vs H Q E h => ?_) (fun cdv A outer s H vs Q E hr h => ?_)
  · obtain ⟨p, n, ar, rfl, _⟩ := h; rfl
  · obtain ⟨p, n, ar, rfl, web, G, k⟩ := h
    refine ⟨_, (pss_cons (ps_expr (pe_call (ok_check_web T) (hr.mono (by decide)) rfl T.m_check_web T.F_check_web.kp T.b_check_web .nil pass0 (pa_cons (pv 0) pa_nil)))
        (pss_one (ps_ret (pe_make T.mk_Web (ok_Web__init_ T) (hr.mono (by decide)) rfl T.m_Web T.b_Web__init_ .nil pass0 (pa_cons (pe_prop (pv 0) T.cl_Web T.p_Web_places (ok_Web_places T) (hr.mono (by decide)) T.b_Web_places .nil pass0 rfl) (pa_cons (pe_lc (own := [("tail", 1), ("head", 2)]) rfl scturned_web.nd (pi_list (pe_meth0 (pv 0) T.cl_Web T.me_Web_arrows (ok_Web_arrows T) (hr.mono (by decide)) T.b_Web_arrows .nil pass0)) (blkOk_by (own := [("tail", 1), ("head", 2)]) (N := Nturned_web) (sc := defScope sturned_web) (by decide +kernel)) (fun _ _ _ _ _ => (show PG _ _ (gTup K 2 (gCons (gName 1) (gCons (gName 2) gNil))) from pg_tup rfl (pgs_cons (pg_name (i := 1) scturned_web.nd rfl (Or.inl rfl) (Or.inr rfl)) (pgs_cons (pg_name (i := 2) scturned_web.nd rfl (Or.inl rfl) (Or.inr rfl)) pgs_nil)))) (fun _ _ _ _ _ => pts_nil) (fun _ _ _ _ _ => (pe_tup (pa_cons (pv 2) (pa_cons (pv 1) pa_nil))))) pa_nil)))))), ?_⟩
    obtain ⟨dx, q, xs, h1, h2, h3⟩ := id web
    walk_at "rd"
    refine ⟨p, n, ar, rfl, web, ?_⟩
    walk_at "rd"
    refine ⟨dx, _, h1, p, n, ar, rfl, web, ?_⟩
    walk_at "rd"
    refine ⟨dx, _, h1, web_no (by decide) (by decide), p, n, ar, rfl, web, fun l ys hl hys => ?_⟩
    walk_at "rd"
    have hyl := p2_len hys
    refine lcA upd_same (fun i acc B => Ar (nw H B) acc ((ar.take i).map fun p => (p.2, p.1))) .nil ?_ ?_
    · intro D i x acc H3 hi hx hD hacc hl3 e1 hp
      obtain ⟨pr, hpr, ipr⟩ := p2_get hys hx
      have e0 : Ex H H3 := (Evl.Ex.new hl).trans (e1.trans dr_ex)
      refine gPr (ipr.mono e0) ?_
      walk_at "rd"
      refine ⟨Evl.sz_of (by simp), fun t ht => ?_⟩
      refine cw_put hacc hl3 (by have := G.len; omega) e1 (Evl.Ex.new ht) ?_
      rw [List.take_add_one, hpr, List.map_append]
      exact p2_snoc (hp.mono (nw_mono (Evl.Ex.refl _) (dr_new ht))) ⟨t, rfl, nw_at (Evl.fresh_back e0 ht) (dr_at (fun z => by rw [z, hacc] at ht; cases ht) upd_same)⟩
    · intro D acc H3 hD hacc hl3 e1 hp
      have e0 : Ex H H3 := (Evl.Ex.new hl).trans (e1.trans dr_ex)
      rw [hyl, List.take_length] at hp
      walk_at "rd"
      intro x dxx hx hdx hne
      have em : Ex H3 (upd (upd H3 dxx (.own x)) x (.ins T.C_Web dxx [])) := made_ex hx hdx
      refine ⟨x, dxx, n, D, acc, ar.map fun p => (p.2, p.1), rfl, upd_same, .inl (em _ _ hacc), (hp.mono (nw_ex.trans dr_ex)).mono em, good_swap G, fun H' q2 zs hq2 e hx' hq2' ha' => ⟨rfl, ?_⟩⟩
      exact k H' x (init_ex e0 hx hdx e) (webN (e0.trans em) (Evl.fresh_back e0 hx) hq2 hx' hq2' ha')
theorem ok_is_row (T : Txt K mg) : FnOk P w K mg base CX0 4 T.a_is_row T.d_is_row ["web", "value"] (sp_is_row T.C_Web) := by
  refine T.F_is_row.ok scis_row (fun vs H Q E h => ?_) (fun cdv A outer s H vs Q E hr h => ?_)
  · obtain ⟨p, a, n, ar, ns, rfl, _⟩ := h; rfl
  · obtain ⟨p, a, n, ar, ns, rfl, web, is, R, k⟩ := h
    refine ⟨_, (pss_cons (ps_expr (pe_call (ok_check_web T) (hr.mono (by decide)) rfl T.m_check_web T.F_check_web.kp T.b_check_web .nil pass0 (pa_cons (pv 0) pa_nil)))
        (pss_cons (ps_if (PW.pt (pw_or (pt_not (pt_val (pe_callB call_isiT (by rfl) T.n_isinstance (by decide +kernel) (pa_cons (pv 1) (pa_cons (pe_tup (pa_cons (pe_bltn (v := .ty "list") rfl T.n_list (by decide +kernel) rfl) (pa_cons (pe_bltn (v := .ty "tuple") rfl T.n_tuple (by decide +kernel) rfl) pa_nil))) pa_nil))))) (pw_or1 (pt_cmpR op_ne (pe_callB call_len_seq (by rfl) T.n_len (by decide +kernel) (pa_cons (pv 1) pa_nil)) (pe_prop (pv 0) T.cl_Web T.p_Web_places (ok_Web_places T) (hr.mono (by decide)) T.b_Web_places .nil pass0 rfl) (nomark _))))) (pss_one (ps_ret pe_bl)) pss_nil)
        (pss_one (ps_ret (pe_and (pe_callB (cr_all rfl) (by rfl) T.n_all (by decide +kernel) (pa_cons (pe_lc (own := [("size", 2)]) rfl scis_row.nd (SB.pi_seq (pv 1)) (blkOk_by (own := [("size", 2)]) (N := Nis_row) (sc := defScope sis_row) (by decide +kernel)) (fun _ _ _ _ _ => (pg_name (i := 2) scis_row.nd rfl (Or.inl rfl) (Or.inr rfl))) (fun _ _ _ _ _ => pts_nil) (fun _ _ _ _ _ => (pe_and (pe_call (ok_is_count T) (hr.mono (by decide)) rfl T.m_is_count T.F_is_count.kp T.b_is_count .nil pass0 (pa_cons (pv 2) pa_nil)) (pe_one (pe_cmpR op_le (pv 2) (pe_glob (v := .int _) rfl T.g_MOST_ROW ⟨_, rfl⟩) (nomark _)))))) pa_nil)) (pe_one (pe_cmpR op_le (pe_callB (SB.cr_sumSq rfl) (by rfl) T.n_sum (by decide +kernel) (pa_cons (pv 1) pa_nil)) (pe_glob (v := .int _) rfl T.g_MOST_SUM ⟨_, rfl⟩) (nomark _)))))))), ?_⟩
    obtain ⟨dx, q, xs, h1, h2, h3⟩ := id web
    obtain ⟨r1, r2, r3, r4⟩ := R
    walk_at "rd"
    refine ⟨p, n, ar, rfl, web, ?_⟩
    walk_at "rd"
    refine isiLT is fun H1 e1 => ?_
    walk_at "rd"
    refine ⟨_, (is.mono e1).or, ?_⟩
    refine ⟨dx, _, e1 _ _ h1, p, n, ar, rfl, web.mono e1, ?_⟩
    walk_at "rd"
    rw [List.length_map, decide_eq_true r1]
    walk_at "rd"
    refine lcSeq (is.mono e1) rfl (fun i acc _ => acc = List.replicate i (V.bl true)) rfl ?_ ?_
    · intro D i x acc H3 hi hx hD hacc hl e3 hp
      obtain ⟨z, hz, rfl⟩ : ∃ z, z ∈ ns ∧ x = V.int z := by
        obtain ⟨z, hz, e⟩ := List.mem_map.mp (List.mem_of_getElem? hx)
        exact ⟨z, hz, e.symm⟩
      obtain ⟨z0, z1⟩ := r2 z hz
      walk_at "rd"
      refine ⟨z, rfl, ?_⟩
      rw [decide_eq_true z0]
      walk_at "rd"
      rw [decide_eq_true z1]
      refine cw_put hacc hl ?_ e3 (Evl.Ex.refl _) (by rw [hp]; exact List.replicate_succ'.symm)
      rw [List.length_map] at hi
      omega
    · intro D acc H3 hD hacc hl e3 hp
      have e4 : Ex H H3 := e1.trans (e3.trans dr_ex)
      walk_at "rd"
      refine allR (List.replicate (ns.map V.int).length true) (sqL hacc) (by rw [hp]; simp) ?_
      rw [show (List.replicate (ns.map V.int).length true).all id = true by simp]
      walk_at "rd"
      refine sumSqR ns (is.mono e4).sq ?_
      walk_at "rd"
      rw [decide_eq_true r3]
      exact k H3 e4
theorem ok_check_row (T : Txt K mg) : FnOk P w K mg base CX0 5 T.a_check_row T.d_check_row ["web", "row"] (sp_check_row T.C_Web) := by
  refine T.F_check_row.ok sccheck_row (fun vs H Q E h => ?_) (fun cdv A outer s H vs Q E hr h => ?_)
  · obtain ⟨p, a, n, ar, ns, rfl, _⟩ := h; rfl
  · obtain ⟨p, a, n, ar, ns, rfl, web, is, R, k⟩ := h
    refine ⟨_, (pss_one (ps_if (pt_not (pt_val (pe_call (ok_is_row T) (hr.mono (by decide)) rfl T.m_is_row T.F_is_row.kp T.b_is_row .nil pass0 (pa_cons (pv 0) (pa_cons (pv 1) pa_nil))))) (pss_one ps_never) pss_nil)), ?_⟩
    walk_at "rd"
    refine ⟨p, a, n, ar, ns, rfl, web, is, R, fun H1 e1 => ?_⟩
    walk_at "rd"
    exact k H1 e1
end
end W17

set_option maxRecDepth 100000
set_option maxHeartbeats 4000000
namespace W17
open PySem L2 SB
local macro_rules | `(tactic| walk_at "rd") => `(tactic| first | simp only [rd_var, rd_c, rd_seq, rd_next, rd_ret, rd_retN, rd_drop, rd_asg, rd_op, rd_un, rd_call, rd_callK0, rd_cons, rd_nil, rd_cb, rd_test, rd_b, rd_andV, rd_orV, rd_notV, rd_and, rd_or, rd_not, rd_if, rd_ifS, rd_tup, rd_lst, rd_step, rd_wstep, rd_revL, rNotB_bl, rd_lcL, rd_lc2, rd_lcZ, rd_lcR, rd_lcZS, rd_forE, rd_revT, rd_methK0, rd_makeN0, rd_forL, rd_forZ, rd_forR, rd_make, rd_meth, rd_sfld, rd_bm, rd_prop, rd_yes, rd_par, rd_name, wipe, rI0_int, rI_int, rEq_int, rNe_int, rEq_bl, rNe_bl, L2.start, List.map_cons, List.map_nil, List.length_cons, List.length_nil, Nat.zero_add, Nat.reduceAdd, Nat.reduceSub, List.replicate, List.getElem?_cons_zero, List.getElem?_cons_succ, List.set_cons_zero, List.set_cons_succ, Option.some.injEq, exists_eq_left', exists_eq_left, exists_and_left, V.int.injEq, V.bl.injEq, V.ref.injEq, List.append_nil, List.cons_append, List.nil_append, List.cons.injEq, and_true, true_and, if_true, if_false, Bool.not_true, Bool.not_false, Bool.false_eq_true, ↓reduceIte, reduceCtorEq, decide_true, decide_false, false_and, exists_false, or_false, exists_const] | skip)
section
variable {P : Program} {w : World} {K : PySem.W.Frag} {mg : Str → Option Value} {base : Heap}
theorem ok_waysK (T : Txt K mg) : ∀ k : Nat, FnOk P w K mg base CX0 k T.a__ways T.d__ways ["arrows", "place", "other"] (sp_waysK k)
  | 0 => ⟨fun vs H Q E h => by obtain ⟨a, xs, ar, x, y, r, rfl, _⟩ := h; rfl, fun A outer s H args us vs Q E hr he hb hv hs => by obtain ⟨a, xs, ar, x, y, r, rfl, _, _, _, _, h, _⟩ := hs; omega⟩
  | k + 1 => by
    have ih := ok_waysK T k
    refine T.F__ways.ok sc_ways (fun vs H Q E h => ?_) (fun cdv A outer s H vs Q E hr h => ?_)
    · obtain ⟨a, xs, ar, x, y, r, rfl, _⟩ := h; rfl
    obtain ⟨a, xs, ar, x, y, r, rfl, hxs, har, hrise, hlen, hh, kq⟩ := h
    refine ⟨_, (pss_cons (ps_if (pt_cmpR op_eq (pv 1) (pv 2) (nomark _)) (pss_one (ps_ret (pe_lst (pa_cons (pe_tup pa_nil) pa_nil)))) pss_nil)
        (pss_cons (ps_set (i := 3) sc_ways.nd rfl (Or.inl rfl) (pe_lst pa_nil))
        (pss_cons (ps_for PassesOwn.never rfl (pi_enum (by rfl) T.n_enumerate (pa_cons (pv 0) pa_nil)) (pg_tup rfl (pgs_cons (pg_name (i := 4) sc_ways.nd rfl (Or.inr rfl) (Or.inl rfl)) (pgs_cons (pg_tup rfl (pgs_cons (pg_name (i := 5) sc_ways.nd rfl (Or.inl rfl) (Or.inr rfl)) (pgs_cons (pg_name (i := 6) sc_ways.nd rfl (Or.inl rfl) (Or.inr rfl)) pgs_nil))) pgs_nil))) (pss_one (ps_if (pt_cmpR op_eq (pv 5) (pv 1) (nomark _)) (pss_one (ps_expr (pe_bm PySem.F.plainAttrs_list PySem.F.slot_list_extend PySem.F.type_list_extend mt_extend (pv 3) (pa_cons (pe_lc (own := [("way", 7)]) rfl sc_ways.nd (pi_list (pe_call ih hr rfl T.m__ways T.F__ways.kp T.b__ways .nil pass0 (pa_cons (pv 0) (pa_cons (pv 6) (pa_cons (pv 2) pa_nil))))) (blkOk_by (own := [("way", 7)]) (N := N_ways) (sc := defScope s_ways) (by decide +kernel)) (fun _ _ _ _ _ => (pg_name (i := 7) sc_ways.nd rfl (Or.inl rfl) (Or.inr rfl))) (fun _ _ _ _ _ => pts_nil) (fun _ _ _ _ _ => (pe_op (show OpR _ _ (rCatA K) from op_catA) (pe_tup (pa_cons (pv 4) pa_nil)) (pv 7)))) pa_nil)))) pss_nil)))
        (pss_one (ps_ret (pv 3)))))), ?_⟩
    walk_at "rd"
    by_cases c : x = y
    · rw [if_pos (by simpa using c)]
      refine ⟨Evl.sz_of (by decide), fun t ht => ⟨Evl.sz_of (by decide), fun q hq => ?_⟩⟩
      refine kq _ q [.ref t] ((Evl.Ex.new ht).trans (Evl.Ex.new hq)) (Evl.fresh_back (Evl.Ex.new ht) hq) upd_same ?_
      unfold waysF
      rw [if_pos c]
      exact .cons ⟨t, rfl, (Evl.Ex.new hq) _ _ upd_same⟩ .nil
    rw [if_neg (by simpa using c)]
    walk_at "rd"
    refine ⟨Evl.sz_of (by decide), fun g hg => ?_⟩
    have e0 : Ex H (dr g (upd H g (.lst []))) := by rw [dr_upd, dr_none hg]; exact Evl.Ex.refl _
    walk_at "rd"
    refine forE ((Evl.Ex.new hg) _ _ hxs) (WWay H a x y g ar k) ⟨none, none, none, [], rfl, e0, upd_same, by rw [gW_zero]; exact .nil⟩ (fun i σ H' _ ⟨_, _, _, _, _, e, _, _⟩ => dr_ex _ _ (e _ _ hxs)) ?_ ?_
    · rintro i v t σ H2 hi hx ht ⟨v4, v5, v6, zs, rfl, e1, hg2, hw2⟩
      obtain ⟨pr, hpr, ipr⟩ := p2_get har hx
      have et : Ex H2 (upd H2 t (.tup [.int (i : Int), v])) := Evl.Ex.new ht
      have e2 : Ex H H2 := e1.trans dr_ex
      have htg : t ≠ g := fun z => by rw [z, hg2] at ht; cases ht
      refine ⟨t, _, rfl, sqT upd_same, rfl, _, _, rfl, _, _, rfl, gPr ((ipr.mono e2).mono et) ⟨rfl, ?_⟩⟩
      walk_at "rd"
      by_cases d : pr.1 = x
      · rw [if_pos (by simpa using d)]
        have hlt := hgt_lt hrise (List.mem_of_getElem? hpr)
        rw [d] at hlt
        have hg3 : (upd H2 t (.tup [.int (i : Int), v])) g = some (.lst zs) := et _ _ hg2
        refine ⟨.inl ⟨rfl, _, sqL hg3⟩, a, xs, ar, pr.2, y, r, rfl, et _ _ (e2 _ _ hxs), (har.mono e2).mono et, hrise, hlen, by omega, fun H3 q zs2 e3 hq hz hw => ?_⟩
        walk_at "rd"
        have hzl := p2_len hw
        have hb1 := ways_len hrise (y := y) (f := k) (x := pr.2)
        have hb2 := pow_small (r := r) hlen (v := pr.2)
        refine lcA hz (fun i2 acc B => Wl B acc (((waysF ar k pr.2 y).take i2).map fun w => (i : Int) :: w)) .nil ?_ ?_
        · intro D i2 v2 acc H4 hi2 hx2 hD hacc hal e4 hp
          obtain ⟨w2, hw2', t2, rfl, ht2⟩ := p2_get hw hx2
          have hwl := way_len hrise hlen (show hgt r ar pr.2 < k by omega) (List.mem_of_getElem? hw2')
          walk_at "rd"
          refine ⟨Evl.sz_of (by decide), fun t3 ht3 => ?_⟩
          have e5 : Ex H4 (upd H4 t3 (.tup [.int (i : Int)])) := Evl.Ex.new ht3
          refine catW (u := [(i : Int)]) (w := w2) upd_same (e5 _ _ ((e4.trans dr_ex) _ _ ht2)) (by simp only [List.length_cons, List.length_nil]; omega) fun t4 H5 e6 ht4 => ?_
          refine cw_put hacc hal (by omega) e4 (e5.trans e6) ?_
          have hD5 := (e5.trans e6) _ _ hacc
          rw [List.take_add_one, hw2', List.map_append]
          exact p2_snoc (wl_mono (dr_mono (e5.trans e6)) hp) (IsW.drp hD5 ⟨t4, rfl, ht4⟩)
        · intro D acc H4 hD hacc hal e4 hp
          rw [hzl, List.take_length] at hp
          have e34 : Ex H3 H4 := e4.trans dr_ex
          have e24 : Ex H2 H4 := et.trans (e3.trans e34)
          have hg4 := e24 _ _ hg2
          have hgl := gW_len hrise hlen (k := k) c i
          have h1 := p2_len hw2
          refine ⟨g, D, zs, acc, rfl, rfl, hg4, hacc, Evl.sz_of (by omega), ?_⟩
          refine ⟨some (.int (i : Int)), some (.int pr.1), some (.int pr.2), zs ++ acc, rfl, ?_, upd_same, ?_⟩
          · rw [dr_upd]; exact e1.trans (dr_mono e24)
          · rw [gW_succ hpr, if_pos d]
            exact wl_set hg4 (p2_app (wl_mono e24 hw2) (wl_mono dr_ex hp))
      · rw [if_neg (by simpa using d)]
        walk_at "rd"
        refine ⟨some (.int (i : Int)), some (.int pr.1), some (.int pr.2), zs, rfl, e1.trans (dr_mono et), et _ _ hg2, ?_⟩
        rw [gW_succ hpr, if_neg d, List.append_nil]
        exact wl_mono et hw2
    · rintro σ H2 ⟨v4, v5, v6, zs, rfl, e1, hg2, hw2⟩
      walk_at "rd"
      refine kq H2 g zs (e1.trans dr_ex) hg hg2 ?_
      rw [← gW_all c, ← p2_len har]
      exact hw2
theorem ok__ways (T : Txt K mg) : FnOk P w K mg base CX0 13 T.a__ways T.d__ways ["arrows", "place", "other"] sp__ways := ok_waysK T 13
theorem ok_Web_many (T : Txt K mg) : FnOk P w K mg base CX0 1 T.a_Web_many T.d_Web_many ["self"] (sp_Web_many T.C_Web) := by
  refine T.F_Web_many.ok scWeb_many (fun vs H Q E h => ?_) (fun cdv A outer s H vs Q E hr h => ?_)
  · obtain ⟨p, n, ar, rfl, _⟩ := h; rfl
  · obtain ⟨p, n, ar, rfl, ⟨dx, q, xs, h1, h2, h3⟩, k⟩ := h
    refine ⟨_, (pss_one (ps_ret (pe_callB call_len_seq (by rfl) T.n_len (by decide +kernel) (pa_cons (pe_fld (pv 0) rfl) pa_nil)))), ?_⟩
    walk_at "rd"
    refine fldV rfl h1 T.cl_Web T.nf_Web_arrows web_ar ?_
    walk_at "rd"
    refine ⟨xs, .inl (sqL h2), ?_⟩
    rw [p2_len h3]
    exact k
theorem ok_check_place (T : Txt K mg) : FnOk P w K mg base CX0 4 T.a_check_place T.d_check_place ["web", "place"] (sp_check_place T.C_Web) := by
  refine T.F_check_place.ok sccheck_place (fun vs H Q E h => ?_) (fun cdv A outer s H vs Q E hr h => ?_)
  · obtain ⟨p, n, ar, x, rfl, _⟩ := h; rfl
  · obtain ⟨p, n, ar, x, rfl, web, x0, x1, k⟩ := h
    refine ⟨_, (pss_one (ps_if (PW.pt (pw_or (pt_not (pt_val (pe_call (ok_is_count T) (hr.mono (by decide)) rfl T.m_is_count T.F_is_count.kp T.b_is_count .nil pass0 (pa_cons (pv 1) pa_nil)))) (pw_or1 (pt_cmpR op_ge (pv 1) (pe_prop (pv 0) T.cl_Web T.p_Web_places (ok_Web_places T) (hr.mono (by decide)) T.b_Web_places .nil pass0 rfl) (nomark _))))) (pss_one ps_never) pss_nil)), ?_⟩
    obtain ⟨dx, q, xs, h1, h2, h3⟩ := id web
    walk_at "rd"
    refine ⟨x, rfl, ?_⟩
    rw [decide_eq_true x0]
    walk_at "rd"
    refine ⟨dx, _, h1, p, n, ar, rfl, web, ?_⟩
    walk_at "rd"
    rw [decide_eq_false (by omega)]
    walk_at "rd"
    exact k
theorem ok_Web_ways (T : Txt K mg) : FnOk P w K mg base CX0 14 T.a_Web_ways T.d_Web_ways ["self", "place", "other"] (sp_Web_ways T.C_Web) := by
  refine T.F_Web_ways.ok scWeb_ways (fun vs H Q E h => ?_) (fun cdv A outer s H vs Q E hr h => ?_)
  · obtain ⟨p, n, ar, x, y, rfl, _⟩ := h; rfl
  · obtain ⟨p, n, ar, x, y, rfl, web, G, x0, x1, y0, y1, k⟩ := h
    refine ⟨_, (pss_cons (ps_expr (pe_call (ok_check_place T) (hr.mono (by decide)) rfl T.m_check_place T.F_check_place.kp T.b_check_place .nil pass0 (pa_cons (pv 0) (pa_cons (pv 1) pa_nil))))
        (pss_cons (ps_expr (pe_call (ok_check_place T) (hr.mono (by decide)) rfl T.m_check_place T.F_check_place.kp T.b_check_place .nil pass0 (pa_cons (pv 0) (pa_cons (pv 2) pa_nil))))
        (pss_one (ps_ret (pe_callB (SB.cr_sortedTI) (by rfl) T.n_sorted (by decide +kernel) (pa_cons (pe_call (ok__ways T) (hr.mono (by decide)) rfl T.m__ways T.F__ways.kp T.b__ways .nil pass0 (pa_cons (pe_fld (pv 0) rfl) (pa_cons (pv 1) (pa_cons (pv 2) pa_nil)))) pa_nil)))))), ?_⟩
    obtain ⟨dx, q, xs, h1, h2, h3⟩ := id web
    obtain ⟨r, hr⟩ := G.rise
    have hl := G.len
    walk_at "rd"
    refine ⟨p, n, ar, x, rfl, web, x0, x1, ?_⟩
    walk_at "rd"
    refine ⟨p, n, ar, y, rfl, web, y0, y1, ?_⟩
    walk_at "rd"
    refine fldV rfl h1 T.cl_Web T.nf_Web_arrows web_ar ?_
    walk_at "rd"
    refine ⟨q, xs, ar, x, y, r, rfl, h2, h3, hr, hl, rise_h hl x, fun H1 l zs e1 hl0 hl1 hw => ?_⟩
    refine sortW hl1 hw (ways_ne hr (rise_h hl x)) fun l2 zs2 us hl2 hw2 hs hp => ?_
    exact k _ l2 zs2 us (e1.trans (Evl.Ex.new hl2)) (Evl.fresh_back e1 hl2) upd_same (wl_mono (Evl.Ex.new hl2) hw2) hs hp
theorem ok_check_sizes (T : Txt K mg) : FnOk P w K mg base CX0 3 T.a_check_sizes T.d_check_sizes ["sizes"] sp_check_sizes := by
  refine T.F_check_sizes.ok sccheck_sizes (fun vs H Q E h => ?_) (fun cdv A outer s H vs Q E hr h => ?_)
  · obtain ⟨a, ns, rfl, _⟩ := h; rfl
  · obtain ⟨a, ns, rfl, ia, h6, hl, hs, k⟩ := h
    refine ⟨_, (pss_cons (ps_if (pt_val (pe_callB (cr_any rfl) (by rfl) T.n_any (by decide +kernel) (pa_cons (pe_lc (own := [("size", 1)]) rfl sccheck_sizes.nd (pi_list (pv 0)) (blkOk_by (own := [("size", 1)]) (N := Ncheck_sizes) (sc := defScope scheck_sizes) (by decide +kernel)) (fun _ _ _ _ _ => (pg_name (i := 1) sccheck_sizes.nd rfl (Or.inl rfl) (Or.inr rfl))) (fun _ _ _ _ _ => pts_nil) (fun _ _ _ _ _ => (pe_cmpR op_gt (pv 1) (pe_glob (v := .int _) rfl T.g_MOST_ROW ⟨_, rfl⟩) (nomark _)))) pa_nil))) (pss_one ps_never) pss_nil)
        (pss_one (ps_if (pt_cmpR op_gt (pe_callB (cr_sum rfl) (by rfl) T.n_sum (by decide +kernel) (pa_cons (pv 0) pa_nil)) (pe_glob (v := .int _) rfl T.g_MOST_SUM ⟨_, rfl⟩) (nomark _)) (pss_one ps_never) pss_nil))), ?_⟩
    walk_at "rd"
    refine lcA ia (fun i acc _ => acc = List.replicate i (V.bl false)) rfl ?_ ?_
    · intro D i x acc H3 hi hx hD hacc hal e3 hp
      obtain ⟨z, hz, rfl⟩ := map_get hx
      have := h6 z (List.mem_of_getElem? hz)
      walk_at "rd"
      rw [decide_eq_false (by omega)]
      refine cw_put hacc hal (by simp at hi; omega) e3 (Evl.Ex.refl _) (by rw [hp]; exact List.replicate_succ'.symm)
    · intro D acc H3 hD hacc hal e3 hp
      have e4 : Ex H H3 := e3.trans dr_ex
      walk_at "rd"
      refine anyR (List.replicate (ns.map V.int).length false) (sqL hacc) (by rw [hp]; simp) ?_
      rw [show (List.replicate (ns.map V.int).length false).any id = false by simp]
      walk_at "rd"
      refine sumR ns (sqL (e4 _ _ ia)) rfl ?_
      walk_at "rd"
      rw [decide_eq_false (by omega)]
      walk_at "rd"
      exact k H3 e4
theorem ok_simple_row (T : Txt K mg) : FnOk P w K mg base CX0 5 T.a_simple_row T.d_simple_row ["web", "place"] (sp_simple_row T.C_Web) := by
  refine T.F_simple_row.ok sk_simple_row (fun vs H Q E h => ?_) (fun cdv A outer s H vs Q E hr h => ?_)
  · obtain ⟨p, n, ar, x, rfl, _⟩ := h; rfl
  · obtain ⟨p, n, ar, x, rfl, web, n1, x0, x1, k⟩ := h
    refine ⟨_, (pss_cons (ps_expr (pe_call (ok_check_web T) (hr.mono (by decide)) rfl T.m_check_web T.F_check_web.kp T.b_check_web .nil pass0 (pa_cons (pv 0) pa_nil)))
        (pss_cons (ps_expr (pe_call (ok_check_place T) (hr.mono (by decide)) rfl T.m_check_place T.F_check_place.kp T.b_check_place .nil pass0 (pa_cons (pv 0) (pa_cons (pv 1) pa_nil))))
        (pss_one (ps_ret (pe_lc (own := [("other", 2)]) rfl sk_simple_row.nd (pi_range1 rfl T.n_range (pa_cons (pe_prop (pv 0) T.cl_Web T.p_Web_places (ok_Web_places T) (hr.mono (by decide)) T.b_Web_places .nil pass0 rfl) pa_nil)) (blkOk_by (own := [("other", 2)]) (N := Nsimple_row) (sc := defScope ssimple_row) (by decide +kernel)) (fun _ _ _ _ _ => (pg_name (i := 2) sk_simple_row.nd rfl (Or.inl rfl) (Or.inr rfl))) (fun _ _ _ _ _ => pts_nil) (fun _ _ _ _ _ => (pe_ifExp (pt_cmpR op_eq (pv 2) (pv 1) (nomark _)) pe_int pe_int))))))), ?_⟩
    obtain ⟨dx, q, xs, h1, h2, h3⟩ := id web
    walk_at "rd"
    refine ⟨p, n, ar, rfl, web, ?_⟩
    walk_at "rd"
    refine ⟨p, n, ar, x, rfl, web, x0, x1, ?_⟩
    walk_at "rd"
    refine ⟨dx, _, h1, p, n, ar, rfl, web, ?_⟩
    walk_at "rd"
    refine lcR ⟨by omega, by omega⟩ (fun i acc _ => acc = (vecM i (unitW x)).map V.int) rfl ?_ ?_
    · intro D i acc H3 hi hD hacc hal e3 hp
      walk_at "rd"
      have hv : (vecM (i + 1) (unitW x)).map V.int = acc ++ [.int (if (i : Int) = x then 1 else 0)] := by
        rw [hp]; simp [vecM, List.range_succ, unitW]
      by_cases c : (i : Int) = x
      · rw [if_pos (by simpa using c)]
        refine cw_put hacc hal (by omega) e3 (Evl.Ex.refl _) ?_
        rw [hv, if_pos c]
      · rw [if_neg (by simpa using c)]
        refine cw_put hacc hal (by omega) e3 (Evl.Ex.refl _) ?_
        rw [hv, if_neg c]
    · intro D acc H3 hD hacc hal e3 hp
      exact k H3 D (e3.trans dr_ex) hD (by unfold IL; rw [← hp]; exact hacc)
theorem ok_ways_row (T : Txt K mg) : FnOk P w K mg base CX0 15 T.a_ways_row T.d_ways_row ["web", "place"] (sp_ways_row T.C_Web) := by
  refine T.F_ways_row.ok scways_row (fun vs H Q E h => ?_) (fun cdv A outer s H vs Q E hr h => ?_)
  · obtain ⟨p, n, ar, x, rfl, _⟩ := h; rfl
  · obtain ⟨p, n, ar, x, rfl, web, G, x0, x1, c6, cs, k⟩ := h
    refine ⟨_, (pss_cons (ps_expr (pe_call (ok_check_web T) (hr.mono (by decide)) rfl T.m_check_web T.F_check_web.kp T.b_check_web .nil pass0 (pa_cons (pv 0) pa_nil)))
        (pss_cons (ps_expr (pe_call (ok_check_place T) (hr.mono (by decide)) rfl T.m_check_place T.F_check_place.kp T.b_check_place .nil pass0 (pa_cons (pv 0) (pa_cons (pv 1) pa_nil))))
        (pss_cons (ps_setLc (i := 2) (own := [("other", 3)]) rfl scways_row.nd rfl rfl (sw_true rfl rfl rfl (by decide +kernel)) (pi_range1 rfl T.n_range (pa_cons (pe_prop (pv 0) T.cl_Web T.p_Web_places (ok_Web_places T) (hr.mono (by decide)) T.b_Web_places .nil pass0 rfl) pa_nil)) (blkOk_by (own := [("other", 3)]) (N := Nways_row) (sc := defScope sways_row) (by decide +kernel)) (fun _ _ _ _ _ => (pg_name (i := 3) scways_row.nd rfl (Or.inl rfl) (Or.inr rfl))) (fun _ _ _ _ _ => pts_nil) (fun _ _ _ _ _ => (pe_callB (show CallR _ _ (Evl.rLenS K) from call_len_seq) (by rfl) T.n_len (by decide +kernel) (pa_cons (pe_meth (pv 0) T.cl_Web T.me_Web_ways (ok_Web_ways T) (hr.mono (by decide)) T.b_Web_ways .nil pass0 (pa_cons (pv 1) (pa_cons (pv 3) pa_nil))) pa_nil))))
        (pss_cons (ps_expr (pe_call (ok_check_sizes T) (hr.mono (by decide)) rfl T.m_check_sizes T.F_check_sizes.kp T.b_check_sizes .nil pass0 (pa_cons (pv 2) pa_nil)))
        (pss_one (ps_ret (pv 2))))))), ?_⟩
    obtain ⟨dx, q, xs, h1, h2, h3⟩ := id web
    have n13 := G.hi
    walk_at "rd"
    refine ⟨p, n, ar, rfl, web, ?_⟩
    walk_at "rd"
    refine ⟨p, n, ar, x, rfl, web, x0, x1, ?_⟩
    walk_at "rd"
    refine ⟨dx, _, h1, p, n, ar, rfl, web, ?_⟩
    walk_at "rd"
    refine lcR ⟨by omega, by omega⟩ (fun i acc _ => acc = (vecM i (cntW ar 13 x)).map V.int) rfl ?_ ?_
    · intro D i acc H3 hi hD hacc hal e3 hp
      have e0 : Ex H H3 := e3.trans dr_ex
      walk_at "rd"
      refine ⟨dx, _, e0 _ _ h1, web_no (by decide) (by decide), p, n, ar, x, (i : Int), rfl, web.mono e0, G, x0, x1, by omega, hi, fun H4 l zs ws e4 _ hl hw hs hperm => ?_⟩
      refine ⟨_, zs, rfl, .inl (sqL hl), ?_⟩
      refine cw_put hacc hal (by omega) e3 e4 ?_
      rw [p2_len hw, hperm.length_eq, hp]
      simp [vecM, List.range_succ, cntW]
    · intro D acc H3 hD hacc hal e3 hp
      have e0 : Ex H H3 := e3.trans dr_ex
      have hi : IL H3 D (vecM n.toNat (cntW ar 13 x)) := by unfold IL; rw [← hp]; exact hacc
      walk_at "rd"
      refine ⟨D, _, rfl, hi, c6, by rw [vecM_len]; omega, cs, fun H4 e4 => ?_⟩
      walk_at "rd"
      exact k H4 D (e0.trans e4) (e4 _ _ hi)
end
end W17

set_option maxRecDepth 100000
set_option maxHeartbeats 4000000
namespace W17
open PySem L2 SB
local macro_rules | `(tactic| walk_at "rd") => `(tactic| first | simp only [rd_var, rd_c, rd_seq, rd_next, rd_ret, rd_retN, rd_drop, rd_asg, rd_op, rd_un, rd_call, rd_callK0, rd_cons, rd_nil, rd_cb, rd_test, rd_b, rd_andV, rd_orV, rd_notV, rd_and, rd_or, rd_not, rd_if, rd_ifS, rd_tup, rd_lst, rd_step, rd_wstep, rd_revL, rNotB_bl, rd_lcL, rd_lc2, rd_lcZ, rd_lcR, rd_lcZS, rd_forE, rd_revT, rd_methK0, rd_makeN0, rd_forL, rd_forZ, rd_forR, rd_make, rd_meth, rd_sfld, rd_bm, rd_prop, rd_yes, rd_par, rd_name, wipe, rI0_int, rI_int, rEq_int, rNe_int, rEq_bl, rNe_bl, L2.start, List.map_cons, List.map_nil, List.length_cons, List.length_nil, Nat.zero_add, Nat.reduceAdd, Nat.reduceSub, List.replicate, List.getElem?_cons_zero, List.getElem?_cons_succ, List.set_cons_zero, List.set_cons_succ, Option.some.injEq, exists_eq_left', exists_eq_left, exists_and_left, V.int.injEq, V.bl.injEq, V.ref.injEq, List.append_nil, List.cons_append, List.nil_append, List.cons.injEq, and_true, true_and, if_true, if_false, Bool.not_true, Bool.not_false, Bool.false_eq_true, ↓reduceIte, reduceCtorEq, decide_true, decide_false, false_and, exists_false, or_false, exists_const] | skip)
section
variable {P : Program} {w : World} {K : PySem.W.Frag} {mg : Str → Option Value} {base : Heap}
theorem ok_form (T : Txt K mg) : FnOk P w K mg base CX0 6 T.a_form T.d_form ["web", "row", "other"] (sp_form T.C_Web) := by
  refine T.F_form.ok scform (fun vs H Q E h => ?_) (fun cdv A outer s H vs Q E hr h => ?_)
  · obtain ⟨p, a, b, n, ar, ns, ms, rfl, _⟩ := h; rfl
  · obtain ⟨p, a, b, n, ar, ns, ms, rfl, web, inn, hlen, ia, Ra, ib, Rb, k⟩ := h
    refine ⟨_, (pss_cons (ps_expr (pe_call (ok_check_web T) (hr.mono (by decide)) rfl T.m_check_web T.F_check_web.kp T.b_check_web .nil pass0 (pa_cons (pv 0) pa_nil)))
        (pss_cons (ps_expr (pe_call (ok_check_row T) (hr.mono (by decide)) rfl T.m_check_row T.F_check_row.kp T.b_check_row .nil pass0 (pa_cons (pv 0) (pa_cons (pv 1) pa_nil))))
        (pss_cons (ps_expr (pe_call (ok_check_row T) (hr.mono (by decide)) rfl T.m_check_row T.F_check_row.kp T.b_check_row .nil pass0 (pa_cons (pv 0) (pa_cons (pv 2) pa_nil))))
        (pss_cons (ps_set (i := 3) scform.nd rfl (Or.inl rfl) (pe_callB (cr_sum rfl) (by rfl) T.n_sum (by decide +kernel) (pa_cons (pe_lc (own := [("size", 4), ("late", 5)]) rfl scform.nd (SB.pi_zipS (by rfl) T.n_zip (pa_cons (pv 1) (pa_cons (pv 2) pa_nil))) (blkOk_by (own := [("size", 4), ("late", 5)]) (N := Nform) (sc := defScope sform) (by decide +kernel)) (fun _ _ _ _ _ => (show PG _ _ (gTup K 2 (gCons (gName 4) (gCons (gName 5) gNil))) from pg_tup rfl (pgs_cons (pg_name (i := 4) scform.nd rfl (Or.inl rfl) (Or.inr rfl)) (pgs_cons (pg_name (i := 5) scform.nd rfl (Or.inl rfl) (Or.inr rfl)) pgs_nil)))) (fun _ _ _ _ _ => pts_nil) (fun _ _ _ _ _ => (pe_op op_mul (pv 4) (pv 5)))) pa_nil)))
        (pss_one (ps_ret (pe_op op_sub (pv 3) (pe_callB (cr_sum rfl) (by rfl) T.n_sum (by decide +kernel) (pa_cons (pe_lc (own := [("tail", 6), ("head", 7)]) rfl scform.nd (pi_list (pe_meth0 (pv 0) T.cl_Web T.me_Web_arrows (ok_Web_arrows T) (hr.mono (by decide)) T.b_Web_arrows .nil pass0)) (blkOk_by (own := [("tail", 6), ("head", 7)]) (N := Nform) (sc := defScope sform) (by decide +kernel)) (fun _ _ _ _ _ => (show PG _ _ (gTup K 2 (gCons (gName 6) (gCons (gName 7) gNil))) from pg_tup rfl (pgs_cons (pg_name (i := 6) scform.nd rfl (Or.inl rfl) (Or.inr rfl)) (pgs_cons (pg_name (i := 7) scform.nd rfl (Or.inl rfl) (Or.inr rfl)) pgs_nil)))) (fun _ _ _ _ _ => pts_nil) (fun _ _ _ _ _ => (pe_op op_mul (pe_ix (show IxR _ (rIx K) from ix_seq) (pv 1) (pv 6) (fun _ _ => rfl)) (pe_ix (show IxR _ (rIxL K) from ix_list) (pv 2) (pv 7) (fun _ _ => rfl))))) pa_nil))))))))), ?_⟩
    obtain ⟨dx, q, xs, h1, h2, h3⟩ := id web
    have ra1 := Ra.len
    have rb1 := Rb.len
    have rn := Ra.nb
    walk_at "rd"
    refine ⟨p, n, ar, rfl, web, ?_⟩
    walk_at "rd"
    refine ⟨p, a, n, ar, ns, rfl, web, ia, Ra, fun H1 e1 => ?_⟩
    walk_at "rd"
    refine ⟨p, b, n, ar, ms, rfl, web.mono e1, .inl (e1 _ _ ib), Rb, fun H2 e2 => ?_⟩
    have e02 : Ex H H2 := e1.trans e2
    walk_at "rd"
    refine lcZS (ia.mono e02) (e02 _ _ ib) (by simp; omega) (fun i acc _ => acc = (((ns.zip ms).take i).map fun q => q.1 * q.2).map V.int) rfl ?_ ?_
    · intro D i x y acc H3 t hi hx hy hD hacc hl e3 hp ht
      obtain ⟨z1, hz1, rfl⟩ := map_get hx
      obtain ⟨z2, hz2, rfl⟩ := map_get hy
      have hza := Ra.ok z1 (List.mem_of_getElem? hz1)
      refine gPr (p := (z1, z2)) ⟨t, rfl, upd_same⟩ ?_
      walk_at "rd"
      refine ⟨.inl ⟨by omega, by omega⟩, cw_put hacc hl (by simp at hi; omega) e3 (Evl.Ex.new ht) ?_⟩
      rw [hp, List.take_add_one, zip_get hz1 hz2]
      simp
    · intro D acc H3 hD hacc hl e3 hp
      have e03 : Ex H H3 := e02.trans (e3.trans dr_ex)
      have hzl : (ns.zip ms).length = ns.length := by rw [List.length_zip]; omega
      walk_at "rd"
      refine sumR ((ns.zip ms).map fun q => q.1 * q.2) (sqL hacc) (by rw [hp, List.length_map, ← hzl, List.take_length]) ?_
      walk_at "rd"
      refine ⟨dx, _, e03 _ _ h1, web_no (by decide) (by decide), p, n, ar, rfl, web.mono e03, fun l ys hl2 hys => ?_⟩
      walk_at "rd"
      have hyl := p2_len hys
      refine lcA upd_same (fun i acc _ => acc = ((ar.take i).map fun p => ns.getD p.1.toNat 0 * ms.getD p.2.toNat 0).map V.int) rfl ?_ ?_
      · intro D2 i x acc2 H4 hi hx hD2 hacc2 hl4 e4 hp2
        have e34 : Ex H3 H4 := (Evl.Ex.new hl2).trans (e4.trans dr_ex)
        obtain ⟨pr, hpr, ipr⟩ := p2_get hys hx
        obtain ⟨o1, o2, o3, o4, o5⟩ := inn pr (List.mem_of_getElem? hpr)
        refine gPr (ipr.mono e34) ?_
        walk_at "rd"
        refine ixS ((ia.mono e03).mono e34) (at_ints o1 (by omega)) ?_
        refine ixL (sqL (e34 _ _ (e03 _ _ ib))) (at_ints o3 (by omega)) ?_
        walk_at "rd"
        have hza := getD_ok Ra.ok o1 (by omega : pr.1 < (ns.length : Int))
        refine ⟨.inl ⟨by omega, by omega⟩, cw_put hacc2 hl4 (by omega) e4 (Evl.Ex.refl _) ?_⟩
        rw [hp2, List.take_add_one, hpr]
        simp
      · intro D2 acc2 H4 hD2 hacc2 hl4 e4 hp2
        walk_at "rd"
        refine sumR (ar.map fun p => ns.getD p.1.toNat 0 * ms.getD p.2.toNat 0) (sqL hacc2) (by rw [hp2, hyl, List.take_length]) ?_
        walk_at "rd"
        exact k H4 (e03.trans ((Evl.Ex.new hl2).trans (e4.trans dr_ex)))
theorem ok__law_form (T : Txt K mg) : FnOk P w K mg base CX0 1 T.a__law_form T.d__law_form ["arrows", "row", "other"] sp__law_form := by
  refine T.F__law_form.ok sc_law_form (fun vs H Q E h => ?_) (fun cdv A outer s H vs Q E hr h => ?_)
  · obtain ⟨a, b, c, xs, n, ar, ns, ms, rfl, _⟩ := h; rfl
  · obtain ⟨a, b, c, xs, n, ar, ns, ms, rfl, h2, h3, inn, hlen, ia, Ra, ib, Rb, k⟩ := h
    refine ⟨_, (pss_cons (ps_set (i := 3) sc_law_form.nd rfl (Or.inl rfl) (pe_callB (cr_sum rfl) (by rfl) T.n_sum (by decide +kernel) (pa_cons (pe_lc (own := [("one", 4), ("two", 5)]) rfl sc_law_form.nd (SB.pi_zipS (by rfl) T.n_zip (pa_cons (pv 1) (pa_cons (pv 2) pa_nil))) (blkOk_by (own := [("one", 4), ("two", 5)]) (N := N_law_form) (sc := defScope s_law_form) (by decide +kernel)) (fun _ _ _ _ _ => (show PG _ _ (gTup K 2 (gCons (gName 4) (gCons (gName 5) gNil))) from pg_tup rfl (pgs_cons (pg_name (i := 4) sc_law_form.nd rfl (Or.inl rfl) (Or.inr rfl)) (pgs_cons (pg_name (i := 5) sc_law_form.nd rfl (Or.inl rfl) (Or.inr rfl)) pgs_nil)))) (fun _ _ _ _ _ => pts_nil) (fun _ _ _ _ _ => (pe_op op_mul (pv 4) (pv 5)))) pa_nil)))
        (pss_one (ps_ret (pe_op op_sub (pv 3) (pe_callB (cr_sum rfl) (by rfl) T.n_sum (by decide +kernel) (pa_cons (pe_lc (own := [("tail", 6), ("head", 7)]) rfl sc_law_form.nd (pi_list (pv 0)) (blkOk_by (own := [("tail", 6), ("head", 7)]) (N := N_law_form) (sc := defScope s_law_form) (by decide +kernel)) (fun _ _ _ _ _ => (show PG _ _ (gTup K 2 (gCons (gName 6) (gCons (gName 7) gNil))) from pg_tup rfl (pgs_cons (pg_name (i := 6) sc_law_form.nd rfl (Or.inl rfl) (Or.inr rfl)) (pgs_cons (pg_name (i := 7) sc_law_form.nd rfl (Or.inl rfl) (Or.inr rfl)) pgs_nil)))) (fun _ _ _ _ _ => pts_nil) (fun _ _ _ _ _ => (pe_op op_mul (pe_ix (show IxR _ (rIxL K) from ix_list) (pv 1) (pv 6) (fun _ _ => rfl)) (pe_ix (show IxR _ (rIxL K) from ix_list) (pv 2) (pv 7) (fun _ _ => rfl))))) pa_nil)))))), ?_⟩
    have ra1 := Ra.len
    have rb1 := Rb.len
    have rn := Ra.nb
    walk_at "rd"
    refine lcZS ia.is ib (by simp; omega) (fun i acc _ => acc = (((ns.zip ms).take i).map fun q => q.1 * q.2).map V.int) rfl ?_ ?_
    · intro D i x y acc H3 t hi hx hy hD hacc hl e3 hp ht
      obtain ⟨z1, hz1, rfl⟩ := map_get hx
      obtain ⟨z2, hz2, rfl⟩ := map_get hy
      have hza := Ra.ok z1 (List.mem_of_getElem? hz1)
      refine gPr (p := (z1, z2)) ⟨t, rfl, upd_same⟩ ?_
      walk_at "rd"
      refine ⟨.inl ⟨by omega, by omega⟩, cw_put hacc hl (by simp at hi; omega) e3 (Evl.Ex.new ht) ?_⟩
      rw [hp, List.take_add_one, zip_get hz1 hz2]
      simp
    · intro D acc H3 hD hacc hl e3 hp
      have e03 : Ex H H3 := e3.trans dr_ex
      have hzl : (ns.zip ms).length = ns.length := by rw [List.length_zip]; omega
      walk_at "rd"
      refine sumR ((ns.zip ms).map fun q => q.1 * q.2) (sqL hacc) (by rw [hp, List.length_map, ← hzl, List.take_length]) ?_
      walk_at "rd"
      have hyl := p2_len h3
      refine lcA (e03 _ _ h2) (fun i acc _ => acc = ((ar.take i).map fun p => ns.getD p.1.toNat 0 * ms.getD p.2.toNat 0).map V.int) rfl ?_ ?_
      · intro D2 i x acc2 H4 hi hx hD2 hacc2 hl4 e4 hp2
        have e34 : Ex H3 H4 := e4.trans dr_ex
        obtain ⟨pr, hpr, ipr⟩ := p2_get h3 hx
        obtain ⟨o1, o2, o3, o4, o5⟩ := inn pr (List.mem_of_getElem? hpr)
        refine gPr ((ipr.mono e03).mono e34) ?_
        walk_at "rd"
        refine ixL (sqL (e34 _ _ (e03 _ _ ia))) (at_ints o1 (by omega)) ?_
        refine ixL (sqL (e34 _ _ (e03 _ _ ib))) (at_ints o3 (by omega)) ?_
        walk_at "rd"
        have hza := getD_ok Ra.ok o1 (by omega : pr.1 < (ns.length : Int))
        refine ⟨.inl ⟨by omega, by omega⟩, cw_put hacc2 hl4 (by omega) e4 (Evl.Ex.refl _) ?_⟩
        rw [hp2, List.take_add_one, hpr]
        simp
      · intro D2 acc2 H4 hD2 hacc2 hl4 e4 hp2
        walk_at "rd"
        refine sumR (ar.map fun p => ns.getD p.1.toNat 0 * ms.getD p.2.toNat 0) (sqL hacc2) (by rw [hp2, hyl, List.take_length]) ?_
        walk_at "rd"
        exact k H4 (e03.trans (e4.trans dr_ex))
end
end W17

set_option maxRecDepth 100000
set_option maxHeartbeats 4000000
namespace W17
open PySem L2 SB
local macro_rules | `(tactic| walk_at "rd") => `(tactic| first | simp only [rd_var, rd_c, rd_seq, rd_next, rd_ret, rd_retN, rd_drop, rd_asg, rd_op, rd_un, rd_call, rd_callK0, rd_cons, rd_nil, rd_cb, rd_test, rd_b, rd_andV, rd_orV, rd_notV, rd_and, rd_or, rd_not, rd_if, rd_ifS, rd_tup, rd_lst, rd_step, rd_wstep, rd_revL, rNotB_bl, rd_lcL, rd_lc2, rd_lcZ, rd_lcR, rd_lcZS, rd_forE, rd_revT, rd_methK0, rd_makeN0, rd_forL, rd_forZ, rd_forR, rd_make, rd_meth, rd_sfld, rd_bm, rd_prop, rd_yes, rd_par, rd_name, wipe, rI0_int, rI_int, rEq_int, rNe_int, rEq_bl, rNe_bl, L2.start, List.map_cons, List.map_nil, List.length_cons, List.length_nil, Nat.zero_add, Nat.reduceAdd, Nat.reduceSub, List.replicate, List.getElem?_cons_zero, List.getElem?_cons_succ, List.set_cons_zero, List.set_cons_succ, Option.some.injEq, exists_eq_left', exists_eq_left, exists_and_left, V.int.injEq, V.bl.injEq, V.ref.injEq, List.append_nil, List.cons_append, List.nil_append, List.cons.injEq, and_true, true_and, if_true, if_false, Bool.not_true, Bool.not_false, Bool.false_eq_true, ↓reduceIte, reduceCtorEq, decide_true, decide_false, false_and, exists_false, or_false, exists_const] | skip)
section
variable {P : Program} {w : World} {K : PySem.W.Frag} {mg : Str → Option Value} {base : Heap}
theorem ok__law_ways (T : Txt K mg) : FnOk P w K mg base CX0 1 T.a__law_ways T.d__law_ways ["arrows", "place", "other"] sp__law_ways := by
  refine T.F__law_ways.ok sc_law_ways (fun vs H Q E h => ?_) (fun cdv A outer s H vs Q E hr h => ?_)
  · obtain ⟨a, xs, ar, n, x, y, rfl, _⟩ := h; rfl
  · obtain ⟨a, xs, ar, n, x, y, rfl, hxs, har, G, kq⟩ := h
    refine ⟨_, (pss_cons (ps_par (i := 3) (j := 4) (by rfl) sc_law_ways.nd rfl rfl (by decide) rfl rfl (pa_cons (pe_lst pa_nil) (pa_cons (pe_lst (pa_cons (pe_tup (pa_cons (pe_tup pa_nil) (pa_cons (pv 1) pa_nil))) pa_nil)) pa_nil)) (by rfl))
        (pss_cons (ps_while PassesOwn.never (pt_cmpR (op_neD hr.units) (pv 4) (pe_lst pa_nil) (nomark _)) (pss_cons (ps_set (i := 5) sc_law_ways.nd rfl (Or.inl rfl) (pe_lst pa_nil))
        (pss_cons (ps_for PassesOwn.never rfl (pi_list (pv 4)) (pg_tup rfl (pgs_cons (pg_name (i := 6) sc_law_ways.nd rfl (Or.inl rfl) (Or.inr rfl)) (pgs_cons (pg_name (i := 7) sc_law_ways.nd rfl (Or.inl rfl) (Or.inr rfl)) pgs_nil))) (pss_cons (ps_if (pt_cmpR op_eq (pv 7) (pv 2) (nomark _)) (pss_one (ps_expr (pe_bm PySem.F.plainAttrs_list PySem.F.slot_list_append PySem.F.type_list_append mt_append (pv 3) (pa_cons (pv 6) pa_nil)))) pss_nil)
        (pss_one (ps_for PassesOwn.never rfl (pi_enum (by rfl) T.n_enumerate (pa_cons (pv 0) pa_nil)) (pg_tup rfl (pgs_cons (pg_name (i := 8) sc_law_ways.nd rfl (Or.inl rfl) (Or.inr rfl)) (pgs_cons (pg_name (i := 9) sc_law_ways.nd rfl (Or.inl rfl) (Or.inr rfl)) pgs_nil))) (pss_one (ps_if (pt_cmpR op_eq (pe_ix ix_tup (pv 9) pe_int (fun _ _ => rfl)) (pv 7) (nomark _)) (pss_one (ps_expr (pe_bm PySem.F.plainAttrs_list PySem.F.slot_list_append PySem.F.type_list_append mt_append (pv 5) (pa_cons (pe_tup (pa_cons (pe_op op_catA (pv 6) (pe_tup (pa_cons (pv 8) pa_nil))) (pa_cons (pe_ix ix_tup (pv 9) pe_int (fun _ _ => rfl)) pa_nil))) pa_nil)))) pss_nil))))))
        (pss_one (ps_set (i := 4) sc_law_ways.nd rfl (Or.inl rfl) (pv 5))))))
        (pss_one (ps_ret (pe_callB (SB.cr_sortedTI) (by rfl) T.n_sorted (by decide +kernel) (pa_cons (pv 3) pa_nil)))))), ?_⟩
    obtain ⟨r, hrise⟩ := G.rise
    have hlen := G.len
    have hal := p2_len har
    walk_at "rd"
    refine ⟨Evl.sz_of (by decide), fun f hf => ⟨Evl.sz_of (by decide), fun u0 hu0 => ⟨Evl.sz_of (by decide), fun t0 ht0 => ⟨Evl.sz_of (by decide), fun g0 hg0 => ?_⟩⟩⟩⟩
    have e1 : Ex H (upd H f (.lst [])) := Evl.Ex.new hf
    have e2 : Ex (upd H f (.lst [])) (upd (upd H f (.lst [])) u0 (.tup [])) := Evl.Ex.new hu0
    have e3 := Evl.Ex.new (o := .tup [.ref u0, .int x]) ht0
    have e4 := Evl.Ex.new (o := .lst [.ref t0]) hg0
    refine ⟨_, _, ⟨rfl, rfl⟩, ?_⟩
    walk_at "rd"
    refine ⟨WLev H a x y f ar, ⟨13, 0, g0, none, none, none, none, none, [], [.ref t0], rfl, e1.trans (e2.trans (e3.trans e4)), (e2.trans (e3.trans e4)) _ _ upd_same, .nil, upd_same, .cons ⟨t0, u0, rfl, e4 _ _ upd_same, (e3.trans e4) _ _ upd_same⟩ .nil, (fun z => by rw [z, (e2.trans e3) _ _ upd_same] at hg0; cases hg0), by decide, rfl⟩, ?_⟩
    rintro m σ H2 ⟨k0, gq, v5, v6, v7, v8, v9, zs, gs, rfl, e, hf2, hw, hg2, hgl, hne, hk, rfl⟩
    walk_at "rd"
    refine ⟨Evl.sz_of (by decide), fun t ht => ?_⟩
    have et : Ex H2 (upd H2 t (.lst [])) := Evl.Ex.new ht
    refine neD (dp_gl (et _ _ hg2) (gl_mono et hgl)) (dp_gl (gs := []) upd_same .nil) (dG_sh _) (dG_sh _) ?_
    rw [dG_eqv]
    walk_at "rd"
    by_cases c : goN ar x k0 = []
    · rw [c]
      walk_at "rd"
      have hperm := perm_fnd hrise (y := y) c (rise_h hlen x)
      refine sortW (et _ _ hf2) (wl_mono et hw) (fun h2 w hwm => ways_ne hrise (rise_h hlen x) (by rw [← hperm.length_eq]; exact h2) w (hperm.mem_iff.mp hwm)) fun l zs2 us hl0 hw2 hs hp => ?_
      exact kq _ l zs2 us (e.trans (et.trans (Evl.Ex.new hl0))) (Evl.fresh_back (e.trans et) hl0) upd_same (wl_mono (Evl.Ex.new hl0) hw2) hs (hp.trans hperm)
    · rw [if_pos (by simp [c])]
      have hk12 : k0 < 13 := by
        rcases Nat.lt_or_ge k0 13 with h | h
        · exact h
        · exact absurd (goN_end hrise (Nat.lt_of_lt_of_le (rise_h hlen x) h)) c
      refine ⟨fun σ' H' => ∃ m', m' < 13 - k0 ∧ WLev H a x y f ar m' σ' H', fun _ _ h => h, ?_⟩
      refine ⟨Evl.sz_of (by decide), fun l hl0 => ?_⟩
      have el : Ex (upd H2 t (.lst [])) (upd (upd H2 t (.lst [])) l (.lst [])) := Evl.Ex.new hl0
      have e5 := et.trans el
      have hlH : H l = none := Evl.fresh_back (e.trans et) hl0
      have hfl : f ≠ l := fun z => by rw [← z, et _ _ hf2] at hl0; cases hl0
      have hgl2 : gq ≠ l := fun z => by rw [← z, et _ _ hg2] at hl0; cases hl0
      have hfH : H f = none := hf
      have hgsl := p2_len hgl
      walk_at "rd"
      refine forA (e5 _ _ hg2) (WGo H a x y f gq l ar k0 gs) ⟨v6, v7, v8, v9, zs, [], rfl, e.trans e5, e5 _ _ hf2, by rw [hitP_zero, List.append_nil]; exact wl_mono e5 hw, e5 _ _ hg2, gl_mono e5 hgl, upd_same, by rw [nxtP_zero]; exact .nil⟩ (fun i σ H' _ ⟨_, _, _, _, _, _, _, _, _, _, h, _⟩ => h) ?_ ?_
      · rintro j v σ H3 hj hx ⟨v6', v7', v8', v9', zs3, ls3, rfl, e6, hf3, hw3, hg3, hgl3, hl3, hn3⟩
        obtain ⟨g, hg, tg, u, rfl, htg, hu⟩ := p2_get hgl3 hx
        have hglen : g.1.length = k0 := (mem_goN.mp (show (g.1, g.2) ∈ goN ar x k0 from List.mem_of_getElem? hg)).2
        refine ⟨tg, _, rfl, sqT htg, rfl, _, _, rfl, _, _, rfl, rfl, ?_⟩
        have hzl := p2_len hw3
        have hfb := fnd_len hrise hlen hk (x := x) (y := y) (j := j)
        -- behind the first test
        have rest : ∀ (H4 : Hp) (zs4 : List V), Ex H H4 → H4 f = some (.lst zs4) → Wl H4 zs4 (fndN ar x y k0 ++ hitP ar x y k0 (j + 1)) → H4 gq = some (.lst gs) → Gl' H4 gs (goN ar x k0) → H4 l = some (.lst ls3) → Gl' H4 ls3 (nxtP ar x k0 j) → H4 u = some (.tup (g.1.map V.int)) →
          WAr H a x y f gq l ar k0 gs j g u 0 [some (.ref a), some (.int x), some (.int y), some (.ref f), some (.ref gq), some (.ref l), some (.ref u), some (.int g.2), v8', v9'] H4 := fun H4 zs4 a1 a2 a3 a4 a5 a6 a7 a8 =>
            ⟨v8', v9', zs4, ls3, rfl, a1, a2, a3, a4, a5, a6, by rw [stpP_zero, List.append_nil]; exact a7, a8⟩
        walk_at "rd"
        by_cases d : g.2 = y
        · rw [if_pos (by simpa using d)]
          refine ⟨.inl ⟨rfl, _, sqL hf3⟩, f, zs3, _, rfl, rfl, hf3, Evl.sz_lt (by omega), ?_⟩
          have eA : Ex H (upd H3 f (.lst (zs3 ++ [.ref u]))) := Evl.Ex.mut e6 hfH
          have hA : WAr H a x y f gq l ar k0 gs j g u 0 [some (.ref a), some (.int x), some (.int y), some (.ref f), some (.ref gq), some (.ref l), some (.ref u), some (.int g.2), v8', v9'] (upd H3 f (.lst (zs3 ++ [.ref u]))) := by
            refine rest _ (zs3 ++ [.ref u]) eA upd_same ?_ (by rw [upd_ne hne]; exact hg3) (gl_set hf3 hgl3) (by rw [upd_ne hfl.symm]; exact hl3) (gl_set hf3 hn3) (by rw [upd_ne (fun z => by rw [z, hf3] at hu; cases hu)]; exact hu)
            rw [hitP_succ hg, ← List.append_assoc]
            unfold hitG
            rw [if_pos d]
            exact p2_snoc (wl_set hf3 hw3) (IsW.set hf3 ⟨u, rfl, hu⟩)
          dsimp only
          refine forE (eA _ _ hxs) (WAr H a x y f gq l ar k0 gs j g u) (hA) (fun i σ H' _ ⟨_, _, _, _, _, h, _⟩ => h _ _ hxs) ?_ ?_
          · rintro i v t2 σ H5 hi hx2 ht2 ⟨v8'', v9'', zs5, ls5, rfl, e7, hf5, hw5, hg5, hgl5, hl5, hn5, hu5⟩
            obtain ⟨pr, hpr, tp, rfl, htp⟩ := p2_get har hx2
            have et2 := Evl.Ex.new (o := .tup [.int (i : Int), .ref tp]) ht2
            refine ⟨t2, _, rfl, sqT upd_same, rfl, _, _, rfl, _, _, rfl, rfl, ?_⟩
            have htp5 := et2 _ _ (e7 _ _ htp)
            walk_at "rd"
            refine ixT (sqT htp5) (at_of (j := 0) rfl rfl) ?_
            walk_at "rd"
            by_cases d2 : pr.1 = g.2
            · rw [if_pos (by simpa using d2)]
              refine ⟨.inl ⟨rfl, _, sqL (et2 _ _ hl5)⟩, Evl.sz_of (by decide), fun t3 ht3 => ?_⟩
              have e8 := Evl.Ex.new (o := .tup [.int (i : Int)]) ht3
              refine catW (u := g.1) (w := [(i : Int)]) (e8 _ _ (et2 _ _ hu5)) upd_same (by simp only [List.length_cons, List.length_nil]; omega) fun t4 H6 e9 ht4 => ?_
              refine ixT (sqT (e9 _ _ (e8 _ _ htp5))) (at_of (j := 1) rfl rfl) ?_
              refine ⟨Evl.sz_of (by decide), fun t5 ht5 => ?_⟩
              have e10 := Evl.Ex.new (o := .tup [.ref t4, .int pr.2]) ht5
              have eall := et2.trans (e8.trans (e9.trans e10))
              have hl6 := eall _ _ hl5
              have hnl := nxt_len hrise hlen hg (i := i)
              have hll := p2_len hn5
              refine ⟨l, ls5, _, rfl, rfl, hl6, Evl.sz_lt (by omega), ?_⟩
              refine ⟨some (.int (i : Int)), some (.ref tp), zs5, ls5 ++ [.ref t5], rfl, Evl.Ex.mut (e7.trans eall) hlH, by rw [upd_ne hfl]; exact eall _ _ hf5, wl_set hl6 (wl_mono eall hw5), by rw [upd_ne hgl2]; exact eall _ _ hg5, gl_set hl6 (gl_mono eall hgl5), upd_same, ?_, by rw [upd_ne (fun z => by rw [z, hl5] at hu5; cases hu5)]; exact eall _ _ hu5⟩
              rw [stpP_succ hpr, ← List.append_assoc]
              unfold stepG
              rw [if_pos d2]
              exact p2_snoc (gl_set hl6 (gl_mono eall hn5)) (IsG.set hl6 ⟨t5, t4, rfl, upd_same, e10 _ _ ht4⟩)
            · rw [if_neg (by simpa using d2)]
              walk_at "rd"
              refine ⟨some (.int (i : Int)), some (.ref tp), zs5, ls5, rfl, e7.trans et2, et2 _ _ hf5, wl_mono et2 hw5, et2 _ _ hg5, gl_mono et2 hgl5, et2 _ _ hl5, ?_, et2 _ _ hu5⟩
              rw [stpP_succ hpr]
              unfold stepG
              rw [if_neg d2, List.append_nil]
              exact gl_mono et2 hn5
          · rintro σ H5 ⟨v8'', v9'', zs5, ls5, rfl, e7, hf5, hw5, hg5, hgl5, hl5, hn5, hu5⟩
            refine ⟨some (.ref u), some (.int g.2), v8'', v9'', zs5, ls5, rfl, e7, hf5, hw5, hg5, hgl5, hl5, ?_⟩
            rw [nxtP_succ hg, ← stpP_all, ← hal]
            exact hn5
        · rw [if_neg (by simpa using d)]
          walk_at "rd"
          have hB : WAr H a x y f gq l ar k0 gs j g u 0 [some (.ref a), some (.int x), some (.int y), some (.ref f), some (.ref gq), some (.ref l), some (.ref u), some (.int g.2), v8', v9'] H3 := by
            refine rest _ zs3 e6 hf3 ?_ hg3 hgl3 hl3 hn3 hu
            rw [hitP_succ hg]
            unfold hitG
            rw [if_neg d, List.append_nil]
            exact hw3
          refine forE (e6 _ _ hxs) (WAr H a x y f gq l ar k0 gs j g u) (hB) (fun i σ H' _ ⟨_, _, _, _, _, h, _⟩ => h _ _ hxs) ?_ ?_
          · rintro i v t2 σ H5 hi hx2 ht2 ⟨v8'', v9'', zs5, ls5, rfl, e7, hf5, hw5, hg5, hgl5, hl5, hn5, hu5⟩
            obtain ⟨pr, hpr, tp, rfl, htp⟩ := p2_get har hx2
            have et2 := Evl.Ex.new (o := .tup [.int (i : Int), .ref tp]) ht2
            refine ⟨t2, _, rfl, sqT upd_same, rfl, _, _, rfl, _, _, rfl, rfl, ?_⟩
            have htp5 := et2 _ _ (e7 _ _ htp)
            walk_at "rd"
            refine ixT (sqT htp5) (at_of (j := 0) rfl rfl) ?_
            walk_at "rd"
            by_cases d2 : pr.1 = g.2
            · rw [if_pos (by simpa using d2)]
              refine ⟨.inl ⟨rfl, _, sqL (et2 _ _ hl5)⟩, Evl.sz_of (by decide), fun t3 ht3 => ?_⟩
              have e8 := Evl.Ex.new (o := .tup [.int (i : Int)]) ht3
              refine catW (u := g.1) (w := [(i : Int)]) (e8 _ _ (et2 _ _ hu5)) upd_same (by simp only [List.length_cons, List.length_nil]; omega) fun t4 H6 e9 ht4 => ?_
              refine ixT (sqT (e9 _ _ (e8 _ _ htp5))) (at_of (j := 1) rfl rfl) ?_
              refine ⟨Evl.sz_of (by decide), fun t5 ht5 => ?_⟩
              have e10 := Evl.Ex.new (o := .tup [.ref t4, .int pr.2]) ht5
              have eall := et2.trans (e8.trans (e9.trans e10))
              have hl6 := eall _ _ hl5
              have hnl := nxt_len hrise hlen hg (i := i)
              have hll := p2_len hn5
              refine ⟨l, ls5, _, rfl, rfl, hl6, Evl.sz_lt (by omega), ?_⟩
              refine ⟨some (.int (i : Int)), some (.ref tp), zs5, ls5 ++ [.ref t5], rfl, Evl.Ex.mut (e7.trans eall) hlH, by rw [upd_ne hfl]; exact eall _ _ hf5, wl_set hl6 (wl_mono eall hw5), by rw [upd_ne hgl2]; exact eall _ _ hg5, gl_set hl6 (gl_mono eall hgl5), upd_same, ?_, by rw [upd_ne (fun z => by rw [z, hl5] at hu5; cases hu5)]; exact eall _ _ hu5⟩
              rw [stpP_succ hpr, ← List.append_assoc]
              unfold stepG
              rw [if_pos d2]
              exact p2_snoc (gl_set hl6 (gl_mono eall hn5)) (IsG.set hl6 ⟨t5, t4, rfl, upd_same, e10 _ _ ht4⟩)
            · rw [if_neg (by simpa using d2)]
              walk_at "rd"
              refine ⟨some (.int (i : Int)), some (.ref tp), zs5, ls5, rfl, e7.trans et2, et2 _ _ hf5, wl_mono et2 hw5, et2 _ _ hg5, gl_mono et2 hgl5, et2 _ _ hl5, ?_, et2 _ _ hu5⟩
              rw [stpP_succ hpr]
              unfold stepG
              rw [if_neg d2, List.append_nil]
              exact gl_mono et2 hn5
          · rintro σ H5 ⟨v8'', v9'', zs5, ls5, rfl, e7, hf5, hw5, hg5, hgl5, hl5, hn5, hu5⟩
            refine ⟨some (.ref u), some (.int g.2), v8'', v9'', zs5, ls5, rfl, e7, hf5, hw5, hg5, hgl5, hl5, ?_⟩
            rw [nxtP_succ hg, ← stpP_all, ← hal]
            exact hn5
      · rintro σ H3 ⟨v6', v7', v8', v9', zs3, ls3, rfl, e6, hf3, hw3, hg3, hgl3, hl3, hn3⟩
        walk_at "rd"
        rw [hgsl, hitP_all] at hw3
        rw [hgsl, nxtP_all] at hn3
        exact ⟨13 - (k0 + 1), by omega, k0 + 1, l, some (.ref l), v6', v7', v8', v9', zs3, ls3, rfl, e6, hf3, hw3, hl3, hn3, hfl.symm, by omega, rfl⟩
end
end W17

set_option maxRecDepth 100000
set_option maxHeartbeats 4000000
namespace W17
open PySem L2 SB
local macro_rules | `(tactic| walk_at "rd") => `(tactic| first | simp only [rd_var, rd_c, rd_seq, rd_next, rd_ret, rd_retN, rd_drop, rd_asg, rd_op, rd_un, rd_call, rd_callK0, rd_cons, rd_nil, rd_cb, rd_test, rd_b, rd_andV, rd_orV, rd_notV, rd_and, rd_or, rd_not, rd_if, rd_ifS, rd_tup, rd_lst, rd_step, rd_wstep, rd_revL, rNotB_bl, rd_lcL, rd_lc2, rd_lcZ, rd_lcR, rd_lcZS, rd_forE, rd_revT, rd_methK0, rd_makeN0, rd_forL, rd_forZ, rd_forR, rd_make, rd_meth, rd_sfld, rd_bm, rd_prop, rd_yes, rd_par, rd_name, wipe, rI0_int, rI_int, rEq_int, rNe_int, rEq_bl, rNe_bl, L2.start, List.map_cons, List.map_nil, List.length_cons, List.length_nil, Nat.zero_add, Nat.reduceAdd, Nat.reduceSub, List.replicate, List.getElem?_cons_zero, List.getElem?_cons_succ, List.set_cons_zero, List.set_cons_succ, Option.some.injEq, exists_eq_left', exists_eq_left, exists_and_left, V.int.injEq, V.bl.injEq, V.ref.injEq, List.append_nil, List.cons_append, List.nil_append, List.cons.injEq, and_true, true_and, if_true, if_false, Bool.not_true, Bool.not_false, Bool.false_eq_true, ↓reduceIte, reduceCtorEq, decide_true, decide_false, false_and, exists_false, or_false, exists_const] | skip)
section
variable {P : Program} {w : World} {K : PySem.W.Frag} {mg : Str → Option Value} {base : Heap}
theorem ok__law_pot (T : Txt K mg) : FnOk P w K mg base CX0 1 T.a__law_pot T.d__law_pot ["script", "k"] (sp__law_pot K) := by
  refine T.F__law_pot.ok sc_law_pot (fun vs H Q E h => ?_) (fun cdv A outer s H vs Q E hr h => ?_)
  · obtain ⟨a, ns, rfl, _⟩ := h; rfl
  · obtain ⟨a, ns, rfl, hS, k⟩ := h
    refine ⟨_, (pss_cons (ps_set (i := 2) sc_law_pot.nd rfl (Or.inl rfl) (pe_ifExp (pt_cmpR op_lt (pv 1) (pe_callB call_len_seq (by rfl) T.n_len (by decide +kernel) (pa_cons (pv 0) pa_nil)) (nomark _)) (pe_callB call_abs (by rfl) T.n_abs (by decide +kernel) (pa_cons (pe_ix ix_list (pv 0) (pv 1) (fun _ _ => rfl)) pa_nil)) (pe_op op_add (pe_op op_mul pe_int (pv 1)) pe_int)))
        (pss_cons (ps_set (i := 3) sc_law_pot.nd rfl (Or.inl rfl) (pe_op op_add (pe_op op_mod (pe_callTy call_int1 (by rfl) T.n_int (by decide +kernel) (pa_cons (pe_op op_add (pe_op op_add (pe_op op_mul (pe_op op_mod (pe_callTy call_int1 (by rfl) T.n_int (by decide +kernel) (pa_cons (pv 2) pa_nil)) pe_int) pe_int) (pe_op op_mul pe_int (pv 1))) pe_int) pa_nil)) pe_int) pe_int))
        (pss_one (ps_ret (pe_lst (pa_cons (pe_callB (call_max2 rfl) (by rfl) T.n_max (by decide +kernel) (pa_cons pe_int (pa_cons (pe_op op_sub (pv 2) (pe_op op_pow pe_int pe_int)) pa_nil))) (pa_cons (pv 3) pa_nil))))))), ?_⟩
    have key : ∀ c : Int, 0 ≤ c → ∀ p, H p = none → Q (.ref p) (upd H p (.lst [.int (if c - 10 ^ Int.toNat 18 > 0 then c - 10 ^ Int.toNat 18 else 0), .int ((c % 2147483549 * 41411 + 7297 * 0 + 743) % 2147483563 + 1)])) := fun c hc p hp =>
      k p _ (Evl.Ex.new hp) ⟨_, _, upd_same, by split <;> omega, by omega, by omega⟩
    walk_at "rd"
    refine ⟨_, .inl hS, ?_⟩
    rw [List.length_map]
    by_cases c : 0 < ns.length
    · rw [if_pos (by simpa using c)]
      obtain ⟨z, hz⟩ : ∃ z, ns[0]? = some z := ⟨ns[0], by simp [c]⟩
      refine ixL hS (at_of (j := 0) rfl (ints_at hz)) ?_
      walk_at "rd"
      generalize hc : (if z < 0 then -z else z) = y
      have y0 : 0 ≤ y := by rw [← hc]; split <;> omega
      refine ⟨by decide, .inl ⟨by omega, by omega⟩, .inl ⟨by decide, by decide⟩, by decide, ⟨by decide, by decide, by decide⟩, 0, _, ⟨rfl, rfl⟩, Evl.sz_of (by decide), fun p hp => key y y0 p hp⟩
    · rw [if_neg (by simpa using c)]
      walk_at "rd"
      exact ⟨.inl ⟨by decide, by decide⟩, by decide, .inl ⟨by decide, by decide⟩, .inl ⟨by decide, by decide⟩, by decide, ⟨by decide, by decide, by decide⟩, 0, _, ⟨rfl, rfl⟩, Evl.sz_of (by decide), fun p hp => key 811 (by decide) p hp⟩
theorem ok__law_draw (T : Txt K mg) : FnOk P w K mg base CX0 1 T.a__law_draw T.d__law_draw ["pot", "sides"] sp__law_draw := by
  refine T.F__law_draw.ok sc_law_draw (fun vs H Q E h => ?_) (fun cdv A outer s H vs Q E hr h => ?_)
  · obtain ⟨p, n, rfl, _⟩ := h; rfl
  · obtain ⟨p, n, rfl, ⟨x, y, hp, x0, y0, y1⟩, n0, n1, k⟩ := h
    refine ⟨_, (pss_cons (ps_if (pt_cmpR op_gt (pe_ix ix_list (pv 0) pe_int (fun _ _ => rfl)) pe_int (nomark _)) (pss_cons (ps_asg (pe_callB call_divmodW (by rfl) T.n_divmod (by decide +kernel) (pa_cons (pe_ix ix_list (pv 0) pe_int (fun _ _ => rfl)) (pa_cons (pv 1) pa_nil))) (pg_tup rfl (pgs_cons (pg_sub (pv 0) pe_int set_list) (pgs_cons (pg_name (i := 2) sc_law_draw.nd rfl (Or.inl rfl) (Or.inr rfl)) pgs_nil))))
        (pss_one (ps_ret (pv 2)))) pss_nil)
        (pss_cons (ps_asg (pe_op op_mod (pe_callTy call_int1 (by rfl) T.n_int (by decide +kernel) (pa_cons (pe_op op_add (pe_op op_mul (pe_ix ix_list (pv 0) pe_int (fun _ _ => rfl)) pe_int) pe_int) pa_nil)) pe_int) (pg_sub (pv 0) pe_int set_list))
        (pss_one (ps_ret (pe_op op_mod (pe_callTy call_int1 (by rfl) T.n_int (by decide +kernel) (pa_cons (pe_op op_fdiv (pe_op op_mod (pe_callTy call_int1 (by rfl) T.n_int (by decide +kernel) (pa_cons (pe_op op_mul (pe_ix ix_list (pv 0) pe_int (fun _ _ => rfl)) (pe_ix ix_list (pv 0) pe_int (fun _ _ => rfl))) pa_nil)) pe_int) pe_int) pa_nil)) (pv 1)))))), ?_⟩
    walk_at "rd"
    refine ixL (sqL hp) (at_of (j := 0) rfl rfl) ?_
    walk_at "rd"
    by_cases c : 0 < x
    · rw [if_pos (decide_eq_true c)]
      walk_at "rd"
      refine ixL (sqL hp) (at_of (j := 0) rfl rfl) ?_
      walk_at "rd"
      refine ⟨x, n, ⟨rfl, rfl⟩, divp_small n0 n1, fun q hq => ?_⟩
      have hpq : p ≠ q := ne_of_none hp hq
      have hp2 : (upd H q (.tup [.int (x / n), .int (x % n)])) p = some (.lst [.int x, .int y]) := by rw [upd_ne hpq]; exact hp
      refine ⟨q, _, rfl, sqT upd_same, rfl, _, _, rfl, _, rfl, p, [.int x, .int y], 0, 0, rfl, rfl, hp2, rfl, _, _, rfl, rfl, ?_⟩
      walk_at "rd"
      refine k (x % n) _ (Int.emod_nonneg _ (by omega)) (Int.emod_lt_of_pos _ n0) ?_ ⟨x / n, y, upd_same, Int.ediv_nonneg x0 (by omega), y0, y1⟩
      rw [dr_upd]
      exact dr_new hq
    · rw [if_neg (by simpa using c)]
      walk_at "rd"
      refine ixL (sqL hp) (at_of (j := 1) rfl rfl) ?_
      walk_at "rd"
      refine ⟨.inl ⟨by omega, by omega⟩, by decide, ?_⟩
      refine ⟨_, rfl, p, [.int x, .int y], 1, 1, rfl, rfl, hp, rfl, ?_⟩
      walk_at "rd"
      refine ixL (sqL upd_same) (at_of (j := 1) rfl rfl) ?_
      refine ixL (sqL upd_same) (at_of (j := 1) rfl rfl) ?_
      walk_at "rd"
      refine ⟨.inl ⟨by omega, by omega⟩, by decide, ⟨by decide, by decide⟩, n0, ?_⟩
      refine k _ _ (Int.emod_nonneg _ (by omega)) (Int.emod_lt_of_pos _ n0) ?_ ⟨x, (y * 40819 + 30047) % 2147483563, upd_same, x0, by omega, by omega⟩
      rw [dr_upd]
      exact Evl.Ex.refl _
theorem ok__law_order (T : Txt K mg) : FnOk P w K mg base CX0 2 T.a__law_order T.d__law_order ["pot", "many"] sp__law_order := by
  refine T.F__law_order.ok sc_law_order (fun vs H Q E h => ?_) (fun cdv A outer s H vs Q E hr h => ?_)
  · obtain ⟨p, n, rfl, _⟩ := h; rfl
  · obtain ⟨p, n, rfl, pot, n0, n1, k⟩ := h
    refine ⟨_, (pss_cons (ps_par (i := 2) (j := 3) (by rfl) sc_law_order.nd rfl rfl (by decide) rfl rfl (pa_cons (pe_listRg rfl rfl T.n_list (prg_1 rfl T.n_range (pv 1))) (pa_cons (pe_lst pa_nil) pa_nil)) (by rfl))
        (pss_cons (ps_while PassesOwn.never (pt_cmpR (op_neD hr.units) (pv 2) (pe_lst pa_nil) (nomark _)) (pss_one (ps_expr (pe_bm PySem.F.plainAttrs_list PySem.F.slot_list_append PySem.F.type_list_append mt_append (pv 3) (pa_cons (pe_bm PySem.F.plainAttrs_list PySem.F.slot_list_pop PySem.F.type_list_pop mt_popAt (pv 2) (pa_cons (pe_call (ok__law_draw T) (hr.mono (by decide)) rfl T.m__law_draw T.F__law_draw.kp T.b__law_draw .nil pass0 (pa_cons (pv 0) (pa_cons (pe_callB call_len_seq (by rfl) T.n_len (by decide +kernel) (pa_cons (pv 2) pa_nil)) pa_nil))) pa_nil)) pa_nil)))))
        (pss_one (ps_ret (pv 3))))), ?_⟩
    obtain ⟨po, hpo⟩ := pot.some
    walk_at "rd"
    refine ⟨_, rfl, n, rfl, RgOk.of_le (by decide) (by omega) (by decide) n0, fun l hl => ?_⟩
    walk_at "rd"
    refine ⟨Evl.sz_of (by decide), fun f hf => ?_⟩
    have hrg : rgV 0 n = ((List.range n.toNat).map fun (i : Nat) => (i : Int)).map V.int := by
      show (List.range (n - 0).toNat).map (fun i => V.int (0 + ((i : Nat) : Int))) = _
      rw [Int.sub_zero, List.map_map]
      refine List.map_congr_left fun i _ => ?_
      show V.int (0 + (i : Int)) = V.int (i : Int)
      rw [Int.zero_add]
    have e1 : Ex H (upd (upd H l (.lst (rgV 0 n))) f (.lst [])) := (Evl.Ex.new hl).trans (Evl.Ex.new hf)
    have hfH : H f = none := Evl.fresh_back (Evl.Ex.new hl) hf
    have hlf : l ≠ f := fun z => by rw [← z, upd_same] at hf; cases hf
    refine ⟨_, _, ⟨rfl, rfl⟩, ?_⟩
    walk_at "rd"
    refine ⟨WOrder H p n l f, ⟨_, _, [], rfl, dr_mono e1, pot.mono e1, by rw [upd_ne hlf, upd_same, hrg], upd_same, by rw [List.append_nil], rfl⟩, ?_⟩
    rintro m σ H2 ⟨ls, fs, rfl, e2, pot2, hl2, hf2, hpm, rfl⟩
    have hlp : l ≠ p := fun z => by rw [z, hpo] at hl; cases hl
    have hfp : f ≠ p := fun z => by rw [z, hpo] at hfH; cases hfH
    have hlen := hpm.length_eq
    rw [List.length_append, List.length_map, List.length_range] at hlen
    walk_at "rd"
    refine ⟨Evl.sz_of (by decide), fun t ht => ?_⟩
    refine neD (dp_is ((Evl.Ex.new ht) _ _ hl2)) (dp_is (ns := []) upd_same) (dIs_sh _) (dIs_sh _) ?_
    rw [dIs_eqv]
    walk_at "rd"
    cases ls with
    | nil =>
      walk_at "rd"
      have hpm' : fs.Perm ((List.range n.toNat).map fun (i : Nat) => (i : Int)) := hpm
      refine k f fs _ (by simp at hlen; omega) ?_ (fun z hz => ?_) hfH (e2.trans (dr_new ht)) (pot2.mono (Evl.Ex.new ht)) ((Evl.Ex.new ht) _ _ hf2)
      · refine hpm'.nodup_iff.mpr ?_
        exact List.Pairwise.map _ (fun a b (hab : a ≠ b) => (show (a : Int) ≠ (b : Int) by omega)) List.nodup_range
      · obtain ⟨i, hi, rfl⟩ := List.mem_map.mp (hpm'.mem_iff.mp hz)
        have := List.mem_range.mp hi
        omega
    | cons l0 lr =>
      rw [if_pos (by simp)]
      have hpos : 0 < (l0 :: lr).length := by simp
      have e3 : Ex H2 (upd H2 t (.lst [])) := Evl.Ex.new ht
      refine ⟨fun σ' H' => ∃ m', m' < (l0 :: lr).length ∧ WOrder H p n l f m' σ' H', fun _ _ h => h, ?_⟩
      walk_at "rd"
      refine ⟨.inl ⟨rfl, _, sqL (e3 _ _ hf2)⟩, .inl ⟨rfl, _, sqL (e3 _ _ hl2)⟩, _, .inl (sqL (e3 _ _ hl2)), ?_⟩
      refine ⟨p, _, rfl, pot2.mono e3, by rw [List.length_map]; omega, by rw [List.length_map]; omega, fun d H4 d0 d1 e4 pot4 => ?_⟩
      rw [List.length_map] at d1
      have h4l := dr_keep e4 hlp (e3 _ _ hl2)
      have h4f := dr_keep e4 hfp (e3 _ _ hf2)
      obtain ⟨y, hy⟩ : ∃ y, (l0 :: lr)[d.toNat]? = some y := ⟨(l0 :: lr)[d.toNat]'(by omega), by rw [List.getElem?_eq_getElem]⟩
      refine ⟨l, _, d, d.toNat, .int y, rfl, rfl, h4l, by omega, by omega, by rw [List.length_map]; exact seqIx d0 d1, ints_at hy, ?_⟩
      refine ⟨f, fs.map V.int, .int y, rfl, rfl, by rw [upd_ne hlf.symm]; exact h4f, Evl.sz_lt (by rw [List.length_map]; omega), ?_⟩
      have hel : ((l0 :: lr).eraseIdx d.toNat).length < (l0 :: lr).length := by
        rw [(perm_erase hy).length_eq]
        simp
      refine ⟨_, hel, (l0 :: lr).eraseIdx d.toNat, fs ++ [y], rfl, ?_, ?_, ?_, ?_, ?_, rfl⟩
      · have E := e2.trans ((dr_mono e3).trans e4)
        intro b o hb
        obtain ⟨b1, b2⟩ := dr_of hb
        exact dr_at b1 (by rw [upd_ne (ne_of_none b2 hfH), upd_ne (ne_of_none b2 hl)]; exact (dr_of (E b o hb)).2)
      · obtain ⟨x', y', hpp, q'⟩ := pot4
        exact ⟨x', y', by rw [upd_ne hfp.symm, upd_ne hlp.symm]; exact hpp, q'⟩
      · rw [upd_ne hlf, upd_same, erase_map]
      · rw [upd_same]; simp
      · exact perm_move hy hpm
theorem ok__law_web (T : Txt K mg) : FnOk P w K mg base CX0 3 T.a__law_web T.d__law_web ["pot", "least", "most", "arrows"] sp__law_web := by
  refine T.F__law_web.ok sc_law_web (fun vs H Q E h => ?_) (fun cdv A outer s H vs Q E hr h => ?_)
  · obtain ⟨p, lo, hi, m, rfl, _⟩ := h; rfl
  · obtain ⟨p, lo, hi, m, rfl, pot, h1, h2, h3, h4, h5, k⟩ := h
    refine ⟨_, (pss_cons (ps_set (i := 4) sc_law_web.nd rfl (Or.inl rfl) (pe_op op_add (pv 1) (pe_call (ok__law_draw T) (hr.mono (by decide)) rfl T.m__law_draw T.F__law_draw.kp T.b__law_draw .nil pass0 (pa_cons (pv 0) (pa_cons (pe_op op_sub (pe_op op_add (pv 2) pe_int) (pv 1)) pa_nil)))))
        (pss_cons (ps_par (i := 5) (j := 6) (by rfl) sc_law_web.nd rfl rfl (by decide) rfl rfl (pa_cons (pe_call (ok__law_order T) (hr.mono (by decide)) rfl T.m__law_order T.F__law_order.kp T.b__law_order .nil pass0 (pa_cons (pv 0) (pa_cons (pv 4) pa_nil))) (pa_cons (pe_lst pa_nil) pa_nil)) (by rfl))
        (pss_cons (ps_for PassesOwn.never rfl (pi_range1 rfl T.n_range (pa_cons (pe_ifExp (pt_cmpR op_gt (pv 4) pe_int (nomark _)) (pe_call (ok__law_draw T) (hr.mono (by decide)) rfl T.m__law_draw T.F__law_draw.kp T.b__law_draw .nil pass0 (pa_cons (pv 0) (pa_cons (pe_op op_add (pv 3) pe_int) pa_nil))) pe_int) pa_nil)) (pg_name (i := 7) sc_law_web.nd rfl (Or.inl rfl) (Or.inr rfl)) (pss_cons (ps_set (i := 8) sc_law_web.nd rfl (Or.inl rfl) (pe_op op_add pe_int (pe_call (ok__law_draw T) (hr.mono (by decide)) rfl T.m__law_draw T.F__law_draw.kp T.b__law_draw .nil pass0 (pa_cons (pv 0) (pa_cons (pe_op op_sub (pv 4) pe_int) pa_nil)))))
        (pss_one (ps_expr (pe_bm PySem.F.plainAttrs_list PySem.F.slot_list_append PySem.F.type_list_append mt_append (pv 6) (pa_cons (pe_tup (pa_cons (pe_ix ix_list (pv 5) (pe_call (ok__law_draw T) (hr.mono (by decide)) rfl T.m__law_draw T.F__law_draw.kp T.b__law_draw .nil pass0 (pa_cons (pv 0) (pa_cons (pv 8) pa_nil))) (fun _ _ => rfl)) (pa_cons (pe_ix ix_list (pv 5) (pv 8) (fun _ _ => rfl)) pa_nil))) pa_nil))))))
        (pss_one (ps_ret (pe_tup (pa_cons (pv 4) (pa_cons (pv 6) pa_nil)))))))), ?_⟩
    obtain ⟨po, hpo⟩ := pot.some
    walk_at "rd"
    refine ⟨p, hi + 1 - lo, rfl, pot, by omega, by omega, fun d1 H1 d10 d11 e1 pot1 => ?_⟩
    obtain ⟨n, hn⟩ : ∃ n, n = lo + d1 := ⟨_, rfl⟩
    walk_at "rd"
    rw [← hn]
    refine ⟨p, n, rfl, pot1, by omega, by omega, fun oq os H2 hol hon hor hoq e2 pot2 hos => ?_⟩
    walk_at "rd"
    refine ⟨Evl.sz_of (by decide), fun f hf => ?_⟩
    refine ⟨_, _, ⟨rfl, rfl⟩, ?_⟩
    walk_at "rd"
    have e3 : Ex H2 (upd H2 f (.lst [])) := Evl.Ex.new hf
    have e13 : Ex (dr p H) (dr p (upd H2 f (.lst []))) := (e1.trans e2).trans (dr_mono e3)
    have pot3 := pot2.mono e3
    obtain ⟨po1, hpo1⟩ := pot1.some
    obtain ⟨po2, hpo2⟩ := pot2.some
    have hop : oq ≠ p := fun z => by rw [z, hpo1] at hoq; cases hoq
    have hfp : f ≠ p := fun z => by rw [z, hpo2] at hf; cases hf
    have hfH : H f = none := by
      cases hh : H f with
      | none => rfl
      | some o => rw [(dr_of ((e1.trans e2) f o (dr_at hfp hh))).2] at hf; cases hf
    have hfo : f ≠ oq := fun z => by rw [z, hos] at hf; cases hf
    have hos3 := e3 _ _ hos
    by_cases c1 : 1 < n
    · rw [if_pos (decide_eq_true c1)]
      refine ⟨p, m + 1, rfl, pot3, by omega, by omega, fun c H4 c0 cm e4 pot4 => ?_⟩
      have hcn : 1 < n ∨ c = 0 := .inl c1
      have cm' : c ≤ m := by omega
      walk_at "rd"
      refine forR ⟨c0, by omega⟩ (fun i σ H5 => ∃ (xs : List V) (ar : List (Int × Int)) (v7 v8 : Option V), σ = [some (.ref p), some (.int lo), some (.int hi), some (.int m), some (.int n), some (.ref oq), some (.ref f), v7, v8] ∧ Ex (dr p H) (dr p H5) ∧ PotAt H5 p ∧
        H5 oq = some (.lst (os.map V.int)) ∧ H5 f = some (.lst xs) ∧ Ar (nw H H5) xs ar ∧ ar.length = i ∧ ∀ pr ∈ ar, OkAr n pr ∧ (os.idxOf pr.1 : Int) < (os.idxOf pr.2 : Int))
        ⟨[], [], none, none, rfl, e13.trans e4, pot4, dr_keep e4 hop hos3, dr_keep e4 hfp upd_same, .nil, rfl, fun pr h => by cases h⟩ ?_ ?_
      · rintro i σ H5 hi ⟨xs, ar, v7, v8, rfl, e5, pot5, ho5, hf5, ha5, hal, hok⟩
        have hn1 : 1 < n := by omega
        walk_at "rd"
        refine ⟨p, n - 1, rfl, pot5, by omega, by omega, fun d2 H6 d20 d21 e6 pot6 => ?_⟩
        walk_at "rd"
        have hf6 := dr_keep e6 hfp hf5
        have ho6 := dr_keep e6 hop ho5
        refine ⟨.inl ⟨rfl, _, sqL hf6⟩, p, 1 + d2, rfl, pot6, by omega, by omega, fun d3 H7 d30 d31 e7 pot7 => ?_⟩
        have hf7 := dr_keep e7 hfp hf6
        have ho7 := dr_keep e7 hop ho6
        obtain ⟨po7, hpo7⟩ := pot7.some
        refine ixL (sqL ho7) (at_ints d30 (by omega)) ?_
        refine ixL (sqL ho7) (at_ints (by omega) (by omega)) ?_
        walk_at "rd"
        refine ⟨Evl.sz_of (by decide), fun t ht => ?_⟩
        have htf : f ≠ t := ne_of_none hf7 ht
        have htp : p ≠ t := ne_of_none hpo7 ht
        have hxl := p2_len ha5
        refine ⟨f, xs, _, rfl, rfl, by rw [upd_ne htf]; exact hf7, Evl.sz_lt (by omega), ?_⟩
        have E := e5.trans (e6.trans e7)
        have g1 : os.getD d3.toNat 0 = os[d3.toNat]'(by omega) := by simp [List.getD, show d3.toNat < os.length by omega]
        have g2 : os.getD (1 + d2).toNat 0 = os[(1 + d2).toNat]'(by omega) := by simp [List.getD, show (1 + d2).toNat < os.length by omega]
        have i1 : os.idxOf (os.getD d3.toNat 0) = d3.toNat := by rw [g1]; exact hon.idxOf_getElem _ _
        have i2 : os.idxOf (os.getD (1 + d2).toNat 0) = (1 + d2).toNat := by rw [g2]; exact hon.idxOf_getElem _ _
        have b1 := hor _ (show os.getD d3.toNat 0 ∈ os by rw [g1]; exact List.getElem_mem _)
        have b2 := hor _ (show os.getD (1 + d2).toNat 0 ∈ os by rw [g2]; exact List.getElem_mem _)
        have htH : H t = none := by
          cases hh : H t with
          | none => rfl
          | some o => rw [(dr_of (E t o (dr_at htp.symm hh))).2] at ht; cases ht
        refine ⟨xs ++ [.ref t], ar ++ [(os.getD d3.toNat 0, os.getD (1 + d2).toNat 0)], some (.int i), some (.int (1 + d2)), ⟨rfl, rfl⟩, ?_, ?_, ?_, upd_same, ?_, by simp [hal], ?_⟩
        · intro b o hb
          obtain ⟨b1, b2⟩ := dr_of hb
          exact dr_at b1 (by rw [upd_ne (ne_of_none b2 hfH), upd_ne (ne_of_none b2 htH)]; exact (dr_of (E b o hb)).2)
        · obtain ⟨x', y', hpp, q'⟩ := pot7
          exact ⟨x', y', by rw [upd_ne hfp.symm, upd_ne htp]; exact hpp, q'⟩
        · rw [upd_ne hfo.symm, upd_ne (ne_of_none ho7 ht)]
          exact ho7
        · refine p2_snoc (p2_mono (fun v pr h => ?_) ha5) ⟨t, rfl, nw_at htH (by rw [upd_ne htf.symm]; exact upd_same)⟩
          obtain ⟨t', ev, ht'⟩ := h
          obtain ⟨u1, u2⟩ := nw_of (nw_dr_mono hpo (e6.trans e7) _ _ ht')
          refine ⟨t', ev, nw_at u1 ?_⟩
          rw [upd_ne (fun z => by rw [z, hf7] at u2; cases u2), upd_ne (ne_of_none u2 ht)]
          exact u2
        · intro pr hpr
          rcases List.mem_append.mp hpr with h | h
          · exact hok pr h
          · rcases List.mem_cons.mp h with h | h
            · subst h
              refine ⟨⟨b1.1, b1.2, b2.1, b2.2, fun z => ?_⟩, ?_⟩
              · have z' : os.getD d3.toNat 0 = os.getD (1 + d2).toNat 0 := z
                rw [z', i2] at i1
                omega
              · show ((os.idxOf (os.getD d3.toNat 0) : Nat) : Int) < ((os.idxOf (os.getD (1 + d2).toNat 0) : Nat) : Int)
                rw [i1, i2]
                omega
            · cases h
      · rintro σ H5 ⟨xs, ar, v7, v8, rfl, e5, pot5, ho5, hf5, ha5, hal, hok⟩
        walk_at "rd"
        refine ⟨Evl.sz_of (by decide), fun t ht => ?_⟩
        obtain ⟨po5, hpo5⟩ := pot5.some
        have htp : p ≠ t := ne_of_none hpo5 ht
        have htH : H t = none := by
          cases hh : H t with
          | none => rfl
          | some o => rw [(dr_of (e5 t o (dr_at htp.symm hh))).2] at ht; cases ht
        have e8 : Ex H5 (upd H5 t (.tup [.int n, .ref f])) := Evl.Ex.new ht
        refine k t n ar _ ⟨by omega, by omega, fun pr h => (hok pr h).1, ⟨fun z => (os.idxOf z : Int), fun pr h => (hok pr h).2⟩, by omega⟩ (by omega) (by omega) (by omega) (e5.trans (dr_mono e8)) (pot5.mono e8) ?_
        exact ⟨f, xs, nw_at htH upd_same, nw_at hfH (e8 _ _ hf5), ha5.mono (nw_mono (Evl.Ex.refl _) e8)⟩
    · rw [if_neg (by simpa using c1)]
      obtain ⟨c, hc⟩ : ∃ c : Int, c = 0 := ⟨0, rfl⟩
      rw [← hc, show Itr c c.toNat = Itr 0 c.toNat by rw [hc]]
      have hcn : 1 < n ∨ c = 0 := .inr hc
      have c0 : 0 ≤ c := by omega
      have cm' : c ≤ m := by omega
      have e4 : Ex (dr p (upd H2 f (.lst []))) (dr p (upd H2 f (.lst []))) := Evl.Ex.refl _
      have pot4 := pot3
      refine forR ⟨c0, by omega⟩ (fun i σ H5 => ∃ (xs : List V) (ar : List (Int × Int)) (v7 v8 : Option V), σ = [some (.ref p), some (.int lo), some (.int hi), some (.int m), some (.int n), some (.ref oq), some (.ref f), v7, v8] ∧ Ex (dr p H) (dr p H5) ∧ PotAt H5 p ∧
        H5 oq = some (.lst (os.map V.int)) ∧ H5 f = some (.lst xs) ∧ Ar (nw H H5) xs ar ∧ ar.length = i ∧ ∀ pr ∈ ar, OkAr n pr ∧ (os.idxOf pr.1 : Int) < (os.idxOf pr.2 : Int))
        ⟨[], [], none, none, rfl, e13.trans e4, pot4, dr_keep e4 hop hos3, dr_keep e4 hfp upd_same, .nil, rfl, fun pr h => by cases h⟩ ?_ ?_
      · rintro i σ H5 hi ⟨xs, ar, v7, v8, rfl, e5, pot5, ho5, hf5, ha5, hal, hok⟩
        have hn1 : 1 < n := by omega
        walk_at "rd"
        refine ⟨p, n - 1, rfl, pot5, by omega, by omega, fun d2 H6 d20 d21 e6 pot6 => ?_⟩
        walk_at "rd"
        have hf6 := dr_keep e6 hfp hf5
        have ho6 := dr_keep e6 hop ho5
        refine ⟨.inl ⟨rfl, _, sqL hf6⟩, p, 1 + d2, rfl, pot6, by omega, by omega, fun d3 H7 d30 d31 e7 pot7 => ?_⟩
        have hf7 := dr_keep e7 hfp hf6
        have ho7 := dr_keep e7 hop ho6
        obtain ⟨po7, hpo7⟩ := pot7.some
        refine ixL (sqL ho7) (at_ints d30 (by omega)) ?_
        refine ixL (sqL ho7) (at_ints (by omega) (by omega)) ?_
        walk_at "rd"
        refine ⟨Evl.sz_of (by decide), fun t ht => ?_⟩
        have htf : f ≠ t := ne_of_none hf7 ht
        have htp : p ≠ t := ne_of_none hpo7 ht
        have hxl := p2_len ha5
        refine ⟨f, xs, _, rfl, rfl, by rw [upd_ne htf]; exact hf7, Evl.sz_lt (by omega), ?_⟩
        have E := e5.trans (e6.trans e7)
        have g1 : os.getD d3.toNat 0 = os[d3.toNat]'(by omega) := by simp [List.getD, show d3.toNat < os.length by omega]
        have g2 : os.getD (1 + d2).toNat 0 = os[(1 + d2).toNat]'(by omega) := by simp [List.getD, show (1 + d2).toNat < os.length by omega]
        have i1 : os.idxOf (os.getD d3.toNat 0) = d3.toNat := by rw [g1]; exact hon.idxOf_getElem _ _
        have i2 : os.idxOf (os.getD (1 + d2).toNat 0) = (1 + d2).toNat := by rw [g2]; exact hon.idxOf_getElem _ _
        have b1 := hor _ (show os.getD d3.toNat 0 ∈ os by rw [g1]; exact List.getElem_mem _)
        have b2 := hor _ (show os.getD (1 + d2).toNat 0 ∈ os by rw [g2]; exact List.getElem_mem _)
        have htH : H t = none := by
          cases hh : H t with
          | none => rfl
          | some o => rw [(dr_of (E t o (dr_at htp.symm hh))).2] at ht; cases ht
        refine ⟨xs ++ [.ref t], ar ++ [(os.getD d3.toNat 0, os.getD (1 + d2).toNat 0)], some (.int i), some (.int (1 + d2)), ⟨rfl, rfl⟩, ?_, ?_, ?_, upd_same, ?_, by simp [hal], ?_⟩
        · intro b o hb
          obtain ⟨b1, b2⟩ := dr_of hb
          exact dr_at b1 (by rw [upd_ne (ne_of_none b2 hfH), upd_ne (ne_of_none b2 htH)]; exact (dr_of (E b o hb)).2)
        · obtain ⟨x', y', hpp, q'⟩ := pot7
          exact ⟨x', y', by rw [upd_ne hfp.symm, upd_ne htp]; exact hpp, q'⟩
        · rw [upd_ne hfo.symm, upd_ne (ne_of_none ho7 ht)]
          exact ho7
        · refine p2_snoc (p2_mono (fun v pr h => ?_) ha5) ⟨t, rfl, nw_at htH (by rw [upd_ne htf.symm]; exact upd_same)⟩
          obtain ⟨t', ev, ht'⟩ := h
          obtain ⟨u1, u2⟩ := nw_of (nw_dr_mono hpo (e6.trans e7) _ _ ht')
          refine ⟨t', ev, nw_at u1 ?_⟩
          rw [upd_ne (fun z => by rw [z, hf7] at u2; cases u2), upd_ne (ne_of_none u2 ht)]
          exact u2
        · intro pr hpr
          rcases List.mem_append.mp hpr with h | h
          · exact hok pr h
          · rcases List.mem_cons.mp h with h | h
            · subst h
              refine ⟨⟨b1.1, b1.2, b2.1, b2.2, fun z => ?_⟩, ?_⟩
              · have z' : os.getD d3.toNat 0 = os.getD (1 + d2).toNat 0 := z
                rw [z', i2] at i1
                omega
              · show ((os.idxOf (os.getD d3.toNat 0) : Nat) : Int) < ((os.idxOf (os.getD (1 + d2).toNat 0) : Nat) : Int)
                rw [i1, i2]
                omega
            · cases h
      · rintro σ H5 ⟨xs, ar, v7, v8, rfl, e5, pot5, ho5, hf5, ha5, hal, hok⟩
        walk_at "rd"
        refine ⟨Evl.sz_of (by decide), fun t ht => ?_⟩
        obtain ⟨po5, hpo5⟩ := pot5.some
        have htp : p ≠ t := ne_of_none hpo5 ht
        have htH : H t = none := by
          cases hh : H t with
          | none => rfl
          | some o => rw [(dr_of (e5 t o (dr_at htp.symm hh))).2] at ht; cases ht
        have e8 : Ex H5 (upd H5 t (.tup [.int n, .ref f])) := Evl.Ex.new ht
        refine k t n ar _ ⟨by omega, by omega, fun pr h => (hok pr h).1, ⟨fun z => (os.idxOf z : Int), fun pr h => (hok pr h).2⟩, by omega⟩ (by omega) (by omega) (by omega) (e5.trans (dr_mono e8)) (pot5.mono e8) ?_
        exact ⟨f, xs, nw_at htH upd_same, nw_at hfH (e8 _ _ hf5), ha5.mono (nw_mono (Evl.Ex.refl _) e8)⟩
theorem ok__law_row (T : Txt K mg) : FnOk P w K mg base CX0 2 T.a__law_row T.d__law_row ["pot", "places", "most"] sp__law_row := by
  refine T.F__law_row.ok sc_law_row (fun vs H Q E h => ?_) (fun cdv A outer s H vs Q E hr h => ?_)
  · obtain ⟨p, n, m, rfl, _⟩ := h; rfl
  · obtain ⟨p, n, m, rfl, pot, n0, n1, m0, m1, k⟩ := h
    refine ⟨_, (pss_cons (ps_set (i := 3) sc_law_row.nd rfl (Or.inl rfl) (pe_lst pa_nil))
        (pss_cons (ps_for PassesOwn.never rfl (pi_range1 rfl T.n_range (pa_cons (pv 1) pa_nil)) (pg_name (i := 4) sc_law_row.nd rfl (Or.inl rfl) (Or.inr rfl)) (pss_one (ps_expr (pe_bm PySem.F.plainAttrs_list PySem.F.slot_list_append PySem.F.type_list_append mt_append (pv 3) (pa_cons (pe_call (ok__law_draw T) (hr.mono (by decide)) rfl T.m__law_draw T.F__law_draw.kp T.b__law_draw .nil pass0 (pa_cons (pv 0) (pa_cons (pe_op op_add (pv 2) pe_int) pa_nil))) pa_nil)))))
        (pss_one (ps_ret (pv 3))))), ?_⟩
    obtain ⟨po, hpo⟩ := pot.some
    walk_at "rd"
    refine ⟨Evl.sz_of (by decide), fun f hf => ?_⟩
    have hfp : f ≠ p := fun z => by rw [z, hpo] at hf; cases hf
    have e1 : Ex H (upd H f (.lst [])) := Evl.Ex.new hf
    walk_at "rd"
    refine forR ⟨n0, by omega⟩ (WRow H p n m f)
      ⟨[], none, rfl, dr_mono e1, pot.mono e1, upd_same, rfl, fun z h => by cases h⟩ ?_ ?_
    · rintro i σ H5 hi ⟨ns, v4, rfl, e5, pot5, hf5, hl, hok⟩
      walk_at "rd"
      refine ⟨.inl ⟨rfl, _, sqL hf5⟩, p, m + 1, rfl, pot5, by omega, by omega, fun d H6 d0 d1 e6 pot6 => ?_⟩
      have hf6 := dr_keep e6 hfp hf5
      refine ⟨f, _, _, rfl, rfl, hf6, Evl.sz_lt (by rw [List.length_map]; omega), ?_⟩
      refine ⟨ns ++ [d], some (.int i), rfl, ?_, ?_, ?_, by simp [hl], fun z hz => ?_⟩
      · intro b o hb
        obtain ⟨b1, b2⟩ := dr_of hb
        exact dr_at b1 (by rw [upd_ne (ne_of_none b2 hf)]; exact (dr_of ((e5.trans e6) b o hb)).2)
      · obtain ⟨x', y', hpp, q'⟩ := pot6
        exact ⟨x', y', by rw [upd_ne hfp.symm]; exact hpp, q'⟩
      · rw [upd_same]; simp
      · rcases List.mem_append.mp hz with h | h
        · exact hok z h
        · rcases List.mem_cons.mp h with h | h
          · omega
          · cases h
    · rintro σ H5 ⟨ns, v4, rfl, e5, pot5, hf5, hl, hok⟩
      walk_at "rd"
      exact k f ns H5 (by omega) hok hf e5 pot5 hf5
end
end W17

set_option maxRecDepth 100000
set_option maxHeartbeats 4000000
namespace W17
open PySem L2 SB
local macro_rules | `(tactic| walk_at "rd") => `(tactic| first | simp only [rd_var, rd_c, rd_seq, rd_next, rd_ret, rd_retN, rd_drop, rd_asg, rd_op, rd_un, rd_call, rd_callK0, rd_cons, rd_nil, rd_cb, rd_test, rd_b, rd_andV, rd_orV, rd_notV, rd_and, rd_or, rd_not, rd_if, rd_ifS, rd_tup, rd_lst, rd_step, rd_wstep, rd_revL, rNotB_bl, rd_lcL, rd_lc2, rd_lcZ, rd_lcR, rd_lcZS, rd_forE, rd_revT, rd_methK0, rd_makeN0, rd_forL, rd_forZ, rd_forR, rd_make, rd_meth, rd_sfld, rd_bm, rd_prop, rd_yes, rd_par, rd_name, wipe, rI0_int, rI_int, rEq_int, rNe_int, rEq_bl, rNe_bl, L2.start, List.map_cons, List.map_nil, List.length_cons, List.length_nil, Nat.zero_add, Nat.reduceAdd, Nat.reduceSub, List.replicate, List.getElem?_cons_zero, List.getElem?_cons_succ, List.set_cons_zero, List.set_cons_succ, Option.some.injEq, exists_eq_left', exists_eq_left, exists_and_left, V.int.injEq, V.bl.injEq, V.ref.injEq, List.append_nil, List.cons_append, List.nil_append, List.cons.injEq, and_true, true_and, if_true, if_false, Bool.not_true, Bool.not_false, Bool.false_eq_true, ↓reduceIte, reduceCtorEq, decide_true, decide_false, false_and, exists_false, or_false, exists_const] | skip)
section
variable {P : Program} {w : World} {K : PySem.W.Frag} {mg : Str → Option Value} {base : Heap}
theorem ok__law_ways_right (T : Txt K mg) : FnOk P w K mg base CX0 16 T.a__law_ways_right T.d__law_ways_right ["web", "arrows", "place"] (sp__law_ways_right T.C_Web) := by
  refine T.F__law_ways_right.ok sc_law_ways_right (fun vs H Q E h => ?_) (fun cdv A outer s H vs Q E hr h => ?_)
  · obtain ⟨p, a, xs, n, ar, x, rfl, _⟩ := h; rfl
  · obtain ⟨p, a, xs, n, ar, x, rfl, web, G, hxs, har, x0, x1, k⟩ := h
    refine ⟨_, (pss_cons (ps_par (i := 3) (j := 4) (by rfl) sc_law_ways_right.nd rfl rfl (by decide) rfl rfl (pa_cons (pe_call (ok_turned_web T) (hr.mono (by decide)) rfl T.m_turned_web T.F_turned_web.kp T.b_turned_web .nil pass0 (pa_cons (pv 0) pa_nil)) (pa_cons (pe_lst pa_nil) pa_nil)) (by rfl))
        (pss_cons (ps_for PassesOwn.never rfl (pi_range1 rfl T.n_range (pa_cons (pe_prop (pv 0) T.cl_Web T.p_Web_places (ok_Web_places T) (hr.mono (by decide)) T.b_Web_places .nil pass0 rfl) pa_nil)) (pg_name (i := 5) sc_law_ways_right.nd rfl (Or.inl rfl) (Or.inr rfl)) (pss_cons (ps_set (i := 6) sc_law_ways_right.nd rfl (Or.inl rfl) (pe_call (ok__law_ways T) (hr.mono (by decide)) rfl T.m__law_ways T.F__law_ways.kp T.b__law_ways .nil pass0 (pa_cons (pv 1) (pa_cons (pv 2) (pa_cons (pv 5) pa_nil)))))
        (pss_cons (ps_if (PW.pt (pw_or (pt_cmpR (op_neD hr.units) (pe_meth (pv 0) T.cl_Web T.me_Web_ways (ok_Web_ways T) (hr.mono (by decide)) T.b_Web_ways .nil pass0 (pa_cons (pv 2) (pa_cons (pv 5) pa_nil))) (pv 6) (nomark _)) (pw_or1 (pt_cmpR (op_neD hr.units) (SB.pe_methK0 (pv 0) T.cl_Web T.me_Web_ways (ok_Web_ways T) (hr.mono (by decide)) T.kb_Web_ways_other_place pass0 (pk_cons (pv 5) (pk_cons (pv 2) pk_nil))) (pv 6) (nomark _))))) (pss_one (ps_ret pe_bl)) pss_nil)
        (pss_cons (ps_if (pt_cmpR (op_neD hr.units) (pe_meth (pv 3) T.cl_Web T.me_Web_ways (ok_Web_ways T) (hr.mono (by decide)) T.b_Web_ways .nil pass0 (pa_cons (pv 5) (pa_cons (pv 2) pa_nil))) (pe_callB (SB.cr_sortedTI) (by rfl) T.n_sorted (by decide +kernel) (pa_cons (pe_lc (own := [("way", 7)]) rfl sc_law_ways_right.nd (pi_list (pv 6)) (blkOk_by (own := [("way", 7)]) (N := N_law_ways_right) (sc := defScope s_law_ways_right) (by decide +kernel)) (fun _ _ _ _ _ => (pg_name (i := 7) sc_law_ways_right.nd rfl (Or.inl rfl) (Or.inr rfl))) (fun _ _ _ _ _ => pts_nil) (fun _ _ _ _ _ => (show PE _ _ (tRevT K (tVar 7)) from SB.pe_revT (pv 7)))) pa_nil)) (nomark _)) (pss_one (ps_ret pe_bl)) pss_nil)
        (pss_one (ps_expr (pe_bm PySem.F.plainAttrs_list PySem.F.slot_list_append PySem.F.type_list_append mt_append (pv 4) (pa_cons (pe_callB call_len_seq (by rfl) T.n_len (by decide +kernel) (pa_cons (pv 6) pa_nil)) pa_nil))))))))
        (pss_cons (ps_if (PW.pt (pw_or (pt_cmpR op_gt (pe_callB (cr_max rfl) (by rfl) T.n_max (by decide +kernel) (pa_cons (pv 4) pa_nil)) pe_int (nomark _)) (pw_or1 (pt_cmpR op_gt (pe_callB (cr_sum rfl) (by rfl) T.n_sum (by decide +kernel) (pa_cons (pv 4) pa_nil)) pe_int (nomark _))))) (pss_one (ps_ret pe_bl)) pss_nil)
        (pss_one (ps_ret (pe_and (pe_cmpR (op_eqD hr.units) (pe_call (ok_ways_row T) (hr.mono (by decide)) rfl T.m_ways_row T.F_ways_row.kp T.b_ways_row .nil pass0 (pa_cons (pv 0) (pa_cons (pv 2) pa_nil))) (pv 4) (nomark _)) (pe_one (pe_cmpR (op_eqD hr.units) (pe_callK0 (ok_ways_row T) (hr.mono (by decide)) rfl T.m_ways_row T.F_ways_row.kp T.kb_ways_row_place_web pass0 (pk_cons (pv 2) (pk_cons (pv 0) pk_nil))) (pv 4) (nomark _))))))))), ?_⟩
    obtain ⟨dx, q, ws0, h1, h2, h3⟩ := id web
    obtain ⟨r, hrise⟩ := G.rise
    have hlen := G.len
    have n13 := G.hi
    have n1 := G.lo
    walk_at "rd"
    refine ⟨p, n, ar, rfl, web, G, fun H1 b e1 hb => ?_⟩
    have web2 := hb.mono nw_ex
    obtain ⟨dxb, qb, wsb, b1, b2, b3⟩ := id web2
    refine ⟨Evl.sz_of (by decide), fun c hc => ?_⟩
    refine ⟨_, _, ⟨rfl, rfl⟩, ?_⟩
    have ec : Ex H1 (upd H1 c (.lst [])) := Evl.Ex.new hc
    walk_at "rd"
    refine ⟨dx, _, ec _ _ (e1 _ _ h1), p, n, ar, rfl, (web.mono e1).mono ec, ?_⟩
    walk_at "rd"
    refine forR ⟨by omega, by omega⟩ (WWR H1 p a x b c ar) ⟨none, none, rfl, ec, upd_same⟩ ?_ ?_
    · rintro i σ H2 hi ⟨v5, v6, rfl, e2, hc2⟩
      have e02 := e1.trans e2
      walk_at "rd"
      refine ⟨a, xs, ar, n, x, (i : Int), rfl, e02 _ _ hxs, har.mono e02, G, fun H3 qd zs ws e3 hqd hd hw hs hp => ?_⟩
      have e03 := e02.trans e3
      walk_at "rd"
      refine ⟨dx, _, e03 _ _ h1, web_no (by decide) (by decide), p, n, ar, x, (i : Int), rfl, web.mono e03, G, x0, x1, by omega, hi, fun H4 q2 zs2 ws2 e4 hq2 hd2 hw2 hs2 hp2 => ?_⟩
      obtain rfl : ws2 = ws := srtL_uniq hs2 hs (hp2.trans hp.symm)
      refine neD (dp_wl hd2 hw2) (dp_wl (e4 _ _ hd) (wl_mono e4 hw)) (dW_sh _) (dW_sh _) ?_
      rw [dW_eqv, decide_eq_true rfl]
      have e04 := e03.trans e4
      walk_at "rd"
      refine ⟨dx, _, e04 _ _ h1, web_no (by decide) (by decide), p, n, ar, x, (i : Int), rfl, web.mono e04, G, x0, x1, by omega, hi, fun H5 q3 zs3 ws3 e5 hq3 hd3 hw3 hs3 hp3 => ?_⟩
      obtain rfl : ws3 = ws2 := srtL_uniq hs3 hs (hp3.trans hp.symm)
      have e35 := e4.trans e5
      refine neD (dp_wl hd3 hw3) (dp_wl (e35 _ _ hd) (wl_mono e35 hw)) (dW_sh _) (dW_sh _) ?_
      rw [dW_eqv, decide_eq_true rfl]
      have e15 := e2.trans (e3.trans e35)
      walk_at "rd"
      refine ⟨dxb, _, e15 _ _ b1, web_no (by decide) (by decide), b, n, _, (i : Int), x, rfl, web2.mono e15, good_swap G, by omega, hi, x0, x1, fun H6 q4 zs4 ws4 e6 hq4 hd4 hw4 hs4 hp4 => ?_⟩
      have e36 := e35.trans e6
      have hz := p2_len hw
      have hwl : ws3.length ≤ 4096 := by
        rw [hp.length_eq]
        exact Nat.le_trans (ways_len hrise) (pow_small hlen)
      walk_at "rd"
      refine lcA (e36 _ _ hd) (fun j acc B => Wl B acc ((ws3.take j).map List.reverse)) .nil ?_ ?_
      · intro D j v acc H7 hj hx hD hacc hal e7 hpp
        obtain ⟨w, hw1, t, rfl, ht⟩ := p2_get hw hx
        walk_at "rd"
        refine ⟨_, sqT ((e7.trans dr_ex) _ _ (e36 _ _ ht)), fun t2 ht2 => ?_⟩
        refine cw_put hacc hal (by omega) e7 (Evl.Ex.new ht2) ?_
        rw [List.take_add_one, hw1, List.map_append]
        exact p2_snoc (wl_mono (dr_new ht2) hpp) (IsW.drp ((Evl.Ex.new ht2) _ _ hacc) ⟨t2, rfl, by rw [upd_same, List.map_reverse]⟩)
      · intro D acc H7 hD hacc hal e7 hpp
        have e67 : Ex H6 H7 := e7.trans dr_ex
        rw [hz, List.take_length] at hpp
        refine sortW hacc (wl_mono dr_ex hpp) (fun hlt w hwm => ?_) fun l zs5 us hl0 hw5 hs5 hp5 => ?_
        · obtain ⟨u, hu, rfl⟩ := List.mem_map.mp hwm
          intro e
          rw [List.length_map, hp.length_eq] at hlt
          exact ways_ne hrise (rise_h hlen x) hlt u (hp.mem_iff.mp hu) (List.reverse_eq_nil_iff.mp e)
        · have el : Ex H7 (upd H7 l (.lst zs5)) := Evl.Ex.new hl0
          have hsl : (swp ar).length ≤ 12 := by rw [List.length_map]; exact hlen
          have hback := perm_rev hrise (x := x) (y := (i : Int)) (rise_h hlen x) (rise_h hsl (i : Int))
          obtain rfl : us = ws4 := srtL_uniq hs5 hs4 (hp5.trans ((hp.map List.reverse).trans (hback.symm.trans hp4.symm)))
          refine neD (dp_wl (el _ _ (e67 _ _ hd4)) (wl_mono el (wl_mono e67 hw4))) (dp_wl upd_same (wl_mono el hw5)) (dW_sh _) (dW_sh _) ?_
          rw [dW_eqv, decide_eq_true rfl]
          have e38 := e36.trans (e67.trans el)
          have e28 := e3.trans e38
          have hc8 := e28 _ _ hc2
          walk_at "rd"
          refine ⟨.inl ⟨rfl, _, sqL hc8⟩, zs, .inl (sqL (e38 _ _ hd)), ?_⟩
          refine ⟨c, _, _, rfl, rfl, hc8, Evl.sz_lt (by rw [List.length_map, vecM_len]; omega), ?_⟩
          refine ⟨some (.int (i : Int)), some (.ref qd), rfl, Evl.Ex.mut (e2.trans e28) hc, ?_⟩
          rw [upd_same, vec_snoc, hz, hp.length_eq]
          rfl
    · rintro σ H2 ⟨v5, v6, rfl, e2, hc2⟩
      have e02 := e1.trans e2
      walk_at "rd"
      refine maxR (vecM n.toNat (cntW ar 13 x)) (sqL hc2) rfl (by rw [vecM_len]; omega) fun m hm hmax => ?_
      walk_at "rd"
      by_cases c1 : 6 < m
      · rw [decide_eq_true c1]
        walk_at "rd"
        exact k H2 e02
      rw [decide_eq_false c1]
      walk_at "rd"
      refine sumR (vecM n.toNat (cntW ar 13 x)) (sqL hc2) rfl ?_
      walk_at "rd"
      by_cases c2 : 24 < (vecM n.toNat (cntW ar 13 x)).sum
      · rw [decide_eq_true c2]
        walk_at "rd"
        exact k H2 e02
      rw [decide_eq_false c2]
      walk_at "rd"
      have c6 : ∀ z ∈ vecM n.toNat (cntW ar 13 x), z ≤ 6 := fun z hz => by have := hmax z hz; omega
      refine ⟨p, n, ar, x, rfl, web.mono e02, G, x0, x1, c6, by omega, fun H3 q3 e3 hi3 => ?_⟩
      refine eqD (dp_is hi3) (dp_is (e3 _ _ hc2)) (dIs_sh _) (dIs_sh _) ?_
      rw [dIs_eqv, decide_eq_true rfl]
      walk_at "rd"
      refine ⟨p, n, ar, x, rfl, (web.mono e02).mono e3, G, x0, x1, c6, by omega, fun H4 q4 e4 hi4 => ?_⟩
      refine eqD (dp_is hi4) (dp_is (e4 _ _ (e3 _ _ hc2))) (dIs_sh _) (dIs_sh _) ?_
      rw [dIs_eqv, decide_eq_true rfl]
      exact k H4 (e02.trans (e3.trans e4))
end
end W17

set_option maxRecDepth 100000
set_option maxHeartbeats 4000000
namespace W17
open PySem L2 SB
local macro_rules | `(tactic| walk_at "rd") => `(tactic| first | simp only [rd_var, rd_c, rd_seq, rd_next, rd_ret, rd_retN, rd_drop, rd_asg, rd_op, rd_un, rd_call, rd_callK0, rd_cons, rd_nil, rd_cb, rd_test, rd_b, rd_andV, rd_orV, rd_notV, rd_and, rd_or, rd_not, rd_if, rd_ifS, rd_tup, rd_lst, rd_step, rd_wstep, rd_revL, rNotB_bl, rd_lcL, rd_lc2, rd_lcZ, rd_lcR, rd_lcZS, rd_forE, rd_revT, rd_methK0, rd_makeN0, rd_forL, rd_forZ, rd_forR, rd_make, rd_meth, rd_sfld, rd_bm, rd_prop, rd_yes, rd_par, rd_name, wipe, rI0_int, rI_int, rEq_int, rNe_int, rEq_bl, rNe_bl, L2.start, List.map_cons, List.map_nil, List.length_cons, List.length_nil, Nat.zero_add, Nat.reduceAdd, Nat.reduceSub, List.replicate, List.getElem?_cons_zero, List.getElem?_cons_succ, List.set_cons_zero, List.set_cons_succ, Option.some.injEq, exists_eq_left', exists_eq_left, exists_and_left, V.int.injEq, V.bl.injEq, V.ref.injEq, List.append_nil, List.cons_append, List.nil_append, List.cons.injEq, and_true, true_and, if_true, if_false, Bool.not_true, Bool.not_false, Bool.false_eq_true, ↓reduceIte, reduceCtorEq, decide_true, decide_false, false_and, exists_false, or_false, exists_const] | skip)
section
variable {P : Program} {w : World} {K : PySem.W.Frag} {mg : Str → Option Value} {base : Heap}
theorem ok__law_forms_right (T : Txt K mg) : FnOk P w K mg base CX0 8 T.a__law_forms_right T.d__law_forms_right ["web", "arrows", "one", "two", "three"] (sp__law_forms_right T.C_Web) := by
  refine T.F__law_forms_right.ok sc_law_forms_right (fun vs H Q E h => ?_) (fun cdv A outer s H vs Q E hr h => ?_)
  · obtain ⟨p, a, b, c, d, xs, n, ar, ns, ms, ts, rfl, _⟩ := h; rfl
  · obtain ⟨p, a, b, c, d, xs, n, ar, ns, ms, ts, rfl, web, G, hxs, har, ib, Rb, ic, Rc, id', Rd, Rs, k⟩ := h
    refine ⟨_, (pss_cons (ps_set (i := 5) sc_law_forms_right.nd rfl (Or.inl rfl) (pe_call (ok__law_form T) (hr.mono (by decide)) rfl T.m__law_form T.F__law_form.kp T.b__law_form .nil pass0 (pa_cons (pv 1) (pa_cons (pv 2) (pa_cons (pv 3) pa_nil)))))
        (pss_cons (ps_if (PW.pt (pw_or (pt_cmpR op_ne (pe_call (ok_form T) (hr.mono (by decide)) rfl T.m_form T.F_form.kp T.b_form .nil pass0 (pa_cons (pv 0) (pa_cons (pv 2) (pa_cons (pv 3) pa_nil)))) (pv 5) (nomark _)) (pw_or1 (pt_cmpR op_ne (pe_callK0 (ok_form T) (hr.mono (by decide)) rfl T.m_form T.F_form.kp T.kb_form_other_row_web pass0 (pk_cons (pv 3) (pk_cons (pe_callTy call_tuple_of (by rfl) T.n_tuple (by decide +kernel) (pa_cons (pv 2) pa_nil)) (pk_cons (pv 0) pk_nil)))) (pv 5) (nomark _))))) (pss_one (ps_ret pe_bl)) pss_nil)
        (pss_cons (ps_if (pt_cmpR op_ne (pe_call (ok_form T) (hr.mono (by decide)) rfl T.m_form T.F_form.kp T.b_form .nil pass0 (pa_cons (pe_call (ok_turned_web T) (hr.mono (by decide)) rfl T.m_turned_web T.F_turned_web.kp T.b_turned_web .nil pass0 (pa_cons (pv 0) pa_nil)) (pa_cons (pv 3) (pa_cons (pv 2) pa_nil)))) (pv 5) (nomark _)) (pss_one (ps_ret pe_bl)) pss_nil)
        (pss_cons (ps_setLc (i := 6) (own := [("near", 7), ("far", 8)]) rfl sc_law_forms_right.nd rfl rfl (sw_true rfl rfl rfl (by decide +kernel)) (pi_zip (by rfl) T.n_zip (pa_cons (pv 2) (pa_cons (pv 4) pa_nil))) (blkOk_by (own := [("near", 7), ("far", 8)]) (N := N_law_forms_right) (sc := defScope s_law_forms_right) (by decide +kernel)) (fun _ _ _ _ _ => (show PG _ _ (gTup K 2 (gCons (gName 7) (gCons (gName 8) gNil))) from pg_tup rfl (pgs_cons (pg_name (i := 7) sc_law_forms_right.nd rfl (Or.inl rfl) (Or.inr rfl)) (pgs_cons (pg_name (i := 8) sc_law_forms_right.nd rfl (Or.inl rfl) (Or.inr rfl)) pgs_nil)))) (fun _ _ _ _ _ => pts_nil) (fun _ _ _ _ _ => (pe_op op_add (pv 7) (pv 8))))
        (pss_cons (ps_if (pt_cmpR op_ne (pe_call (ok_form T) (hr.mono (by decide)) rfl T.m_form T.F_form.kp T.b_form .nil pass0 (pa_cons (pv 0) (pa_cons (pv 6) (pa_cons (pv 3) pa_nil)))) (pe_op op_add (pv 5) (pe_call (ok_form T) (hr.mono (by decide)) rfl T.m_form T.F_form.kp T.b_form .nil pass0 (pa_cons (pv 0) (pa_cons (pv 4) (pa_cons (pv 3) pa_nil))))) (nomark _)) (pss_one (ps_ret pe_bl)) pss_nil)
        (pss_one (ps_ret (pe_cmpR op_eq (pe_call (ok_form T) (hr.mono (by decide)) rfl T.m_form T.F_form.kp T.b_form .nil pass0 (pa_cons (pv 0) (pa_cons (pv 3) (pa_cons (pv 6) pa_nil)))) (pe_op op_add (pe_call (ok_form T) (hr.mono (by decide)) rfl T.m_form T.F_form.kp T.b_form .nil pass0 (pa_cons (pv 0) (pa_cons (pv 3) (pa_cons (pv 2) pa_nil)))) (pe_call (ok_form T) (hr.mono (by decide)) rfl T.m_form T.F_form.kp T.b_form .nil pass0 (pa_cons (pv 0) (pa_cons (pv 3) (pa_cons (pv 4) pa_nil))))) (nomark _))))))))), ?_⟩
    have inn := G.inn
    have hlen := G.len
    have hnt : ns.length = ts.length := by have := Rb.len; have := Rd.len; omega
    have n13 := Rb.nb
    have lb := Rb.len
    walk_at "rd"
    refine ⟨a, b, c, xs, n, ar, ns, ms, rfl, hxs, har, inn, hlen, ib, Rb, ic, Rc, fun H1 e1 => ?_⟩
    walk_at "rd"
    refine ⟨p, b, c, n, ar, ns, ms, rfl, web.mono e1, inn, hlen, .inl (e1 _ _ ib), Rb, e1 _ _ ic, Rc, fun H2 e2 => ?_⟩
    have e02 := e1.trans e2
    walk_at "rd"
    refine ⟨_, .inl ⟨sqL (e02 _ _ ib), fun l hl => ?_⟩⟩
    have e03 := e02.trans (Evl.Ex.new (o := .tup (ns.map V.int)) hl)
    refine ⟨p, l, c, n, ar, ns, ms, rfl, web.mono e03, inn, hlen, .inr upd_same, Rb, e03 _ _ ic, Rc, fun H4 e4 => ?_⟩
    have e04 := e03.trans e4
    walk_at "rd"
    refine ⟨p, n, ar, rfl, web.mono e04, G, fun H5 w e5 hw => ?_⟩
    have e05 := e04.trans e5
    refine ⟨w, c, b, n, swp ar, ms, ns, rfl, hw.mono nw_ex, (good_swap G).inn, (good_swap G).len, .inl (e05 _ _ ic), Rc, e05 _ _ ib, Rb, fun H6 e6 => ?_⟩
    have e06 := e05.trans e6
    rw [form_comm]
    walk_at "rd"
    refine lcZ (e06 _ _ ib) (e06 _ _ id') (by simpa using hnt) (fun i acc _ => acc = (((ns.zip ts).take i).map fun q => q.1 + q.2).map V.int) rfl ?_ ?_
    · intro D i x y acc H7 t hi hx hy hD hacc hal e7 hp ht
      obtain ⟨z1, hz1, rfl⟩ := map_get hx
      obtain ⟨z2, hz2, rfl⟩ := map_get hy
      refine gPr (p := (z1, z2)) ⟨t, rfl, upd_same⟩ ?_
      walk_at "rd"
      refine cw_put hacc hal (by simp at hi; omega) e7 (Evl.Ex.new ht) ?_
      rw [hp, List.take_add_one, zip_get hz1 hz2]
      simp
    · intro D acc H7 hD hacc hal e7 hp
      have e07 := e06.trans (e7.trans dr_ex)
      have hzl : (ns.zip ts).length = ns.length := by rw [List.length_zip]; omega
      have hB : IL H7 D (addM ns ts) := by
        unfold IL
        rw [hacc, hp, List.length_map, ← hzl, List.take_length]; rfl
      walk_at "rd"
      refine ⟨p, D, c, n, ar, addM ns ts, ms, rfl, web.mono e07, inn, hlen, .inl hB, Rs, e07 _ _ ic, Rc, fun H8 e8 => ?_⟩
      have e08 := e07.trans e8
      refine ⟨p, d, c, n, ar, ts, ms, rfl, web.mono e08, inn, hlen, .inl (e08 _ _ id'), Rd, e08 _ _ ic, Rc, fun H9 e9 => ?_⟩
      have e09 := e08.trans e9
      walk_at "rd"
      rw [decide_eq_true (form_addL ar ms hnt)]
      walk_at "rd"
      refine ⟨p, c, D, n, ar, ms, addM ns ts, rfl, web.mono e09, inn, hlen, .inl (e09 _ _ ic), Rc, (e8.trans e9) _ _ hB, Rs, fun H10 e10 => ?_⟩
      have e010 := e09.trans e10
      refine ⟨p, c, b, n, ar, ms, ns, rfl, web.mono e010, inn, hlen, .inl (e010 _ _ ic), Rc, e010 _ _ ib, Rb, fun H11 e11 => ?_⟩
      have e011 := e010.trans e11
      refine ⟨p, c, d, n, ar, ms, ts, rfl, web.mono e011, inn, hlen, .inl (e011 _ _ ic), Rc, e011 _ _ id', Rd, fun H12 e12 => ?_⟩
      walk_at "rd"
      rw [decide_eq_true (form_addR ar ms hnt)]
      exact k H12 (e011.trans e12)
theorem ok__law_simple_right (T : Txt K mg) : FnOk P w K mg base CX0 16 T.a__law_simple_right T.d__law_simple_right ["web", "arrows", "place", "row"] (sp__law_simple_right T.C_Web) := by
  refine T.F__law_simple_right.ok sc_law_simple_right (fun vs H Q E h => ?_) (fun cdv A outer s H vs Q E hr h => ?_)
  · obtain ⟨p, a, xs, b, n, ar, x, ms, rfl, _⟩ := h; rfl
  · obtain ⟨p, a, xs, b, n, ar, x, ms, rfl, web, G, hxs, har, x0, x1, ib, Rb, k⟩ := h
    refine ⟨_, (pss_cons (ps_setLc (i := 4) (own := [("other", 7)]) rfl sc_law_simple_right.nd rfl rfl (sw_true rfl rfl rfl (by decide +kernel)) (pi_range1 rfl T.n_range (pa_cons (pe_prop (pv 0) T.cl_Web T.p_Web_places (ok_Web_places T) (hr.mono (by decide)) T.b_Web_places .nil pass0 rfl) pa_nil)) (blkOk_by (own := [("other", 7)]) (N := N_law_simple_right) (sc := defScope s_law_simple_right) (by decide +kernel)) (fun _ _ _ _ _ => (pg_name (i := 7) sc_law_simple_right.nd rfl (Or.inl rfl) (Or.inr rfl))) (fun _ _ _ _ _ => pts_nil) (fun _ _ _ _ _ => (pe_callTy call_int1 (by rfl) T.n_int (by decide +kernel) (pa_cons (pe_cmpR op_eq (pv 7) (pv 2) (nomark _)) pa_nil))))
        (pss_cons (ps_if (PW.pt (pw_or (pt_cmpR (op_neD hr.units) (pe_call (ok_simple_row T) (hr.mono (by decide)) rfl T.m_simple_row T.F_simple_row.kp T.b_simple_row .nil pass0 (pa_cons (pv 0) (pa_cons (pv 2) pa_nil))) (pv 4) (nomark _)) (pw_or1 (pt_cmpR (op_neD hr.units) (pe_callK0 (ok_simple_row T) (hr.mono (by decide)) rfl T.m_simple_row T.F_simple_row.kp T.kb_simple_row_place_web pass0 (pk_cons (pv 2) (pk_cons (pv 0) pk_nil))) (pv 4) (nomark _))))) (pss_one (ps_ret pe_bl)) pss_nil)
        (pss_cons (ps_setLc (i := 5) (own := [("tail", 8), ("head", 9)]) rfl sc_law_simple_right.nd rfl rfl (sw_true rfl rfl rfl (by decide +kernel)) (pi_list (pv 1)) (blkOk_by (own := [("tail", 8), ("head", 9)]) (N := N_law_simple_right) (sc := defScope s_law_simple_right) (by decide +kernel)) (fun _ _ _ _ _ => (show PG _ _ (gTup K 2 (gCons (gName 8) (gCons (gName 9) gNil))) from pg_tup rfl (pgs_cons (pg_name (i := 8) sc_law_simple_right.nd rfl (Or.inl rfl) (Or.inr rfl)) (pgs_cons (pg_name (i := 9) sc_law_simple_right.nd rfl (Or.inl rfl) (Or.inr rfl)) pgs_nil)))) (fun _ _ _ _ _ => (pts_one (pt_cmpR op_eq (pv 8) (pv 2) (nomark _)))) (fun _ _ _ _ _ => (pv 9)))
        (pss_cons (ps_if (pt_cmpR op_ne (pe_call (ok_form T) (hr.mono (by decide)) rfl T.m_form T.F_form.kp T.b_form .nil pass0 (pa_cons (pv 0) (pa_cons (pv 4) (pa_cons (pv 3) pa_nil)))) (pe_op op_sub (pe_ix ix_list (pv 3) (pv 2) (fun _ _ => rfl)) (pe_callB (cr_sum rfl) (by rfl) T.n_sum (by decide +kernel) (pa_cons (pe_lc (own := [("head", 9)]) rfl sc_law_simple_right.nd (pi_list (pv 5)) (blkOk_by (own := [("head", 9)]) (N := N_law_simple_right) (sc := defScope s_law_simple_right) (by decide +kernel)) (fun _ _ _ _ _ => (pg_name (i := 9) sc_law_simple_right.nd rfl (Or.inl rfl) (Or.inr rfl))) (fun _ _ _ _ _ => pts_nil) (fun _ _ _ _ _ => (pe_ix (show IxR _ (rIxL K) from ix_list) (pv 3) (pv 9) (fun _ _ => rfl)))) pa_nil))) (nomark _)) (pss_one (ps_ret pe_bl)) pss_nil)
        (pss_cons (ps_setLc (i := 6) (own := [("other", 7)]) rfl sc_law_simple_right.nd rfl rfl (sw_true rfl rfl rfl (by decide +kernel)) (pi_range1 rfl T.n_range (pa_cons (pe_prop (pv 0) T.cl_Web T.p_Web_places (ok_Web_places T) (hr.mono (by decide)) T.b_Web_places .nil pass0 rfl) pa_nil)) (blkOk_by (own := [("other", 7)]) (N := N_law_simple_right) (sc := defScope s_law_simple_right) (by decide +kernel)) (fun _ _ _ _ _ => (pg_name (i := 7) sc_law_simple_right.nd rfl (Or.inl rfl) (Or.inr rfl))) (fun _ _ _ _ _ => pts_nil) (fun _ _ _ _ _ => (pe_callB (show CallR _ _ (Evl.rLenS K) from call_len_seq) (by rfl) T.n_len (by decide +kernel) (pa_cons (pe_call (ok__law_ways T) (hr.mono (by decide)) rfl T.m__law_ways T.F__law_ways.kp T.b__law_ways .nil pass0 (pa_cons (pv 1) (pa_cons (pv 2) (pa_cons (pv 7) pa_nil)))) pa_nil))))
        (pss_cons (ps_if (PW.pt (pw_or (pt_cmpR op_gt (pe_callB (cr_max rfl) (by rfl) T.n_max (by decide +kernel) (pa_cons (pv 6) pa_nil)) pe_int (nomark _)) (pw_or1 (pt_cmpR op_gt (pe_callB (cr_sum rfl) (by rfl) T.n_sum (by decide +kernel) (pa_cons (pv 6) pa_nil)) pe_int (nomark _))))) (pss_one (ps_ret pe_bl)) pss_nil)
        (pss_one (ps_ret (pe_cmpR op_eq (pe_call (ok_form T) (hr.mono (by decide)) rfl T.m_form T.F_form.kp T.b_form .nil pass0 (pa_cons (pv 0) (pa_cons (pe_call (ok_ways_row T) (hr.mono (by decide)) rfl T.m_ways_row T.F_ways_row.kp T.b_ways_row .nil pass0 (pa_cons (pv 0) (pa_cons (pv 2) pa_nil))) (pa_cons (pv 3) pa_nil)))) (pe_ix ix_list (pv 3) (pv 2) (fun _ _ => rfl)) (nomark _)))))))))), ?_⟩
    obtain ⟨dx, q, ws0, h1, h2, h3⟩ := id web
    obtain ⟨r, hrise⟩ := G.rise
    have inn := G.inn
    have hlen := G.len
    have n13 := G.hi
    have n1 := G.lo
    have lb := Rb.len
    have hnl : n.toNat = ms.length := by omega
    have hal := p2_len har
    walk_at "rd"
    refine ⟨dx, _, h1, p, n, ar, rfl, web, ?_⟩
    walk_at "rd"
    refine lcR ⟨by omega, by omega⟩ (fun i acc _ => acc = (vecM i (unitW x)).map V.int) rfl ?_ ?_
    · intro D i acc H1 hi hD hacc hac e1 hp
      walk_at "rd"
      refine .inr (cw_put hacc hac (by omega) e1 (Evl.Ex.refl _) ?_)
      rw [hp, vec_snoc]
      by_cases c : (i : Int) = x
      · simp [unitW, c]
      · simp [unitW, c]
    · intro D acc H1 hD hacc hac e1' hp
      have e1 : Ex H H1 := e1'.trans dr_ex
      have hdu : IL H1 D (vecM n.toNat (unitW x)) := by unfold IL; rw [← hp]; exact hacc
      walk_at "rd"
      refine ⟨p, n, ar, x, rfl, web.mono e1, n13, x0, x1, fun H2 q2 e2 hq2 hi2 => ?_⟩
      have e02 := e1.trans e2
      refine neD (dp_is hi2) (dp_is (e2 _ _ hdu)) (dIs_sh _) (dIs_sh _) ?_
      rw [dIs_eqv, decide_eq_true rfl]
      walk_at "rd"
      refine ⟨p, n, ar, x, rfl, web.mono e02, n13, x0, x1, fun H3 q3 e3 hq3 hi3 => ?_⟩
      have e03 := e02.trans e3
      refine neD (dp_is hi3) (dp_is (e3 _ _ (e2 _ _ hdu))) (dIs_sh _) (dIs_sh _) ?_
      rw [dIs_eqv, decide_eq_true rfl]
      walk_at "rd"
      refine lcA (e03 _ _ hxs) (fun i acc _ => acc = (((ar.take i).filter fun p => decide (p.1 = x)).map (·.2)).map V.int) rfl ?_ ?_
      · intro D2 i v acc2 H4 hi hx hD2 hacc2 hac2 e4 hp2
        obtain ⟨pr, hpr, ipr⟩ := p2_get har hx
        refine gPr ((ipr.mono e03).mono (e4.trans dr_ex)) ?_
        walk_at "rd"
        by_cases c : pr.1 = x
        · rw [if_pos (by simpa using c)]
          refine cw_put hacc2 hac2 (by omega) e4 (Evl.Ex.refl _) ?_
          rw [hp2, List.take_add_one, hpr, List.filter_append]
          simp [c]
        · rw [if_neg (by simpa using c)]
          refine cw_skip hacc2 hac2 e4 (Evl.Ex.refl _) ?_
          rw [hp2, List.take_add_one, hpr, List.filter_append]
          simp [c]
      · intro D2 acc2 H4 hD2 hacc2 hac2 e4' hp2
        rw [hal, List.take_length] at hp2
        have e34 : Ex H3 H4 := e4'.trans dr_ex
        have e04 := e03.trans e34
        obtain ⟨hd, hhd⟩ : ∃ hd, hd = (ar.filter fun p => decide (p.1 = x)).map (·.2) := ⟨_, rfl⟩
        rw [← hhd] at hp2
        have hdl : hd.length ≤ 12 := by
          rw [hhd, List.length_map]
          exact Nat.le_trans (List.length_filter_le _ _) hlen
        have hdin : ∀ z ∈ hd, 0 ≤ z ∧ z < n := fun z hz => by
          rw [hhd] at hz
          obtain ⟨p', hp', rfl⟩ := List.mem_map.mp hz
          obtain ⟨_, _, o3, o4, _⟩ := inn p' ((List.mem_filter.mp hp').1)
          exact ⟨o3, o4⟩
        have Ru : RowOk n (vecM n.toNat (unitW x)) := by
          have hz : ∀ z ∈ vecM n.toNat (unitW x), 0 ≤ z ∧ z ≤ 1 := fun z hz => by
            obtain ⟨i, _, rfl⟩ := List.mem_map.mp hz
            unfold unitW
            split <;> omega
          have hs := sum_bound _ hz
          rw [vecM_len] at hs
          exact ⟨by rw [vecM_len]; omega, fun z h => by have := hz z h; omega, by omega, n13⟩
        walk_at "rd"
        refine ⟨p, D, b, n, ar, vecM n.toNat (unitW x), ms, rfl, web.mono e04, inn, hlen, .inl ((e2.trans (e3.trans e34)) _ _ hdu), Ru, e04 _ _ ib, Rb, fun H5 e5 => ?_⟩
        have e05 := e04.trans e5
        refine ixL (sqL (e05 _ _ ib)) (at_ints x0 (by omega)) ?_
        walk_at "rd"
        have hac5 : H5 D2 = some (.lst (hd.map V.int)) := by rw [← hp2]; exact e5 _ _ hacc2
        refine lcA hac5 (fun i acc _ => acc = ((hd.take i).map fun z => ms.getD z.toNat 0).map V.int) rfl ?_ ?_
        · intro D3 i v acc3 H6 hi hx hD3 hacc3 hac3 e6 hp3
          obtain ⟨z, hz, rfl⟩ := map_get hx
          obtain ⟨z0, z1⟩ := hdin z (List.mem_of_getElem? hz)
          walk_at "rd"
          refine ixL (sqL ((e6.trans dr_ex) _ _ (e05 _ _ ib))) (at_ints z0 (by omega)) ?_
          refine cw_put hacc3 hac3 (by rw [List.length_map] at hi; omega) e6 (Evl.Ex.refl _) ?_
          rw [hp3, List.take_add_one, hz]
          simp
        · intro D3 acc3 H6 hD3 hacc3 hac3 e6' hp3
          have e06 := e05.trans (e6'.trans dr_ex)
          walk_at "rd"
          refine sumR (hd.map fun z => ms.getD z.toNat 0) (sqL hacc3) (by rw [hp3, List.length_map, List.take_length]) ?_
          walk_at "rd"
          have hform : formM ar (vecM n.toNat (unitW x)) ms = ms.getD x.toNat 0 - (hd.map fun z => ms.getD z.toNat 0).sum := by
            have := form_unit (ar := ar) (row := ms) (x := x) x0 (by omega) (fun p hp => by obtain ⟨o1, o2, _⟩ := inn p hp; omega)
            rw [hnl, hhd, List.map_map]
            exact this
          rw [decide_eq_true hform]
          walk_at "rd"
          refine ⟨dx, _, e06 _ _ h1, p, n, ar, rfl, web.mono e06, ?_⟩
          walk_at "rd"
          refine lcR ⟨by omega, by omega⟩ (fun i acc _ => acc = (vecM i (cntW ar 13 x)).map V.int) rfl ?_ ?_
          · intro D4 i acc4 H7 hi hD4 hacc4 hac4 e7 hp4
            have e07 := e06.trans (e7.trans dr_ex)
            walk_at "rd"
            refine ⟨a, xs, ar, n, x, (i : Int), rfl, e07 _ _ hxs, har.mono e07, G, fun H8 qd zs ws e8 _ hd8 hw hs hperm => ?_⟩
            refine ⟨_, zs, rfl, .inl (sqL hd8), ?_⟩
            refine cw_put hacc4 hac4 (by omega) e7 e8 ?_
            rw [p2_len hw, hperm.length_eq, hp4, vec_snoc]
            rfl
          · intro D4 acc4 H7 hD4 hacc4 hac4 e7' hp4
            have e07 := e06.trans (e7'.trans dr_ex)
            walk_at "rd"
            refine maxR (vecM n.toNat (cntW ar 13 x)) (sqL hacc4) hp4 (by rw [vecM_len]; omega) fun m hm hmax => ?_
            walk_at "rd"
            by_cases c1 : 6 < m
            · rw [decide_eq_true c1]
              walk_at "rd"
              exact k H7 e07
            rw [decide_eq_false c1]
            walk_at "rd"
            refine sumR (vecM n.toNat (cntW ar 13 x)) (sqL hacc4) hp4 ?_
            walk_at "rd"
            by_cases c2 : 24 < (vecM n.toNat (cntW ar 13 x)).sum
            · rw [decide_eq_true c2]
              walk_at "rd"
              exact k H7 e07
            rw [decide_eq_false c2]
            walk_at "rd"
            have c6 : ∀ z ∈ vecM n.toNat (cntW ar 13 x), z ≤ 6 := fun z hz => by have := hmax z hz; omega
            have Rw : RowOk n (vecM n.toNat (cntW ar 13 x)) := ⟨by rw [vecM_len]; omega, fun z hz => ⟨by
              obtain ⟨i, _, rfl⟩ := List.mem_map.mp hz
              unfold cntW; omega, c6 z hz⟩, by omega, n13⟩
            refine ⟨p, n, ar, x, rfl, web.mono e07, G, x0, x1, c6, by omega, fun H8 q8 e8 hi8 => ?_⟩
            have e08 := e07.trans e8
            refine ⟨p, q8, b, n, ar, _, ms, rfl, web.mono e08, inn, hlen, .inl hi8, Rw, e08 _ _ ib, Rb, fun H9 e9 => ?_⟩
            refine ixL (sqL (e9 _ _ (e08 _ _ ib))) (at_ints x0 (by omega)) ?_
            walk_at "rd"
            have hfin : formM ar (vecM n.toNat (cntW ar 13 x)) ms = ms.getD x.toNat 0 := by
              rw [hnl]
              refine form_count x0 (by omega) (fun p hp => ?_) (cnt_step hrise (by omega) x)
              obtain ⟨o1, o2, o3, o4, _⟩ := inn p hp
              omega
            rw [decide_eq_true hfin]
            exact k H9 (e08.trans e9)
end
end W17

set_option maxRecDepth 100000
set_option maxHeartbeats 4000000
namespace W17
open PySem L2 SB
local macro_rules | `(tactic| walk_at "rd") => `(tactic| first | simp only [rd_var, rd_c, rd_seq, rd_next, rd_ret, rd_retN, rd_drop, rd_asg, rd_op, rd_un, rd_call, rd_callK0, rd_cons, rd_nil, rd_cb, rd_test, rd_b, rd_andV, rd_orV, rd_notV, rd_and, rd_or, rd_not, rd_if, rd_ifS, rd_tup, rd_lst, rd_step, rd_wstep, rd_revL, rNotB_bl, rd_lcL, rd_lc2, rd_lcZ, rd_lcR, rd_lcZS, rd_forE, rd_revT, rd_methK0, rd_makeN0, rd_forL, rd_forZ, rd_forR, rd_make, rd_meth, rd_sfld, rd_bm, rd_prop, rd_yes, rd_par, rd_name, wipe, rI0_int, rI_int, rEq_int, rNe_int, rEq_bl, rNe_bl, L2.start, List.map_cons, List.map_nil, List.length_cons, List.length_nil, Nat.zero_add, Nat.reduceAdd, Nat.reduceSub, List.replicate, List.getElem?_cons_zero, List.getElem?_cons_succ, List.set_cons_zero, List.set_cons_succ, Option.some.injEq, exists_eq_left', exists_eq_left, exists_and_left, V.int.injEq, V.bl.injEq, V.ref.injEq, List.append_nil, List.cons_append, List.nil_append, List.cons.injEq, and_true, true_and, if_true, if_false, Bool.not_true, Bool.not_false, Bool.false_eq_true, ↓reduceIte, reduceCtorEq, decide_true, decide_false, false_and, exists_false, or_false, exists_const] | skip)
section
variable {P : Program} {w : World} {K : PySem.W.Frag} {mg : Str → Option Value} {base : Heap}
theorem ok__law_right (T : Txt K mg) : FnOk P w K mg base CX0 17 T.a__law_right T.d__law_right ["pot"] sp__law_right := by
  refine T.F__law_right.ok sc_law_right (fun vs H Q E h => ?_) (fun cdv A outer s H vs Q E hr h => ?_)
  · obtain ⟨p, rfl, _⟩ := h; rfl
  · obtain ⟨p, rfl, pot, k⟩ := h
    refine ⟨_, (pss_cons (ps_asg (pe_call (ok__law_web T) (hr.mono (by decide)) rfl T.m__law_web T.F__law_web.kp T.b__law_web .nil pass0 (pa_cons (pv 0) (pa_cons pe_int (pa_cons pe_int (pa_cons pe_int pa_nil))))) (pg_tup rfl (pgs_cons (pg_name (i := 1) sc_law_right.nd rfl (Or.inl rfl) (Or.inr rfl)) (pgs_cons (pg_name (i := 2) sc_law_right.nd rfl (Or.inl rfl) (Or.inr rfl)) pgs_nil))))
        (pss_cons (ps_set (i := 3) sc_law_right.nd rfl (Or.inl rfl) (SB.pe_makeN0 T.mk_Web (ok_Web__init_ T) (hr.mono (by decide)) rfl T.m_Web T.kb_Web__init__arrows_places pass0 (pk_cons (pe_callTy call_tuple_of (by rfl) T.n_tuple (by decide +kernel) (pa_cons (pv 2) pa_nil)) (pk_cons (pv 1) pk_nil))))
        (pss_cons (ps_par (i := 4) (j := 5) (by rfl) sc_law_right.nd rfl rfl (by decide) rfl rfl (pa_cons (pe_call (ok__law_row T) (hr.mono (by decide)) rfl T.m__law_row T.F__law_row.kp T.b__law_row .nil pass0 (pa_cons (pv 0) (pa_cons (pv 1) (pa_cons pe_int pa_nil)))) (pa_cons (pe_call (ok__law_row T) (hr.mono (by decide)) rfl T.m__law_row T.F__law_row.kp T.b__law_row .nil pass0 (pa_cons (pv 0) (pa_cons (pv 1) (pa_cons pe_int pa_nil)))) pa_nil)) (by rfl))
        (pss_cons (ps_set (i := 6) sc_law_right.nd rfl (Or.inl rfl) (pe_call (ok__law_row T) (hr.mono (by decide)) rfl T.m__law_row T.F__law_row.kp T.b__law_row .nil pass0 (pa_cons (pv 0) (pa_cons (pv 1) (pa_cons pe_int pa_nil)))))
        (pss_cons (ps_for PassesOwn.never rfl (pi_range1 rfl T.n_range (pa_cons (pv 1) pa_nil)) (pg_name (i := 7) sc_law_right.nd rfl (Or.inl rfl) (Or.inr rfl)) (pss_cons (ps_if (pt_not (pt_val (pe_call (ok__law_ways_right T) (hr.mono (by decide)) rfl T.m__law_ways_right T.F__law_ways_right.kp T.b__law_ways_right .nil pass0 (pa_cons (pv 3) (pa_cons (pv 2) (pa_cons (pv 7) pa_nil)))))) (pss_one (ps_ret pe_bl)) pss_nil)
        (pss_one (ps_if (pt_not (pt_val (pe_call (ok__law_simple_right T) (hr.mono (by decide)) rfl T.m__law_simple_right T.F__law_simple_right.kp T.b__law_simple_right .nil pass0 (pa_cons (pv 3) (pa_cons (pv 2) (pa_cons (pv 7) (pa_cons (pv 5) pa_nil))))))) (pss_one (ps_ret pe_bl)) pss_nil))))
        (pss_cons (ps_if (pt_not (pt_val (pe_call (ok__law_forms_right T) (hr.mono (by decide)) rfl T.m__law_forms_right T.F__law_forms_right.kp T.b__law_forms_right .nil pass0 (pa_cons (pv 3) (pa_cons (pv 2) (pa_cons (pv 4) (pa_cons (pv 5) (pa_cons (pv 6) pa_nil)))))))) (pss_one (ps_ret pe_bl)) pss_nil)
        (pss_cons (ps_set (i := 8) sc_law_right.nd rfl (Or.inl rfl) (pe_call (ok_turned_web T) (hr.mono (by decide)) rfl T.m_turned_web T.F_turned_web.kp T.b_turned_web .nil pass0 (pa_cons (pv 3) pa_nil)))
        (pss_cons (ps_if (PW.pt (pw_or (pt_cmpR (op_neD hr.units) (pe_meth0 (pv 8) T.cl_Web T.me_Web_arrows (ok_Web_arrows T) (hr.mono (by decide)) T.b_Web_arrows .nil pass0) (pe_lc (own := [("tail", 9), ("head", 10)]) rfl sc_law_right.nd (pi_list (pv 2)) (blkOk_by (own := [("tail", 9), ("head", 10)]) (N := N_law_right) (sc := defScope s_law_right) (by decide +kernel)) (fun _ _ _ _ _ => (show PG _ _ (gTup K 2 (gCons (gName 9) (gCons (gName 10) gNil))) from pg_tup rfl (pgs_cons (pg_name (i := 9) sc_law_right.nd rfl (Or.inl rfl) (Or.inr rfl)) (pgs_cons (pg_name (i := 10) sc_law_right.nd rfl (Or.inl rfl) (Or.inr rfl)) pgs_nil)))) (fun _ _ _ _ _ => pts_nil) (fun _ _ _ _ _ => (pe_tup (pa_cons (pv 10) (pa_cons (pv 9) pa_nil))))) (nomark _)) (pw_or1 (pt_cmpR (SB.op_neOwn (ok_Web__eq_ T) (hr.mono (by decide)) T.ne_Web T.hc4_Web T.eq_Web T.fe_Web T.b_Web__eq_ pass0) (pe_call (ok_turned_web T) (hr.mono (by decide)) rfl T.m_turned_web T.F_turned_web.kp T.b_turned_web .nil pass0 (pa_cons (pv 8) pa_nil)) (pv 3) (nomark _))))) (pss_one (ps_ret pe_bl)) pss_nil)
        (pss_cons (ps_if (PW.pt (pw_or (pt_cmpR op_ne (pe_prop (pv 8) T.cl_Web T.p_Web_places (ok_Web_places T) (hr.mono (by decide)) T.b_Web_places .nil pass0 rfl) (pv 1) (nomark _)) (pw_or1 (pt_cmpR op_ne (pe_prop (pv 8) T.cl_Web T.p_Web_many (ok_Web_many T) (hr.mono (by decide)) T.b_Web_many .nil pass0 rfl) (pe_callB call_len_seq (by rfl) T.n_len (by decide +kernel) (pa_cons (pv 2) pa_nil)) (nomark _))))) (pss_one (ps_ret pe_bl)) pss_nil)
        (pss_cons (ps_expr (pe_bm PySem.F.plainAttrs_list PySem.F.slot_list_append PySem.F.type_list_append mt_append (pe_meth0 (pv 3) T.cl_Web T.me_Web_arrows (ok_Web_arrows T) (hr.mono (by decide)) T.b_Web_arrows .nil pass0) (pa_cons pe_non pa_nil)))
        (pss_cons (ps_expr (pe_bm PySem.F.plainAttrs_list PySem.F.slot_list_append PySem.F.type_list_append mt_append (pe_meth (pv 3) T.cl_Web T.me_Web_ways (ok_Web_ways T) (hr.mono (by decide)) T.b_Web_ways .nil pass0 (pa_cons pe_int (pa_cons pe_int pa_nil))) (pa_cons pe_non pa_nil)))
        (pss_cons (ps_expr (pe_bm PySem.F.plainAttrs_list PySem.F.slot_list_append PySem.F.type_list_append mt_append (pe_call (ok_simple_row T) (hr.mono (by decide)) rfl T.m_simple_row T.F_simple_row.kp T.b_simple_row .nil pass0 (pa_cons (pv 3) (pa_cons pe_int pa_nil))) (pa_cons pe_int pa_nil)))
        (pss_cons (ps_if (PW.pt (pw_or (pt_cmpR (op_neD hr.units) (pe_meth0 (pv 3) T.cl_Web T.me_Web_arrows (ok_Web_arrows T) (hr.mono (by decide)) T.b_Web_arrows .nil pass0) (pv 2) (nomark _)) (pw_or1 (pt_cmpR (op_neD hr.units) (pe_meth (pv 3) T.cl_Web T.me_Web_ways (ok_Web_ways T) (hr.mono (by decide)) T.b_Web_ways .nil pass0 (pa_cons pe_int (pa_cons pe_int pa_nil))) (pe_lst (pa_cons (pe_tup pa_nil) pa_nil)) (nomark _))))) (pss_one (ps_ret pe_bl)) pss_nil)
        (pss_one (ps_ret (pe_cmpR op_eq (pe_callB call_len_seq (by rfl) T.n_len (by decide +kernel) (pa_cons (pe_call (ok_simple_row T) (hr.mono (by decide)) rfl T.m_simple_row T.F_simple_row.kp T.b_simple_row .nil pass0 (pa_cons (pv 3) (pa_cons pe_int pa_nil))) pa_nil)) (pv 1) (nomark _))))))))))))))))), ?_⟩
    walk_at "rd"
    refine ⟨p, 1, 5, 7, rfl, pot, by decide, by decide, by decide, by decide, by decide, fun t n ar H1 G n1 n5 har e1 pot1 pa => ?_⟩
    obtain ⟨po, hpo⟩ := pot.some
    obtain ⟨po1, hpo1⟩ := pot1.some
    obtain ⟨l, xs, ht, hl, hxs⟩ := pa.mono (nw_dr hpo)
    have hlen := G.len
    refine ⟨t, _, rfl, sqT (dr_ex _ _ ht), rfl, _, _, rfl, _, _, rfl, rfl, ?_⟩
    walk_at "rd"
    refine ⟨_, .inl ⟨sqL (dr_ex _ _ hl), fun l2 hl2 => ?_⟩⟩
    have et : Ex H1 (upd H1 l2 (.tup xs)) := Evl.Ex.new hl2
    walk_at "rd"
    intro x dx hx hdx hne
    have em : Ex (upd H1 l2 (.tup xs)) (upd (upd (upd H1 l2 (.tup xs)) dx (.own x)) x (.ins T.C_Web dx [])) := made_ex hx hdx
    refine ⟨x, dx, n, l2, xs, ar, rfl, upd_same, .inr (em _ _ upd_same), (hxs.mono dr_ex).mono (et.trans em), G, fun H2 q zs hq e hx2 hq2 hz => ⟨rfl, ?_⟩⟩
    have e2 : Ex H1 H2 := init_ex et hx hdx e
    have web : WebAt T.C_Web (dr p H2) x n ar := (webN em hx hq hx2 hq2 hz).mono (nw_dr (et _ _ hpo1))
    have hl2' : (dr p H2) l = some (.lst xs) := dr_mono e2 _ _ hl
    have hxs2 : Ar (dr p H2) xs ar := hxs.mono (dr_mono e2)
    have pot2 := pot1.mono e2
    obtain ⟨po2, hpo2⟩ := pot2.some
    refine ⟨p, n, 3, rfl, pot2, by omega, by omega, by decide, by decide, fun qr ns H3 hnl hns hqr e3 pot3 hrow => ?_⟩
    obtain ⟨po3, hpo3⟩ := pot3.some
    refine ⟨p, n, 4, rfl, pot3, by omega, by omega, by decide, by decide, fun qm ms H4 hml hms hqm e4 pot4 hrow2 => ?_⟩
    obtain ⟨po4, hpo4⟩ := pot4.some
    refine ⟨_, _, ⟨rfl, rfl⟩, ?_⟩
    refine ⟨p, n, 1, rfl, pot4, by omega, by omega, by decide, by decide, fun qt ts H5 htl hts hqt e5 pot5 hrow3 => ?_⟩
    have hqrp : qr ≠ p := fun z => by rw [z, hpo2] at hqr; cases hqr
    have hqmp : qm ≠ p := fun z => by rw [z, hpo3] at hqm; cases hqm
    have e25 := e3.trans (e4.trans e5)
    have W5 : WebAt T.C_Web H5 x n ar := web.mono (e25.trans dr_ex)
    have l5 : H5 l = some (.lst xs) := dr_ex _ _ (e25 _ _ hl2')
    have a5 : Ar H5 xs ar := hxs2.mono (e25.trans dr_ex)
    have i1 : IL H5 qr ns := dr_keep (e4.trans e5) hqrp hrow
    have i2 : IL H5 qm ms := dr_keep e5 hqmp hrow2
    have i3 : IL H5 qt ts := hrow3
    have R1 : RowOk n ns := row_to4 (by omega) hnl fun z hz => by have := hns z hz; omega
    have R2 : RowOk n ms := row_to4 (by omega) hml hms
    have R3 : RowOk n ts := row_to4 (by omega) htl fun z hz => by have := hts z hz; omega
    have R4 : RowOk n (addM ns ts) := row_to4 (by omega) (by rw [addM_len (by omega)]; exact hnl) (add_in hns hts)
    clear e25 hqt hqm hqr hrow hrow2 hrow3 e5 e4 e3 web hl2' hxs2
    walk_at "rd"
    refine forR ⟨by omega, by omega⟩ (WFin H5 p n l x qr qm qt) ⟨none, rfl, Evl.Ex.refl _⟩ ?_ ?_
    · rintro i σ H6 hi ⟨v7, rfl, e6⟩
      walk_at "rd"
      refine ⟨x, l, xs, n, ar, (i : Int), rfl, W5.mono e6, G, e6 _ _ l5, a5.mono e6, by omega, hi, fun H7 e7 => ?_⟩
      have e57 := e6.trans e7
      walk_at "rd"
      refine ⟨x, l, xs, qm, n, ar, (i : Int), ms, rfl, W5.mono e57, G, e57 _ _ l5, a5.mono e57, by omega, hi, e57 _ _ i2, R2, fun H8 e8 => ?_⟩
      walk_at "rd"
      exact ⟨_, rfl, e57.trans e8⟩
    · rintro σ H6 ⟨v7, rfl, e6⟩
      walk_at "rd"
      refine ⟨x, l, qr, qm, qt, xs, n, ar, ns, ms, ts, rfl, W5.mono e6, G, e6 _ _ l5, a5.mono e6, e6 _ _ i1, R1, e6 _ _ i2, R2, e6 _ _ i3, R3, R4, fun H7 e7 => ?_⟩
      have f7 := e6.trans e7
      walk_at "rd"
      refine ⟨x, n, ar, rfl, W5.mono f7, G, fun H8 b e8 hb => ?_⟩
      have f8 := f7.trans e8
      have B8 := hb.mono nw_ex
      obtain ⟨dxb, qb, wb, b1, b2, b3⟩ := id B8
      walk_at "rd"
      refine ⟨dxb, _, b1, web_no (by decide) (by decide), b, n, swp ar, rfl, B8, fun l3 ys hl3 hys => ?_⟩
      have g1 : Ex H8 (upd H8 l3 (.lst ys)) := Evl.Ex.new hl3
      have f9 := f8.trans g1
      have hal := p2_len a5
      walk_at "rd"
      refine lcA (f9 _ _ l5) (fun i acc B => Ar B acc ((ar.take i).map fun p => (p.2, p.1))) .nil ?_ ?_
      · intro D i v acc H10 hi hx10 hD hacc hac e10 hp
        obtain ⟨pr, hpr, ipr⟩ := p2_get a5 hx10
        refine gPr (ipr.mono (f9.trans (e10.trans dr_ex))) ?_
        walk_at "rd"
        refine ⟨Evl.sz_of (by decide), fun t2 ht2 => ?_⟩
        refine cw_put hacc hac (by omega) e10 (Evl.Ex.new ht2) ?_
        rw [List.take_add_one, hpr, List.map_append]
        exact p2_snoc (hp.mono (dr_new ht2)) ⟨t2, rfl, dr_at (fun z => by rw [z, hacc] at ht2; cases ht2) upd_same⟩
      · intro D acc H10 hD hacc hac e10' hp
        rw [hal, List.take_length] at hp
        have g2 : Ex H8 H10 := g1.trans (e10'.trans dr_ex)
        have f10 := f8.trans g2
        refine neD (dp_prs ((e10'.trans dr_ex) _ _ upd_same) (hys.mono g2)) (dp_prs hacc (hp.mono dr_ex)) (dPrs_sh _) (dPrs_sh _) ?_
        rw [dPrs_eqv, decide_eq_true rfl]
        walk_at "rd"
        refine ⟨b, n, swp ar, rfl, B8.mono g2, good_swap G, fun H11 b' e11 hb' => ?_⟩
        have g3 := g2.trans e11
        have f11 := f8.trans g3
        refine neqWeb (hb'.mono nw_ex) (W5.mono f11) ?_
        rw [decide_eq_true ⟨rfl, swp_swp ar⟩]
        walk_at "rd"
        refine ⟨dxb, _, g3 _ _ b1, b, n, swp ar, rfl, B8.mono g3, ?_⟩
        walk_at "rd"
        refine ⟨dxb, _, g3 _ _ b1, b, n, swp ar, rfl, B8.mono g3, ?_⟩
        walk_at "rd"
        refine ⟨xs, .inl (sqL (f11 _ _ l5)), ?_⟩
        walk_at "rd"
        rw [decide_eq_true (show (((swp ar).length : Nat) : Int) = ((xs.length : Nat) : Int) by rw [List.length_map, hal])]
        obtain ⟨dw, qw, ww, w1, w2, w3⟩ := id W5
        walk_at "rd"
        refine ⟨dw, _, f11 _ _ w1, web_no (by decide) (by decide), x, n, ar, rfl, W5.mono f11, fun l4 ys4 hl4 hys4 => ?_⟩
        have hy4 := p2_len hys4
        refine ⟨.inl ⟨rfl, _, sqL upd_same⟩, l4, ys4, _, rfl, rfl, upd_same, Evl.sz_lt (by omega), ?_⟩
        have f12 := f11.trans (Evl.Ex.mut (o := .lst (ys4 ++ [.non])) (Evl.Ex.new (o := .lst ys4) hl4) hl4)
        walk_at "rd"
        refine ⟨dw, _, f12 _ _ w1, web_no (by decide) (by decide), x, n, ar, 0, 0, rfl, W5.mono f12, G, by decide, by omega, by decide, by omega, fun H13 q5 zs5 ws5 e13 hq5 hd5 hw5 hs5 hp5 => ?_⟩
        rw [ways_self] at hp5
        have hz5 : zs5.length = 1 := by rw [p2_len hw5, hp5.length_eq]; rfl
        refine ⟨.inl ⟨rfl, _, sqL hd5⟩, q5, zs5, _, rfl, rfl, hd5, Evl.sz_lt (by omega), ?_⟩
        have f13 := f12.trans (Evl.Ex.mut (o := .lst (zs5 ++ [.non])) e13 hq5)
        walk_at "rd"
        refine ⟨x, n, ar, 0, rfl, W5.mono f13, by omega, by decide, by omega, fun H14 q6 e14 hq6 hi6 => ?_⟩
        refine ⟨.inl ⟨rfl, _, sqL hi6⟩, q6, _, _, rfl, rfl, hi6, Evl.sz_lt (by rw [List.length_map, vecM_len]; omega), ?_⟩
        have f14 := f13.trans (Evl.Ex.mut (o := .lst ((vecM n.toNat (unitW 0)).map V.int ++ [.int 9])) e14 hq6)
        walk_at "rd"
        refine ⟨dw, _, f14 _ _ w1, web_no (by decide) (by decide), x, n, ar, rfl, W5.mono f14, fun l7 ys7 hl7 hys7 => ?_⟩
        have f15 := f14.trans (Evl.Ex.new (o := .lst ys7) hl7)
        refine neD (dp_prs upd_same (hys7.mono (Evl.Ex.new hl7))) (dp_prs (f15 _ _ l5) (a5.mono f15)) (dPrs_sh _) (dPrs_sh _) ?_
        rw [dPrs_eqv, decide_eq_true rfl]
        walk_at "rd"
        refine ⟨dw, _, f15 _ _ w1, web_no (by decide) (by decide), x, n, ar, 0, 0, rfl, W5.mono f15, G, by decide, by omega, by decide, by omega, fun H16 q8 zs8 ws8 e16 hq8 hd8 hw8 hs8 hp8 => ?_⟩
        rw [ways_self] at hp8
        obtain rfl : ws8 = [[]] := List.perm_singleton.mp hp8
        have f16 := f15.trans e16
        refine ⟨Evl.sz_of (by decide), fun t9 ht9 => ⟨Evl.sz_of (by decide), fun q9 hq9 => ?_⟩⟩
        have eA := Evl.Ex.new (o := .tup []) ht9
        have eB := Evl.Ex.new (o := .lst [.ref t9]) hq9
        have f17 := f16.trans (eA.trans eB)
        refine neD (dp_wl ((eA.trans eB) _ _ hd8) (wl_mono (eA.trans eB) hw8)) (dp_wl (ws := [[]]) upd_same (.cons ⟨t9, rfl, eB _ _ upd_same⟩ .nil)) (dW_sh _) (dW_sh _) ?_
        rw [dW_eqv, decide_eq_true rfl]
        walk_at "rd"
        refine ⟨x, n, ar, 0, rfl, W5.mono f17, by omega, by decide, by omega, fun H18 q10 e18 hq10 hi10 => ?_⟩
        refine ⟨_, rfl, _, .inl (sqL hi10), ?_⟩
        walk_at "rd"
        rw [List.length_map, vecM_len, decide_eq_true (by omega)]
        exact k H18
theorem ok_law (T : Txt K mg) : FnOk P w K mg base CX0 18 T.a_law T.d_law ["script"] (sp_law K) := by
  refine T.F_law.ok sclaw (fun vs H Q E h => ?_) (fun cdv A outer s H vs Q E hr h => ?_)
  · obtain ⟨a, ns, rfl, _⟩ := h; rfl
  · obtain ⟨a, ns, rfl, hS, k⟩ := h
    refine ⟨_, (pss_one (ps_ret (pe_call (ok__law_right T) (hr.mono (by decide)) rfl T.m__law_right T.F__law_right.kp T.b__law_right .nil pass0 (pa_cons (pe_call (ok__law_pot T) (hr.mono (by decide)) rfl T.m__law_pot T.F__law_pot.kp T.b__law_pot .nil pass0 (pa_cons (pv 0) (pa_cons pe_int pa_nil))) pa_nil)))), ?_⟩
    walk_at "rd"
    refine ⟨a, ns, rfl, hS, fun p H1 e1 pot => ?_⟩
    refine ⟨p, rfl, pot, k⟩
end
end W17

set_option maxRecDepth 100000
set_option maxHeartbeats 4000000
namespace W17
open PySem L2 SB
theorem kb_wr {K : PySem.W.Frag} {f : Addr} {fd : FuncData} (F : Fun K "ways_row" "ways_row" sways_row f fd) : KBinds K fd ["web", "place"] ["place", "web"] KBw KBv := by
  obtain ⟨oc, od, kV, doc, pm, an, cdv, ct, osl, rfl, lk, hcd⟩ := F.ex
  refine ⟨fun s us ws _ hl => ?_, fun r z => p2_app r (p2_rev z)⟩
  unfold KBw at hl ⊢
  match us, ws, hl with
  | [], [r, w], _ => exact .of_eq rfl
  | [a], [b], _ => exact .of_eq rfl
  | [a, b], [], _ => exact .of_eq rfl
  | [], [], hl => simp at hl
  | [], [_], hl => simp at hl
  | [], _ :: _ :: _ :: _, hl => simp at hl
  | [_], [], hl => simp at hl
  | [_], _ :: _ :: _, hl => simp at hl
  | [_, _], _ :: _, hl => simp at hl
  | _ :: _ :: _ :: _, _, hl => simp at hl
theorem kb_sr {K : PySem.W.Frag} {f : Addr} {fd : FuncData} (F : Fun K "simple_row" "simple_row" ssimple_row f fd) : KBinds K fd ["web", "place"] ["place", "web"] KBw KBv := by
  obtain ⟨oc, od, kV, doc, pm, an, cdv, ct, osl, rfl, lk, hcd⟩ := F.ex
  refine ⟨fun s us ws _ hl => ?_, fun r z => p2_app r (p2_rev z)⟩
  unfold KBw at hl ⊢
  match us, ws, hl with
  | [], [r, w], _ => exact .of_eq rfl
  | [a], [b], _ => exact .of_eq rfl
  | [a, b], [], _ => exact .of_eq rfl
  | [], [], hl => simp at hl
  | [], [_], hl => simp at hl
  | [], _ :: _ :: _ :: _, hl => simp at hl
  | [_], [], hl => simp at hl
  | [_], _ :: _ :: _, hl => simp at hl
  | [_, _], _ :: _, hl => simp at hl
  | _ :: _ :: _ :: _, _, hl => simp at hl
theorem kb_fo {K : PySem.W.Frag} {f : Addr} {fd : FuncData} (F : Fun K "form" "form" sform f fd) : KBinds K fd ["web", "row", "other"] ["other", "row", "web"] KBw KBv := by
  obtain ⟨oc, od, kV, doc, pm, an, cdv, ct, osl, rfl, lk, hcd⟩ := F.ex
  refine ⟨fun s us ws _ hl => ?_, fun r z => p2_app r (p2_rev z)⟩
  unfold KBw at hl ⊢
  match us, ws, hl with
  | [], [x, r, w], _ => exact .of_eq rfl
  | [a], [x, r], _ => exact .of_eq rfl
  | [a, b], [x], _ => exact .of_eq rfl
  | [a, b, c], [], _ => exact .of_eq rfl
  | [], [], hl => simp at hl
  | [], [_], hl => simp at hl
  | [], [_, _], hl => simp at hl
  | [], _ :: _ :: _ :: _ :: _, hl => simp at hl
  | [_], [], hl => simp at hl
  | [_], [_], hl => simp at hl
  | [_], _ :: _ :: _ :: _, hl => simp at hl
  | [_, _], [], hl => simp at hl
  | [_, _], _ :: _ :: _, hl => simp at hl
  | [_, _, _], _ :: _, hl => simp at hl
  | _ :: _ :: _ :: _ :: _, _, hl => simp at hl
theorem kb_ww {K : PySem.W.Frag} {f : Addr} {fd : FuncData} (F : Fun K "ways" "Web.ways" sWeb_ways f fd) : KBinds K fd ["self", "place", "other"] ["other", "place"] KBw2 KBv2 := by
  obtain ⟨oc, od, kV, doc, pm, an, cdv, ct, osl, rfl, lk, hcd⟩ := F.ex
  refine ⟨fun s us ws _ hl => ?_, fun r z => p2_app r (p2_rev (p2_take 2 z))⟩
  unfold KBw2 at hl ⊢
  match us, ws, hl with
  | [a], x :: y :: _, _ => exact .of_eq rfl
  | [a, b], [x], _ => exact .of_eq rfl
  | [a, b, c], [], _ => exact .of_eq rfl
  | [], [], hl => simp at hl
  | [], [_], hl => simp at hl
  | [], _ :: _ :: _, hl => simp at hl
  | [_], [], hl => simp at hl
  | [_], [_], hl => simp at hl
  | [_, _], [], hl => simp at hl
  | [_, _], _ :: _ :: _, hl => simp at hl
  | [_, _, _], [_], hl => simp at hl
  | [_, _, _], _ :: _ :: _, hl => simp at hl
  | _ :: _ :: _ :: _ :: _, _, hl => simp at hl; try omega
theorem kb_wi {K : PySem.W.Frag} {f : Addr} {fd : FuncData} (F : Fun K "__init__" "Web.__init__" sWeb__init_ f fd) : KBn K fd ["self", "places", "arrows"] 1 ["arrows", "places"] KBw KBv := by
  obtain ⟨oc, od, kV, doc, pm, an, cdv, ct, osl, rfl, lk, hcd⟩ := F.ex
  refine ⟨fun s us ws _ h1 h2 => ?_, fun r z => p2_app r (p2_rev z)⟩
  unfold KBw
  match us, ws, h1, h2 with
  | [a], [x, y], _, _ => exact .of_eq rfl
  | [], _, h1, _ => simp at h1
  | _ :: _ :: _, _, h1, _ => simp at h1
  | [_], [], _, h2 => simp at h2
  | [_], [_], _, h2 => simp at h2
  | [_], _ :: _ :: _ :: _, _, h2 => simp at h2
section
variable {l : PySem.W.OpenLaw} {w : World} {K : PySem.W.Frag} {h : Heap} {mg : Str → Option Value}
theorem all_mk {fa : Addr} {C_Web : Addr}
    {f_is_integer f_is_count f__is_arrow f__have_ring f__are_arrows f_Web__init_ f_Web_places f_Web_many f_Web_arrows f_check_place f__ways f_Web_ways f_Web__eq_ f_check_web f_turned_web f_is_row f_check_row f_check_sizes f_form f_simple_row f_ways_row f__law_pot f__law_draw f__law_order f__law_web f__law_row f__law_ways f__law_form f__law_ways_right f__law_forms_right f__law_simple_right f__law_right f_law : Addr}
    {oc_is_integer kV_is_integer dc_is_integer pm_is_integer cd_is_integer ct_is_integer oc_is_count kV_is_count dc_is_count pm_is_count cd_is_count ct_is_count oc__is_arrow kV__is_arrow dc__is_arrow pm__is_arrow cd__is_arrow ct__is_arrow oc__have_ring kV__have_ring dc__have_ring pm__have_ring cd__have_ring ct__have_ring oc__are_arrows kV__are_arrows dc__are_arrows pm__are_arrows cd__are_arrows ct__are_arrows oc_Web__init_ kV_Web__init_ dc_Web__init_ pm_Web__init_ cd_Web__init_ ct_Web__init_ oc_Web_places kV_Web_places dc_Web_places pm_Web_places cd_Web_places ct_Web_places oc_Web_many kV_Web_many dc_Web_many pm_Web_many cd_Web_many ct_Web_many oc_Web_arrows kV_Web_arrows dc_Web_arrows pm_Web_arrows cd_Web_arrows ct_Web_arrows oc_check_place kV_check_place dc_check_place pm_check_place cd_check_place ct_check_place oc__ways kV__ways dc__ways pm__ways cd__ways ct__ways oc_Web_ways kV_Web_ways dc_Web_ways pm_Web_ways cd_Web_ways ct_Web_ways oc_Web__eq_ kV_Web__eq_ dc_Web__eq_ pm_Web__eq_ cd_Web__eq_ ct_Web__eq_ oc_check_web kV_check_web dc_check_web pm_check_web cd_check_web ct_check_web oc_turned_web kV_turned_web dc_turned_web pm_turned_web cd_turned_web ct_turned_web oc_is_row kV_is_row dc_is_row pm_is_row cd_is_row ct_is_row oc_check_row kV_check_row dc_check_row pm_check_row cd_check_row ct_check_row oc_check_sizes kV_check_sizes dc_check_sizes pm_check_sizes cd_check_sizes ct_check_sizes oc_form kV_form dc_form pm_form cd_form ct_form oc_simple_row kV_simple_row dc_simple_row pm_simple_row cd_simple_row ct_simple_row oc_ways_row kV_ways_row dc_ways_row pm_ways_row cd_ways_row ct_ways_row oc__law_pot kV__law_pot dc__law_pot pm__law_pot cd__law_pot ct__law_pot oc__law_draw kV__law_draw dc__law_draw pm__law_draw cd__law_draw ct__law_draw oc__law_order kV__law_order dc__law_order pm__law_order cd__law_order ct__law_order oc__law_web kV__law_web dc__law_web pm__law_web cd__law_web ct__law_web oc__law_row kV__law_row dc__law_row pm__law_row cd__law_row ct__law_row oc__law_ways kV__law_ways dc__law_ways pm__law_ways cd__law_ways ct__law_ways oc__law_form kV__law_form dc__law_form pm__law_form cd__law_form ct__law_form oc__law_ways_right kV__law_ways_right dc__law_ways_right pm__law_ways_right cd__law_ways_right ct__law_ways_right oc__law_forms_right kV__law_forms_right dc__law_forms_right pm__law_forms_right cd__law_forms_right ct__law_forms_right oc__law_simple_right kV__law_simple_right dc__law_simple_right pm__law_simple_right cd__law_simple_right ct__law_simple_right oc__law_right kV__law_right dc__law_right pm__law_right cd__law_right ct__law_right oc_law kV_law dc_law pm_law cd_law ct_law : Value}
    {od_is_integer an_is_integer od_is_count an_is_count od__is_arrow an__is_arrow od__have_ring an__have_ring od__are_arrows an__are_arrows od_Web__init_ an_Web__init_ od_Web_places an_Web_places od_Web_many an_Web_many od_Web_arrows an_Web_arrows od_check_place an_check_place od__ways an__ways od_Web_ways an_Web_ways od_Web__eq_ an_Web__eq_ od_check_web an_check_web od_turned_web an_turned_web od_is_row an_is_row od_check_row an_check_row od_check_sizes an_check_sizes od_form an_form od_simple_row an_simple_row od_ways_row an_ways_row od__law_pot an__law_pot od__law_draw an__law_draw od__law_order an__law_order od__law_web an__law_web od__law_row an__law_row od__law_ways an__law_ways od__law_form an__law_form od__law_ways_right an__law_ways_right od__law_forms_right an__law_forms_right od__law_simple_right an__law_simple_right od__law_right an__law_right od_law an_law : Option Addr}
    {sl_is_integer sl_is_count sl__is_arrow sl__have_ring sl__are_arrows sl_Web__init_ sl_Web_places sl_Web_many sl_Web_arrows sl_check_place sl__ways sl_Web_ways sl_Web__eq_ sl_check_web sl_turned_web sl_is_row sl_check_row sl_check_sizes sl_form sl_simple_row sl_ways_row sl__law_pot sl__law_draw sl__law_order sl__law_web sl__law_row sl__law_ways sl__law_form sl__law_ways_right sl__law_forms_right sl__law_simple_right sl__law_right sl_law : Array (Option Value)}
    {q_Web_places q_Web_many : Addr}
    {re_Web_places re_Web_many : List Value}
    {t_MOST_PLACES t_MOST_ARROWS t_MOST_ROW t_MOST_SUM : Tok}
    (X : K.In h) (G : h.Ns mainGlobals mg) (hfa : mg "law" = some (.ref fa))
    (nC_Web : PySem.W.nsIn K mainGlobals "Web" = some (some (.ref C_Web)))
    (a_Web__init_ : PySem.W.findIn K (.ref C_Web) "__init__" = some (some (.ref f_Web__init_)))
    (pa_Web_places : PySem.W.findIn K (.ref C_Web) "places" = some (some (.ref q_Web_places)))
    (pa_Web_many : PySem.W.findIn K (.ref C_Web) "many" = some (some (.ref q_Web_many)))
    (a_Web_arrows : PySem.W.findIn K (.ref C_Web) "arrows" = some (some (.ref f_Web_arrows)))
    (a_Web_ways : PySem.W.findIn K (.ref C_Web) "ways" = some (some (.ref f_Web_ways)))
    (a_Web__eq_ : PySem.W.findIn K (.ref C_Web) "__eq__" = some (some (.ref f_Web__eq_)))
    (pd_Web_places : PySem.W.recIn K q_Web_places "property" = some (.ref f_Web_places :: re_Web_places))
    (pd_Web_many : PySem.W.recIn K q_Web_many "property" = some (.ref f_Web_many :: re_Web_many))
    (n_is_integer : PySem.W.nsIn K mainGlobals "is_integer" = some (some (.ref f_is_integer)))
    (l_is_integer : K.lookup f_is_integer = some ⟨oc_is_integer, od_is_integer, .func (PySem.W.fnOf "is_integer" "is_integer" (defArgs sis_integer) (defBody sis_integer) (defScope sis_integer) .none kV_is_integer dc_is_integer pm_is_integer an_is_integer cd_is_integer ct_is_integer), sl_is_integer⟩)
    (c_is_integer : PySem.W.codeIn K cd_is_integer "is_integer" = true)
    (k_is_integer : PySem.W.keepIn K (.ref f_is_integer) = true)
    (n_is_count : PySem.W.nsIn K mainGlobals "is_count" = some (some (.ref f_is_count)))
    (l_is_count : K.lookup f_is_count = some ⟨oc_is_count, od_is_count, .func (PySem.W.fnOf "is_count" "is_count" (defArgs sis_count) (defBody sis_count) (defScope sis_count) .none kV_is_count dc_is_count pm_is_count an_is_count cd_is_count ct_is_count), sl_is_count⟩)
    (c_is_count : PySem.W.codeIn K cd_is_count "is_count" = true)
    (k_is_count : PySem.W.keepIn K (.ref f_is_count) = true)
    (n__is_arrow : PySem.W.nsIn K mainGlobals "_is_arrow" = some (some (.ref f__is_arrow)))
    (l__is_arrow : K.lookup f__is_arrow = some ⟨oc__is_arrow, od__is_arrow, .func (PySem.W.fnOf "_is_arrow" "_is_arrow" (defArgs s_is_arrow) (defBody s_is_arrow) (defScope s_is_arrow) .none kV__is_arrow dc__is_arrow pm__is_arrow an__is_arrow cd__is_arrow ct__is_arrow), sl__is_arrow⟩)
    (c__is_arrow : PySem.W.codeIn K cd__is_arrow "_is_arrow" = true)
    (k__is_arrow : PySem.W.keepIn K (.ref f__is_arrow) = true)
    (n__have_ring : PySem.W.nsIn K mainGlobals "_have_ring" = some (some (.ref f__have_ring)))
    (l__have_ring : K.lookup f__have_ring = some ⟨oc__have_ring, od__have_ring, .func (PySem.W.fnOf "_have_ring" "_have_ring" (defArgs s_have_ring) (defBody s_have_ring) (defScope s_have_ring) .none kV__have_ring dc__have_ring pm__have_ring an__have_ring cd__have_ring ct__have_ring), sl__have_ring⟩)
    (c__have_ring : PySem.W.codeIn K cd__have_ring "_have_ring" = true)
    (k__have_ring : PySem.W.keepIn K (.ref f__have_ring) = true)
    (n__are_arrows : PySem.W.nsIn K mainGlobals "_are_arrows" = some (some (.ref f__are_arrows)))
    (l__are_arrows : K.lookup f__are_arrows = some ⟨oc__are_arrows, od__are_arrows, .func (PySem.W.fnOf "_are_arrows" "_are_arrows" (defArgs s_are_arrows) (defBody s_are_arrows) (defScope s_are_arrows) .none kV__are_arrows dc__are_arrows pm__are_arrows an__are_arrows cd__are_arrows ct__are_arrows), sl__are_arrows⟩)
    (c__are_arrows : PySem.W.codeIn K cd__are_arrows "_are_arrows" = true)
    (k__are_arrows : PySem.W.keepIn K (.ref f__are_arrows) = true)
    (l_Web__init_ : K.lookup f_Web__init_ = some ⟨oc_Web__init_, od_Web__init_, .func (PySem.W.fnOf "__init__" "Web.__init__" (defArgs sWeb__init_) (defBody sWeb__init_) (defScope sWeb__init_) .none kV_Web__init_ dc_Web__init_ pm_Web__init_ an_Web__init_ cd_Web__init_ ct_Web__init_), sl_Web__init_⟩)
    (c_Web__init_ : PySem.W.codeIn K cd_Web__init_ "Web.__init__" = true)
    (k_Web__init_ : PySem.W.keepIn K (.ref f_Web__init_) = true)
    (l_Web_places : K.lookup f_Web_places = some ⟨oc_Web_places, od_Web_places, .func (PySem.W.fnOf "places" "Web.places" (defArgs sWeb_places) (defBody sWeb_places) (defScope sWeb_places) .none kV_Web_places dc_Web_places pm_Web_places an_Web_places cd_Web_places ct_Web_places), sl_Web_places⟩)
    (c_Web_places : PySem.W.codeIn K cd_Web_places "Web.places" = true)
    (k_Web_places : PySem.W.keepIn K (.ref f_Web_places) = true)
    (l_Web_many : K.lookup f_Web_many = some ⟨oc_Web_many, od_Web_many, .func (PySem.W.fnOf "many" "Web.many" (defArgs sWeb_many) (defBody sWeb_many) (defScope sWeb_many) .none kV_Web_many dc_Web_many pm_Web_many an_Web_many cd_Web_many ct_Web_many), sl_Web_many⟩)
    (c_Web_many : PySem.W.codeIn K cd_Web_many "Web.many" = true)
    (k_Web_many : PySem.W.keepIn K (.ref f_Web_many) = true)
    (l_Web_arrows : K.lookup f_Web_arrows = some ⟨oc_Web_arrows, od_Web_arrows, .func (PySem.W.fnOf "arrows" "Web.arrows" (defArgs sWeb_arrows) (defBody sWeb_arrows) (defScope sWeb_arrows) .none kV_Web_arrows dc_Web_arrows pm_Web_arrows an_Web_arrows cd_Web_arrows ct_Web_arrows), sl_Web_arrows⟩)
    (c_Web_arrows : PySem.W.codeIn K cd_Web_arrows "Web.arrows" = true)
    (k_Web_arrows : PySem.W.keepIn K (.ref f_Web_arrows) = true)
    (n_check_place : PySem.W.nsIn K mainGlobals "check_place" = some (some (.ref f_check_place)))
    (l_check_place : K.lookup f_check_place = some ⟨oc_check_place, od_check_place, .func (PySem.W.fnOf "check_place" "check_place" (defArgs scheck_place) (defBody scheck_place) (defScope scheck_place) .none kV_check_place dc_check_place pm_check_place an_check_place cd_check_place ct_check_place), sl_check_place⟩)
    (c_check_place : PySem.W.codeIn K cd_check_place "check_place" = true)
    (k_check_place : PySem.W.keepIn K (.ref f_check_place) = true)
    (n__ways : PySem.W.nsIn K mainGlobals "_ways" = some (some (.ref f__ways)))
    (l__ways : K.lookup f__ways = some ⟨oc__ways, od__ways, .func (PySem.W.fnOf "_ways" "_ways" (defArgs s_ways) (defBody s_ways) (defScope s_ways) .none kV__ways dc__ways pm__ways an__ways cd__ways ct__ways), sl__ways⟩)
    (c__ways : PySem.W.codeIn K cd__ways "_ways" = true)
    (k__ways : PySem.W.keepIn K (.ref f__ways) = true)
    (l_Web_ways : K.lookup f_Web_ways = some ⟨oc_Web_ways, od_Web_ways, .func (PySem.W.fnOf "ways" "Web.ways" (defArgs sWeb_ways) (defBody sWeb_ways) (defScope sWeb_ways) .none kV_Web_ways dc_Web_ways pm_Web_ways an_Web_ways cd_Web_ways ct_Web_ways), sl_Web_ways⟩)
    (c_Web_ways : PySem.W.codeIn K cd_Web_ways "Web.ways" = true)
    (k_Web_ways : PySem.W.keepIn K (.ref f_Web_ways) = true)
    (l_Web__eq_ : K.lookup f_Web__eq_ = some ⟨oc_Web__eq_, od_Web__eq_, .func (PySem.W.fnOf "__eq__" "Web.__eq__" (defArgs sWeb__eq_) (defBody sWeb__eq_) (defScope sWeb__eq_) .none kV_Web__eq_ dc_Web__eq_ pm_Web__eq_ an_Web__eq_ cd_Web__eq_ ct_Web__eq_), sl_Web__eq_⟩)
    (c_Web__eq_ : PySem.W.codeIn K cd_Web__eq_ "Web.__eq__" = true)
    (k_Web__eq_ : PySem.W.keepIn K (.ref f_Web__eq_) = true)
    (n_check_web : PySem.W.nsIn K mainGlobals "check_web" = some (some (.ref f_check_web)))
    (l_check_web : K.lookup f_check_web = some ⟨oc_check_web, od_check_web, .func (PySem.W.fnOf "check_web" "check_web" (defArgs scheck_web) (defBody scheck_web) (defScope scheck_web) .none kV_check_web dc_check_web pm_check_web an_check_web cd_check_web ct_check_web), sl_check_web⟩)
    (c_check_web : PySem.W.codeIn K cd_check_web "check_web" = true)
    (k_check_web : PySem.W.keepIn K (.ref f_check_web) = true)
    (n_turned_web : PySem.W.nsIn K mainGlobals "turned_web" = some (some (.ref f_turned_web)))
    (l_turned_web : K.lookup f_turned_web = some ⟨oc_turned_web, od_turned_web, .func (PySem.W.fnOf "turned_web" "turned_web" (defArgs sturned_web) (defBody sturned_web) (defScope sturned_web) .none kV_turned_web dc_turned_web pm_turned_web an_turned_web cd_turned_web ct_turned_web), sl_turned_web⟩)
    (c_turned_web : PySem.W.codeIn K cd_turned_web "turned_web" = true)
    (k_turned_web : PySem.W.keepIn K (.ref f_turned_web) = true)
    (n_is_row : PySem.W.nsIn K mainGlobals "is_row" = some (some (.ref f_is_row)))
    (l_is_row : K.lookup f_is_row = some ⟨oc_is_row, od_is_row, .func (PySem.W.fnOf "is_row" "is_row" (defArgs sis_row) (defBody sis_row) (defScope sis_row) .none kV_is_row dc_is_row pm_is_row an_is_row cd_is_row ct_is_row), sl_is_row⟩)
    (c_is_row : PySem.W.codeIn K cd_is_row "is_row" = true)
    (k_is_row : PySem.W.keepIn K (.ref f_is_row) = true)
    (n_check_row : PySem.W.nsIn K mainGlobals "check_row" = some (some (.ref f_check_row)))
    (l_check_row : K.lookup f_check_row = some ⟨oc_check_row, od_check_row, .func (PySem.W.fnOf "check_row" "check_row" (defArgs scheck_row) (defBody scheck_row) (defScope scheck_row) .none kV_check_row dc_check_row pm_check_row an_check_row cd_check_row ct_check_row), sl_check_row⟩)
    (c_check_row : PySem.W.codeIn K cd_check_row "check_row" = true)
    (k_check_row : PySem.W.keepIn K (.ref f_check_row) = true)
    (n_check_sizes : PySem.W.nsIn K mainGlobals "check_sizes" = some (some (.ref f_check_sizes)))
    (l_check_sizes : K.lookup f_check_sizes = some ⟨oc_check_sizes, od_check_sizes, .func (PySem.W.fnOf "check_sizes" "check_sizes" (defArgs scheck_sizes) (defBody scheck_sizes) (defScope scheck_sizes) .none kV_check_sizes dc_check_sizes pm_check_sizes an_check_sizes cd_check_sizes ct_check_sizes), sl_check_sizes⟩)
    (c_check_sizes : PySem.W.codeIn K cd_check_sizes "check_sizes" = true)
    (k_check_sizes : PySem.W.keepIn K (.ref f_check_sizes) = true)
    (n_form : PySem.W.nsIn K mainGlobals "form" = some (some (.ref f_form)))
    (l_form : K.lookup f_form = some ⟨oc_form, od_form, .func (PySem.W.fnOf "form" "form" (defArgs sform) (defBody sform) (defScope sform) .none kV_form dc_form pm_form an_form cd_form ct_form), sl_form⟩)
    (c_form : PySem.W.codeIn K cd_form "form" = true)
    (k_form : PySem.W.keepIn K (.ref f_form) = true)
    (n_simple_row : PySem.W.nsIn K mainGlobals "simple_row" = some (some (.ref f_simple_row)))
    (l_simple_row : K.lookup f_simple_row = some ⟨oc_simple_row, od_simple_row, .func (PySem.W.fnOf "simple_row" "simple_row" (defArgs ssimple_row) (defBody ssimple_row) (defScope ssimple_row) .none kV_simple_row dc_simple_row pm_simple_row an_simple_row cd_simple_row ct_simple_row), sl_simple_row⟩)
    (c_simple_row : PySem.W.codeIn K cd_simple_row "simple_row" = true)
    (k_simple_row : PySem.W.keepIn K (.ref f_simple_row) = true)
    (n_ways_row : PySem.W.nsIn K mainGlobals "ways_row" = some (some (.ref f_ways_row)))
    (l_ways_row : K.lookup f_ways_row = some ⟨oc_ways_row, od_ways_row, .func (PySem.W.fnOf "ways_row" "ways_row" (defArgs sways_row) (defBody sways_row) (defScope sways_row) .none kV_ways_row dc_ways_row pm_ways_row an_ways_row cd_ways_row ct_ways_row), sl_ways_row⟩)
    (c_ways_row : PySem.W.codeIn K cd_ways_row "ways_row" = true)
    (k_ways_row : PySem.W.keepIn K (.ref f_ways_row) = true)
    (n__law_pot : PySem.W.nsIn K mainGlobals "_law_pot" = some (some (.ref f__law_pot)))
    (l__law_pot : K.lookup f__law_pot = some ⟨oc__law_pot, od__law_pot, .func (PySem.W.fnOf "_law_pot" "_law_pot" (defArgs s_law_pot) (defBody s_law_pot) (defScope s_law_pot) .none kV__law_pot dc__law_pot pm__law_pot an__law_pot cd__law_pot ct__law_pot), sl__law_pot⟩)
    (c__law_pot : PySem.W.codeIn K cd__law_pot "_law_pot" = true)
    (k__law_pot : PySem.W.keepIn K (.ref f__law_pot) = true)
    (n__law_draw : PySem.W.nsIn K mainGlobals "_law_draw" = some (some (.ref f__law_draw)))
    (l__law_draw : K.lookup f__law_draw = some ⟨oc__law_draw, od__law_draw, .func (PySem.W.fnOf "_law_draw" "_law_draw" (defArgs s_law_draw) (defBody s_law_draw) (defScope s_law_draw) .none kV__law_draw dc__law_draw pm__law_draw an__law_draw cd__law_draw ct__law_draw), sl__law_draw⟩)
    (c__law_draw : PySem.W.codeIn K cd__law_draw "_law_draw" = true)
    (k__law_draw : PySem.W.keepIn K (.ref f__law_draw) = true)
    (n__law_order : PySem.W.nsIn K mainGlobals "_law_order" = some (some (.ref f__law_order)))
    (l__law_order : K.lookup f__law_order = some ⟨oc__law_order, od__law_order, .func (PySem.W.fnOf "_law_order" "_law_order" (defArgs s_law_order) (defBody s_law_order) (defScope s_law_order) .none kV__law_order dc__law_order pm__law_order an__law_order cd__law_order ct__law_order), sl__law_order⟩)
    (c__law_order : PySem.W.codeIn K cd__law_order "_law_order" = true)
    (k__law_order : PySem.W.keepIn K (.ref f__law_order) = true)
    (n__law_web : PySem.W.nsIn K mainGlobals "_law_web" = some (some (.ref f__law_web)))
    (l__law_web : K.lookup f__law_web = some ⟨oc__law_web, od__law_web, .func (PySem.W.fnOf "_law_web" "_law_web" (defArgs s_law_web) (defBody s_law_web) (defScope s_law_web) .none kV__law_web dc__law_web pm__law_web an__law_web cd__law_web ct__law_web), sl__law_web⟩)
    (c__law_web : PySem.W.codeIn K cd__law_web "_law_web" = true)
    (k__law_web : PySem.W.keepIn K (.ref f__law_web) = true)
    (n__law_row : PySem.W.nsIn K mainGlobals "_law_row" = some (some (.ref f__law_row)))
    (l__law_row : K.lookup f__law_row = some ⟨oc__law_row, od__law_row, .func (PySem.W.fnOf "_law_row" "_law_row" (defArgs s_law_row) (defBody s_law_row) (defScope s_law_row) .none kV__law_row dc__law_row pm__law_row an__law_row cd__law_row ct__law_row), sl__law_row⟩)
    (c__law_row : PySem.W.codeIn K cd__law_row "_law_row" = true)
    (k__law_row : PySem.W.keepIn K (.ref f__law_row) = true)
    (n__law_ways : PySem.W.nsIn K mainGlobals "_law_ways" = some (some (.ref f__law_ways)))
    (l__law_ways : K.lookup f__law_ways = some ⟨oc__law_ways, od__law_ways, .func (PySem.W.fnOf "_law_ways" "_law_ways" (defArgs s_law_ways) (defBody s_law_ways) (defScope s_law_ways) .none kV__law_ways dc__law_ways pm__law_ways an__law_ways cd__law_ways ct__law_ways), sl__law_ways⟩)
    (c__law_ways : PySem.W.codeIn K cd__law_ways "_law_ways" = true)
    (k__law_ways : PySem.W.keepIn K (.ref f__law_ways) = true)
    (n__law_form : PySem.W.nsIn K mainGlobals "_law_form" = some (some (.ref f__law_form)))
    (l__law_form : K.lookup f__law_form = some ⟨oc__law_form, od__law_form, .func (PySem.W.fnOf "_law_form" "_law_form" (defArgs s_law_form) (defBody s_law_form) (defScope s_law_form) .none kV__law_form dc__law_form pm__law_form an__law_form cd__law_form ct__law_form), sl__law_form⟩)
    (c__law_form : PySem.W.codeIn K cd__law_form "_law_form" = true)
    (k__law_form : PySem.W.keepIn K (.ref f__law_form) = true)
    (n__law_ways_right : PySem.W.nsIn K mainGlobals "_law_ways_right" = some (some (.ref f__law_ways_right)))
    (l__law_ways_right : K.lookup f__law_ways_right = some ⟨oc__law_ways_right, od__law_ways_right, .func (PySem.W.fnOf "_law_ways_right" "_law_ways_right" (defArgs s_law_ways_right) (defBody s_law_ways_right) (defScope s_law_ways_right) .none kV__law_ways_right dc__law_ways_right pm__law_ways_right an__law_ways_right cd__law_ways_right ct__law_ways_right), sl__law_ways_right⟩)
    (c__law_ways_right : PySem.W.codeIn K cd__law_ways_right "_law_ways_right" = true)
    (k__law_ways_right : PySem.W.keepIn K (.ref f__law_ways_right) = true)
    (n__law_forms_right : PySem.W.nsIn K mainGlobals "_law_forms_right" = some (some (.ref f__law_forms_right)))
    (l__law_forms_right : K.lookup f__law_forms_right = some ⟨oc__law_forms_right, od__law_forms_right, .func (PySem.W.fnOf "_law_forms_right" "_law_forms_right" (defArgs s_law_forms_right) (defBody s_law_forms_right) (defScope s_law_forms_right) .none kV__law_forms_right dc__law_forms_right pm__law_forms_right an__law_forms_right cd__law_forms_right ct__law_forms_right), sl__law_forms_right⟩)
    (c__law_forms_right : PySem.W.codeIn K cd__law_forms_right "_law_forms_right" = true)
    (k__law_forms_right : PySem.W.keepIn K (.ref f__law_forms_right) = true)
    (n__law_simple_right : PySem.W.nsIn K mainGlobals "_law_simple_right" = some (some (.ref f__law_simple_right)))
    (l__law_simple_right : K.lookup f__law_simple_right = some ⟨oc__law_simple_right, od__law_simple_right, .func (PySem.W.fnOf "_law_simple_right" "_law_simple_right" (defArgs s_law_simple_right) (defBody s_law_simple_right) (defScope s_law_simple_right) .none kV__law_simple_right dc__law_simple_right pm__law_simple_right an__law_simple_right cd__law_simple_right ct__law_simple_right), sl__law_simple_right⟩)
    (c__law_simple_right : PySem.W.codeIn K cd__law_simple_right "_law_simple_right" = true)
    (k__law_simple_right : PySem.W.keepIn K (.ref f__law_simple_right) = true)
    (n__law_right : PySem.W.nsIn K mainGlobals "_law_right" = some (some (.ref f__law_right)))
    (l__law_right : K.lookup f__law_right = some ⟨oc__law_right, od__law_right, .func (PySem.W.fnOf "_law_right" "_law_right" (defArgs s_law_right) (defBody s_law_right) (defScope s_law_right) .none kV__law_right dc__law_right pm__law_right an__law_right cd__law_right ct__law_right), sl__law_right⟩)
    (c__law_right : PySem.W.codeIn K cd__law_right "_law_right" = true)
    (k__law_right : PySem.W.keepIn K (.ref f__law_right) = true)
    (n_law : PySem.W.nsIn K mainGlobals "law" = some (some (.ref f_law)))
    (l_law : K.lookup f_law = some ⟨oc_law, od_law, .func (PySem.W.fnOf "law" "law" (defArgs slaw) (defBody slaw) (defScope slaw) .none kV_law dc_law pm_law an_law cd_law ct_law), sl_law⟩)
    (c_law : PySem.W.codeIn K cd_law "law" = true)
    (k_law : PySem.W.keepIn K (.ref f_law) = true)
    (pg_Web : PySem.W.plainGet K C_Web Str.empty = true)
    (hd_Web : PySem.W.hasDictIn K C_Web = true)
    (po_Web : PySem.W.plainOver K C_Web = true)
    (sa_Web : PySem.W.findIn K (.ref C_Web) "__setattr__" = some (some (.builtin "object.__setattr__")))
    (mkk_Web : PySem.W.makesIn K C_Web = true)
    (kc_Web : PySem.W.keepIn K (.ref C_Web) = true)
    (hc1_Web : PySem.W.findIn K (.ref C_Web) "__class__" = some (some (.builtin "object.__class__")))
    (hc4_Web : PySem.W.mroIn K C_Web (.type "object") = some true)
    (is_Web : PySem.W.isClsIn K C_Web = true)
    (ty_Web : PySem.W.typeIn K (.ref C_Web) = some (.type "type"))
    (nf_Web_places : PySem.W.findIn K (.ref C_Web) "_places" = some none)
    (nf_Web_arrows : PySem.W.findIn K (.ref C_Web) "_arrows" = some none)
    (i_Web__init_ : PySem.W.isFn K (.ref f_Web__init_) = true)
    (pb_Web_places : PySem.W.specialIn K (.ref q_Web_places) "__get__" = some (some (.builtin "property.__get__")))
    (pc_Web_places : PySem.W.takesIn K (.ref q_Web_places) = some true)
    (pb_Web_many : PySem.W.specialIn K (.ref q_Web_many) "__get__" = some (some (.builtin "property.__get__")))
    (pc_Web_many : PySem.W.takesIn K (.ref q_Web_many) = some true)
    (i_Web_arrows : PySem.W.isFn K (.ref f_Web_arrows) = true)
    (i_Web_ways : PySem.W.isFn K (.ref f_Web_ways) = true)
    (i_Web__eq_ : PySem.W.isFn K (.ref f_Web__eq_) = true)
    (z_len : PySem.W.nsIn K mainGlobals "len" = some none)
    (z_isinstance : PySem.W.nsIn K mainGlobals "isinstance" = some none)
    (z_int : PySem.W.nsIn K mainGlobals "int" = some none)
    (z_bool : PySem.W.nsIn K mainGlobals "bool" = some none)
    (z_list : PySem.W.nsIn K mainGlobals "list" = some none)
    (z_tuple : PySem.W.nsIn K mainGlobals "tuple" = some none)
    (z_all : PySem.W.nsIn K mainGlobals "all" = some none)
    (z_any : PySem.W.nsIn K mainGlobals "any" = some none)
    (z_sum : PySem.W.nsIn K mainGlobals "sum" = some none)
    (z_range : PySem.W.nsIn K mainGlobals "range" = some none)
    (z_zip : PySem.W.nsIn K mainGlobals "zip" = some none)
    (z_abs : PySem.W.nsIn K mainGlobals "abs" = some none)
    (z_max : PySem.W.nsIn K mainGlobals "max" = some none)
    (z_divmod : PySem.W.nsIn K mainGlobals "divmod" = some none)
    (z_sorted : PySem.W.nsIn K mainGlobals "sorted" = some none)
    (z_enumerate : PySem.W.nsIn K mainGlobals "enumerate" = some none)
    (g_MOST_PLACES : PySem.W.nsIn K mainGlobals "MOST_PLACES" = some (some (.int 13 t_MOST_PLACES)))
    (g_MOST_ARROWS : PySem.W.nsIn K mainGlobals "MOST_ARROWS" = some (some (.int 12 t_MOST_ARROWS)))
    (g_MOST_ROW : PySem.W.nsIn K mainGlobals "MOST_ROW" = some (some (.int 6 t_MOST_ROW)))
    (g_MOST_SUM : PySem.W.nsIn K mainGlobals "MOST_SUM" = some (some (.int 24 t_MOST_SUM)))
    (ne_Web : PySem.W.findIn K (.ref C_Web) "__ne__" = some (some (.builtin "object.__ne__")))
    : ∃ fd : FuncData, (∀ (s : Shared) (v : Value), BindsTo s fd ⟨[v], []⟩ [("script", v)]) ∧ ∀ base : Heap, K.In base → base.Ns mainGlobals mg → FnOk l.prog w K mg base CX0 18 fa fd ["script"] (sp_law K) := by
  have e := hfa.symm.trans (PySem.W.mg_of X G n_law)
  have e' : f_law = fa := by cases e; rfl
  subst e'
  have Fis_integer := fun_mk (st := sis_integer) l_is_integer c_is_integer k_is_integer
  have Fis_count := fun_mk (st := sis_count) l_is_count c_is_count k_is_count
  have F_is_arrow := fun_mk (st := s_is_arrow) l__is_arrow c__is_arrow k__is_arrow
  have F_have_ring := fun_mk (st := s_have_ring) l__have_ring c__have_ring k__have_ring
  have F_are_arrows := fun_mk (st := s_are_arrows) l__are_arrows c__are_arrows k__are_arrows
  have FWeb__init_ := fun_mk (st := sWeb__init_) l_Web__init_ c_Web__init_ k_Web__init_
  have FWeb_places := fun_mk (st := sWeb_places) l_Web_places c_Web_places k_Web_places
  have FWeb_many := fun_mk (st := sWeb_many) l_Web_many c_Web_many k_Web_many
  have FWeb_arrows := fun_mk (st := sWeb_arrows) l_Web_arrows c_Web_arrows k_Web_arrows
  have Fcheck_place := fun_mk (st := scheck_place) l_check_place c_check_place k_check_place
  have F_ways := fun_mk (st := s_ways) l__ways c__ways k__ways
  have FWeb_ways := fun_mk (st := sWeb_ways) l_Web_ways c_Web_ways k_Web_ways
  have FWeb__eq_ := fun_mk (st := sWeb__eq_) l_Web__eq_ c_Web__eq_ k_Web__eq_
  have Fcheck_web := fun_mk (st := scheck_web) l_check_web c_check_web k_check_web
  have Fturned_web := fun_mk (st := sturned_web) l_turned_web c_turned_web k_turned_web
  have Fis_row := fun_mk (st := sis_row) l_is_row c_is_row k_is_row
  have Fcheck_row := fun_mk (st := scheck_row) l_check_row c_check_row k_check_row
  have Fcheck_sizes := fun_mk (st := scheck_sizes) l_check_sizes c_check_sizes k_check_sizes
  have Fform := fun_mk (st := sform) l_form c_form k_form
  have Fsimple_row := fun_mk (st := ssimple_row) l_simple_row c_simple_row k_simple_row
  have Fways_row := fun_mk (st := sways_row) l_ways_row c_ways_row k_ways_row
  have F_law_pot := fun_mk (st := s_law_pot) l__law_pot c__law_pot k__law_pot
  have F_law_draw := fun_mk (st := s_law_draw) l__law_draw c__law_draw k__law_draw
  have F_law_order := fun_mk (st := s_law_order) l__law_order c__law_order k__law_order
  have F_law_web := fun_mk (st := s_law_web) l__law_web c__law_web k__law_web
  have F_law_row := fun_mk (st := s_law_row) l__law_row c__law_row k__law_row
  have F_law_ways := fun_mk (st := s_law_ways) l__law_ways c__law_ways k__law_ways
  have F_law_form := fun_mk (st := s_law_form) l__law_form c__law_form k__law_form
  have F_law_ways_right := fun_mk (st := s_law_ways_right) l__law_ways_right c__law_ways_right k__law_ways_right
  have F_law_forms_right := fun_mk (st := s_law_forms_right) l__law_forms_right c__law_forms_right k__law_forms_right
  have F_law_simple_right := fun_mk (st := s_law_simple_right) l__law_simple_right c__law_simple_right k__law_simple_right
  have F_law_right := fun_mk (st := s_law_right) l__law_right c__law_right k__law_right
  have Flaw := fun_mk (st := slaw) l_law c_law k_law

  let T : Txt K mg := {
    a_is_integer := f_is_integer,
    d_is_integer := _,
    F_is_integer := Fis_integer,
    b_is_integer := Fis_integer.binds (ps := ["value"]) fun _ _ _ _ _ _ us hl => match us, hl with | [_], _ => rfl,
    m_is_integer := PySem.W.mg_of X G n_is_integer,
    a_is_count := f_is_count,
    d_is_count := _,
    F_is_count := Fis_count,
    b_is_count := Fis_count.binds (ps := ["value"]) fun _ _ _ _ _ _ us hl => match us, hl with | [_], _ => rfl,
    m_is_count := PySem.W.mg_of X G n_is_count,
    a__is_arrow := f__is_arrow,
    d__is_arrow := _,
    F__is_arrow := F_is_arrow,
    b__is_arrow := F_is_arrow.binds (ps := ["places", "arrow"]) fun _ _ _ _ _ _ us hl => match us, hl with | [_, _], _ => rfl,
    m__is_arrow := PySem.W.mg_of X G n__is_arrow,
    a__have_ring := f__have_ring,
    d__have_ring := _,
    F__have_ring := F_have_ring,
    b__have_ring := F_have_ring.binds (ps := ["arrows"]) fun _ _ _ _ _ _ us hl => match us, hl with | [_], _ => rfl,
    m__have_ring := PySem.W.mg_of X G n__have_ring,
    a__are_arrows := f__are_arrows,
    d__are_arrows := _,
    F__are_arrows := F_are_arrows,
    b__are_arrows := F_are_arrows.binds (ps := ["places", "arrows"]) fun _ _ _ _ _ _ us hl => match us, hl with | [_, _], _ => rfl,
    m__are_arrows := PySem.W.mg_of X G n__are_arrows,
    a_Web__init_ := f_Web__init_,
    d_Web__init_ := _,
    F_Web__init_ := FWeb__init_,
    b_Web__init_ := FWeb__init_.binds (ps := ["self", "places", "arrows"]) fun _ _ _ _ _ _ us hl => match us, hl with | [_, _, _], _ => rfl,
    a_Web_places := f_Web_places,
    d_Web_places := _,
    F_Web_places := FWeb_places,
    b_Web_places := FWeb_places.binds (ps := ["self"]) fun _ _ _ _ _ _ us hl => match us, hl with | [_], _ => rfl,
    a_Web_many := f_Web_many,
    d_Web_many := _,
    F_Web_many := FWeb_many,
    b_Web_many := FWeb_many.binds (ps := ["self"]) fun _ _ _ _ _ _ us hl => match us, hl with | [_], _ => rfl,
    a_Web_arrows := f_Web_arrows,
    d_Web_arrows := _,
    F_Web_arrows := FWeb_arrows,
    b_Web_arrows := FWeb_arrows.binds (ps := ["self"]) fun _ _ _ _ _ _ us hl => match us, hl with | [_], _ => rfl,
    a_check_place := f_check_place,
    d_check_place := _,
    F_check_place := Fcheck_place,
    b_check_place := Fcheck_place.binds (ps := ["web", "place"]) fun _ _ _ _ _ _ us hl => match us, hl with | [_, _], _ => rfl,
    m_check_place := PySem.W.mg_of X G n_check_place,
    a__ways := f__ways,
    d__ways := _,
    F__ways := F_ways,
    b__ways := F_ways.binds (ps := ["arrows", "place", "other"]) fun _ _ _ _ _ _ us hl => match us, hl with | [_, _, _], _ => rfl,
    m__ways := PySem.W.mg_of X G n__ways,
    a_Web_ways := f_Web_ways,
    d_Web_ways := _,
    F_Web_ways := FWeb_ways,
    b_Web_ways := FWeb_ways.binds (ps := ["self", "place", "other"]) fun _ _ _ _ _ _ us hl => match us, hl with | [_, _, _], _ => rfl,
    a_Web__eq_ := f_Web__eq_,
    d_Web__eq_ := _,
    F_Web__eq_ := FWeb__eq_,
    b_Web__eq_ := FWeb__eq_.binds (ps := ["self", "other"]) fun _ _ _ _ _ _ us hl => match us, hl with | [_, _], _ => rfl,
    a_check_web := f_check_web,
    d_check_web := _,
    F_check_web := Fcheck_web,
    b_check_web := Fcheck_web.binds (ps := ["web"]) fun _ _ _ _ _ _ us hl => match us, hl with | [_], _ => rfl,
    m_check_web := PySem.W.mg_of X G n_check_web,
    a_turned_web := f_turned_web,
    d_turned_web := _,
    F_turned_web := Fturned_web,
    b_turned_web := Fturned_web.binds (ps := ["web"]) fun _ _ _ _ _ _ us hl => match us, hl with | [_], _ => rfl,
    m_turned_web := PySem.W.mg_of X G n_turned_web,
    a_is_row := f_is_row,
    d_is_row := _,
    F_is_row := Fis_row,
    b_is_row := Fis_row.binds (ps := ["web", "value"]) fun _ _ _ _ _ _ us hl => match us, hl with | [_, _], _ => rfl,
    m_is_row := PySem.W.mg_of X G n_is_row,
    a_check_row := f_check_row,
    d_check_row := _,
    F_check_row := Fcheck_row,
    b_check_row := Fcheck_row.binds (ps := ["web", "row"]) fun _ _ _ _ _ _ us hl => match us, hl with | [_, _], _ => rfl,
    m_check_row := PySem.W.mg_of X G n_check_row,
    a_check_sizes := f_check_sizes,
    d_check_sizes := _,
    F_check_sizes := Fcheck_sizes,
    b_check_sizes := Fcheck_sizes.binds (ps := ["sizes"]) fun _ _ _ _ _ _ us hl => match us, hl with | [_], _ => rfl,
    m_check_sizes := PySem.W.mg_of X G n_check_sizes,
    a_form := f_form,
    d_form := _,
    F_form := Fform,
    b_form := Fform.binds (ps := ["web", "row", "other"]) fun _ _ _ _ _ _ us hl => match us, hl with | [_, _, _], _ => rfl,
    m_form := PySem.W.mg_of X G n_form,
    a_simple_row := f_simple_row,
    d_simple_row := _,
    F_simple_row := Fsimple_row,
    b_simple_row := Fsimple_row.binds (ps := ["web", "place"]) fun _ _ _ _ _ _ us hl => match us, hl with | [_, _], _ => rfl,
    m_simple_row := PySem.W.mg_of X G n_simple_row,
    a_ways_row := f_ways_row,
    d_ways_row := _,
    F_ways_row := Fways_row,
    b_ways_row := Fways_row.binds (ps := ["web", "place"]) fun _ _ _ _ _ _ us hl => match us, hl with | [_, _], _ => rfl,
    m_ways_row := PySem.W.mg_of X G n_ways_row,
    a__law_pot := f__law_pot,
    d__law_pot := _,
    F__law_pot := F_law_pot,
    b__law_pot := F_law_pot.binds (ps := ["script", "k"]) fun _ _ _ _ _ _ us hl => match us, hl with | [_, _], _ => rfl,
    m__law_pot := PySem.W.mg_of X G n__law_pot,
    a__law_draw := f__law_draw,
    d__law_draw := _,
    F__law_draw := F_law_draw,
    b__law_draw := F_law_draw.binds (ps := ["pot", "sides"]) fun _ _ _ _ _ _ us hl => match us, hl with | [_, _], _ => rfl,
    m__law_draw := PySem.W.mg_of X G n__law_draw,
    a__law_order := f__law_order,
    d__law_order := _,
    F__law_order := F_law_order,
    b__law_order := F_law_order.binds (ps := ["pot", "many"]) fun _ _ _ _ _ _ us hl => match us, hl with | [_, _], _ => rfl,
    m__law_order := PySem.W.mg_of X G n__law_order,
    a__law_web := f__law_web,
    d__law_web := _,
    F__law_web := F_law_web,
    b__law_web := F_law_web.binds (ps := ["pot", "least", "most", "arrows"]) fun _ _ _ _ _ _ us hl => match us, hl with | [_, _, _, _], _ => rfl,
    m__law_web := PySem.W.mg_of X G n__law_web,
    a__law_row := f__law_row,
    d__law_row := _,
    F__law_row := F_law_row,
    b__law_row := F_law_row.binds (ps := ["pot", "places", "most"]) fun _ _ _ _ _ _ us hl => match us, hl with | [_, _, _], _ => rfl,
    m__law_row := PySem.W.mg_of X G n__law_row,
    a__law_ways := f__law_ways,
    d__law_ways := _,
    F__law_ways := F_law_ways,
    b__law_ways := F_law_ways.binds (ps := ["arrows", "place", "other"]) fun _ _ _ _ _ _ us hl => match us, hl with | [_, _, _], _ => rfl,
    m__law_ways := PySem.W.mg_of X G n__law_ways,
    a__law_form := f__law_form,
    d__law_form := _,
    F__law_form := F_law_form,
    b__law_form := F_law_form.binds (ps := ["arrows", "row", "other"]) fun _ _ _ _ _ _ us hl => match us, hl with | [_, _, _], _ => rfl,
    m__law_form := PySem.W.mg_of X G n__law_form,
    a__law_ways_right := f__law_ways_right,
    d__law_ways_right := _,
    F__law_ways_right := F_law_ways_right,
    b__law_ways_right := F_law_ways_right.binds (ps := ["web", "arrows", "place"]) fun _ _ _ _ _ _ us hl => match us, hl with | [_, _, _], _ => rfl,
    m__law_ways_right := PySem.W.mg_of X G n__law_ways_right,
    a__law_forms_right := f__law_forms_right,
    d__law_forms_right := _,
    F__law_forms_right := F_law_forms_right,
    b__law_forms_right := F_law_forms_right.binds (ps := ["web", "arrows", "one", "two", "three"]) fun _ _ _ _ _ _ us hl => match us, hl with | [_, _, _, _, _], _ => rfl,
    m__law_forms_right := PySem.W.mg_of X G n__law_forms_right,
    a__law_simple_right := f__law_simple_right,
    d__law_simple_right := _,
    F__law_simple_right := F_law_simple_right,
    b__law_simple_right := F_law_simple_right.binds (ps := ["web", "arrows", "place", "row"]) fun _ _ _ _ _ _ us hl => match us, hl with | [_, _, _, _], _ => rfl,
    m__law_simple_right := PySem.W.mg_of X G n__law_simple_right,
    a__law_right := f__law_right,
    d__law_right := _,
    F__law_right := F_law_right,
    b__law_right := F_law_right.binds (ps := ["pot"]) fun _ _ _ _ _ _ us hl => match us, hl with | [_], _ => rfl,
    m__law_right := PySem.W.mg_of X G n__law_right,
    a_law := f_law,
    d_law := _,
    F_law := Flaw,
    b_law := Flaw.binds (ps := ["script"]) fun _ _ _ _ _ _ us hl => match us, hl with | [_], _ => rfl,
    m_law := PySem.W.mg_of X G n_law,
    C_Web := C_Web,
    m_Web := PySem.W.mg_of X G nC_Web,
    cl_Web := ⟨pg_Web, hd_Web, po_Web, sa_Web⟩,
    mk_Web := ⟨mkk_Web, a_Web__init_, i_Web__init_, kc_Web⟩,
    hc1_Web := hc1_Web,
    hc4_Web := hc4_Web,
    is_Web := is_Web,
    ty_Web := ty_Web,
    nf_Web_places := nf_Web_places,
    nf_Web_arrows := nf_Web_arrows,
    q_Web_places := q_Web_places,
    p_Web_places := ⟨pa_Web_places, pb_Web_places, pc_Web_places, ⟨re_Web_places, pd_Web_places⟩⟩,
    q_Web_many := q_Web_many,
    p_Web_many := ⟨pa_Web_many, pb_Web_many, pc_Web_many, ⟨re_Web_many, pd_Web_many⟩⟩,
    me_Web_arrows := ⟨a_Web_arrows, i_Web_arrows, k_Web_arrows⟩,
    me_Web_ways := ⟨a_Web_ways, i_Web_ways, k_Web_ways⟩,
    eq_Web := a_Web__eq_,
    fe_Web := i_Web__eq_,
    n_len := PySem.W.mg_none_of X G z_len,
    n_isinstance := PySem.W.mg_none_of X G z_isinstance,
    n_int := PySem.W.mg_none_of X G z_int,
    n_bool := PySem.W.mg_none_of X G z_bool,
    n_list := PySem.W.mg_none_of X G z_list,
    n_tuple := PySem.W.mg_none_of X G z_tuple,
    n_all := PySem.W.mg_none_of X G z_all,
    n_any := PySem.W.mg_none_of X G z_any,
    n_sum := PySem.W.mg_none_of X G z_sum,
    n_range := PySem.W.mg_none_of X G z_range,
    n_zip := PySem.W.mg_none_of X G z_zip,
    n_abs := PySem.W.mg_none_of X G z_abs,
    n_max := PySem.W.mg_none_of X G z_max,
    n_divmod := PySem.W.mg_none_of X G z_divmod,
    n_sorted := PySem.W.mg_none_of X G z_sorted,
    n_enumerate := PySem.W.mg_none_of X G z_enumerate,
    t_MOST_PLACES := t_MOST_PLACES,
    g_MOST_PLACES := PySem.W.mg_of X G g_MOST_PLACES,
    t_MOST_ARROWS := t_MOST_ARROWS,
    g_MOST_ARROWS := PySem.W.mg_of X G g_MOST_ARROWS,
    t_MOST_ROW := t_MOST_ROW,
    g_MOST_ROW := PySem.W.mg_of X G g_MOST_ROW,
    t_MOST_SUM := t_MOST_SUM,
    g_MOST_SUM := PySem.W.mg_of X G g_MOST_SUM,
    kb_ways_row_place_web := kb_wr Fways_row,
    kb_simple_row_place_web := kb_sr Fsimple_row,
    kb_form_other_row_web := kb_fo Fform,
    kb_Web_ways_other_place := kb_ww FWeb_ways,
    kb_Web__init__arrows_places := kb_wi FWeb__init_,
    ne_Web := ne_Web
  }
  exact ⟨T.d_law, fun s v => .of_eq rfl, fun base _ _ => ok_law T⟩
end
theorem walk {l : PySem.W.OpenLaw} {q : Program} {loose : List Str} {XP : (Str → Option Value) → Heap → Prop} {YP : World → Heap → Prop} {d : DefRec} {K : Params → PySem.W.Frag} (hn : l.most = some 63) (hdf : d.params.defaults = [])
    (hY : ∀ (w : World) (h : Heap), YP w h → (K w.params).In h)
    (F : ∀ (w : World) (mg : Str → Option Value) (fa : Addr) (h : Heap), (K w.params).In h → h.Ns mainGlobals mg → mg d.name = some (.ref fa) →
      ∃ fd : FuncData, (∀ (s : Shared) (u : Value), BindsTo s fd ⟨[u], []⟩ [("script", u)]) ∧ ∀ base : Heap, (K w.params).In base → base.Ns mainGlobals mg → FnOk l.prog w (K w.params) mg base CX0 18 fa fd ["script"] (sp_law (K w.params))) :
    PySem.W.WalkO q loose XP YP l.row.toRowW d [] (fun f vs => PySem.call f vs) :=
  L2.walk_of (n := 63) (k := 18) (x := "script") (CX := fun _ => CX0) (sp := fun w => sp_law (K w.params)) hn (by decide) hdf ⟨rfl, by decide, by decide⟩ hY F (fun _ _ a ns hl _ hS => ⟨a, ns, rfl, hS, fun _ => rfl⟩) fun _ _ _ _ _ z => z
end W17

open PySem PySem.W PyProof.Rows
set_option maxRecDepth 100000 in
set_option maxHeartbeats 0 in
theorem PySem.Challenge.cw_sureparts_k17_whole_ways_and_forms_holds : PySem.Challenge.rw_sureparts_k17_whole_ways_and_forms.Holds := by
  w_on; o_law; k_head; (case hw => w_witness2)
  k_fill
  refine W17.walk (l := PySem.Challenge.rw_sureparts_k17_whole_ways_and_forms) rfl rfl (fun w h Y => PySem.W.kIn_of Y) ?F
  case F =>
    intro w mg fa h KX G hmg
    refine' W17.all_mk KX G hmg ?nC_Web ?a_Web__init_ ?pa_Web_places ?pa_Web_many ?a_Web_arrows ?a_Web_ways ?a_Web__eq_ ?pd_Web_places ?pd_Web_many ?n_is_integer ?l_is_integer ?c_is_integer ?k_is_integer ?n_is_count ?l_is_count ?c_is_count ?k_is_count ?n__is_arrow ?l__is_arrow ?c__is_arrow ?k__is_arrow ?n__have_ring ?l__have_ring ?c__have_ring ?k__have_ring ?n__are_arrows ?l__are_arrows ?c__are_arrows ?k__are_arrows ?l_Web__init_ ?c_Web__init_ ?k_Web__init_ ?l_Web_places ?c_Web_places ?k_Web_places ?l_Web_many ?c_Web_many ?k_Web_many ?l_Web_arrows ?c_Web_arrows ?k_Web_arrows ?n_check_place ?l_check_place ?c_check_place ?k_check_place ?n__ways ?l__ways ?c__ways ?k__ways ?l_Web_ways ?c_Web_ways ?k_Web_ways ?l_Web__eq_ ?c_Web__eq_ ?k_Web__eq_ ?n_check_web ?l_check_web ?c_check_web ?k_check_web ?n_turned_web ?l_turned_web ?c_turned_web ?k_turned_web ?n_is_row ?l_is_row ?c_is_row ?k_is_row ?n_check_row ?l_check_row ?c_check_row ?k_check_row ?n_check_sizes ?l_check_sizes ?c_check_sizes ?k_check_sizes ?n_form ?l_form ?c_form ?k_form ?n_simple_row ?l_simple_row ?c_simple_row ?k_simple_row ?n_ways_row ?l_ways_row ?c_ways_row ?k_ways_row ?n__law_pot ?l__law_pot ?c__law_pot ?k__law_pot ?n__law_draw ?l__law_draw ?c__law_draw ?k__law_draw ?n__law_order ?l__law_order ?c__law_order ?k__law_order ?n__law_web ?l__law_web ?c__law_web ?k__law_web ?n__law_row ?l__law_row ?c__law_row ?k__law_row ?n__law_ways ?l__law_ways ?c__law_ways ?k__law_ways ?n__law_form ?l__law_form ?c__law_form ?k__law_form ?n__law_ways_right ?l__law_ways_right ?c__law_ways_right ?k__law_ways_right ?n__law_forms_right ?l__law_forms_right ?c__law_forms_right ?k__law_forms_right ?n__law_simple_right ?l__law_simple_right ?c__law_simple_right ?k__law_simple_right ?n__law_right ?l__law_right ?c__law_right ?k__law_right ?n_law ?l_law ?c_law ?k_law ?pg_Web ?hd_Web ?po_Web ?sa_Web ?mkk_Web ?kc_Web ?hc1_Web ?hc4_Web ?is_Web ?ty_Web ?nf_Web_places ?nf_Web_arrows ?i_Web__init_ ?pb_Web_places ?pc_Web_places ?pb_Web_many ?pc_Web_many ?i_Web_arrows ?i_Web_ways ?i_Web__eq_ ?z_len ?z_isinstance ?z_int ?z_bool ?z_list ?z_tuple ?z_all ?z_any ?z_sum ?z_range ?z_zip ?z_abs ?z_max ?z_divmod ?z_sorted ?z_enumerate ?g_MOST_PLACES ?g_MOST_ARROWS ?g_MOST_ROW ?g_MOST_SUM ?ne_Web
    (case nC_Web => k_is)
    (case a_Web__init_ => k_is)
    (case pa_Web_places => k_is)
    (case pa_Web_many => k_is)
    (case a_Web_arrows => k_is)
    (case a_Web_ways => k_is)
    (case a_Web__eq_ => k_is)
    (case pd_Web_places => k_is)
    (case pd_Web_many => k_is)
    (case n_is_integer => k_is)
    (case l_is_integer => k_is)
    (case c_is_integer => k_is)
    (case k_is_integer => k_is)
    (case n_is_count => k_is)
    (case l_is_count => k_is)
    (case c_is_count => k_is)
    (case k_is_count => k_is)
    (case n__is_arrow => k_is)
    (case l__is_arrow => k_is)
    (case c__is_arrow => k_is)
    (case k__is_arrow => k_is)
    (case n__have_ring => k_is)
    (case l__have_ring => k_is)
    (case c__have_ring => k_is)
    (case k__have_ring => k_is)
    (case n__are_arrows => k_is)
    (case l__are_arrows => k_is)
    (case c__are_arrows => k_is)
    (case k__are_arrows => k_is)
    (case l_Web__init_ => k_is)
    (case c_Web__init_ => k_is)
    (case k_Web__init_ => k_is)
    (case l_Web_places => k_is)
    (case c_Web_places => k_is)
    (case k_Web_places => k_is)
    (case l_Web_many => k_is)
    (case c_Web_many => k_is)
    (case k_Web_many => k_is)
    (case l_Web_arrows => k_is)
    (case c_Web_arrows => k_is)
    (case k_Web_arrows => k_is)
    (case n_check_place => k_is)
    (case l_check_place => k_is)
    (case c_check_place => k_is)
    (case k_check_place => k_is)
    (case n__ways => k_is)
    (case l__ways => k_is)
    (case c__ways => k_is)
    (case k__ways => k_is)
    (case l_Web_ways => k_is)
    (case c_Web_ways => k_is)
    (case k_Web_ways => k_is)
    (case l_Web__eq_ => k_is)
    (case c_Web__eq_ => k_is)
    (case k_Web__eq_ => k_is)
    (case n_check_web => k_is)
    (case l_check_web => k_is)
    (case c_check_web => k_is)
    (case k_check_web => k_is)
    (case n_turned_web => k_is)
    (case l_turned_web => k_is)
    (case c_turned_web => k_is)
    (case k_turned_web => k_is)
    (case n_is_row => k_is)
    (case l_is_row => k_is)
    (case c_is_row => k_is)
    (case k_is_row => k_is)
    (case n_check_row => k_is)
    (case l_check_row => k_is)
    (case c_check_row => k_is)
    (case k_check_row => k_is)
    (case n_check_sizes => k_is)
    (case l_check_sizes => k_is)
    (case c_check_sizes => k_is)
    (case k_check_sizes => k_is)
    (case n_form => k_is)
    (case l_form => k_is)
    (case c_form => k_is)
    (case k_form => k_is)
    (case n_simple_row => k_is)
    (case l_simple_row => k_is)
    (case c_simple_row => k_is)
    (case k_simple_row => k_is)
    (case n_ways_row => k_is)
    (case l_ways_row => k_is)
    (case c_ways_row => k_is)
    (case k_ways_row => k_is)
    (case n__law_pot => k_is)
    (case l__law_pot => k_is)
    (case c__law_pot => k_is)
    (case k__law_pot => k_is)
    (case n__law_draw => k_is)
    (case l__law_draw => k_is)
    (case c__law_draw => k_is)
    (case k__law_draw => k_is)
    (case n__law_order => k_is)
    (case l__law_order => k_is)
    (case c__law_order => k_is)
    (case k__law_order => k_is)
    (case n__law_web => k_is)
    (case l__law_web => k_is)
    (case c__law_web => k_is)
    (case k__law_web => k_is)
    (case n__law_row => k_is)
    (case l__law_row => k_is)
    (case c__law_row => k_is)
    (case k__law_row => k_is)
    (case n__law_ways => k_is)
    (case l__law_ways => k_is)
    (case c__law_ways => k_is)
    (case k__law_ways => k_is)
    (case n__law_form => k_is)
    (case l__law_form => k_is)
    (case c__law_form => k_is)
    (case k__law_form => k_is)
    (case n__law_ways_right => k_is)
    (case l__law_ways_right => k_is)
    (case c__law_ways_right => k_is)
    (case k__law_ways_right => k_is)
    (case n__law_forms_right => k_is)
    (case l__law_forms_right => k_is)
    (case c__law_forms_right => k_is)
    (case k__law_forms_right => k_is)
    (case n__law_simple_right => k_is)
    (case l__law_simple_right => k_is)
    (case c__law_simple_right => k_is)
    (case k__law_simple_right => k_is)
    (case n__law_right => k_is)
    (case l__law_right => k_is)
    (case c__law_right => k_is)
    (case k__law_right => k_is)
    (case n_law => k_is)
    (case l_law => k_is)
    (case c_law => k_is)
    (case k_law => k_is)
    (case pg_Web => k_is)
    (case hd_Web => k_is)
    (case po_Web => k_is)
    (case sa_Web => k_is)
    (case mkk_Web => k_is)
    (case kc_Web => k_is)
    (case hc1_Web => k_is)
    (case hc4_Web => k_is)
    (case is_Web => k_is)
    (case ty_Web => k_is)
    (case nf_Web_places => k_is)
    (case nf_Web_arrows => k_is)
    (case i_Web__init_ => k_is)
    (case pb_Web_places => k_is)
    (case pc_Web_places => k_is)
    (case pb_Web_many => k_is)
    (case pc_Web_many => k_is)
    (case i_Web_arrows => k_is)
    (case i_Web_ways => k_is)
    (case i_Web__eq_ => k_is)
    (case z_len => k_is)
    (case z_isinstance => k_is)
    (case z_int => k_is)
    (case z_bool => k_is)
    (case z_list => k_is)
    (case z_tuple => k_is)
    (case z_all => k_is)
    (case z_any => k_is)
    (case z_sum => k_is)
    (case z_range => k_is)
    (case z_zip => k_is)
    (case z_abs => k_is)
    (case z_max => k_is)
    (case z_divmod => k_is)
    (case z_sorted => k_is)
    (case z_enumerate => k_is)
    (case g_MOST_PLACES => k_is)
    (case g_MOST_ARROWS => k_is)
    (case g_MOST_ROW => k_is)
    (case g_MOST_SUM => k_is)
    (case ne_Web => k_is)

