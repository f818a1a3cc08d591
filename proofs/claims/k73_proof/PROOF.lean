import PyProof.Rows.All
import Wide.All
import OpenK.AllK
import Wide.FinOn
import HandS.Exc
import HandS.TryMany
import HandS.ForMost
import HandS.Flow
import HandS.Wide
import HandS.Walk
import KE.GoesMore
import HandS.OwnEq
import PyProof.InstNe
import PyProof.NeKinds
import PyProof.IsRules
import HandS.Lambda
import HandS.EndTab
import HandS.ExcOwn
import HandS.ExcField
import HandS.WordsExc
import HandS.IsInst
import HandS.TupAny
import HandS.Defaults
import HandS.MakeKw
import HandS.ExcInit
import KE.GoesNew
import HandS.Zip
import HandS.Conv
import PyProof.P3In
import HandS.Deep
import KE.KExcIs
import PySem.Challenge.RW_betweenlooks_k73_looks_of_others_as_one
set_option Elab.async false
set_option linter.all false
set_option maxRecDepth 100000
/-! several clauses, each `except X as e`, of one name e -/
namespace K1
open PySem L2 PySem.Spec PyProof.Rows
def endsI (D : Ends) (i : Nat) : Ends := { nx := fun u G => D.nx (u.set i none) G, rt := D.rt, bk := fun u G => D.bk (u.set i none) G, ct := fun u G => D.ct (u.set i none) G }
def wAsAll (K : PySem.W.Frag) (i : Nat) (Wo : WX) (D : Ends) : List (Value × (Addr → Value → Option Addr → TS)) → WX
  | [] => Wo
  | p :: r => fun cl dd u G => ∃ b, PySem.W.exmOne K cl p.1 = some b ∧ (b = true → ∀ a, G a = none → p.2 a cl dd (endsI D i) (u.set i (some (.ref a))) G) ∧ (b = false → wAsAll K i Wo D r cl dd u G)
inductive AsOk (X : Cx) (n : Str) : List ExceptHandler → List (Value × (Addr → Value → Option Addr → TS)) → Prop
  | nil : AsOk X n [] []
  | cons {x : Str} {c : Value} {ts : Addr → Value → Option Addr → TS} {b₀ : Stmt} {suite : List Stmt} {np q : Pos} {hds : List ExceptHandler} {l : List (Value × (Addr → Value → Option Addr → TS))} (hc : Names X x c)
      (hsu : ∀ (a : Addr) (oe : Obj) (cl : Value) (dd : Option Addr) (pn : List (Addr × Obj)), Zc cl dd oe → (∃ vs, oe.data = .fields vs) → PSs (X.suite a ((a, oe) :: pn)) (b₀ :: suite) (ts a cl dd)) (r : AsOk X n hds l) :
      AsOk X n (.ExceptHandler (some (.Name x np)) (some n) (b₀ :: suite) q :: hds) ((c, ts) :: l)
section
variable {X : Cx} {n : Str} {i : Nat} {body : List Stmt} {h₀ : ExceptHandler} {hds : List ExceptHandler} {l : List (Value × (Addr → Value → Option Addr → TS))} {pos : Pos} {tb : WX → TS} {Wo : WX}
theorem ps_try_asAll (e0 : X.stack = X.env :: X.outer) (e1 : X.env.frame = some X.env.locals) (nd : X.N.Nodup) (hi : X.N[i]? = some n) (hln : X.env.kindOf n = some .local) (tk : Takes X Wo)
    (hb : ∀ (W : WX) (pn : List (Addr × Obj)) (xe : Value → Shared → Prop), Takes (X.tr pn xe) W → PassesOwn (model X.prog X.w) X.A X.env xe → PSs (X.tr pn xe) body (tb W))
    (hh : AsOk X n (h₀ :: hds) l) : PS X (.Try body (h₀ :: hds) [] [] pos) (fun D u G => tb (wAsAll X.K i Wo D l) D u G) := by
  refine ⟨fun pins s u G D I0 go0 => ?_⟩
  have ok := I0.ok
  have fr : X.A.frames = some (X.env :: X.outer) := by rw [ok.frames, e0]
  have lc : Loc X.env.scope n := .inl hln
  refine wpAny_Try_except ?_
  have run0 := (hb (wAsAll X.K i Wo D l) (X.pn ++ pins) (fun e s₁ => wpAny (model X.prog X.w) X.A (noteFrame e X.env) (fun _ s₂ => wpAny (model X.prog X.w) X.A (setFlight e none) (fun _ s₃ =>
    wpAny (model X.prog X.w) X.A (handleBy e X.env (h₀ :: hds)) (SP X pins D) X.xe s₃) X.xe s₂) X.xe s₁) (fun v s' xx => ?_) PassesOwn.looking).run [] s u G D (I0.toTry _) go0
  · refine wpAny_mono run0 (fun f s1 hsp => ?_) (fun e s1 he => he)
    cases f with
    | next => exact let ⟨u', G', J', q⟩ := hsp; wpAny_execs_nil ⟨u', G', J'.ofTry ok, q⟩
    | brk => exact let ⟨u', G', J', q⟩ := hsp; ⟨u', G', J'.ofTry ok, q⟩
    | cont => exact let ⟨u', G', J', q⟩ := hsp; ⟨u', G', J'.ofTry ok, q⟩
    | ret w => exact let ⟨v, u', G', J', r, q⟩ := hsp; ⟨v, u', G', J'.ofTry ok, r, q⟩
  · obtain ⟨a, B, sI, pins', u', G', cl, dd, rfl, J', nb, up, sky, na, os, ag, w⟩ := xx
    have J : Inv X pins u' G' sI := J'.ofTry ok
    have sk : Sky B (X.env :: X.outer) a (Zc cl dd) X.env.locals s'.heap := by rw [← e0]; exact sky
    show wpAny (model X.prog X.w) X.A (noteFrame (.ref a) X.env) _ _ _
    refine Sky.land Zc.steady fr e1 sk fun h3 fl3 up3 => ?_
    have J3 : Inv X pins u' G' { s' with heap := h3 } := J.landed nb fl3.1 (up.trans up3) os ag
    obtain ⟨oe3, vs3, he3, hz3, hd3⟩ := fl3.there
    have out : ∀ {h : Heap} {o : Obj} {vs : Array Value}, h.FunFrames B (X.env :: X.outer) → h.get? a = some o → o.data = .fields vs → a ∉ frs (X.env :: X.outer) := fun {h o vs} ff e hdt hm => by
      obtain ⟨_, o', e', hnf⟩ := ff.mem hm
      cases e.symm.trans e'
      exact hnf _ hdt
    have nfr := out fl3.2.2.1 he3 hd3
    have nL : a ≠ X.env.locals := fun z => nfr (List.mem_filterMap.mpr ⟨X.env, List.mem_cons_self, by rw [e1, z]⟩)
    have nF : a ∉ X.fs := fun hm => let ⟨e, he, q⟩ := List.mem_filterMap.mp hm; nfr (List.mem_filterMap.mpr ⟨e, List.mem_cons_of_mem _ he, q⟩)
    have S3 := J3.suite he3 hd3 na nL nF
    have go : ∀ {hs' : List ExceptHandler} {l' : List (Value × (Addr → Value → Option Addr → TS))}, AsOk X n hs' l' → wAsAll X.K i Wo D l' cl dd u' G' →
        wpAny (model X.prog X.w) X.A (handleBy (.ref a) X.env hs') (SP X pins D) X.xe { s' with heap := h3 } := by
      intro hs' l' hk
      induction hk with
      | nil =>
        intro w
        refine wpAny_handleBy_nil ?_
        obtain ⟨k1, k2, k3, oe, vs, T, oT, tz, he, hz, hd, h1, hr⟩ := id fl3
        unfold PySem.passOn
        refine wpAny_bind (wpAny_field he hd h1 ?_)
        rw [if_neg (show ¬ ((Value.ref T == Value.none) = true) by simp)]
        have fin : wpAny (model X.prog X.w) X.A (setFlight (.ref a) X.env.frame) (fun _ s4 => wpAny (model X.prog X.w) X.A (throw (.ref a) : Sem Flow) (SP X pins D) X.xe s4) X.xe { s' with heap := h3 } := by
          rw [e1]
          refine HandSPX.setFlight_upZ fl3 fun h4 hh4 up4 => wpAny_throw (tk _ _ ?_)
          exact ⟨a, B, sI, pins, u', G', cl, dd, rfl, J, nb, (up.trans up3).trans up4, .inr (.inr (by rw [e0]; exact hh4)), na, os, ag, w⟩
        first
          | exact wpAny_bind (wpAny_pure (wpAny_bind fin))
          | exact wpAny_bind fin
      | @cons x c ts b₀ suite np q0 hds2 l2 hc hsu r ih =>
        intro w
        obtain ⟨b, hb1, yes, no⟩ := w
        refine wpAny_handleBy_cons (codeAny_handlers_test ?_) (by intro q; cases q)
        have LT : PySem.W.Looks (model X.prog X.w) h3 (typeOf (.ref a)) cl := fun A Q E s k q => wpAny_typeOf_ref (k _ _ he3) (by rw [hz3.1]; exact q)
        have LM := PySem.W.exm_one (M := model X.prog X.w) (J3.kIn) LT hb1
        have test : ∀ {Q : Value → Shared → Prop} {E : Value → Shared → Prop}, Q c { s' with heap := h3 } → wpAny (model X.prog X.w) (X.A.mark (some (.ref a))) (eval (.Name x np) X.env) Q E { s' with heap := h3 } := fun {Q E} q => by
          rcases hc with ⟨hg, hdbg, hm | ⟨hm, hv, hnn⟩⟩
          · exact ld_glob (X := X.suite a ((a, oe3) :: (X.pn ++ pins))) S3 hg hm q hdbg
          · exact ld_blt (X := X.suite a ((a, oe3) :: (X.pn ++ pins))) S3 hg hm hv q hnn hdbg
        refine test (LM.here ?_)
        cases b with
        | true =>
          refine codeAny_handlers_suite_as (HandSPX.lands_againZ fl3 fun h4 fl4 up4 => ?_)
          have J4 : Inv X pins u' G' { s' with heap := h4 } := J.landed nb fl4.1 ((up.trans up3).trans up4) os ag
          obtain ⟨oe4, vs4, he4, hz4, hd4⟩ := fl4.there
          have S4 := J4.suite he4 hd4 na nL nF
          refine store_ok (X := X.suite a ((a, oe4) :: (X.pn ++ pins))) (v := .ref a) S4 nd hi lc rfl (fun s5 S5 => ?_) (.inr hln)
          refine wpAny_mono ((hsu a oe4 cl dd (X.pn ++ pins) hz4 ⟨_, hd4⟩).run [] s5 _ G' _ S5 (yes rfl a na)) (fun f s6 hsp => ?_) (fun _ _ z => False.elim z)
          have close : ∀ {u6 : L2.St} {G6 : Hp} {Q : Shared → Prop}, Inv (X.suite a ((a, oe4) :: (X.pn ++ pins))) [] u6 G6 s6 → (∀ s7, Inv X pins (u6.set i none) G6 s7 → Q s7) →
              wpAny (model X.prog X.w) X.A (do bindName X.env n .none; unbindBehindTheSuite X.env n q0) (fun _ s7 => Q s7) X.xe s6 := fun {u6 G6 Q} S6 hq => gone_ok (S6.unsuite ok) nd hi hln hq
          cases f with
          | next => exact let ⟨u6, G6, S6, q6⟩ := hsp; close S6 fun s7 J7 => ⟨_, _, J7, q6⟩
          | brk => exact let ⟨u6, G6, S6, q6⟩ := hsp; close S6 fun s7 J7 => ⟨_, _, J7, q6⟩
          | cont => exact let ⟨u6, G6, S6, q6⟩ := hsp; close S6 fun s7 J7 => ⟨_, _, J7, q6⟩
          | ret z => exact let ⟨v6, u6, G6, S6, r6, q6⟩ := hsp; close S6 fun s7 J7 => ⟨_, _, _, J7, r6, q6⟩
        | false =>
          show wpAny _ X.A (handleBy (.ref a) X.env hds2) _ _ _
          exact ih (no rfl)
    exact go hh w
end
end K1
set_option Elab.async false
set_option maxRecDepth 100000
namespace K1
open PySem L2
def top (i : Nat) : Stmt := PySem.Challenge.pw_betweenlooks_k73_looks_of_others_as_one.main.body.getD i (.Pass ⟨0, 0, 0, 0⟩)
abbrev sPen : Stmt := top 49
abbrev sDraw : Stmt := top 50
abbrev sPick : Stmt := top 51
abbrev sWords : Stmt := top 52
/-! the pen: a dict of three -/
abbrev kCells : Key := Sum.inr "cells"
abbrev kAt : Key := Sum.inr "at"
abbrev kLeft : Key := Sum.inr "left"
theorem n_ca : ¬ (kCells = kAt) := by decide +kernel
theorem n_cl : ¬ (kCells = kLeft) := by decide +kernel
theorem n_al : ¬ (kAt = kLeft) := by decide +kernel
theorem n_la : ¬ (kLeft = kAt) := by decide +kernel
theorem n_ac : ¬ (kAt = kCells) := by decide +kernel
theorem n_lc : ¬ (kLeft = kCells) := by decide +kernel
def penK (c : Addr) (a l : Int) : List (Key × V) := [(kCells, .ref c), (kAt, .int a), (kLeft, .int l)]
theorem penK_cells (c : Addr) (a l : Int) : valV (penK c a l) kCells = some (.ref c) := valV_pos rfl
theorem penK_at (c : Addr) (a l : Int) : valV (penK c a l) kAt = some (.int a) := by
  unfold penK; rw [valV_neg n_ca]; exact valV_pos rfl
theorem penK_left (c : Addr) (a l : Int) : valV (penK c a l) kLeft = some (.int l) := by
  unfold penK; rw [valV_neg n_cl, valV_neg n_al]; exact valV_pos rfl
theorem penK_put_at (c : Addr) (a l b : Int) : putK (penK c a l) kAt (.int b) = penK c b l := by
  have h1 : ¬ (("cells" : Str) = "at") := by decide +kernel
  have h2 : ¬ (("left" : Str) = "at") := by decide +kernel
  unfold penK putK; simp [h1, h2]
theorem penK_put_left (c : Addr) (a l b : Int) : putK (penK c a l) kLeft (.int b) = penK c a b := by
  have h1 : ¬ (("cells" : Str) = "left") := by decide +kernel
  have h2 : ¬ (("at" : Str) = "left") := by decide +kernel
  unfold penK putK; simp [h1, h2]
/-- at d stands a pen that was drawn from at most n times -/
def PenAt (H : Hp) (d c : Addr) (n : Nat) : Prop := ∃ (ns : List Int) (a l : Int), H d = some (.dK (penK c a l)) ∧ H c = some (.lst (ns.map V.int)) ∧ ns.length ≤ 63 ∧ 0 ≤ a ∧ a ≤ n
/-- all but d is kept -/
def Kept (d : Addr) (H H' : Hp) : Prop := ∀ b o, H b = some o → b ≠ d → H' b = some o
theorem Kept.refl (d : Addr) (H : Hp) : Kept d H H := fun _ _ e _ => e
theorem Kept.trans {d : Addr} {H H1 H2 : Hp} (a : Kept d H H1) (b : Kept d H1 H2) : Kept d H H2 := fun c o e n => b c o (a c o e n) n
theorem Kept.same {d : Addr} {H H1 : Hp} (a : Same H H1) : Kept d H H1 := fun c o e _ => a c o e
theorem same_upd {H : Hp} {p : Addr} {o : HO} (h : H p = none) : Same H (upd H p o) := fun b u e => by rw [upd_ne (ne_of_none e h)]; exact e
theorem PenAt.mono {H : Hp} {d c : Addr} {n m : Nat} (h : PenAt H d c n) (l : n ≤ m) : PenAt H d c m := by
  obtain ⟨ns, a, x, h1, h2, h3, h4, h5⟩ := h
  exact ⟨ns, a, x, h1, h2, h3, h4, by omega⟩
theorem PenAt.same {H H' : Hp} {d c : Addr} {n : Nat} (h : PenAt H d c n) (s : Same H H') : PenAt H' d c n := by
  obtain ⟨ns, a, x, h1, h2, h3⟩ := h
  exact ⟨ns, a, x, s _ _ h1, s _ _ h2, h3⟩
theorem PenAt.ne {H : Hp} {d c D : Addr} {n : Nat} (h : PenAt H d c n) (z : H D = none) : D ≠ d ∧ D ≠ c := by
  obtain ⟨ns, a, x, h1, h2, h3⟩ := h
  exact ⟨(ne_of_none h1 z).symm, (ne_of_none h2 z).symm⟩
theorem PenAt.upd {H : Hp} {d c D : Addr} {n : Nat} {o : HO} (h : PenAt H d c n) (n1 : D ≠ d) (n2 : D ≠ c) : PenAt (upd H D o) d c n := by
  obtain ⟨ns, a, x, h1, h2, h3⟩ := h
  exact ⟨ns, a, x, by rw [upd_ne n1.symm]; exact h1, by rw [upd_ne n2.symm]; exact h2, h3⟩
theorem Kept.upd {d D : Addr} {H0 H : Hp} {o : HO} (k : Kept d H0 H) (h : H0 D = none) : Kept d H0 (upd H D o) := fun b u e nb => by
  rw [upd_ne (ne_of_none e h)]; exact k b u e nb
theorem Kept.free {d c : Addr} {H H' : Hp} {n : Nat} (k : Kept d H H') (p : PenAt H' d c n) {l : Addr} (h : H' l = none) : H l = none := by
  cases q : H l with
  | none => rfl
  | some o =>
    by_cases e : l = d
    · obtain ⟨ns, a, x, h1, _⟩ := p
      subst e; rw [h] at h1; cases h1
    · have := k l o q e; rw [h] at this; cases this
theorem penK_len (c : Addr) (a l : Int) : (penK c a l).length < sizeLine := by show 3 < sizeLine; decide
theorem dp_ints {K : PySem.W.Frag} {H : Hp} : ∀ ns : List Int, DpAll K H (ns.map V.int) (ns.map PyData.int)
  | [] => .nil
  | n :: r => .cons (.int n) (dp_ints r)
theorem canLay_ints : ∀ ns : List Int, PyData.canLayAll0 (ns.map PyData.int) = true
  | [] => rfl
  | n :: r => by simp [PyData.canLayAll0, PyData.canLay0, canLay_ints r]
theorem eqv_ints_nil (ns : List Int) : PyData.eqv (.list (ns.map PyData.int)) (.list []) = ns.isEmpty := by
  cases ns <;> simp [PyData.eqv, PyData.eqvAll]
theorem shaped_ints (ns : List Int) : SeqAt.shaped (.list (ns.map PyData.int)) = true := by
  have h : ∀ ns : List Int, PyData.depthAll (ns.map PyData.int) ≤ 1 := by
    intro ns
    induction ns with
    | nil => decide
    | cons n r ih => simp only [List.map_cons, PyData.depthAll, PyData.depth]; omega
  have h1 := h ns
  unfold SeqAt.shaped
  rw [PyData.canLay0, canLay_ints, PyData.depth]
  simp only [Bool.true_and, decide_eq_true_eq]
  omega
theorem map_get {ns : List Int} {j : Nat} (h : j < ns.length) : (ns.map V.int)[j]? = some (V.int (ns.getD j 0)) := by
  simp [List.getElem?_eq_getElem h, h]
theorem fmod_nat {a m : Int} (hm : 0 < m) : ∃ j : Nat, a.fmod m = (j : Int) ∧ (j : Int) < m := by
  have h1 := Int.fmod_nonneg_of_pos a hm
  have h2 := Int.fmod_lt_of_pos a hm
  exact ⟨(a.fmod m).toNat, by omega, by omega⟩
theorem fmod_bd {a m : Int} (hm : 0 < m) (hM : m ≤ 2147483648) : -(2 ^ 64) < a.fmod m ∧ a.fmod m < 2 ^ 64 := by
  have h1 := Int.fmod_nonneg_of_pos a hm
  have h2 := Int.fmod_lt_of_pos a hm
  exact ⟨by omega, by omega⟩
structure Bt (mg : Str → Option Value) : Prop where
  int : mg "int" = none
  len : mg "len" = none
  list : mg "list" = none
  range : mg "range" = none
  tuple : mg "tuple" = none
/-- draw: r below many; the pen has been drawn from once more; all else is kept -/
def spDraw : Sp := fun vs H Q _ => ∃ (d c : Addr) (n : Nat) (many : Int), vs = [.ref d, .int many] ∧ PenAt H d c n ∧ n ≤ 1000000 ∧ 0 < many ∧ many < 1073741824 ∧
  ∀ (r : Int) (H' : Hp), 0 ≤ r → r < many → PenAt H' d c (n + 1) → Kept d H H' → Q (.int r) H'
section
variable {P : Program} {w : World} {K : PySem.W.Frag} {mg : Str → Option Value} {base : Heap}
theorem scDraw : FnScope ["_law_pen_here", "_law_many", "_law_digit", "_law_at", "_law_cell", "_law_mixed"] ["_law_pen_here", "_law_many"] (defScope sDraw) := ⟨rfl, rfl, rfl, by decide +kernel, rfl, by decide +kernel, by decide +kernel⟩
theorem ok_draw {f : Addr} {fd : FuncData} (F : Fun K "_law_draw" "_law_draw" sDraw f fd) (T : Bt mg) : FnOk P w K mg base CX0 1 f fd ["_law_pen_here", "_law_many"] spDraw := by
  refine F.ok scDraw (fun vs H Q E h => ?_) (fun cdv A outer s H vs Q E hr h => ?_)
  · obtain ⟨d, c, n, many, rfl, _⟩ := h
    rfl
  · obtain ⟨d, c, n, many, rfl, ⟨ns, a, l, hd, hc, hns, ha0, ha1⟩, hn, hm0, hm1, k⟩ := h
    have hu := hu_of hr
    have ncd : c ≠ d := ne_of hc hd (by intro z; cases z)
    have gL : DGet H d (.str "left") (some (.int l)) := by have := DGet.k (k := kLeft) hd; rw [penK_left] at this; exact this
    refine ⟨_, pss_cons (ps_if (pt_cmpR op_ge (pe_dget hu (pv 0) pe_str (fun _ _ => rfl)) (pv 1) (nomark _))
        (pss_cons (ps_set (i := 2) scDraw.nd rfl (Or.inl rfl) (pe_op op_modN (pe_callTy call_int1 (by rfl) T.int (by decide +kernel) (pa_cons (pe_dget hu (pv 0) pe_str (fun _ _ => rfl)) pa_nil)) (pv 1)))
        (pss_cons (ps_dput hu (pv 0) pe_str (pe_op op_fdivN (pe_dget hu (pv 0) pe_str (fun _ _ => rfl)) (pv 1)) rfl)
        (pss_one (ps_ret (pv 2))))) pss_nil)
      (pss_cons (ps_set (i := 3) scDraw.nd rfl (Or.inl rfl) (pe_dget hu (pv 0) pe_str (fun _ _ => rfl)))
      (pss_cons (ps_dput hu (pv 0) pe_str (pe_op op_add (pv 3) pe_int) rfl)
      (pss_cons (ps_set (i := 4) scDraw.nd rfl (Or.inl rfl) (pe_op op_add (pe_op op_mul pe_int (pv 3)) pe_int))
      (pss_cons (ps_if (pt_cmpR (op_neD hr.units) (pe_dget hu (pv 0) pe_str (fun _ _ => rfl)) (pe_lst pa_nil) (nomark _))
          (pss_one (ps_set (i := 4) scDraw.nd rfl (Or.inl rfl) (pe_ix ix_list (pe_dget hu (pv 0) pe_str (fun _ _ => rfl)) (pe_op op_modN (pe_callTy call_int1 (by rfl) T.int (by decide +kernel) (pa_cons (pv 3) pa_nil)) (pe_callB call_len (by rfl) T.len PySem.boot_len (pa_cons (pe_dget hu (pv 0) pe_str (fun _ _ => rfl)) pa_nil))) (fun _ _ => rfl)))) pss_nil)
      (pss_cons (ps_if (PW.pt (pw_and (pt_cmpR op_lt (pv 3) (pe_callB call_len (by rfl) T.len PySem.boot_len (pa_cons (pe_dget hu (pv 0) pe_str (fun _ _ => rfl)) pa_nil)) (nomark _)) (pw_and1 (pt_cmpR op_ge (pv 4) (pe_op op_pow pe_int pe_int) (nomark _)))))
          (pss_cons (ps_dput hu (pv 0) pe_str (pe_op op_fdivN (pe_op op_sub (pv 4) (pe_op op_pow pe_int pe_int)) (pv 1)) rfl)
          (pss_one (ps_ret (pe_op op_modN (pe_callTy call_int1 (by rfl) T.int (by decide +kernel) (pa_cons (pe_op op_sub (pv 4) (pe_op op_pow pe_int pe_int)) pa_nil)) (pv 1))))) pss_nil)
      (pss_cons (ps_set (i := 5) scDraw.nd rfl (Or.inl rfl) (pe_op op_add (pe_op op_add (pe_op op_add (pe_op op_mul (pe_op op_modN (pe_callTy call_int1 (by rfl) T.int (by decide +kernel) (pa_cons (pv 4) pa_nil)) pe_int) pe_int) (pe_op op_mul (pe_op op_mul pe_int (pv 3)) (pv 3))) (pe_op op_mul pe_int (pv 3))) pe_int))
      (pss_cons (ps_set (i := 5) scDraw.nd rfl (Or.inl rfl) (pe_op op_modN (pe_callTy call_int1 (by rfl) T.int (by decide +kernel) (pa_cons (pv 5) pa_nil)) pe_int))
      (pss_cons (ps_set (i := 5) scDraw.nd rfl (Or.inl rfl) (pe_op op_modN (pe_callTy call_int1 (by rfl) T.int (by decide +kernel) (pa_cons (pe_op op_mul (pv 5) (pe_op op_add (pv 5) pe_int)) pa_nil)) pe_int))
      (pss_one (ps_ret (pe_op op_modN (pe_callTy call_int1 (by rfl) T.int (by decide +kernel) (pa_cons (pe_op op_fdivN (pe_op op_modN (pe_callTy call_int1 (by rfl) T.int (by decide +kernel) (pa_cons (pe_op op_mul (pv 5) (pv 5)) pa_nil)) pe_int) pe_int) pa_nil)) (pv 1)))))))))))), ?_⟩
    -- pen['left'] >= many
    refine ⟨_, rfl, d, _, rfl, gL, _, rfl, _, _, rfl, rfl, _, rfl, ?_⟩
    refine ite2 (fun _ => ?_) (fun _ => ?_)
    · refine ⟨_, rfl, d, _, rfl, gL, .inl ⟨_, rfl, ?_⟩⟩
      refine ⟨_, rfl, _, _, rfl, rfl, (by omega), ?_⟩
      refine ⟨_, rfl, d, _, rfl, gL, _, rfl, _, _, rfl, rfl, ⟨by omega, by omega⟩, ?_⟩
      refine ⟨_, rfl, d, _, rfl, DPut.k (k := kLeft) hd (penK_len _ _ _), ?_⟩
      refine ⟨_, rfl, ?_⟩
      refine k _ _ (Int.fmod_nonneg_of_pos _ hm0) (Int.fmod_lt_of_pos _ hm0) ⟨ns, a, l.fdiv many, ?_, ?_, hns, ha0, by omega⟩ ?_
      · rw [upd_same, penK_put_left]
      · rw [upd_ne ncd]; exact hc
      · intro b o e nb; rw [upd_ne nb]; exact e
    · have gA : DGet H d (.str "at") (some (.int a)) := by have := DGet.k (k := kAt) hd; rw [penK_at] at this; exact this
      refine ⟨_, rfl, d, _, rfl, gA, ?_⟩
      refine ⟨_, rfl, _, _, rfl, rfl, _, rfl, d, _, rfl, DPut.k (k := kAt) hd (penK_len _ _ _), ?_⟩
      rw [penK_put_at]
      have hd1 : upd H d (.dK (penK c (a + 1) l)) d = some (.dK (penK c (a + 1) l)) := upd_same
      have hc1 : upd H d (.dK (penK c (a + 1) l)) c = some (.lst (ns.map V.int)) := by rw [upd_ne ncd]; exact hc
      have kp1 : Kept d H (upd H d (.dK (penK c (a + 1) l))) := fun b o e nb => by rw [upd_ne nb]; exact e
      generalize upd H d (.dK (penK c (a + 1) l)) = H1 at hd1 hc1 kp1 ⊢
      refine ⟨_, rfl, _, _, rfl, rfl, .inl ⟨by decide, by decide⟩, _, _, rfl, rfl, ?_⟩
      have gC1 : DGet H1 d (.str "cells") (some (.ref c)) := by have := DGet.k (k := kCells) hd1; rw [penK_cells] at this; exact this
      refine ⟨_, rfl, d, _, rfl, gC1, Nat.zero_le _, fun q hq => ?_⟩
      have sm : Same H1 (upd H1 q (.lst [])) := same_upd hq
      have hq1 : upd H1 q (.lst []) q = some (.lst []) := upd_same
      have hd2 := sm _ _ hd1
      have hc2 := sm _ _ hc1
      have kp2 : Kept d H (upd H1 q (.lst [])) := kp1.trans (.same sm)
      generalize upd H1 q (.lst []) = H2 at hq1 hd2 hc2 kp2 ⊢
      have gC2 : DGet H2 d (.str "cells") (some (.ref c)) := by have := DGet.k (k := kCells) hd2; rw [penK_cells] at this; exact this
      refine ⟨_, _, .lst (SqL.of hc2) (dp_ints ns), .lst (SqL.of hq1) .nil, shaped_ints ns, by decide +kernel, _, rfl, ?_⟩
      rw [eqv_ints_nil]
      have len2 : LenV K (.ref c) H2 ns.length := .inl ⟨_, SqL.of hc2, (List.length_map _).symm⟩
      have hpos : (!ns.isEmpty) = true → 0 < ns.length := fun hne => by
        cases ns with
        | nil => cases hne
        | cons _ _ => exact Nat.succ_pos _
      have hix : (!ns.isEmpty) = true → atI (ns.map V.int) (a.fmod (ns.length : Int)) = some (V.int (ns.getD (a.fmod (ns.length : Int)).toNat 0)) := fun hne => by
        have hp := hpos hne
        obtain ⟨j, ej, hj⟩ := fmod_nat (a := a) (m := (ns.length : Int)) (by omega)
        rw [ej]
        exact atI_nat (map_get (by omega))
      refine ite2 (fun hne => ⟨_, rfl, d, _, rfl, gC2, _, rfl, .inl ⟨_, rfl, ⟨_, rfl, d, _, rfl, gC2, _, _, rfl, len2, _, _, rfl, rfl, (by have := hpos hne; omega), c, _, _, _, rfl, rfl, SqL.of hc2, hix hne, ?_⟩⟩⟩) (fun _ => ?_)
      all_goals
        refine ⟨_, rfl, _, rfl, d, _, rfl, gC2, _, _, rfl, len2, _, _, rfl, rfl, _, rfl, ?_⟩
        have fin : ∀ (H3 : Hp) (l' : Int) (r : Int), H3 d = some (.dK (penK c (a + 1) l')) → H3 c = some (.lst (ns.map V.int)) → Kept d H H3 → Q (.int (r.fmod many)) H3 := fun H3 l' r e1 e2 e3 =>
          k _ _ (Int.fmod_nonneg_of_pos _ hm0) (Int.fmod_lt_of_pos _ hm0) ⟨ns, a + 1, l', e1, e2, hns, by omega, by omega⟩ e3
        refine ite2 (fun _ => ⟨_, rfl, _, _, rfl, rfl, ⟨by decide, by decide, by decide⟩, _, _, rfl, rfl, _, rfl, ite2 (fun _ => ?_) (fun _ => ?_)⟩) (fun _ => ?_)
        ·
          refine ⟨_, rfl, _, _, rfl, rfl, ⟨by decide, by decide, by decide⟩, _, _, rfl, rfl, _, rfl, _, _, rfl, rfl, ⟨by omega, by omega⟩, _, rfl, d, _, rfl, DPut.k (k := kLeft) hd2 (penK_len _ _ _), ?_⟩
          rw [penK_put_left]
          refine ⟨_, rfl, _, _, rfl, rfl, ⟨by decide, by decide, by decide⟩, _, _, rfl, rfl, .inl ⟨_, rfl, ?_⟩⟩
          refine ⟨_, rfl, _, _, rfl, rfl, (by omega), ?_⟩
          refine fin _ _ _ upd_same (by rw [upd_ne ncd]; exact hc2) (fun b o e nb => by rw [upd_ne nb]; exact kp2 b o e nb)
        all_goals
          refine ⟨_, rfl, .inl ⟨_, rfl, ?_⟩⟩
          refine ⟨_, _, rfl, rfl, (by omega), ?_⟩
          refine ⟨_, _, rfl, rfl, .inr ⟨by decide, by decide⟩, ?_⟩
          refine ⟨_, rfl, _, _, rfl, rfl, .inl ⟨by decide, by decide⟩, _, rfl, _, _, rfl, rfl, .inr ⟨by omega, by omega⟩, ?_⟩
          refine ⟨_, _, rfl, rfl, _, rfl, _, _, rfl, rfl, .inl ⟨by decide, by decide⟩, ?_⟩
          refine ⟨_, _, rfl, rfl, _, _, rfl, rfl, ?_⟩
          -- mixed = int(mixed) % 2147483647
          refine ⟨_, rfl, .inl ⟨_, rfl, ?_⟩⟩
          refine ⟨_, _, rfl, rfl, (by omega), ?_⟩
          refine ⟨_, rfl, _, rfl, _, _, rfl, rfl, _, _, rfl, rfl, .inl (fmod_bd (by decide) (by decide)), .inl ⟨_, rfl, ?_⟩⟩
          refine ⟨_, _, rfl, rfl, (by omega), ?_⟩
          refine ⟨_, rfl, _, rfl, _, _, rfl, rfl, .inl (fmod_bd (by decide) (by decide)), .inl ⟨_, rfl, ?_⟩⟩
          refine ⟨_, _, rfl, rfl, (by omega), _, _, rfl, rfl, ⟨by decide, by decide⟩, .inl ⟨_, rfl, ?_⟩⟩
          refine ⟨_, rfl, _, _, rfl, rfl, (by omega), ?_⟩
          exact fin _ _ _ hd2 hc2 kp2
end
end K1
set_option Elab.async false
set_option linter.all false
set_option maxRecDepth 100000
namespace EO
open PySem
open AutoSeq1 (wpAny_loadPart')
set_option maxHeartbeats 1000000 in
theorem meets_enumerate_newT (l : Addr) (items : Array Value) (n : Nat) (dct : Option Addr) (sl : Array (Option Value)) :
    Meets (Builtin.«enumerate.__new__» ⟨[.type "enumerate", .ref l], []⟩) (fun _ R s => s.heap.get? l = some { cls := .type "tuple", dict := dct, data := .seq items n, slots := sl } ∧
      R (.ok (.ret (.ref (s.heap.push { cls := .type "tuple_iterator", data := .fields #[.ref l, .int 0 0] }).objs.size)))
        { s with heap := (s.heap.push { cls := .type "tuple_iterator", data := .fields #[.ref l, .int 0 0] }).push { cls := .type "enumerate", data := .fields #[.none, .bool false, .ref s.heap.objs.size, rawInt 0, .none, .none] } }) :=
  .of_wp fun prog w A R s h => by
    obtain ⟨hp, g, d, tk, os⟩ := s; obtain ⟨hl, h⟩ := h
    have hsub := sub_enumerate
    have hL : Heap.IsTuple (Shared.heap ⟨hp, g, d, tk, os⟩) l items := ⟨_, hl, rfl, n, rfl⟩
    wp_walk using wpAny_loadPart' hl
    refine wpAny_stack_any fun st => wpAny_pure ?_
    split
    · rename_i c _ _ _ _ _
      cases (c == Value.type "enumerate")
      · wp_walk using wpAny_loadPart' hl, wpAny_pyIter_tuple hL
        exact ⟨_, rfl, h⟩
      · wp_walk using wpAny_loadPart' hl, wpAny_pyIter_tuple hL
        exact ⟨_, rfl, h⟩
    · wp_walk using wpAny_loadPart' hl, wpAny_pyIter_tuple hL
      exact ⟨_, rfl, h⟩
section
variable {prog : Program} {w : World} {A : Around} {E : Value → Shared → Prop} {s : Shared}
theorem call_enumerate_tuple {l : Addr} {items : Array Value} {Q : Value → Shared → Prop} (hL : s.heap.IsTuple l items)
    (h : ∀ h', IsEnum h' (s.heap.objs.size + 1) s.heap.objs.size 0 .none → h'.IsTupleIter s.heap.objs.size l 0 → h'.objs.size = s.heap.objs.size + 2 →
      (∀ b o, s.heap.get? b = some o → h'.get? b = some o) → Q (.ref (s.heap.objs.size + 1)) { s with heap := h' }) :
    wpAny (model prog w) A (call (.type "enumerate") [.ref l]) Q E s := by
  obtain ⟨⟨c, dct, dt, sl⟩, hl, hc, n, hd⟩ := hL
  replace hc : c = .type "tuple" := hc
  replace hd : dt = .seq items n := hd
  subst hc hd
  refine callType_new F.called_enumerate (by decide) (F.typeCall_enumerate_1 _) (F.newCall_enumerate_1 _) (fun obj => F.args_object_init_2 obj _) F.entry_enumerate_new
    (meets_enumerate_newT l items n dct sl) ⟨hl, ?_⟩
  have hz : (s.heap.push { cls := .type "tuple_iterator", data := .fields #[.ref l, .int 0 0] }).objs.size = s.heap.objs.size + 1 := Heap.size_push ..
  show _ ∧ _
  rw [hz]
  have he : IsEnum ((s.heap.push { cls := .type "tuple_iterator", data := .fields #[.ref l, .int 0 0] }).push
      { cls := .type "enumerate", data := .fields #[.none, .bool false, .ref s.heap.objs.size, rawInt 0, .none, .none] }) (s.heap.objs.size + 1) s.heap.objs.size 0 .none := by
    have := Heap.get?_push_size (s.heap.push { cls := .type "tuple_iterator", data := .fields #[.ref l, .int 0 0] })
      (o := { cls := .type "enumerate", data := .fields #[.none, .bool false, .ref s.heap.objs.size, rawInt 0, .none, .none] }) rfl
    rw [hz] at this; exact this
  refine ⟨⟨_, he, rfl⟩, h _ he ⟨_, Heap.get?_push_of_some _ (Heap.get?_push_size _ rfl), rfl, rfl⟩ (by rw [Heap.size_push, hz]) fun b o x => Heap.get?_push_of_some _ (Heap.get?_push_of_some _ x)⟩
theorem enumT_end {e it t : Addr} {i : Nat} {k : Int} {items : Array Value} {old : Value} {Q : Option Value → Shared → Prop} (hh : A.handled = none)
    (he : IsEnum s.heap e it k old) (hit : s.heap.IsTupleIter it t i) (ht : s.heap.IsTuple t items) (hx : items[i]? = none)
    (hQ : ∀ h', Heap.ExtBut it s.heap h' → Q none { s with heap := h' }) : wpAny (model prog w) A (pyNext (.ref e)) Q E s := by
  have hT : s.TypeIs (.ref e) "enumerate" := ⟨_, he, rfl⟩
  unfold pyNext
  refine wpAny_bind (wpAny_attempt (wpAny_callSpecial?_slot (name := Str.ofString "__next__") hT F.slot_enumerate_next
    (wpAny_call_entry F.slot_enumerate_next hT F.entry_enumerate_next ?_ (F.args_enumerate_next_1 _))))
  show wpAny _ _ (field (.ref e) 2 >>= _) _ _ _
  refine wpAny_bind (wpAny_field he rfl (x := .ref it) rfl ?_)
  refine wpAny_bind (wpAny_nextOf_tuple_end hh hit ht hx fun h' x he' hx' => ?_)
  obtain ⟨o, ho, hc⟩ := hx'
  refine wpAny_bind (wpAny_isInstance (T := "StopIteration") (b := true) ⟨o, ho, hc⟩ isSubtype_stop ?_)
  exact wpAny_pure (hQ _ he')
end
end EO
namespace L2
open PySem PySem.Spec PyProof.Rows
/-! ### enumerate(tuple) -/
def IteT (K : PySem.W.Frag) (a : Addr) : It :=
  ⟨fun i H => ∃ (xs : List V) (x : V), SqT K H a xs ∧ xs[i]? = some x, fun i H v H' => ∃ T x, v = .ref T ∧ H T = none ∧ H' = upd H T (.tup [.int (i : Nat), x]) ∧ ∀ xs, SqT K H a xs → xs[i]? = some x, fun i H => ∃ xs : List V, SqT K H a xs ∧ xs.length ≤ i⟩
theorem turn_enumT {P : Program} {w : World} {K : PySem.W.Frag} {elts : List Expr} {kk : Nat} {tpos : Pos} (a e it : Addr) :
    Turn P w K (.Tuple elts kk tpos) (IteT K a) [e, it] e (fun i h => (∃ old, IsEnum h e it ((i : Nat) : Int) old) ∧ h.IsTupleIter it a i ∧ e ≠ it) where
  mem := by simp
  obj := fun i h st b hb => by
    obtain ⟨⟨old, he⟩, ⟨o, ho, hc, hd⟩, _⟩ := st
    have e' : b = e ∨ b = it := by simpa using hb
    rcases e' with z | z
    · rw [z]; exact ⟨_, he, fun v q => nomatch q⟩
    · rw [z]; exact ⟨o, ho, fun v q => by rw [hd] at q; cases q⟩
  keep := fun i h h' st k => let ⟨⟨old, he⟩, hi, hne⟩ := st; ⟨⟨old, k e (by simp) _ he⟩, hi.at fun o q => k it (by simp) o q, hne⟩
  item := by
    intro X hP hw hK hc i pins s σ H E I hf st hg
    subst hP hw hK
    obtain ⟨⟨old, he⟩, hit, hne⟩ := st
    obtain ⟨xs, x, hq, hx⟩ := hg
    obtain ⟨its, rv, p, hz⟩ := I.tuple hq
    obtain ⟨u, hu, ru⟩ := rv.get hx
    have hil' : i < its.length := (List.getElem?_eq_some_iff.mp hu).1
    have hel : e < s.heap.objs.size := Heap.lt_size he
    have hil : it < s.heap.objs.size := by obtain ⟨_, q, _⟩ := hit; exact Heap.lt_size q
    have hai : a ≠ it := by
      intro z
      obtain ⟨o1, q1, c1, _⟩ := p
      obtain ⟨o2, q2, c2, _⟩ := hit
      rw [z, q2] at q1; cases q1; rw [c2] at c1; exact absurd c1 (by simp)
    have hea : e ≠ a := by
      intro z
      obtain ⟨o1, q1, c1, _⟩ := p
      rw [← z] at q1
      have q2 := he
      unfold IsEnum at q2
      rw [q1] at q2; cases q2; exact absurd c1 (by simp)
    refine wpAny_pyNext_enum_itemD (Draws.tuple (A := X.A.in1) (I.ok.hd hc) it a hai its.toArray) he ⟨hit, p⟩ (by simpa using hil') hne (by simp [hne, hea]) fun y h' tk hy ho hit' hT hsz hk => ?_
    have hyu : y = u := by
      have : its.toArray[i]? = some u := by simpa using hu
      rw [this] at hy; exact (Option.some.inj hy).symm
    subst hyu
    refine ⟨_, rfl, wpAny_letOwnedTupleGo_enum (s := { s with heap := h', toks := tk + 1 }) ho fun h'' he' sb => ?_⟩
    have hT2 : h''.get? s.heap.objs.size = some { cls := .type "tuple", data := .seq #[.int i tk, y] } := (sb.2 _ (Nat.ne_of_gt hel)).trans hT
    have new : ObjOk X.prog X.w (upd H s.heap.objs.size (.tup [.int (i : Nat), x])) h'' s.heap.objs.size (.tup [.int (i : Nat), x]) :=
      ⟨by show 2 ≤ sizeLine; decide, [.int i tk, y], .cons ⟨_, rfl⟩ (.cons ru .nil), ⟨_, hT2, rfl, _, rfl⟩⟩
    have I1 : Inv X pins σ (upd H s.heap.objs.size (.tup [.int (i : Nat), x])) { s with heap := h'', toks := tk + 1 } :=
      I.turnedNew (ch := [e, it]) (fun b ob hb q => (sb.2 b (fun z => hb (by simp [z]))).trans (hk b ob (fun z => hb (by simp [z])) (fun z => hb (by simp [z])) q)) hf (Nat.le_refl _) new
    refine ⟨.ref s.heap.objs.size, _, I1, rfl, ⟨_, x, rfl, I.hok.fresh (Nat.le_refl _), rfl, fun ys hy => by rw [I.tuple_inj hy hq]; exact hx⟩, ⟨⟨y, ?_⟩, hit'.1.at fun o q => (sb.2 it (Ne.symm hne)).trans q, hne⟩, fun b hb => ?_⟩
    · have e1 : ((i + 1 : Nat) : Int) = (i : Int) + 1 := by omega
      rw [e1]; exact he'
    · have hb' : b < s.heap.objs.size := by
        have e' : b = e ∨ b = it := by simpa using hb
        rcases e' with z | z
        · rw [z]; exact hel
        · rw [z]; exact hil
      rw [upd_ne (Nat.ne_of_lt hb')]
      exact (hf b hb).1
  done := by
    intro X hP hw hK hc i pins s σ H E I hf st hg
    subst hP hw hK
    obtain ⟨⟨old, he⟩, hit, hne⟩ := st
    obtain ⟨xs, hq, hx⟩ := hg
    obtain ⟨its, rv, p, hz⟩ := I.tuple hq
    obtain ⟨f0, f1, f2, f3, f4, f5⟩ := hf it (by simp)
    have hl := rv.length
    exact EO.enumT_end (I.ok.hd hc) he hit p (by simp; omega) fun h' eb => ⟨rfl, I.turned (t' := s.toks) (fun b o hb q => eb b o hb q) f0 f1 f3 f4 f5⟩
  self := fun A i s Q E st h => let ⟨⟨_, he⟩, _⟩ := st; wpAny_pyIter_enum he h
def iEnumT (K : PySem.W.Frag) (ta : TA) : TI := fun σ H R => ta σ H fun vs H1 => ∃ a xs, vs = [.ref a] ∧ SqT K H1 a xs ∧ R (IteT K a) H1
theorem pi_enumT {X : Cx} {e : Expr} {ta : TA} {p pos tpos : Pos} {elts : List Expr} {kk : Nat} (hg : Gl X "enumerate") (hm : X.mg "enumerate" = none) (ha : PA X [e] ta) (hs : starEach [e] X.env = [(false, eval e X.env)] := by rfl) :
    PI X (.Tuple elts kk tpos) (.Call (.Name "enumerate" p) [e] [] pos) (iEnumT X.K ta) := by
  refine ⟨fun pins s σ H R I h => ?_⟩
  refine Call_ (ld_blt I hg hm boot_enumerate (PyProof.Rows.callWith_type1 (thn (ha.run pos pins s σ H _ I h) fun us s1 ⟨vs, H1, I1, r1, q1⟩ => ?_) hs rfl))
  obtain ⟨a, xs, ex, hq, q⟩ := q1
  subst ex
  cases r1 with
  | cons r rr =>
    cases rr
    cases r
    obtain ⟨its, rv, p', hz⟩ := I1.tuple hq
    refine EO.call_enumerate_tuple (by exact p') fun h' he hit hsz hk => wpAny_pyIter_enum he ?_
    have I2 : Inv X pins σ H1 { s1 with heap := h' } := I1.kept (t' := s1.toks) hk
    refine ⟨s1.heap.objs.size + 1, [s1.heap.objs.size + 1, s1.heap.objs.size], _, _, H1, rfl, I2, turn_enumT a (s1.heap.objs.size + 1) s1.heap.objs.size, ⟨⟨.none, he⟩, hit, Nat.succ_ne_self _⟩, fun b hb => ?_, q⟩
    have e' : b = s1.heap.objs.size + 1 ∨ b = s1.heap.objs.size := by simpa using hb
    have hle : s1.heap.objs.size ≤ b := by
      rcases e' with z | z
      · rw [z]; exact Nat.le_add_right _ _
      · rw [z]; exact Nat.le_refl _
    exact I1.fpOk hle (I1.hok.fresh hle)
theorem walk_enumT {K : PySem.W.Frag} {a : Addr} {xs : List V} : Walk (IteT K a) xs.length (fun H => SqT K H a xs) (YPair (fun i => some (.int (i : Nat))) (fun i => xs[i]?)) := by
  refine ⟨fun i _ hi q => ⟨xs, xs[i], q, by simp [hi]⟩, fun _ q => ⟨xs, q, Nat.le_refl _⟩, fun i H v H' _ q y => ?_⟩
  obtain ⟨T, x, h1, h2, h3, h4⟩ := y
  exact ⟨T, .int (i : Nat), x, h1, h2, h3, rfl, h4 xs q⟩
end L2
set_option Elab.async false
set_option maxRecDepth 100000
namespace EO
open PySem PySem.W PySem.Spec PyProof.Rows L2
section
variable {prog : Program} {w : World} {A : Around} {E : Value → Shared → Prop} {s : Shared} {K : Frag} {x C L f : Addr} {h₀ : Heap} {m : Str → Option Value} {ox : Obj} {od : Option Obj} {name : Str} {b tb : Value}
theorem cmp_dec_K {Q : Value → Shared → Prop} (hu : A.units < cLine) (X : K.In s.heap) (I : InstAt s.heap x ox C od) (hb : Looks (model prog w) s.heap (typeOf b) tb) (hn : notFirst K C tb = true)
    (hs : findIn K (.ref C) "__eq__" = some (some (.ref f))) (hf : isFn K (.ref f) = true)
    (h : wpAny (model prog w) A (call (.ref f) [.ref x, b]) (fun v s' => v = .notImplemented ∧ wpAny (model prog w) A (tryCompare b "__eq__" (.ref x)) (fun r s2 => r = none ∧ wpAny (model prog w) A (isSame (.ref x) b) (fun k s3 => Q (.bool k) s3) E s2) E s') E s) :
    wpAny (model prog w) A (richCompare .Eq (.ref x) b) Q E s := by
  have one : wpAny (model prog w) A (tryCompare (.ref x) "__eq__" b) (fun r s' => r = none ∧ wpAny (model prog w) A (tryCompare b "__eq__" (.ref x)) (fun r s2 => r = none ∧ wpAny (model prog w) A (isSame (.ref x) b) (fun k s3 => Q (.bool k) s3) E s2) E s') E s := by
    unfold tryCompare
    refine wpAny_bind (ifBound_K X I hs hf (wpAny_mono h (fun v s' hv => ?_) fun _ _ e => e))
    obtain ⟨rfl, hv⟩ := hv
    exact wpAny_pure ⟨rfl, hv⟩
  unfold richCompare
  simp only [oneThing_ref]
  refine wpAny_holding (wpAny_bind (wpAny_cRoomFor hu ?_))
  refine wpAny_bind (I.type.here (wpAny_bind (hb.here ?_)))
  split
  · rename_i q
    have e : subIn K tb (.ref C) = some false := by
      rcases Bool.or_eq_true_iff.mp hn with e | e
      · rw [beq_iff_eq.mp e] at q; simp at q
      · exact beq_iff_eq.mp e
    refine wpAny_bind ((looks_subIn X e).here ?_)
    simp only [Bool.false_eq_true, if_false]
    refine wpAny_bind (wpAny_mono one (fun r s' z => ?_) fun _ _ e => e)
    obtain ⟨rfl, z⟩ := z
    simp only [Bool.not_false, if_true]
    refine wpAny_bind (wpAny_mono z (fun r s' z => ?_) fun _ _ e => e)
    obtain ⟨rfl, z⟩ := z
    refine wpAny_bind (wpAny_rule ?_)
    exact wpAny_bind (wpAny_mono z (fun k s3 q => wpAny_pure q) fun _ _ e => e)
  · refine wpAny_bind (wpAny_pure ?_)
    simp only [Bool.false_eq_true, if_false]
    refine wpAny_bind (wpAny_mono one (fun r s' z => ?_) fun _ _ e => e)
    obtain ⟨rfl, z⟩ := z
    simp only [Bool.not_false, if_true]
    refine wpAny_bind (wpAny_mono z (fun r s' z => ?_) fun _ _ e => e)
    obtain ⟨rfl, z⟩ := z
    refine wpAny_bind (wpAny_rule ?_)
    exact wpAny_bind (wpAny_mono z (fun k s3 q => wpAny_pure q) fun _ _ e => e)
/-- a special method that is a built-in slot -/
theorem ifBound_B {M : Model} {id : String} {args : List Value} {Q : Option Value → Shared → Prop} (X : K.In s.heap) (I : InstAt s.heap x ox C od) (hs : findIn K (.ref C) name = some (some (.builtin id))) (hb : bindSpecial (.builtin id) (.ref x) = pure (.builtin id, [.ref x]))
    (h : wpAny M A (call (.builtin id) (.ref x :: args)) (fun v => Q (some v)) E s) : wpAny M A (callSpecialIfBound? (.ref x) name args) Q E s := by
  simp only [callSpecialIfBound?, bindSpecialIfBound?, hb]
  refine wpAny_holding (wpAny_bind (wpAny_bind (wpAny_bind (I.type.here ((looks_findIn X hs).here ?_)))))
  refine wpAny_bind (wpAny_askSetting (wpAny_ite ?_))
  have fin : wpAny M A (call (.builtin id) ([.ref x] ++ args) >>= fun v => pure (some v)) Q E s := wpAny_bind (wpAny_mono h (fun v s' h' => wpAny_pure h') fun _ _ h' => h')
  simp only [hb, pure_bind]
  split
  · exact wpAny_pure (by exact fin)
  · exact wpAny_tryCatch (wpAny_pure (by exact fin))
/-- the check of a slot of object's, called of an instance -/
theorem check_obj {M : Model} {id n : String} {rest : List Value} {Q : Unit → Shared → Prop} (hk : builtinKind id = some .slot) (hs : splitId id = some ("object", n)) (ha : argsOk id ⟨.ref x :: rest, []⟩)
    (X : K.In s.heap) (I : InstAt s.heap x ox C od) (hm : mroIn K C (.type "object") = some true) (hq : Q () s) : wpAny M A (checkBuiltinCall id ⟨.ref x :: rest, []⟩) Q E s := by
  simp only [checkBuiltinCall, hk, hs]
  refine wpAny_bind ?_
  unfold isInstance
  refine wpAny_bind (I.type.here ((looks_mroIn X hm).here ?_))
  simp only [Bool.not_true, Bool.false_eq_true, if_false]
  cases hsig : Manifest.signature? id with
  | none => exact wpAny_pure hq
  | some sig =>
    simp only [argsOk, hsig] at ha
    have h2 : Bind.checkArgs id sig ⟨.ref x :: rest, []⟩ = pure () := ha
    show wpAny M A (Bind.checkArgs id sig ⟨.ref x :: rest, []⟩) Q E _
    rw [h2]; exact wpAny_pure hq
/-- a != b by object's own, over an own == that answers True or False -/
theorem ne_K {Q : Value → Shared → Prop} (hu : A.units + 1 < cLine) (X : K.In s.heap) (I : InstAt s.heap x ox C od) (hb : Looks (model prog w) s.heap (typeOf b) tb) (hn : notFirst K C tb = true)
    (hs : findIn K (.ref C) "__eq__" = some (some (.ref f))) (hf : isFn K (.ref f) = true) (hne : findIn K (.ref C) "__ne__" = some (some (.builtin "object.__ne__"))) (hm : mroIn K C (.type "object") = some true)
    (h : wpAny (model prog w) A.in1 (call (.ref f) [.ref x, b]) (fun v s' => ∃ c, v = .bool c ∧ Q (.bool (!c)) s') E s) :
    wpAny (model prog w) A (richCompare .NotEq (.ref x) b) Q E s := by
  have body : wpAny (model prog w) A (call (.builtin "object.__ne__") [.ref x, b]) (fun v s' => ∃ c, v = .bool c ∧ Q (.bool c) s') E s := by
    refine wpAny_call ?_
    refine codeAny_call_builtin F.cmp_object.ne.plain F.cmpEntry_ne ?_
    refine check_obj (id := "object.__ne__") (n := "__ne__") (rest := [b]) (x := x) F.cmpKind_ne F.cmpSplit_ne (F.cmpArgs_ne _ _) X I hm ?_
    have h' : wpAny (model prog w) A.in1 (callSpecialIfBound? (.ref x) (Str.ofString "__eq__") [b]) (fun r s' => ∃ c, r = some (.bool c) ∧ Q (.bool (!c)) s') E s :=
      ifBound_K X I hs hf (wpAny_mono h (fun r s' hr => by obtain ⟨c, rfl, hq⟩ := hr; exact ⟨c, rfl, hq⟩) fun _ _ e => e)
    unfold Builtin.«object.__ne__»
    repeat (first
      | with_reducible refine wpAny_cRoomFor (A := A.in1) hu ?_
      | (refine wpAny_bind (m := callSpecialIfBound? (.ref x) (Str.ofString "__eq__") [b]) (wpAny_mono h' (fun r s' hr => ?_) fun _ _ e => e)
         obtain ⟨c, rfl, hq⟩ := hr)
      | wp_step)
    exact ⟨_, rfl, hq⟩
  have one : wpAny (model prog w) A (tryCompare (.ref x) "__ne__" b) (fun r s' => ∃ v, r = some v ∧ Q v s') E s := by
    unfold tryCompare
    refine wpAny_bind (ifBound_B X I hne (F.cmp_object.ne.bind _) (wpAny_mono body (fun v s' hv => ?_) fun _ _ e => e))
    obtain ⟨c, rfl, hq⟩ := hv
    exact wpAny_pure ⟨_, rfl, hq⟩
  unfold richCompare
  simp only [oneThing_ref]
  refine wpAny_holding (wpAny_bind (wpAny_cRoomFor (Nat.lt_of_succ_lt hu) ?_))
  refine wpAny_bind (I.type.here (wpAny_bind (hb.here ?_)))
  split
  · rename_i q
    have e : subIn K tb (.ref C) = some false := by
      rcases Bool.or_eq_true_iff.mp hn with e | e
      · rw [beq_iff_eq.mp e] at q; simp at q
      · exact beq_iff_eq.mp e
    refine wpAny_bind ((looks_subIn X e).here ?_)
    simp only [Bool.false_eq_true, if_false]
    refine wpAny_bind (wpAny_mono one (fun r s' z => ?_) fun _ _ e => e)
    obtain ⟨v, rfl, hq⟩ := z
    exact wpAny_pure hq
  · refine wpAny_bind (wpAny_pure ?_)
    simp only [Bool.false_eq_true, if_false]
    refine wpAny_bind (wpAny_mono one (fun r s' z => ?_) fun _ _ e => e)
    obtain ⟨v, rfl, hq⟩ := z
    exact wpAny_pure hq
end
end EO

namespace L2
open PySem PySem.Spec PyProof.Rows
/-- two instances of the class at C, compared by the text's own ==, that answers True or False -/
structure OwnE (K : PySem.W.Frag) (C f : Addr) : Prop where
  eq : PySem.W.findIn K (.ref C) "__eq__" = some (some (.ref f))
  fn : PySem.W.isFn K (.ref f) = true
  ne : PySem.W.findIn K (.ref C) "__ne__" = some (some (.builtin "object.__ne__"))
  mo : PySem.W.mroIn K C (.type "object") = some true
def rOwn (C : Addr) (sp : Sp) (g : Bool → Bool) (E : XK) : R2 := fun x y H Q => ∃ a b dx dy fs gs, x = .ref a ∧ y = .ref b ∧ H a = some (.ins C dx fs) ∧ H b = some (.ins C dy gs) ∧
  sp [x, y] H (fun v H' => ∃ c, v = .bl c ∧ Q (.bl (g c)) H') E
section
variable {X : Cx} {n : Nat} {CX : CXT} {C f : Addr} {fd : FuncData} {ps : List Str} {sp : Sp} {E : XK}
theorem own_call {A : Around} {pins : List (Addr × Obj)} {s : Shared} {σ : St} {H : Hp} {vs : List V} {us : List Value} {Q : VK} (F : FnOk X.prog X.w X.K X.mg X.base CX n f fd ps sp) (hb : Binds X.K fd ps []) (hx : Passes CX X E) (hr : Room n A) (hfr : A.frames = X.A.frames)
    (I : Inv X pins σ H s) (r : Vals vs us) (h : sp vs H Q E) : wpAny (model X.prog X.w) A (call (.ref f) us) (fun u s' => ∃ v H', Inv X pins σ H' s' ∧ RelV v u ∧ Q v H') X.xe s := by
  have e0 : Env0 X.prog X.w X.K X.mg X.base A X.stack s H := by
    have e := I.env0
    exact ⟨by rw [hfr]; exact e.frames, e.mod, e.bs, e.bsz, e.funs, e.frf, e.hok, e.bare⟩
  have hl := F.len _ _ _ _ h
  refine wpAny_call (codeAny_mono (F.run A X.stack s H ⟨us, []⟩ us vs _ E hr e0 (by
    have := hb s us I.kIn (by have := r.length; rw [List.append_nil, ← this, hl])
    simpa using this) r h) fun r s' hq => ?_)
  cases r with
  | error e => exact hx pins σ H s e s' I hq
  | ok fl =>
    cases fl with
    | ret w =>
      obtain ⟨z, H', I', rz, q⟩ := I.after hq
      exact ⟨z, H', I', rz, q⟩
    | next => exact False.elim hq
    | brk => exact False.elim hq
    | cont => exact False.elim hq
theorem op_eqOwn (O : OwnE X.K C f) (F : FnOk X.prog X.w X.K X.mg X.base CX n f fd ps sp) (hr : Room n X.A) (hb : Binds X.K fd ps []) (hx : Passes CX X E) : OpR X (compareOp .Eq) (rOwn C sp (fun c => c) E) := by
  intro pins s σ H x y u v Q I rx ry h
  obtain ⟨a, b, dx, dy, fs, gs, rfl, rfl, ha, hb', hs⟩ := h
  cases rx
  cases ry
  obtain ⟨mA, J, _⟩ := ins_get I.hok ha
  obtain ⟨mB, J', _⟩ := ins_get I.hok hb'
  obtain ⟨od, J, _⟩ := J.look
  obtain ⟨od', J', _⟩ := J'.look
  obtain ⟨m, hF⟩ := I.fr
  show wpAny (model X.prog X.w) X.A (richCompare .Eq (.ref a) (.ref b)) (EP X pins σ Q) X.xe s
  refine PySem.W.cmp_K (op := .Eq) (tb := .ref C) hr.units0 hF I.ok.mod.kin J J'.type (by simp [PySem.W.notFirst]) O.eq O.fn ?_
  refine wpAny_mono (own_call (vs := [V.ref a, V.ref b]) F hb hx hr rfl I (.cons rfl (.cons rfl .nil)) hs) (fun u s' q => ?_) fun _ _ e => e
  obtain ⟨z, H', I', rz, c, rfl, q⟩ := q
  cases rz
  exact ⟨.bl c, H', I', rfl, q⟩
theorem op_neOwn (O : OwnE X.K C f) (F : FnOk X.prog X.w X.K X.mg X.base CX n f fd ps sp) (hr : Room (n + 1) X.A) (hb : Binds X.K fd ps []) (hx : Passes CX X E) : OpR X (compareOp .NotEq) (rOwn C sp (fun c => !c) E) := by
  intro pins s σ H x y u v Q I rx ry h
  obtain ⟨a, b, dx, dy, fs, gs, rfl, rfl, ha, hb', hs⟩ := h
  cases rx
  cases ry
  obtain ⟨mA, J, _⟩ := ins_get I.hok ha
  obtain ⟨mB, J', _⟩ := ins_get I.hok hb'
  obtain ⟨od, J, _⟩ := J.look
  obtain ⟨od', J', _⟩ := J'.look
  show wpAny (model X.prog X.w) X.A (richCompare .NotEq (.ref a) (.ref b)) (EP X pins σ Q) X.xe s
  refine EO.ne_K (tb := .ref C) (by have := hr.units; omega) I.kIn J J'.type (by simp [PySem.W.notFirst]) O.eq O.fn O.ne O.mo ?_
  refine wpAny_mono (own_call (vs := [V.ref a, V.ref b]) F hb hx hr.in1 rfl I (.cons rfl (.cons rfl .nil)) hs) (fun u s' q => ?_) fun _ _ e => e
  obtain ⟨z, H', I', rz, c, rfl, q⟩ := q
  cases rz
  exact ⟨c, rfl, ⟨.bl (!c), H', I', rfl, q⟩⟩
/-! a def that begins with «if TEST: return NotImplemented», called where TEST holds -/
structure FnNI (P : Program) (w : World) (K : PySem.W.Frag) (mg : Str → Option Value) (base : Heap) (k : Nat) (f : Addr) (fd : FuncData) (ps : List Str) (pre : List V → Hp → Prop) : Prop where
  len : ∀ vs H, pre vs H → vs.length = ps.length
  run : ∀ (A : Around) (outer : List Env) (s : Shared) (H : Hp) (args : Args) (us : List Value) (vs : List V), Room k A → Env0 P w K mg base A outer s H → BindsTo s fd args (ps.zip us) → Vals vs us → pre vs H →
    codeAny (model P w) A (.call (.ref f) args) (fun r s' => r = .ok (.ret .notImplemented) ∧ CE outer P w H s (fun v H' => v = .non ∧ Same H H') .none s') s
theorem fn_NI {P : Program} {w : World} {K : PySem.W.Frag} {mg : Str → Option Value} {base : Heap} {k : Nat} {f : Addr} {name qual : Str} {params : Arguments} {body rest : List Stmt} {tst : Expr} {p1 p2 p3 : Pos} {scope : Scope} {dV kV doc pm cdv ct oc : Value} {an od : Option Addr}
    {osl : Array (Option Value)} {N ps : List Str} {pre : List V → Hp → Prop} (lk : K.lookup f = some ⟨oc, od, .func (PySem.W.fnOf name qual params body scope dV kV doc pm an cdv ct), osl⟩) (hcd : PySem.W.codeIn K cdv qual = true) (S : FnScope N ps scope)
    (len : ∀ vs H, pre vs H → vs.length = ps.length) (hbd : body = .If tst [.Return (some (.Name "NotImplemented" p1)) p2] [] p3 :: rest)
    (hg : scope.names.lookup ("NotImplemented" : Str) = some .globalImplicit) (hm : mg "NotImplemented" = none) (hv : bootBuiltins "NotImplemented" = some .notImplemented)
    (htest : ∀ (A : Around) (outer : List Env) (s : Shared) (H : Hp) (vs : List V), Room k (A.deeper (envOfC qual scope s.heap.objs.size f cdv)) → pre vs H →
      ∃ t, PT (cxOf CX0 P w K mg base N qual scope f cdv A outer s H E0).nox tst t ∧ t (start N vs) H (fun b H1 => b = true ∧ Same H H1)) :
    FnNI P w K mg base (k + 1) f (PySem.W.fnOf name qual params body scope dV kV doc pm an cdv ct) ps pre := by
  refine ⟨len, fun A outer s H args us vs hr e0 hb r hsp => ?_⟩
  have hl := len _ _ hsp
  have KX : K.In s.heap := e0.mod.kin.keeps fun b o e => (e0.bs b o e).1
  have lim : s.heap.NoLimit := e0.mod.nolimit.keeps fun b o e => (e0.bs b o e).1
  have hkind : ∀ y ∈ ps.zip us, scope.names.lookup y.1 = some .local ∨ (scope.names.lookup y.1 = some .cell ∧ ((cellsFrom (s.heap.objs.size + 1) scope.names []).lookup y.1).isSome = true) := fun ⟨n, v⟩ hy => by
    rcases S.par n (List.of_mem_zip hy).1 with q | q
    · exact .inl q
    · exact .inr ⟨q, PySem.W.cellsFrom_some _ _ _ (.inl q)⟩
  refine codeAny_call_function hr.depth (KX _ _ lk) rfl S.co S.gen rfl (PySem.W.codeRec_of KX hcd) (hb _ _ _ _ ?_)
  refine wpAny_newFunctionEnv_cells S.kind hkind fun env he s1 x => ?_
  subst he
  refine ⟨lim.keeps x.toInCall.keep, codeAny_func ?_⟩
  obtain ⟨t, ht, hq⟩ := htest A outer s H vs (hr.deeper _) hsp
  have I : Inv (cxOf CX0 P w K mg base N qual scope f cdv A outer s H E0) [] (start N vs) H s1 := inv_start S hr.hd e0 hl r x
  subst hbd
  have run : wpAny (model P w) (cxOf CX0 P w K mg base N qual scope f cdv A outer s H E0).A (execs (.If tst [.Return (some (.Name "NotImplemented" p1)) p2] [] p3 :: rest) (cxOf CX0 P w K mg base N qual scope f cdv A outer s H E0).env)
      (fun fl s' => fl = .ret .notImplemented ∧ CE outer P w H s (fun v H' => v = .non ∧ Same H H') .none s') (fun _ _ => False) s1 := by
    refine wpAny_execs_cons (wpAny_mono (wpAny_If (wpAny_mono (ht.run [] s1 (start N vs) H (fun b H1 => b = true ∧ Same H H1) (I.wish _) hq) (fun d s2 q2 => ?_) fun _ _ z => z))
      (fun fl s' (z : fl = .ret .notImplemented ∧ CE outer P w H s (fun v H' => v = .non ∧ Same H H') .none s') => ?_) fun _ _ z => z)
    · obtain ⟨H2, I2, rfl, sm⟩ := q2
      refine wpAny_execs_cons (wpAny_mono (wpAny_Return_some (Q := fun fl s' => fl = .ret .notImplemented ∧ CE outer P w H s (fun v H' => v = .non ∧ Same H H') .none s') (ld_blt I2.unwish hg hm hv ?_)) (fun fl s' z => ?_) fun _ _ z => z)
      · exact ⟨rfl, ⟨.non, H2, I2.os, I2.bare, I2.base, I2.hok, rfl, rfl, sm⟩⟩
      · obtain ⟨rfl, z⟩ := z
        exact ⟨rfl, z⟩
    · obtain ⟨rfl, z⟩ := z
      exact ⟨rfl, z⟩
  exact wpAny_mono run (fun fl s' z => by obtain ⟨rfl, z⟩ := z; exact ⟨rfl, z⟩) fun _ _ z => z.elim
end
end L2
namespace EO
open PySem PySem.W PySem.Spec PyProof.Rows L2
open SeqAt
open AutoSeq1 (wpAny_loadPart')
section
variable {prog : Program} {w : World} {A : Around} {E : Value → Shared → Prop} {s : Shared} {K : Frag} {x C : Addr} {ox : Obj} {od : Option Obj}
theorem int_declines_ins (b : Int) (u : Tok) (l dx : Addr) : Meets (Builtin.«int.__eq__» ⟨[.int b u, .ref l], []⟩) (fun _ R s => s.heap.get? l = some (instObj C dx) ∧ R (.ok (.ret .notImplemented)) s) :=
  .of_wp fun prog w A R s h => by
    obtain ⟨hp, g, d, tk, os⟩ := s; obtain ⟨hl, h⟩ := h
    wp_walk using wpAny_loadPart' hl, wpAny_load hl
    exact ⟨_, rfl, h⟩
theorem list_declines_ins {l : Addr} {items : Array Value} {R : Result → Shared → Prop} (hl : s.heap.IsList l items) (X : K.In s.heap) (I : InstAt s.heap x ox C od) (hm : mroIn K C (.type "list") = some false) (h : R (.ok (.ret .notImplemented)) s) :
    wpAny (model prog w) A.in1 (Builtin.«list.__eq__» ⟨[.ref l, .ref x], []⟩) (fun fin s' => match fin with | .done f => R (.ok f) s' | .again c' => c'.quiet = true ∧ codeAny (model prog w) A c' R s') (fun e s' => R (.error e) s') s := by
  have hx := I.at_
  have hcl := I.cls
  obtain ⟨⟨cls, dd, data, sl⟩, ho, hc, n, hd⟩ := id hl
  simp only at hc hd
  subst hc hd
  obtain ⟨cls2, dd2, data2, sl2⟩ := ox
  simp only at hcl
  subst hcl
  obtain ⟨hp, g, d, tk, os⟩ := s
  wp_walk using wpAny_loadPart' ho, wpAny_loadPart' hx
  refine (looks_mroIn X hm).here ?_
  simp only [Bool.not_false, if_true]
  wp_walk
  exact h
theorem nf {K : Frag} {C : Addr} {T : String} {l : List Value} (h : fastBuiltinMro T = some l) (hc : l.contains (.ref C) = false) : notFirst K C (.type T) = true := by
  unfold notFirst subIn
  simp only [h, Option.map_some, hc]
  simp
theorem mro_None : fastBuiltinMro "NoneType" = some [.type "NoneType", .type "object"] := by decide +kernel
theorem mro_int : fastBuiltinMro "int" = some [.type "int", .type "object"] := by decide +kernel
theorem mro_list : fastBuiltinMro "list" = some [.type "list", .type "object"] := by decide +kernel
end
end EO
namespace L2
open PySem PySem.Spec PyProof.Rows
/-- an instance compared with None, an int, a list: its own == says NotImplemented, the other's too; so False -/
def rNI (C : Addr) (pre : List V → Hp → Prop) : R2 := fun x y H Q => ∃ a dx fs, x = .ref a ∧ H a = some (.ins C dx fs) ∧ pre [x, y] H ∧ (y = .non ∨ (∃ i, y = .int i) ∨ ∃ l xs, y = .ref l ∧ H l = some (.lst xs)) ∧ ∀ H', Same H H' → Q (.bl false) H'
theorem op_eqNI {X : Cx} {n : Nat} {C f : Addr} {fd : FuncData} {ps : List Str} {pre : List V → Hp → Prop} (O : OwnE X.K C f) (ml : PySem.W.mroIn X.K C (.type "list") = some false)
    (G : FnNI X.prog X.w X.K X.mg X.base n f fd ps pre) (hr : Room n X.A) (hb : Binds X.K fd ps []) : OpR X (compareOp .Eq) (rNI C pre) := by
  intro pins s σ H x y u v Q I rx ry h
  obtain ⟨a, dx, fs, rfl, ha, hp, hy, hQ⟩ := h
  cases rx
  obtain ⟨mA, J, _⟩ := ins_get I.hok ha
  obtain ⟨od, J, _⟩ := J.look
  show wpAny (model X.prog X.w) X.A (richCompare .Eq (.ref a) v) (EP X pins σ Q) X.xe s
  have hl := G.len _ _ hp
  have call : ∀ (T : String), PySem.W.Looks (model X.prog X.w) s.heap (typeOf v) (.type T) → PySem.W.notFirst X.K C (.type T) = true →
      (∀ s' H', Inv X pins σ H' s' → Same H H' → wpAny (model X.prog X.w) X.A (tryCompare v "__eq__" (.ref a)) (fun r s2 => r = none ∧ wpAny (model X.prog X.w) X.A (isSame (.ref a) v) (fun k s3 => k = false ∧ Inv X pins σ H' s3) X.xe s2) X.xe s') →
      wpAny (model X.prog X.w) X.A (richCompare .Eq (.ref a) v) (EP X pins σ Q) X.xe s := fun T lk nf tr => by
    refine EO.cmp_dec_K (tb := .type T) hr.units0 I.kIn J lk nf O.eq O.fn ?_
    refine wpAny_call (codeAny_mono (G.run X.A X.stack s H ⟨[.ref a, v], []⟩ [.ref a, v] [.ref a, y] hr I.env0 (by
      have := hb s [.ref a, v] I.kIn (by rw [List.append_nil, ← hl]; rfl)
      simpa using this) (.cons rfl (.cons ry .nil)) hp) fun r s' hq => ?_)
    obtain ⟨rfl, hq⟩ := hq
    obtain ⟨z, H', I', rz, ez, sm⟩ := I.after hq
    refine ⟨rfl, wpAny_mono (tr s' H' I' sm) (fun r s2 q => ⟨q.1, wpAny_mono q.2 (fun k s3 q => ?_) fun _ _ e => e⟩) fun _ _ e => e⟩
    obtain ⟨rfl, I3⟩ := q
    exact ⟨.bl false, H', I3, rfl, hQ H' sm⟩
  have at' : ∀ s' H', Inv X pins σ H' s' → Same H H' → ∃ od, PySem.W.InstAt s'.heap a (PySem.W.instObj C dx) C (some od) := fun s' H' I' sm => by
    obtain ⟨mA, J, _⟩ := ins_get I'.hok (sm _ _ ha)
    obtain ⟨od, J, _⟩ := J.look
    exact ⟨od, J⟩
  rcases hy with rfl | ⟨i, rfl⟩ | ⟨l, xs, rfl, hl'⟩
  · cases ry
    refine call "NoneType" (PySem.W.Looks.of_pure rfl) (EO.nf EO.mro_None (by simp)) fun s' H' I' sm => ?_
    exact wpAny_tryCompare_declines rfl F.slot_NoneType_eq (call_gives F.slot_NoneType_eq rfl F.entry_NoneType_eq (F.args_NoneType_eq_2 _ _) (SeqAt.NoneType___eq___none_ref_0 a)
      ⟨rfl, rfl, wpAny_of_eq (rfl : isSame (.ref a) .none = pure false) ⟨rfl, I'⟩⟩)
  · obtain ⟨t, rfl⟩ := ry
    refine call "int" (PySem.W.Looks.of_pure rfl) (EO.nf EO.mro_int (by simp)) fun s' H' I' sm => ?_
    obtain ⟨od', J'⟩ := at' s' H' I' sm
    exact wpAny_tryCompare_declines (typeIs_int s' i t) F.slot_int_eq (call_meets F.slot_int_eq (typeIs_int s' i t) F.entry_int_eq (F.args_int_eq_2 _ _) (EO.int_declines_ins (C := C) i t a dx)
      ⟨J'.at_, rfl, rfl, wpAny_of_eq (rfl : isSame (.ref a) (.int i t) = pure false) ⟨rfl, I'⟩⟩)
  · cases ry
    obtain ⟨_, its, k, r, e⟩ := I.hok l _ hl'
    refine call "list" ((PySem.W.Looks.ld (part := none) e).andThen .now) (EO.nf EO.mro_list (by simp)) fun s' H' I' sm => ?_
    obtain ⟨od', J'⟩ := at' s' H' I' sm
    obtain ⟨_, its', k', r', e'⟩ := I'.hok l _ (sm _ _ hl')
    have nal : a ≠ l := ne_of ha hl' (by intro z; cases z)
    refine wpAny_tryCompare_declines ⟨_, e', rfl⟩ F.slot_list_eq (GQ.call_here F.slot_list_eq ⟨_, e', rfl⟩ F.entry_list_eq (F.args_list_eq_2 _ _) ?_)
    exact EO.list_declines_ins (R := wants _ _) ⟨_, e', rfl, _, rfl⟩ I'.kIn J' ml ⟨rfl, rfl, SeqAt.wpAny_isSame_ref_other' nal J'.at_ e' (by show Value.type "list" ≠ Value.type "tuple"; decide) ⟨rfl, I'⟩⟩
end L2
set_option Elab.async false
set_option linter.all false
set_option maxRecDepth 100000
namespace K1
open PySem L2
/-- a def of the text, by its name -/
structure Df (K : PySem.W.Frag) (mg : Str → Option Value) (x : Str) (st : Stmt) (ps : List Str) (f : Addr) (fd : FuncData) : Prop where
  F : Fun K x x st f fd
  g : mg x = some (.ref f)
  b : Binds K fd ps []
theorem Kept.seq {K : PySem.W.Frag} {d : Addr} {H H' : Hp} {a : Addr} {xs : List V} (e : Kept d H H') (n : a ≠ d) (h : SqL K H a xs) : SqL K H' a xs := by
  rcases h with (h | ⟨o, h⟩) | h
  · exact .inl (.inl (e _ _ h n))
  · exact .inl (.inr ⟨o, e _ _ h n⟩)
  · exact .inr h
theorem Kept.seqT {K : PySem.W.Frag} {d : Addr} {H H' : Hp} {a : Addr} {xs : List V} (e : Kept d H H') (n : a ≠ d) (h : SqT K H a xs) : SqT K H' a xs := by
  rcases h with (h | ⟨o, h⟩) | h
  · exact .inl (.inl (e _ _ h n))
  · exact .inl (.inr ⟨o, e _ _ h n⟩)
  · exact .inr h
def spPickL (K : PySem.W.Frag) : Sp := fun vs H Q _ => ∃ (d c p : Addr) (n : Nat) (xs : List V), vs = [.ref d, .ref p] ∧ PenAt H d c n ∧ n ≤ 1000000 ∧ p ≠ d ∧ SqL K H p xs ∧ 0 < xs.length ∧ xs.length < 1073741824 ∧
  ∀ (x : V) (H' : Hp), x ∈ xs → PenAt H' d c (n + 1) → Kept d H H' → Q x H'
def spPickS : Sp := fun vs H Q _ => ∃ (d q : Addr) (n : Nat) (z : Str), vs = [.ref d, .str z] ∧ PenAt H d q n ∧ n ≤ 1000000 ∧ 0 < z.length ∧ z.length < 10000 ∧
  ∀ (c : Nat) (H' : Hp), c ∈ z.cps.toList → PenAt H' d q (n + 1) → Kept d H H' → Q (.str ⟨#[c]⟩) H'
section
variable {P : Program} {w : World} {K : PySem.W.Frag} {mg : Str → Option Value} {base : Heap}
theorem scPick : FnScope ["_law_pen_here", "_law_some"] ["_law_pen_here", "_law_some"] (defScope sPick) := ⟨rfl, rfl, rfl, by decide +kernel, rfl, by decide +kernel, by decide +kernel⟩
abbrev pDraw : List Str := ["_law_pen_here", "_law_many"]
abbrev pPick : List Str := ["_law_pen_here", "_law_some"]
theorem ok_pickL {f fD : Addr} {fd fdD : FuncData} (D : Df K mg "_law_pick" sPick pPick f fd) (DD : Df K mg "_law_draw" sDraw pDraw fD fdD) (T : Bt mg) : FnOk P w K mg base CX0 2 f fd pPick (spPickL K) := by
  have GD : FnOk P w K mg base CX0 1 fD fdD pDraw spDraw := ok_draw DD.F T
  refine D.F.ok scPick (fun vs H Q E h => ?_) (fun cdv A outer s H vs Q E hr h => ?_)
  · obtain ⟨d, c, p, n, xs, rfl, _⟩ := h
    rfl
  · obtain ⟨d, c, p, n, xs, rfl, hp, hn, npd, hx, h0, h1, k⟩ := h
    refine ⟨_, pss_one (ps_ret (pe_ix ix_list (pv 1) (pe_call GD hr rfl DD.g DD.F.kp DD.b .nil pass0 (pa_cons (pv 0) (pa_cons (pe_callB call_len (by rfl) T.len PySem.boot_len (pa_cons (pv 1) pa_nil)) pa_nil))) (fun _ _ => rfl))), ?_⟩
    refine ⟨_, rfl, _, rfl, _, rfl, _, xs.length, rfl, .inl ⟨_, hx, rfl⟩, d, c, n, xs.length, rfl, hp, hn, by omega, by omega, fun r H' r0 r1 hp' kp => ?_⟩
    obtain ⟨j, rfl⟩ : ∃ j : Nat, r = (j : Int) := ⟨r.toNat, by omega⟩
    have hj : j < xs.length := by omega
    exact ⟨p, xs, _, xs[j], rfl, rfl, kp.seq npd hx, atI_nat (by simp [hj]), k _ _ (List.getElem_mem _) hp' kp⟩
theorem ok_pickS {f fD : Addr} {fd fdD : FuncData} (D : Df K mg "_law_pick" sPick pPick f fd) (DD : Df K mg "_law_draw" sDraw pDraw fD fdD) (T : Bt mg) : FnOk P w K mg base CX0 2 f fd pPick spPickS := by
  have GD : FnOk P w K mg base CX0 1 fD fdD pDraw spDraw := ok_draw DD.F T
  refine D.F.ok scPick (fun vs H Q E h => ?_) (fun cdv A outer s H vs Q E hr h => ?_)
  · obtain ⟨d, q, n, z, rfl, _⟩ := h
    rfl
  · obtain ⟨d, q, n, z, rfl, hp, hn, h0, h1, k⟩ := h
    have hz : z.length ≤ sizeLine := Nat.le_trans (Nat.le_of_lt h1) (by decide)
    refine ⟨_, pss_one (ps_ret (pe_ix ix_str (pv 1) (pe_call GD hr rfl DD.g DD.F.kp DD.b .nil pass0 (pa_cons (pv 0) (pa_cons (pe_callB call_len (by rfl) T.len PySem.boot_len (pa_cons (pv 1) pa_nil)) pa_nil))) (fun _ _ => rfl))), ?_⟩
    refine ⟨_, rfl, _, rfl, _, rfl, _, z.length, rfl, ⟨hz, rfl⟩, d, q, n, z.length, rfl, hp, hn, by omega, by omega, fun r H' r0 r1 hp' kp => ?_⟩
    obtain ⟨j, rfl⟩ : ∃ j : Nat, r = (j : Int) := ⟨r.toNat, by omega⟩
    have hj : j < z.cps.toList.length := by
      have : z.length = z.cps.toList.length := by simp [Str.length]
      omega
    exact ⟨z, _, z.cps.toList[j], rfl, rfl, hz, atI_nat (by simp [hj]), k _ _ (List.getElem_mem _) hp' kp⟩
end
end K1
set_option Elab.async false
set_option linter.all false
set_option maxRecDepth 100000
set_option maxHeartbeats 2000000
/-! a lambda handed to a def that calls it in a try: what is raised is told of the very slots -/
namespace K1
open PySem PySem.Spec PyProof.Rows L2 LamX
/-- a def whose code object is known -/
structure FunC (K : PySem.W.Frag) (x qual : Str) (st : Stmt) (f : Addr) (fd : FuncData) (c : Addr) : Prop where
  ex : ∃ (oc : Value) (od : Option Addr) (kV doc pm : Value) (an : Option Addr) (ct : Value) (osl : Array (Option Value)),
    fd = PySem.W.fnOf x qual (defArgs st) (defBody st) (defScope st) .none kV doc pm an (.ref c) ct ∧ K.lookup f = some ⟨oc, od, .func fd, osl⟩ ∧ PySem.W.codeIn K (.ref c) qual = true
  kp : PySem.W.keepIn K (.ref f) = true
theorem FunC.toFun {K : PySem.W.Frag} {x qual : Str} {st : Stmt} {f c : Addr} {fd : FuncData} (F : FunC K x qual st f fd c) : L2.Fun K x qual st f fd :=
  let ⟨oc, od, kV, doc, pm, an, ct, osl, e, l, cc⟩ := F.ex
  ⟨⟨oc, od, kV, doc, pm, an, _, ct, osl, e, l, cc⟩, F.kp⟩
section
variable {P : Program} {w : World} {K : PySem.W.Frag} {mg : Str → Option Value} {base : Heap}
theorem FunC.ok {x qual : Str} {st : Stmt} {f c : Addr} {fd : FuncData} {N ps : List Str} {k : Nat} {sp : Sp} (F : FunC K x qual st f fd c) (S : FnScope N ps (defScope st)) (len : ∀ vs H Q E, sp vs H Q E → vs.length = ps.length)
    (body : ∀ (A : Around) (outer : List Env) (s : Shared) (H : Hp) (vs : List V) (Q : VK) (E : XK), Room k (A.deeper (envOfC qual (defScope st) s.heap.objs.size f (.ref c))) → sp vs H Q E →
      ∃ t, PSs (cxOf L2.CX0 P w K mg base N qual (defScope st) f (.ref c) A outer s H E).nox (defBody st) t ∧ t { nx := fun _ H' => Q .non H', rt := Q } (L2.start N vs) H) : FnOk P w K mg base L2.CX0 (k + 1) f fd ps sp := by
  obtain ⟨oc, od, kV, doc, pm, an, ct, osl, rfl, l, cc⟩ := F.ex
  exact fn_of l cc S len fun A outer s H vs Q E hr h => (body A outer s H vs Q E hr h).imp fun t ht => ⟨ht.1.nox, ht.2⟩
end
end K1
namespace LamX
open PySem L2 K1
/-! what is kept when a lambda is made -/
theorem ExtN.tup {H H' : Hp} (e : ExtN H H') {a : Addr} {xs : List V} (h : H a = some (.tup xs)) : H' a = some (.tup xs) := e _ _ h fun ps => by intro z; cases z
theorem ExtN.lst {H H' : Hp} (e : ExtN H H') {a : Addr} {xs : List V} (h : H a = some (.lst xs)) : H' a = some (.lst xs) := e _ _ h fun ps => by intro z; cases z
theorem ExtN.ins {H H' : Hp} (e : ExtN H H') {a C dx : Addr} {fs : List (Str × V)} (h : H a = some (.ins C dx fs)) : H' a = some (.ins C dx fs) := e _ _ h fun ps => by intro z; cases z
theorem ExtN.dk {H H' : Hp} (e : ExtN H H') {a : Addr} {kv : List (Key × V)} (h : H a = some (.dK kv)) : H' a = some (.dK kv) := e _ _ h fun ps => by intro z; cases z
theorem ExtN.seqT {K : PySem.W.Frag} {H H' : Hp} {a : Addr} {xs : List V} (e : ExtN H H') (h : SqT K H a xs) : SqT K H' a xs := by
  rcases h with (h | ⟨o, h⟩) | h
  · exact .inl (.inl (e.tup h))
  · exact .inl (.inr ⟨o, e _ _ h fun ps => by intro z; cases z⟩)
  · exact .inr h
theorem ExtN.seqL {K : PySem.W.Frag} {H H' : Hp} {a : Addr} {xs : List V} (e : ExtN H H') (h : SqL K H a xs) : SqL K H' a xs := by
  rcases h with (h | ⟨o, h⟩) | h
  · exact .inl (.inl (e.lst h))
  · exact .inl (.inr ⟨o, e _ _ h fun ps => by intro z; cases z⟩)
  · exact .inr h
theorem ExtN.pen {H H' : Hp} (e : ExtN H H') {d c : Addr} {n : Nat} (h : PenAt H d c n) : PenAt H' d c n := by
  obtain ⟨ns, a, l, h1, h2, h3⟩ := h
  exact ⟨ns, a, l, e.dk h1, e.lst h2, h3⟩
end LamX
namespace K1
open PySem PySem.Spec PyProof.Rows L2 LamX
/-- all but d and the tables is kept -/
def KeptN (d : Addr) (H H' : Hp) : Prop := ∀ b o, H b = some o → b ≠ d → (∀ ps, o ≠ .tbl ps) → H' b = some o
theorem KeptN.refl (d : Addr) (H : Hp) : KeptN d H H := fun _ _ e _ _ => e
theorem KeptN.trans {d : Addr} {H H1 H2 : Hp} (a : KeptN d H H1) (b : KeptN d H1 H2) : KeptN d H H2 := fun c o e n m => b c o (a c o e n m) n m
theorem KeptN.seqL {K : PySem.W.Frag} {d : Addr} {H H' : Hp} {a : Addr} {xs : List V} (e : KeptN d H H') (n : a ≠ d) (h : SqL K H a xs) : SqL K H' a xs := by
  rcases h with (h | ⟨o, h⟩) | h
  · exact .inl (.inl (e _ _ h n fun ps => by intro z; cases z))
  · exact .inl (.inr ⟨o, e _ _ h n fun ps => by intro z; cases z⟩)
  · exact .inr h
theorem KeptN.seqT {K : PySem.W.Frag} {d : Addr} {H H' : Hp} {a : Addr} {xs : List V} (e : KeptN d H H') (n : a ≠ d) (h : SqT K H a xs) : SqT K H' a xs := by
  rcases h with (h | ⟨o, h⟩) | h
  · exact .inl (.inl (e _ _ h n fun ps => by intro z; cases z))
  · exact .inl (.inr ⟨o, e _ _ h n fun ps => by intro z; cases z⟩)
  · exact .inr h
theorem KeptN.upd {d D : Addr} {H0 H : Hp} {o : HO} (k : KeptN d H0 H) (h : H0 D = none) : KeptN d H0 (upd H D o) := fun b u e nb m => by
  rw [upd_ne (ne_of_none e h)]; exact k b u e nb m
theorem KeptN.tup {d : Addr} {H H' : Hp} {a : Addr} {xs : List V} (e : KeptN d H H') (n : a ≠ d) (h : H a = some (.tup xs)) : H' a = some (.tup xs) := e _ _ h n fun ps => by intro z; cases z
theorem KeptN.lst {d : Addr} {H H' : Hp} {a : Addr} {xs : List V} (e : KeptN d H H') (n : a ≠ d) (h : H a = some (.lst xs)) : H' a = some (.lst xs) := e _ _ h n fun ps => by intro z; cases z
theorem KeptN.ins {d : Addr} {H H' : Hp} {a C dx : Addr} {fs : List (Str × V)} (e : KeptN d H H') (n : a ≠ d) (h : H a = some (.ins C dx fs)) : H' a = some (.ins C dx fs) := e _ _ h n fun ps => by intro z; cases z
theorem Kept.n {d : Addr} {H H' : Hp} (k : Kept d H H') : KeptN d H H' := fun b o e n _ => k b o e n
end K1
namespace LamX
open PySem L2 K1
theorem ExtN.n {d : Addr} {H H' : Hp} (k : ExtN H H') : KeptN d H H' := fun b o e _ m => k b o e m
theorem Tabs.kept {T : List (Addr × Str)} {d : Addr} {kv : List (Key × V)} {H H' : Hp} (t : Tabs T H) (hd : H d = some (.dK kv)) (k : Kept d H H') : Tabs T H' := fun p hp => by
  obtain ⟨ps, h1, h2, h3⟩ := t p hp
  refine ⟨ps, k _ _ h1 (ne_of h1 hd (by intro z; cases z)), h2, fun pos cv hc => ?_⟩
  obtain ⟨c, e1, e2⟩ := h3 pos cv hc
  exact ⟨c, e1, k _ _ e2 (ne_of e2 hd (by unfold CodeO; intro z; cases z))⟩
theorem Tabs.same {T : List (Addr × Str)} {H H' : Hp} (t : Tabs T H) (s : L2.Same H H') : Tabs T H' := t.ext s
theorem Tabs.updL {T : List (Addr × Str)} {H : Hp} {L : Addr} {xs ys : List V} (t : Tabs T H) (h : H L = some (.lst xs)) : Tabs T (upd H L (.lst ys)) := fun p hp => by
  obtain ⟨ps, h1, h2, h3⟩ := t p hp
  refine ⟨ps, by rw [upd_ne (ne_of h1 h (by intro z; cases z))]; exact h1, h2, fun pos cv hc => ?_⟩
  obtain ⟨c, e1, e2⟩ := h3 pos cv hc
  exact ⟨c, e1, by rw [upd_ne (ne_of e2 h (by unfold CodeO; intro z; cases z))]; exact e2⟩
theorem Tabs.pen {T : List (Addr × Str)} {d c : Addr} {n : Nat} {H H' : Hp} (t : Tabs T H) (p : PenAt H d c n) (k : Kept d H H') : Tabs T H' := by
  obtain ⟨ns, x, l, hd, _⟩ := p
  exact t.kept hd k
end LamX
namespace K1
open PySem PySem.Spec PyProof.Rows L2 LamX
section
variable {X : Cx} {pins : List (Addr × Obj)} {σ : L2.St} {H : Hp} {s : Shared}
/-- the call of the handed lambda; what it raises is taken at the slots as they are -/
theorem pe_actS {GX : CXT} {GE : XK} {GN : List Str} {gq : Str} {gs : Scope} {g f c' : Addr} {gcd pm ctv : Value} {params : Arguments} {body : Expr} {scope : Scope} {k i : Nat} {a : Str} {pn : List (Addr × Obj)} {xe : Value → Shared → Prop} {W : WX} {tb : XK → TE} {p1 p2 : Pos}
    (I : Inv X pins σ H s) (L : LamS X.env.scope scope) (hf : s.heap.get? f = some (PySem.W.kla_obj "<lambda>" (X.env.qual ++ "<lambda>") params body scope (cloFrom X.env.cells scope.names []) pm c' ctv)) (hfn : H f = none) (hfr : f ∉ frs X.stack)
    (bind0 : bindArgs (PySem.W.kla_fn "<lambda>" (X.env.qual ++ "<lambda>") params body scope (cloFrom X.env.cells scope.names []) pm (.ref c') ctv) ⟨[], []⟩ = pure [])
    (tk : Takes ((cxOf GX X.prog X.w X.K X.mg X.base GN gq gs g gcd X.A X.stack s H GE).tr pn xe) W) (hr : Room (k + 1) (X.A.deeper (envOfC gq gs s.heap.objs.size g gcd)))
    (inner : ∀ (A : Around) (outer : List Env) (s2 : Shared) (H2 : Hp) (E : XK), Room k (A.deeper (lamEnv X scope s2.heap.objs.size f c')) → PE (lamCx X A outer s2 H2 E scope f c') body (tb E))
    (hN : GN[i]? = some a) (hv : Vis gs a) (hd : (a == ("__debug__" : Str)) = false := by decide) (hcd : (a == ("__classdict__" : Str)) = false := by decide) :
    PE ((cxOf GX X.prog X.w X.K X.mg X.base GN gq gs g gcd X.A X.stack s H GE).tr pn xe) (.Call (.Name a p1) [] [] p2)
      (fun τ G Q => τ[i]? = some (some (.ref f)) ∧ G c' = some (CodeO c' (X.env.qual ++ "<lambda>")) ∧ tb (fun cls dd G' => W cls dd τ G') σ G Q) := by
  constructor
  intro pz sz τ G Q J ⟨at_, co, go⟩
  refine wpAny_Call_Name_kw (thn ((pe_var (pos := p1) (i := i) hN hv hd hcd).run pz sz τ G (fun v G1 => v = .ref f ∧ G1 = G) J ⟨.ref f, at_, rfl, rfl⟩) ?_)
  rintro u s1 ⟨v, G1, J1, rel, rfl, rfl⟩
  cases (show u = Value.ref f from rel)
  have held : s1.heap.get? f = some (PySem.W.kla_obj "<lambda>" (X.env.qual ++ "<lambda>") params body scope (cloFrom X.env.cells scope.names []) pm c' ctv) :=
    J1.base.keep f _ hf hfn hfr fun z => absurd (show f ∈ ([] : List Addr) from z) (by simp)
  refine PySem.W.callWith_F0 ⟨_, _, _, _, held⟩ ?_
  have base : Un (frs X.stack) [] H G1 s.heap s1.heap := J1.base
  obtain ⟨⟨oc, vs, t, k1, k2, k3⟩, -, -⟩ := J1.hok c' _ co
  have ran : codeAny (model X.prog X.w) (X.A.deeper (envOfC gq gs s.heap.objs.size g gcd)) (.call (.ref f) ⟨[], []⟩)
      (CR (L2.CX X.prog X.w) (envOfC gq gs s.heap.objs.size g gcd :: X.stack) X.prog X.w G1 s1 Q (fun cls dd G' => W cls dd τ G')) s1 := by
    refine PySem.W.kla_callFunE hr.depth held rfl L.co L.gen rfl ⟨c', oc, vs, t, rfl, k1, k2, k3⟩ ?_
    rw [bind0]
    refine wpAny_pure (wpAny_newFunctionEnv (fun y hy => (L.own y hy).2) (fun y hy => absurd hy (by simp)) (fun h₁ ns bt => ?_) L.kind)
    have up : ∀ b o, s1.heap.get? b = some o → h₁.get? b = some o := fun b o e =>
      bt.extBut b o (Nat.ne_of_lt (Heap.lt_size e)) (Heap.get?_push_of_some _ e)
    refine ⟨J1.nolimit.fresh _ bt, PySem.W.kla_codeExpr ?_⟩
    have start : Inv (lamCx X (X.A.deeper (envOfC gq gs s.heap.objs.size g gcd)) (envOfC gq gs s.heap.objs.size g gcd :: X.stack) s1 G1 (fun cls dd G' => W cls dd τ G') scope f c') [] σ G1
        { s1 with heap := h₁, toks := s1.toks + ([] : List (Str × Value)).length } := lam_start2 I L J1.env0 hr.hd base ns up
    refine wpAny_mono ((inner _ _ s1 G1 _ (hr.deeper _)).run [] _ _ G1 Q start go) ?_ fun e s' q => q
    rintro v s' ⟨w', G2, J2, rv, q⟩
    exact ⟨w', G2, J2.os, J2.bare, J2.base, J2.hok, rv, q⟩
  refine wpAny_call (codeAny_mono ran fun r s' q => ?_)
  match r, q with
  | .error e, q => exact passAt tk τ pz G1 s1 e s' J1 q
  | .ok (.ret u), q => exact J1.after q
end
/-- what the def g, which calls what it got, makes of the lambda's reading -/
def Gives (X : Cx) (GN : List Str) (x : Str) (gs : Scope) (g : Addr) (gcd : Value) (gb : List Stmt) (a q : Str) (TT : (XK → Hp → VK → Prop) → Hp → VK → Prop) : Prop :=
  ∀ (f c' : Addr) (s : Shared) (H : Hp) (Q : VK) (tl : XK → Hp → VK → Prop),
    (∀ (W : WX) (pn : List (Addr × Obj)) (xe : Value → Shared → Prop) (p1 p2 : Pos), Takes ((cxOf L2.CX0 X.prog X.w X.K X.mg X.base GN x gs g gcd X.A X.stack s H L2.E0).tr pn xe) W →
      PE ((cxOf L2.CX0 X.prog X.w X.K X.mg X.base GN x gs g gcd X.A X.stack s H L2.E0).tr pn xe) (.Call (.Name a p1) [] [] p2) (fun τ G Q => τ[0]? = some (some (.ref f)) ∧ G c' = some (CodeO c' q) ∧ tl (fun cls dd G' => W cls dd τ G') G Q)) →
    H c' = some (CodeO c' q) → TT tl H Q → ∃ t, PSs (cxOf L2.CX0 X.prog X.w X.K X.mg X.base GN x gs g gcd X.A X.stack s H L2.E0).nox gb t ∧ t { nx := fun _ G => Q .non G, rt := Q } (L2.start GN [.ref f]) H
section
variable {X : Cx}
/-- g(lambda: body) -/
theorem pe_lamS {T : List (Addr × Str)} {TT : (XK → Hp → VK → Prop) → Hp → VK → Prop} {x a : Str} {g c P : Addr} {k : Nat} {st : Stmt} {fd : FuncData} {GN : List Str} {params : Arguments} {body : Expr} {scope : Scope} {t : XK → TE} {p lp pos : Pos}
    (D : Df X.K X.mg x st [a] g fd) (S : FnScope GN [a] (defScope st)) (at0 : GN[0]? = some a) (va : Vis (defScope st) a) (gl : Gl X x)
    (gives : ∀ gcd, Gives X GN x (defScope st) g gcd (defBody st) a (X.env.qual ++ "<lambda>") TT) (B : TabB X.base X.mg c P) (code : X.env.code = .ref c) (mem : (P, X.env.qual ++ "<lambda>") ∈ T) (uni : ∀ p ∈ T, p.1 = P → p.2 = X.env.qual ++ "<lambda>")
    (hr : Room (k + 2) X.A) (L : LamS X.env.scope scope) (inner : ∀ (A : Around) (outer : List Env) (s2 : Shared) (H2 : Hp) (E : XK) (f c' : Addr), Room k (A.deeper (lamEnv X scope s2.heap.objs.size f c')) → PE (lamCx X A outer s2 H2 E scope f c') body (t E))
    (d0 : defaultsOf params X.env = ([], []) := by rfl) (bind0 : ∀ (q : Str) (cl : List (Str × Addr)) (pm cv ctv : Value), bindArgs (PySem.W.kla_fn "<lambda>" q params body scope cl pm cv ctv) ⟨[], []⟩ = pure [] := by intros; rfl)
    (hdb : (x == ("__debug__" : Str)) = false := by decide) (hd : (a == ("__debug__" : Str)) = false := by decide) (hcd : (a == ("__classdict__" : Str)) = false := by decide) :
    PE X (.Call (.Name x p) [.Lambda params body scope lp] [] pos) (tLam T TT t) := by
  obtain ⟨oc, od, kV, doc, pm, an, gcd, ct, osl, rfl, lk, cg⟩ := D.F.ex
  constructor
  intro pins s σ H Q I ⟨hT, h⟩
  refine wpAny_Call_Name_kw (ld_glob I gl D.g ?_ hdb)
  refine PySem.W.callWith_K (h₀ := X.base) I.ok.mod.kin D.F.kp ?_ (by rfl) (by rfl)
  show wpAny _ _ (spliced ((false, eval (.Lambda params body scope lp) X.env) :: backTo pos (starEach [] X.env))) _ _ s
  refine Calls.spliced_cons (lam_make2 I B code mem uni hT d0 (L.has I.ok) ?_)
  intro f c' pm' ctv H1 s' I1 eN T1 hf hfn hfr hco
  refine Calls.spliced_nil ⟨I1.kIn, wpAny_call (codeAny_mono ?_ fun r s2 (q : CR L2.CX0 X.stack X.prog X.w H1 s' Q L2.E0 r s2) => ?_)⟩
  · refine run_ofS (N := GN) (ps := [a]) (us := [.ref f]) (vs := [.ref f]) lk cg S hr I1.env0 (D.b s' [.ref f] I1.kIn rfl) (.cons rfl .nil) rfl fun hr' => ?_
    obtain ⟨t', ht', hq'⟩ := gives gcd f c' s' H1 Q (fun E G Q' => t E σ G Q')
      (fun W pn xe p1 p2 tk => pe_actS (i := 0) I1 L hf hfn hfr (bind0 _ _ _ _ _) tk hr' (fun A outer s2 H2 E hr2 => inner A outer s2 H2 E f c' hr2) at0 va hd hcd) hco (h H1 eN T1)
    exact ⟨t', ht'.nox, hq'⟩
  · match r, q with
    | .ok (.ret u), q => exact I1.after q
end
/-- try: a() / except C as e: .. / .. ; return None -/
def TTf (K : PySem.W.Frag) (i : Nat) (l : List (Value × (Addr → Value → Option Addr → TS))) : (XK → Hp → VK → Prop) → Hp → VK → Prop := fun tl H Q =>
  ∀ f : Addr, tl (fun cls dd G => wAsAll K i (fun _ _ _ _ => False) { nx := fun _ G' => Q .non G', rt := Q } l cls dd [some (.ref f), none] G) H fun _ G => Q .non G
theorem fault_gives {X : Cx} {a n x q : Str} {gs : Scope} {g : Addr} {gcd : Value} {h0 : ExceptHandler} {hds : List ExceptHandler} {l : List (Value × (Addr → Value → Option Addr → TS))} {j : Nat} {p1 p2 p3 p4 p5 p6 : Pos} (nd : [a, n].Nodup) (hln : gs.names.lookup n = some .local)
    (hh : ∀ (s : Shared) (H : Hp), AsOk (cxOf L2.CX0 X.prog X.w X.K X.mg X.base [a, n] x gs g gcd X.A X.stack s H L2.E0).nox n (h0 :: hds) l) :
    Gives X [a, n] x gs g gcd [.Try [.Expr (.Call (.Name a p1) [] [] p2) p3] (h0 :: hds) [] [] p4, .Return (some (.Constant .none j p5)) p6] a q (TTf X.K 1 l) := by
  intro f c' s H Q tl act hc h
  refine ⟨_, pss_cons (ps_try_asAll (X := (cxOf L2.CX0 X.prog X.w X.K X.mg X.base [a, n] x gs g gcd X.A X.stack s H L2.E0).nox) (i := 1)
    (tb := fun W D τ G => τ[0]? = some (some (.ref f)) ∧ G c' = some (CodeO c' q) ∧ tl (fun cls dd G' => W cls dd τ G') G fun _ G' => D.nx τ G') rfl rfl nd rfl hln LamX.takes0 (fun W pn xe tk _ => ?_) (hh s H)) (pss_one (ps_ret pe_non)), ?_⟩
  · constructor
    intro pins s' τ G D I go
    exact (pss_one (ps_expr (act W pn xe p1 p2 tk))).run pins s' τ G D I go
  · exact ⟨rfl, hc, h f⟩
end K1
set_option Elab.async false
set_option linter.all false
set_option maxRecDepth 100000
/-! a clause's suite that tells a tag and the error's fields -/
namespace K1
open PySem L2
def Has (gs : List (Str × V)) : List Str → List V → Prop
  | [], [] => True
  | f :: r, v :: vs => gs.lookup f = some v ∧ Has gs r vs
  | _, _ => False
def tFs (i : Nat) (C a : Addr) (cl : Value) (dd : Option Addr) : List Str → TA
  | [] => tNil
  | f :: r => tCons (tXf a cl dd C f (tVar i)) (tFs i C a cl dd r)
/-- return (tag, e.f, ..) -/
def suiteT (i : Nat) (C : Addr) (tag : Str) (fs : List Str) : Addr → Value → Option Addr → TS := fun a cl dd => tRet (tTup (tCons (tC (.str tag)) (tFs i C a cl dd fs)))
theorem tFs_read {i : Nat} {C a d : Addr} {gs : List (Str × V)} {σ : St} {G : Hp} (hσ : σ[i]? = some (some (.ref a))) (hd : G d = some (.xd gs)) : ∀ (fs : List Str) (vs : List V), Has gs fs vs → ∀ {Q : List V → Hp → Prop}, Q vs G → tFs i C a (.ref C) (some d) fs σ G Q
  | [], [], _, _, k => k
  | [], _ :: _, h, _, _ => h.elim
  | _ :: _, [], h, _, _ => h.elim
  | f :: r, v :: vs, h, Q, k => by
    obtain ⟨h1, h2⟩ := h
    exact ⟨_, hσ, rfl, rfl, d, gs, v, rfl, hd, h1, tFs_read hσ hd r vs h2 k⟩
theorem suiteT_read {i : Nat} {C a d : Addr} {tag : Str} {fs : List Str} {vs : List V} {gs : List (Str × V)} {D : Ends} {σ : St} {G : Hp} (hσ : σ[i]? = some (some (.ref a))) (hd : G d = some (.xd gs)) (h : Has gs fs vs) (hl : vs.length ≤ 10)
    (k : ∀ p, G p = none → D.rt (.ref p) (upd G p (.tup (.str tag :: vs)))) : suiteT i C tag fs a (.ref C) (some d) D σ G :=
  tFs_read hσ hd fs vs h ⟨by simp; exact Nat.le_of_lt (small1000 (by omega)), k⟩
end K1
set_option Elab.async false
set_option linter.all false
set_option maxRecDepth 100000
/-! the end of a law whose defs make lambdas: the tables of all defs -/
namespace K1
open PySem PySem.Spec PyProof.Rows L2 LamX
/-- the code object of each def of the text and its table, still empty -/
def OwnTabs (q : Program) (mg : Str → Option Value) (h : Heap) : Prop :=
  ∀ e ∈ recsOf q, ∃ (f : Addr) (o : Obj) (fd : FuncData) (c P : Addr), mg e.name = some (.ref f) ∧ h.get? f = some o ∧ o.data = .func fd ∧ fd.code = .ref c ∧ PySem.W.CodeHd h c P ∧ h.get? P = some { cls := .none, data := .fields #[] }
theorem tab_at {q : Program} {mg : Str → Option Value} {K : PySem.W.Frag} {h : Heap} {x : Str} {f c P : Addr} {oc e : Value} {od dd : Option Addr} {fd : FuncData} {sl s2 : Array (Option Value)} {vs : Array Value} (X : K.In h) (O : OwnTabs q mg h) (hx : ((recsOf q).any fun e => e.name == x) = true)
    (g : mg x = some (.ref f)) (l : K.lookup f = some ⟨oc, od, .func fd, sl⟩) (hc : fd.code = .ref c) (lc : K.lookup c = some ⟨e, dd, .fields vs, s2⟩) (h11 : vs[11]? = some (.ref P)) : PySem.W.CodeHd h c P ∧ h.get? P = some { cls := .none, data := .fields #[] } := by
  obtain ⟨r, hr, er⟩ := List.any_eq_true.mp hx
  obtain ⟨f', o, fd', c', P', a1, a2, a3, a4, a5, a6⟩ := O r hr
  rw [beq_iff_eq.mp er, g] at a1
  cases a1
  rw [X _ _ l] at a2
  cases a2
  cases a3
  rw [hc] at a4
  cases a4
  obtain ⟨o, ws, _, _, _, _, _, _, _, b1, _, b3, b4, _⟩ := id a5
  rw [X _ _ lc] at b1
  cases b1
  cases b3
  rw [h11] at b4
  cases b4
  exact ⟨a5, a6⟩
theorem walk_tabs {l : PySem.W.OpenLaw} {n k : Nat} {q : Program} {loose : List Str} {XP : (Str → Option Value) → Heap → Prop} {YP : World → Heap → Prop} {d : DefRec} {K : Params → PySem.W.Frag} {CX : World → CXT} {x : Str}
    (hn : l.most = some n) (hs : n ≤ sizeLine) (hd : d.params.defaults = []) (hr : Room k callerA) (hY : ∀ (w : World) (h : Heap), YP w h → (K w.params).In h)
    (F : ∀ (w : World) (mg : Str → Option Value) (fa : Addr) (h : Heap), YP w h → (K w.params).In h → h.Ns mainGlobals mg → mg d.name = some (.ref fa) → OwnTabs q mg h → LawAtS l w (K w.params) (CX w) k n x mg fa h)
    (hC : ∀ (w : World) (H : Hp) (s : Shared) (e : Value) (s' : Shared), CX w [] H s (fun _ _ _ => False) e s' → False) :
    PySem.W.WalkO q loose XP YP l.row.toRowW d [] (fun f vs => PySem.call f vs) := by
  refine Att.attach_callB hn hd ?_
  intro w s₀ s₁ mg mb fa o pm cd doc a vs ns G Y ho hdt hcd hmg hobj hints hlen hbits hg
  have tabs : OwnTabs q mg s₁.heap := fun e he => by
    obtain ⟨f, o, fd, c, P, b1, b2, b3, b4, b5, b6⟩ := G.T.tab e he
    exact ⟨f, o, fd, c, P, b1, b2, b3, b4, PySem.W.CodeHd.of b5 b6, b6.2⟩
  obtain ⟨fd, cs, sp, t1, t2, t3, b, s, f⟩ := F w mg fa _ Y (hY w _ Y) G.T.g hmg tabs
  exact law_callTs (hY w _ Y) G.T.g G.T.b G.T.builtins G.T.nolimit hg t1 t2 t3 G.T.bmain hobj hints (Nat.le_trans hlen hs) hr f b (fun H hH hS => s H a ns hlen hbits hH hS) fun H e s' => hC w H s₁ e s'
theorem exm_of {K : PySem.W.Frag} {S N : Addr} {b : Bool} (h1 : PySem.W.subIn K (.ref N) (.type "BaseException") = some true) (h2 : PySem.W.isClsIn K N = true) (h3 : PySem.W.typeIn K (.ref N) = some (.type "type")) (h4 : PySem.W.subIn K (.ref S) (.ref N) = some b) :
    PySem.W.exmOne K (.ref S) (.ref N) = some b := by
  have e1 : (PySem.W.subIn K (.ref N) (.type "BaseException") == some true) = true := by rw [h1] <;> rfl
  have e2 : ((PySem.W.clsIn K N).isSome && PySem.W.typeIn K (.ref N) == some (.type "type")) = true := by
    have h2' : (PySem.W.clsIn K N).isSome = true := h2
    rw [h2', h3] <;> rfl
  show (if (PySem.W.subIn K (.ref N) (.type "BaseException") == some true) = true then (if ((PySem.W.clsIn K N).isSome && PySem.W.typeIn K (.ref N) == some (.type "type")) = true then PySem.W.subIn K (.ref S) (.ref N) else none) else none) = some b
  rw [if_pos e1, if_pos e2]
  exact h4
end K1
set_option Elab.async false
set_option linter.all false
set_option maxRecDepth 100000
namespace K1
open PySem L2
/-! the words -/
abbrev zLE : Str := "abcdefghijklmnopqrstuvwxyz"
abbrev zDG : Str := "0123456789"
def LE : List Nat := zLE.cps.toList
def AL : List Nat := LE ++ zDG.cps.toList
theorem LE_eq : LE = (List.range 26).map (· + 97) := by decide +kernel
def one (c : Nat) : Str := ⟨#[c]⟩
theorem joinL_nil : ∀ l : List (List Nat), TL.joinL [] l = l.flatten
  | [] => rfl
  | [p] => by simp [TL.joinL]
  | p :: q :: r => by rw [TL.joinL, joinL_nil (q :: r)]; simp
theorem join_ones (cs : List Nat) : (Txt.join ("" : Str) (cs.map one)).cps.toList = cs := by
  have e1 : ((cs.map one).map TL.tl).flatten = cs := by
    induction cs with
    | nil => rfl
    | cons c r ih => simp [one, TL.tl] at ih ⊢; exact ih
  have e := TL.tl_join ("" : Str) (cs.map one)
  rw [TL.join_eq]
  have e0 : TL.tl ("" : Str) = [] := by decide +kernel
  rw [e0, joinL_nil, e1] at e
  exact e
theorem sum_ones : ∀ cs : List Nat, ((cs.map one).map (·.length)).sum = cs.length
  | [] => rfl
  | c :: r => by
    have := sum_ones r
    simp only [List.map_cons, List.sum_cons, List.length_cons, this]
    show 1 + r.length = _
    omega
/-- a word as the pen makes it -/
def Wd (z : Str) : Prop := ∃ c r, z.cps.toList = c :: r ∧ c ∈ LE ∧ (∀ x ∈ r, x ∈ AL) ∧ r.length ≤ 6
theorem AL_eq : AL = (zLE ++ zDG).cps.toList := by decide +kernel
def wordAt (zF zB : Str) (a b k : Nat) : Str := zF ++ one (LE.getD ((a + b * k) % 26) 0) ++ zB
theorem tl_wordAt (zF zB : Str) (a b k : Nat) : (wordAt zF zB a b k).cps.toList = zF.cps.toList ++ (LE.getD ((a + b * k) % 26) 0 :: zB.cps.toList) := by
  unfold wordAt
  have e1 := TL.tl_append (zF ++ one (LE.getD ((a + b * k) % 26) 0)) zB
  have e2 := TL.tl_append zF (one (LE.getD ((a + b * k) % 26) 0))
  unfold TL.tl at e1 e2
  rw [e1, e2]
  simp [one]
theorem LE_len : LE.length = 26 := by decide +kernel
theorem LE_getD {i : Nat} (h : i < 26) : LE.getD i 0 = i + 97 := by
  rw [LE_eq]
  simp [h]
theorem LE_mem {i : Nat} (h : i < 26) : LE.getD i 0 ∈ LE := by
  have : i < LE.length := by rw [LE_len]; exact h
  rw [List.getD_eq_getElem?_getD, List.getElem?_eq_getElem this]
  exact List.getElem_mem _
theorem LE_AL {c : Nat} (h : c ∈ LE) : c ∈ AL := List.mem_append_left _ h
theorem wordAt_wd {zF zB : Str} {a b k : Nat} (hF : ∀ c ∈ zF.cps.toList, c ∈ LE) (lF : zF.cps.toList.length ≤ 3) (hB : ∀ c ∈ zB.cps.toList, c ∈ AL) (lB : zB.cps.toList.length ≤ 3) : Wd (wordAt zF zB a b k) := by
  unfold Wd
  rw [tl_wordAt]
  have hm := LE_mem (i := (a + b * k) % 26) (Nat.mod_lt _ (by decide))
  generalize LE.getD ((a + b * k) % 26) 0 = c at hm
  generalize zF.cps.toList = F at hF lF
  generalize zB.cps.toList = B at hB lB
  cases F with
  | nil => exact ⟨c, B, rfl, hm, hB, by omega⟩
  | cons x r =>
    simp only [List.length_cons] at lF
    refine ⟨x, r ++ c :: B, rfl, hF x (List.mem_cons_self ..), fun y hy => ?_, by simp; omega⟩
    rcases List.mem_append.mp hy with h | h
    · exact LE_AL (hF y (List.mem_cons_of_mem _ h))
    · rcases List.mem_cons.mp h with rfl | h
      · exact LE_AL hm
      · exact hB y h
theorem step_inj {a b i j : Nat} (hb : b = 1 ∨ b = 3 ∨ b = 5 ∨ b = 7 ∨ b = 9 ∨ b = 11) (hi : i < 26) (hj : j < 26) (h : (a + b * i) % 26 = (a + b * j) % 26) : i = j := by
  rcases hb with rfl | rfl | rfl | rfl | rfl | rfl <;> omega
theorem wordAt_inj {zF zB : Str} {a b i j : Nat} (hb : b = 1 ∨ b = 3 ∨ b = 5 ∨ b = 7 ∨ b = 9 ∨ b = 11) (hi : i < 26) (hj : j < 26) (h : wordAt zF zB a b i = wordAt zF zB a b j) : i = j := by
  have e := congrArg (fun z : Str => z.cps.toList) h
  simp only [tl_wordAt] at e
  have e2 := List.append_cancel_left e
  injection e2 with e3 _
  rw [LE_getD (Nat.mod_lt _ (by decide)), LE_getD (Nat.mod_lt _ (by decide))] at e3
  exact step_inj (a := a) hb hi hj (by omega)
theorem words_nodup {zF zB : Str} {a b : Nat} (hb : b = 1 ∨ b = 3 ∨ b = 5 ∨ b = 7 ∨ b = 9 ∨ b = 11) : ∀ m, m ≤ 26 → ((List.range m).map (wordAt zF zB a b)).Nodup := fun m hm => by
  rw [List.nodup_iff_pairwise_ne, List.pairwise_map]
  refine List.Pairwise.imp_of_mem ?_ (List.nodup_iff_pairwise_ne.mp List.nodup_range)
  intro i j hi hj hne h
  exact hne (wordAt_inj hb (Nat.lt_of_lt_of_le (List.mem_range.mp hi) hm) (Nat.lt_of_lt_of_le (List.mem_range.mp hj) hm) h)
theorem one_len (c : Nat) : (one c).length = 1 := rfl
theorem len_tl (z : Str) : z.length = z.cps.toList.length := by simp [Str.length]
/-- words: many new words, no two equal -/
def spWords (K : PySem.W.Frag) : Sp := fun vs H Q _ => ∃ (d c : Addr) (n m : Nat), vs = [.ref d, .int (m : Int)] ∧ PenAt H d c n ∧ n ≤ 900000 ∧ m ≤ 26 ∧
  ∀ (p : Addr) (ws : List Str) (H' : Hp), H p = none → H' p = some (.lst (ws.map V.str)) → ws.length = m → ws.Nodup → (∀ z ∈ ws, Wd z) → (∃ k, ∀ z ∈ ws, z.cps.toList.length = k) → PenAt H' d c (n + 20) → Kept d H H' → Q (.ref p) H'
section
variable {P : Program} {w : World} {K : PySem.W.Frag} {mg : Str → Option Value} {base : Heap}
abbrev nWords : List Str := ["_law_pen_here", "_law_many", "_law_letters", "_law_front", "_law_back", "_law_first", "_law_step", "_law_k"]
theorem scWords : FnScope nWords ["_law_pen_here", "_law_many"] (defScope sWords) := ⟨rfl, rfl, rfl, by decide +kernel, rfl, by decide +kernel, by decide +kernel⟩
theorem ok_words {f fD fP : Addr} {fd fdD fdP : FuncData} (D : Df K mg "_law_words" sWords pDraw f fd) (DD : Df K mg "_law_draw" sDraw pDraw fD fdD) (DP : Df K mg "_law_pick" sPick pPick fP fdP) (T : Bt mg) : FnOk P w K mg base CX0 3 f fd pDraw (spWords K) := by
  have GD : FnOk P w K mg base CX0 1 fD fdD pDraw spDraw := ok_draw DD.F T
  have GS : FnOk P w K mg base CX0 2 fP fdP pPick spPickS := ok_pickS DP DD T
  refine D.F.ok scWords (fun vs H Q E h => ?_) (fun cdv A outer s H vs Q E hr h => ?_)
  · obtain ⟨d, c, n, m, rfl, _⟩ := h
    rfl
  · obtain ⟨d, q, n, m, rfl, hp, hn, hm, k⟩ := h
    have hr1 : Room 1 _ := hr.mono (by decide)
    refine ⟨_, pss_cons (ps_set (i := 2) scWords.nd rfl (Or.inr rfl) pe_str)
      (pss_cons (ps_set (i := 3) scWords.nd rfl (Or.inr rfl) (pe_join pe_str (pe_lc (own := [("_law_k", 7)]) (g := gName 7) (by rfl) scWords.nd
        (pi_range1 rfl T.range (pa_cons (pe_call GD hr1 rfl DD.g DD.F.kp DD.b .nil pass0 (pa_cons (pv 0) (pa_cons pe_int pa_nil))) pa_nil))
        (blkOk_by (own := [("_law_k", 7)]) (N := nWords) (sc := defScope sWords) (by decide +kernel)) (fun _ _ _ _ _ => pg_name (i := 7) scWords.nd rfl (Or.inl rfl)) (fun _ _ _ _ _ => pts_nil)
        (fun _ _ _ _ _ => pe_call GS hr rfl DP.g DP.F.kp DP.b .nil pass0 (pa_cons (pv 0) (pa_cons (pv 2) pa_nil))))))
      (pss_cons (ps_set (i := 4) scWords.nd rfl (Or.inr rfl) (pe_join pe_str (pe_lc (own := [("_law_k", 7)]) (g := gName 7) (by rfl) scWords.nd
        (pi_range1 rfl T.range (pa_cons (pe_call GD hr1 rfl DD.g DD.F.kp DD.b .nil pass0 (pa_cons (pv 0) (pa_cons pe_int pa_nil))) pa_nil))
        (blkOk_by (own := [("_law_k", 7)]) (N := nWords) (sc := defScope sWords) (by decide +kernel)) (fun _ _ _ _ _ => pg_name (i := 7) scWords.nd rfl (Or.inl rfl)) (fun _ _ _ _ _ => pts_nil)
        (fun _ _ _ _ _ => pe_call GS hr rfl DP.g DP.F.kp DP.b .nil pass0 (pa_cons (pv 0) (pa_cons (pe_op op_add_str (pv 2) pe_str) pa_nil))))))
      (pss_cons (ps_asg (pe_tup (pa_cons (pe_call GD hr1 rfl DD.g DD.F.kp DD.b .nil pass0 (pa_cons (pv 0) (pa_cons pe_int pa_nil)))
          (pa_cons (pe_ix ix_list (pe_lst (pa_cons pe_int (pa_cons pe_int (pa_cons pe_int (pa_cons pe_int (pa_cons pe_int (pa_cons pe_int pa_nil))))))) (pe_call GD hr1 rfl DD.g DD.F.kp DD.b .nil pass0 (pa_cons (pv 0) (pa_cons pe_int pa_nil))) (fun _ _ => rfl)) pa_nil)))
          (pg_tup (by rfl) (pgs_cons (pg_name (i := 5) scWords.nd rfl (Or.inr rfl)) (pgs_cons (pg_name (i := 6) scWords.nd rfl (Or.inr rfl)) pgs_nil))))
      (pss_one (ps_ret (pe_lc (own := [("_law_k", 7)]) (g := gName 7) (by rfl) scWords.nd
        (pi_range1 rfl T.range (pa_cons (pv 1) pa_nil))
        (blkOk_by (own := [("_law_k", 7)]) (N := nWords) (sc := defScope sWords) (by decide +kernel)) (fun _ _ _ _ _ => pg_name (i := 7) scWords.nd rfl (Or.inl rfl)) (fun _ _ _ _ _ => pts_nil)
        (fun _ _ _ _ _ => pe_op op_add_str (pe_op op_add_str (pv 3) (pe_ix ix_str (pv 2) (pe_op op_modN (pe_callTy call_int1 (by rfl) T.int (by decide +kernel) (pa_cons (pe_op op_add (pv 5) (pe_op op_mul (pv 6) (pv 7))) pa_nil)) pe_int) (fun _ _ => rfl))) (pv 4)))))))), ?_⟩
    -- front
    refine ⟨⟨_, rfl⟩, _, rfl, d, q, n, 4, rfl, hp, by omega, by decide, by decide, fun r H1 r0 r1 hp1 kp1 => ⟨r, rfl, by omega, by omega, fun D1 hD1 => ?_⟩⟩
    obtain ⟨j, rfl⟩ : ∃ j : Nat, r = (j : Int) := ⟨r.toNat, by omega⟩
    rw [Int.toNat_natCast]
    have zD1 : H D1 = none := kp1.free hp1 hD1
    obtain ⟨nDd, nDq⟩ := hp.ne zD1
    refine lc_range (lo := 0) (n := j) (fun i H' => ∃ cs : List Nat, cs.length = i ∧ (∀ c ∈ cs, c ∈ LE) ∧ H' D1 = some (.lst ((cs.map one).map V.str)) ∧ PenAt H' d q (n + 1 + i) ∧ Kept d H H') ?_ ?_ ?_
    · exact ⟨[], rfl, by simp, upd_same, hp1.upd nDd nDq, kp1.upd zD1⟩
    · rintro i H2 hi ⟨cs, hcs, hc, hD, hp2, kp2⟩
      refine ⟨rfl, _, rfl, _, rfl, d, q, _, zLE, rfl, hp2, by omega, by decide +kernel, by decide +kernel, fun c H3 hcm hp3 kp3 => ?_⟩
      have hD3 := kp3 _ _ hD nDd
      refine ⟨_, hD3, ?_, cs ++ [c], by simp [hcs], ?_, ?_, ?_, ?_⟩
      · simp; exact small1000 (by omega)
      · intro x hx
        rcases List.mem_append.mp hx with h | h
        · exact hc x h
        · rw [List.mem_singleton.mp h]; exact hcm
      · rw [upd_same]; simp [one]
      · exact (hp3.upd nDd nDq).mono (by omega)
      · exact (kp2.trans kp3).upd zD1
    · rintro H2 ⟨F, hF, hFm, hD, hp2, kp2⟩
      clear hp1 kp1 hD1
      refine ⟨_, D1, F.map one, rfl, rfl, .inl (SqL.of hD), ?_, ?_⟩
      · rw [sum_ones, List.length_map]
        show F.length + F.length * 0 ≤ 16777216
        omega
      have eF := join_ones F
      generalize Txt.join ("" : Str) (F.map one) = zF at eF ⊢
      -- back
      refine ⟨⟨_, rfl⟩, _, rfl, d, q, _, 4, rfl, hp2, by omega, by decide, by decide, fun r H3 s0 s1 hp3 kp3 => ⟨r, rfl, by omega, by omega, fun D2 hD2 => ?_⟩⟩
      obtain ⟨j', rfl⟩ : ∃ j' : Nat, r = (j' : Int) := ⟨r.toNat, by omega⟩
      rw [Int.toNat_natCast]
      have zD2 : H D2 = none := (kp2.trans kp3).free hp3 hD2
      obtain ⟨mDd, mDq⟩ := hp.ne zD2
      refine lc_range (lo := 0) (n := j') (fun i H' => ∃ cs : List Nat, cs.length = i ∧ (∀ c ∈ cs, c ∈ AL) ∧ H' D2 = some (.lst ((cs.map one).map V.str)) ∧ PenAt H' d q (n + 5 + i) ∧ Kept d H H') ?_ ?_ ?_
      · exact ⟨[], rfl, by simp, upd_same, (hp3.upd mDd mDq).mono (by omega), (kp2.trans kp3).upd zD2⟩
      · rintro i H4 hi ⟨cs, hcs, hc, hD', hp4, kp4⟩
        refine ⟨rfl, _, rfl, _, rfl, _, _, rfl, rfl, by decide +kernel, d, q, _, zLE ++ zDG, rfl, hp4, by omega, by decide +kernel, by decide +kernel, fun c H5 hcm hp5 kp5 => ?_⟩
        have hD5 := kp5 _ _ hD' mDd
        refine ⟨_, hD5, ?_, cs ++ [c], by simp [hcs], ?_, ?_, ?_, ?_⟩
        · simp; exact small1000 (by omega)
        · intro x hx
          rcases List.mem_append.mp hx with h | h
          · exact hc x h
          · rw [List.mem_singleton.mp h, AL_eq]; exact hcm
        · rw [upd_same]; simp [one]
        · exact (hp5.upd mDd mDq).mono (by omega)
        · exact (kp4.trans kp5).upd zD2
      · rintro H4 ⟨B, hB, hBm, hD', hp4, kp4⟩
        clear hp3 kp3 hD2
        refine ⟨_, D2, B.map one, rfl, rfl, .inl (SqL.of hD'), ?_, ?_⟩
        · rw [sum_ones, List.length_map]
          show B.length + B.length * 0 ≤ 16777216
          omega
        have eB := join_ones B
        generalize Txt.join ("" : Str) (B.map one) = zB at eB ⊢
        -- first, step
        refine ⟨_, rfl, d, q, _, 26, rfl, hp4, by omega, by decide, by decide, fun a H5 a0 a1 hp5 kp5 => ?_⟩
        refine ⟨by decide, fun l hl => ?_⟩
        have zl : H l = none := (kp4.trans kp5).free hp5 hl
        obtain ⟨nld, nlq⟩ := hp.ne zl
        refine ⟨_, rfl, d, q, _, 6, rfl, hp5.upd nld nlq, by omega, by decide, by decide, fun b H6 b0 b1 hp6 kp6 => ?_⟩
        obtain ⟨a, rfl⟩ : ∃ j : Nat, a = (j : Int) := ⟨a.toNat, by omega⟩
        obtain ⟨b, rfl⟩ : ∃ j : Nat, b = (j : Int) := ⟨b.toNat, by omega⟩
        have hl6 := kp6 l _ upd_same nld
        obtain ⟨st, hst, hst2⟩ : ∃ st : Nat, ([V.int 1, V.int 3, V.int 5, V.int 7, V.int 9, V.int 11] : List V)[b]? = some (.int (st : Int)) ∧ (st = 1 ∨ st = 3 ∨ st = 5 ∨ st = 7 ∨ st = 9 ∨ st = 11) := by
          have : b < 6 := by omega
          rcases b with _ | _ | _ | _ | _ | _ | b
          · exact ⟨1, rfl, by simp⟩
          · exact ⟨3, rfl, by simp⟩
          · exact ⟨5, rfl, by simp⟩
          · exact ⟨7, rfl, by simp⟩
          · exact ⟨9, rfl, by simp⟩
          · exact ⟨11, rfl, by simp⟩
          · omega
        refine ⟨l, _, _, _, rfl, rfl, SqL.of hl6, atI_nat hst, ?_⟩
        refine ⟨by show 2 ≤ sizeLine; decide, fun t ht => ?_⟩
        refine ⟨t, _, rfl, SqT.of upd_same, rfl, ?_⟩
        have hp7 : PenAt (upd H6 t (.tup [V.int (a : Int), V.int (st : Int)])) d q (n + 20) := (hp6.same (same_upd ht)).mono (by omega)
        have kp7 : Kept d H (upd H6 t (.tup [V.int (a : Int), V.int (st : Int)])) := (((kp4.trans kp5).upd zl).trans kp6).trans (.same (same_upd ht))
        generalize upd H6 t (.tup [V.int (a : Int), V.int (st : Int)]) = H7 at hp7 kp7 ⊢
        refine ⟨_, _, rfl, _, _, rfl, rfl, ?_⟩
        -- the words
        refine ⟨_, rfl, (m : Int), rfl, by omega, by omega, fun D3 hD3 => ?_⟩
        rw [Int.toNat_natCast]
        have zD3 : H D3 = none := kp7.free hp7 hD3
        obtain ⟨oDd, oDq⟩ := hp.ne zD3
        have lzF : zF.length ≤ 3 := by rw [len_tl, eF, hF]; omega
        have lzB : zB.length ≤ 3 := by rw [len_tl, eB, hB]; omega
        refine lc_range (lo := 0) (n := m) (fun i H' => H' D3 = some (.lst (((List.range i).map (wordAt zF zB a st)).map V.str)) ∧ PenAt H' d q (n + 20) ∧ Kept d H H') ?_ ?_ ?_
        · exact ⟨upd_same, hp7.upd oDd oDq, kp7.upd zD3⟩
        · rintro i H8 hi ⟨hD8, hp8, kp8⟩
          have hi26 : i < 26 := by omega
          refine ⟨rfl, _, rfl, _, rfl, _, rfl, _, rfl, _, rfl, _, _, rfl, rfl, .inl ⟨by omega, by omega⟩, _, _, rfl, rfl, .inl ⟨_, rfl, ?_⟩⟩
          refine ⟨_, _, rfl, rfl, by show (26 : Int) ≠ 0; decide, ?_⟩
          have ei : ((a : Int) + (st : Int) * (0 + (i : Int))).fmod 26 = (((a + st * i) % 26 : Nat) : Int) := by
            rw [Int.fmod_eq_emod_of_nonneg _ (by decide)]
            simp
          have hlt : (a + st * i) % 26 < 26 := Nat.mod_lt _ (by decide)
          refine ⟨zLE, _, LE.getD ((a + st * i) % 26) 0, rfl, rfl, by decide +kernel, ?_, _, _, rfl, rfl, ?_, _, rfl, _, _, rfl, rfl, ?_, _, hD8, ?_, ?_, ?_, ?_⟩
          · show atI LE (((a : Int) + (st : Int) * (0 + (i : Int))).fmod 26) = _
            rw [ei]
            refine atI_nat ?_
            show LE[(a + st * i) % 26]? = _
            have : (a + st * i) % 26 < LE.length := by rw [LE_len]; exact hlt
            rw [List.getD_eq_getElem?_getD, List.getElem?_eq_getElem this]
            rfl
          · show zF.length + 1 ≤ sizeLine
            exact Nat.le_trans (by omega : zF.length + 1 ≤ 100) (by decide)
          · have e1 : (zF ++ (⟨#[LE.getD ((a + st * i) % 26) 0]⟩ : Str)).length = zF.length + 1 := by
              rw [len_tl, len_tl]
              have := TL.tl_append zF (⟨#[LE.getD ((a + st * i) % 26) 0]⟩ : Str)
              unfold TL.tl at this
              rw [this]
              simp
            rw [e1]
            exact Nat.le_trans (by omega : zF.length + 1 + zB.length ≤ 100) (by decide)
          · simp; exact small1000 (by omega)
          · rw [upd_same, List.range_succ]
            simp [wordAt, one]
          · exact hp8.upd oDd oDq
          · exact kp8.upd zD3
        · rintro H8 ⟨hD8, hp8, kp8⟩
          refine k D3 _ H8 zD3 hD8 (by simp) (words_nodup hst2 m hm) (fun z hz => ?_) ⟨zF.cps.toList.length + 1 + zB.cps.toList.length, fun z hz => by
            obtain ⟨i, _, rfl⟩ := List.mem_map.mp hz
            rw [tl_wordAt]; simp; omega⟩ hp8 kp8
          obtain ⟨i, _, rfl⟩ := List.mem_map.mp hz
          refine wordAt_wd (fun c hc => hFm c (eF ▸ hc)) (by rw [eF, hF]; omega) (fun c hc => hBm c (eB ▸ hc)) (by rw [eB, hB]; omega)
end
end K1
set_option Elab.async false
set_option linter.all false
set_option maxRecDepth 100000
namespace K1
open PySem L2
abbrev sPlain : Stmt := top 53
def valOf : Stmt → Expr
  | .Assign _ v _ => v
  | .Return (some v) _ => v
  | _ => .Constant .none 0 ⟨0, 0, 0, 0⟩
def compScope : Expr → Scope
  | .ListComp _ _ sc _ => sc
  | _ => { kind := .function, names := [], isGenerator := false, isCoroutine := false }
def eltOf : Expr → Expr
  | .ListComp e _ _ _ => e
  | e => e
def stOf (s : Stmt) (i : Nat) : Stmt := (defBody s).getD i (.Pass ⟨0, 0, 0, 0⟩)
def spPen (K : PySem.W.Frag) : Sp := fun vs H Q _ => ∃ (a : Addr) (ns : List Int), vs = [.ref a] ∧ SqL K H a (ns.map V.int) ∧ ns.length ≤ 63 ∧
  ∀ (d c : Addr) (H' : Hp), H d = none → H c = none → PenAt H' d c 0 → Same H H' → Q (.ref d) H'
abbrev kDeeds : Key := Sum.inr "deeds"
abbrev kRows : Key := Sum.inr "rows"
abbrev kTells : Key := Sum.inr "tells"
abbrev kStart : Key := Sum.inr "start"
def plainK (t r l : Addr) (s : Int) : List (Key × V) := [(kDeeds, .ref t), (kRows, .ref r), (kTells, .ref l), (kStart, .int s)]
/-- lists of ints at the addresses as, row by row -/
def RowsAt (H : Hp) (as : List Addr) (rs : List (List Int)) : Prop := as.length = rs.length ∧ ∀ (i : Nat) (a : Addr) (r : List Int), as[i]? = some a → rs[i]? = some r → H a = some (.lst (r.map V.int))
structure PlainAt (H : Hp) (p : Addr) (ws : List Str) (rs : List (List Int)) (ss : List Str) (st : Int) : Prop where
  ex : ∃ (t r l : Addr) (as : List Addr), H p = some (.dK (plainK t r l st)) ∧ H t = some (.tup (ws.map V.str)) ∧ H r = some (.lst (as.map V.ref)) ∧ H l = some (.lst (ss.map V.str)) ∧ RowsAt H as rs
/-- a machine's parts as they must be -/
structure GoodP (ws : List Str) (rs : List (List Int)) (ss : List Str) (st : Int) (tells : List Str) : Prop where
  many : 1 ≤ rs.length ∧ rs.length ≤ 12
  row : ∀ r ∈ rs, r.length = ws.length ∧ ∀ x ∈ r, 0 ≤ x ∧ x < rs.length
  tl : ss.length = rs.length ∧ ∀ z ∈ ss, z ∈ tells
  st : 0 ≤ st ∧ st < rs.length
def spPlain (K : PySem.W.Frag) : Sp := fun vs H Q _ => ∃ (d c dl tl : Addr) (n : Nat) (m : Int) (ws ts : List Str), vs = [.ref d, .ref dl, .int m, .ref tl] ∧ PenAt H d c n ∧ n ≤ 800000 ∧ SqL K H dl (ws.map V.str) ∧ dl ≠ d ∧ ws.length ≤ 26 ∧
  SqL K H tl (ts.map V.str) ∧ tl ≠ d ∧ 0 < ts.length ∧ ts.length ≤ 10 ∧ 1 ≤ m ∧ m ≤ 12 ∧
  ∀ (p : Addr) (rs : List (List Int)) (ss : List Str) (st : Int) (H' : Hp), H p = none → PlainAt H' p ws rs ss st → GoodP ws rs ss st ts → PenAt H' d c (n + 400) → Kept d H H' → Q (.ref p) H'
theorem plainK_merge (t r l : Addr) (s : Int) : mergeK [] (plainK t r l s) = plainK t r l s := by
  have h1 : ¬ (("deeds" : Str) = "rows") := by decide +kernel
  have h2 : ¬ (("deeds" : Str) = "tells") := by decide +kernel
  have h3 : ¬ (("deeds" : Str) = "start") := by decide +kernel
  have h4 : ¬ (("rows" : Str) = "tells") := by decide +kernel
  have h5 : ¬ (("rows" : Str) = "start") := by decide +kernel
  have h6 : ¬ (("tells" : Str) = "start") := by decide +kernel
  unfold mergeK plainK putK
  simp [h1, h2, h3, h4, h5, h6]
theorem RowsAt.kept {d : Addr} {H H' : Hp} {as : List Addr} {rs : List (List Int)} (h : RowsAt H as rs) (k : Kept d H H') (nd : ∀ a ∈ as, a ≠ d) : RowsAt H' as rs :=
  ⟨h.1, fun i a r e1 e2 => k _ _ (h.2 i a r e1 e2) (nd a (List.mem_of_getElem? e1))⟩
theorem RowsAt.snoc {H : Hp} {as : List Addr} {rs : List (List Int)} {a : Addr} {r : List Int} (h : RowsAt H as rs) (e : H a = some (.lst (r.map V.int))) : RowsAt H (as ++ [a]) (rs ++ [r]) := by
  refine ⟨by simp [h.1], fun i b q e1 e2 => ?_⟩
  by_cases hi : i < as.length
  · rw [List.getElem?_append_left hi] at e1
    rw [List.getElem?_append_left (by rw [← h.1]; exact hi)] at e2
    exact h.2 i b q e1 e2
  · rw [List.getElem?_append_right (by omega)] at e1
    rw [List.getElem?_append_right (by rw [← h.1]; omega), ← h.1] at e2
    cases hj : i - as.length with
    | zero =>
      rw [hj] at e1 e2
      simp at e1 e2
      rw [← e1, ← e2]; exact e
    | succ j => rw [hj] at e1; simp at e1
section
variable {P : Program} {w : World} {K : PySem.W.Frag} {mg : Str → Option Value} {base : Heap}
theorem scPen : FnScope ["_law_script"] ["_law_script"] (defScope sPen) := ⟨rfl, rfl, rfl, by decide +kernel, rfl, by decide +kernel, by decide +kernel⟩
theorem cut63 {xs : List V} (h : xs.length ≤ 63) : cutV xs none (some 63) = xs := by
  have e : HT.sIx xs.length xs.length (some 63) = min 63 xs.length := HT.sIx_nat xs.length xs.length 63
  unfold cutV
  rw [HT.sIx_none, e, Nat.min_eq_right h]
  simp
theorem ok_pen {f : Addr} {fd : FuncData} (D : Df K mg "_law_pen" sPen ["_law_script"] f fd) (T : Bt mg) : FnOk P w K mg base CX0 1 f fd ["_law_script"] (spPen K) := by
  refine D.F.ok scPen (fun vs H Q E h => ?_) (fun cdv A outer s H vs Q E hr h => ?_)
  · obtain ⟨a, ns, rfl, _⟩ := h
    rfl
  · obtain ⟨a, ns, rfl, ha, hl, k⟩ := h
    refine ⟨_, pss_one (ps_ret (pe_disp (pps_cons pe_str (pe_callTy call_list_of (by rfl) T.list (by decide +kernel) (pa_cons (pe_slice sl_list (pv 0) po_none (po_some pe_int)) pa_nil))
      (pps_cons pe_str pe_int (pps_cons pe_str pe_int pps_nil))) (by rfl) (by rfl) (fun z => by cases z) (by decide))), ?_⟩
    intro p hp
    have ha1 := (same_upd (o := .dK []) hp).seq ha
    refine ⟨_, rfl, 63, rfl, a, _, rfl, ha1, fun q hq => ?_⟩
    rw [cut63 (by simpa using hl)]
    refine ⟨q, _, rfl, .inl (SqL.of upd_same), fun c hc => ?_⟩
    have npq : p ≠ q := by intro z; rw [z, upd_same] at hq; cases hq
    have nqp := npq.symm
    have zq : H q = none := by rw [upd_ne nqp] at hq; exact hq
    have npc : p ≠ c := by
      intro z; rw [z] at npq; rw [← z, upd_ne (by rw [z]; exact npq), upd_same] at hc; cases hc
    have nqc : q ≠ c := by intro z; rw [← z, upd_same] at hc; cases hc
    have zc : H c = none := by rw [upd_ne nqc.symm, upd_ne npc.symm] at hc; exact hc
    refine ⟨by rw [upd_ne npc, upd_ne npq, upd_same], penK c 0 0, rfl, by show 3 ≤ 15; decide, ?_⟩
    have em : mergeK [] (penK c 0 0) = penK c 0 0 := by
      have h1 : ¬ (("cells" : Str) = "at") := by decide +kernel
      have h2 : ¬ (("cells" : Str) = "left") := by decide +kernel
      have h3 : ¬ (("at" : Str) = "left") := by decide +kernel
      unfold mergeK penK putK
      simp [h1, h2, h3]
    rw [em]
    refine k p c _ hp zc ⟨ns, 0, 0, upd_same, ?_, hl, by decide, by decide⟩ ?_
    · rw [upd_ne npc.symm, upd_same]
    · intro b o e
      rw [upd_ne (ne_of_none e hp), upd_ne (ne_of_none e zc), upd_ne (ne_of_none e zq), upd_ne (ne_of_none e hp)]
      exact e
abbrev nPlain : List Str := ["_law_pen_here", "_law_deeds", "_law_most", "_law_tells", "_law_many", "_law_rows", "_law_told", "_law_spot", "_law_deed"]
abbrev pPlain : List Str := ["_law_pen_here", "_law_deeds", "_law_most", "_law_tells"]
theorem scPlain : FnScope nPlain pPlain (defScope sPlain) := ⟨rfl, rfl, rfl, by decide +kernel, rfl, by decide +kernel, by decide +kernel⟩
abbrev scO : Scope := compScope (valOf (stOf sPlain 1))
theorem ok_plain {f fD fP : Addr} {fd fdD fdP : FuncData} (D : Df K mg "_law_plain" sPlain pPlain f fd) (DD : Df K mg "_law_draw" sDraw pDraw fD fdD) (DP : Df K mg "_law_pick" sPick pPick fP fdP) (T : Bt mg) : FnOk P w K mg base CX0 3 f fd pPlain (spPlain K) := by
  have GD : FnOk P w K mg base CX0 1 fD fdD pDraw spDraw := ok_draw DD.F T
  have GL : FnOk P w K mg base CX0 2 fP fdP pPick (spPickL K) := ok_pickL DP DD T
  refine D.F.ok scPlain (fun vs H Q E h => ?_) (fun cdv A outer s H vs Q E hr h => ?_)
  · obtain ⟨d, c, dl, tl, n, m, ws, ts, rfl, _⟩ := h
    rfl
  · obtain ⟨d, c, dl, tl, n, m, ws, ts, rfl, hp, hn, hdl, ndl, hws, htl, ntl, ht0, ht1, hm0, hm1, k⟩ := h
    have hr1 : Room 1 _ := hr.mono (by decide)
    have hin : ∀ (s' : Shared) (H' : Hp) (C' : Addr) (cl' : List (Str × Addr)) (fp' : List Addr), PE (Cx.blk (cxOf CX0 P w K mg base nPlain "_law_plain" (defScope sPlain) f cdv A outer s H E).nox s' H' scO (compEnvC scO cl' C' (cxOf CX0 P w K mg base nPlain "_law_plain" (defScope sPlain) f cdv A outer s H E).nox.env) fp')
        (eltOf (valOf (stOf sPlain 1))) (tLc (iList K (tVar 1)) (gName 8) tYes (tCall spDraw [] E0 (tCons (tVar 0) (tCons (tVar 4) tNil))) [8]) := fun s' H' C' cl' fp' =>
      pe_lc (own := [("_law_deed", 8)]) (g := gName 8) (by rfl) scPlain.nd (pi_list (pv 1))
          (blkOk_by (own := [("_law_deed", 8)]) (N := nPlain) (sc := relS scO (defScope sPlain)) (by decide +kernel)) (fun _ _ _ _ _ => pg_name (i := 8) scPlain.nd rfl (Or.inl rfl)) (fun _ _ _ _ _ => pts_nil)
          (fun _ _ _ _ _ => pe_call GD hr1 rfl DD.g DD.F.kp DD.b .nil pass0 (pa_cons (pv 0) (pa_cons (pv 4) pa_nil)))
    refine ⟨_, pss_cons (ps_set (i := 4) scPlain.nd rfl (Or.inr rfl) (pe_op op_add pe_int (pe_call GD hr1 rfl DD.g DD.F.kp DD.b .nil pass0 (pa_cons (pv 0) (pa_cons (pv 2) pa_nil)))))
      (pss_cons (ps_setLc (i := 5) (own := [("_law_spot", 7)]) (g := gName 7) (by rfl) scPlain.nd rfl rfl (sw_true rfl rfl rfl (by decide +kernel))
        (pi_range1 rfl T.range (pa_cons (pv 4) pa_nil))
        (blkOk_by (own := [("_law_spot", 7)]) (N := nPlain) (sc := defScope sPlain) (by decide +kernel)) (fun _ _ _ _ _ => pg_name (i := 7) scPlain.nd rfl (Or.inl rfl)) (fun _ _ _ _ _ => pts_nil)
        hin)
      (pss_cons (ps_setLc (i := 6) (own := [("_law_spot", 7)]) (g := gName 7) (by rfl) scPlain.nd rfl rfl (sw_true rfl rfl rfl (by decide +kernel))
        (pi_range1 rfl T.range (pa_cons (pv 4) pa_nil))
        (blkOk_by (own := [("_law_spot", 7)]) (N := nPlain) (sc := defScope sPlain) (by decide +kernel)) (fun _ _ _ _ _ => pg_name (i := 7) scPlain.nd rfl (Or.inl rfl)) (fun _ _ _ _ _ => pts_nil)
        (fun _ _ _ _ _ => pe_call GL hr rfl DP.g DP.F.kp DP.b .nil pass0 (pa_cons (pv 0) (pa_cons (pv 3) pa_nil))))
      (pss_one (ps_ret (pe_disp (pps_cons pe_str (pe_callTy call_tuple_of (by rfl) T.tuple (by decide +kernel) (pa_cons (pv 1) pa_nil))
        (pps_cons pe_str (pv 5) (pps_cons pe_str (pv 6) (pps_cons pe_str (pe_call GD hr1 rfl DD.g DD.F.kp DD.b .nil pass0 (pa_cons (pv 0) (pa_cons (pv 4) pa_nil))) pps_nil)))) (by rfl) (by rfl) (fun z => by cases z) (by decide)))))), ?_⟩
    refine ⟨_, rfl, _, rfl, d, c, n, m, rfl, hp, by omega, by omega, by omega, fun r H1 r0 r1 hp1 kp1 => ⟨_, _, rfl, rfl, ?_⟩⟩
    obtain ⟨M, eM⟩ : ∃ M : Nat, 1 + r = (M : Int) := ⟨(1 + r).toNat, by omega⟩
    show _
    have hM : 1 ≤ M ∧ M ≤ 12 := by omega
    simp only [eM]
    refine ⟨_, rfl, (M : Int), rfl, by omega, by omega, fun D1 hD1 => ?_⟩
    rw [Int.toNat_natCast]
    have zD1 : H D1 = none := kp1.free hp1 hD1
    obtain ⟨n1d, n1c⟩ := hp.ne zD1
    refine lc_range (lo := 0) (n := M) (fun i H' => ∃ (as : List Addr) (rs : List (List Int)), rs.length = i ∧ H' D1 = some (.lst (as.map V.ref)) ∧ RowsAt H' as rs ∧ (∀ r ∈ rs, r.length = ws.length ∧ ∀ x ∈ r, 0 ≤ x ∧ x < (M : Int)) ∧
      (∀ a ∈ as, H a = none ∧ a ≠ D1) ∧ PenAt H' d c (n + 1 + 27 * i) ∧ Kept d H H') ?_ ?_ ?_
    · exact ⟨[], [], rfl, upd_same, ⟨rfl, fun i a r e => by simp at e⟩, by simp, by simp, hp1.upd n1d n1c, kp1.upd zD1⟩
    · rintro i H2 hi ⟨as, rs, hrs, hD, hR, hrow, has, hp2, kp2⟩
      refine ⟨rfl, _, rfl, dl, rfl, ⟨_, kp2.seq ndl hdl⟩, fun D2 hD2 => ?_⟩
      have zD2 : H D2 = none := kp2.free hp2 hD2
      obtain ⟨n2d, n2c⟩ := hp.ne zD2
      have n12 : D1 ≠ D2 := ne_of_none hD hD2
      refine lc_list (K := K) (a := dl) (xs := ws.map V.str) (fun j H' => ∃ r : List Int, r.length = j ∧ (∀ x ∈ r, 0 ≤ x ∧ x < (M : Int)) ∧ H' D2 = some (.lst (r.map V.int)) ∧ PenAt H' d c (n + 1 + 27 * i + j) ∧ Kept d H2 H' ∧ Kept d H H') ?_ ?_ ?_ ?_
      · exact ⟨[], rfl, by simp, upd_same, hp2.upd n2d n2c, (Kept.refl d H2).upd hD2, kp2.upd zD2⟩
      · rintro j H3 hj ⟨r, _, _, _, _, _, kp3⟩
        exact kp3.seq ndl hdl
      · rintro j x H3 hj ⟨r, hrj, hrb, hD3, hp3, kp3, kq3⟩
        have hj2 : j < ws.length := by
          have := (List.getElem?_eq_some_iff.mp hj).1
          rwa [List.length_map] at this
        refine ⟨rfl, _, rfl, _, rfl, d, c, _, (M : Int), rfl, hp3, by omega, by omega, by omega, fun y H4 y0 y1 hp4 kp4 => ?_⟩
        refine ⟨_, kp4 _ _ hD3 n2d, ?_, r ++ [y], by simp [hrj], ?_, ?_, ?_, ?_, ?_⟩
        · rw [List.length_map]; exact small1000 (by omega)
        · intro z hz
          rcases List.mem_append.mp hz with h | h
          · exact hrb z h
          · rw [List.mem_singleton.mp h]; exact ⟨y0, y1⟩
        · rw [upd_same]; simp
        · exact hp4.upd n2d n2c
        · exact (kp3.trans kp4).upd hD2
        · exact (kq3.trans kp4).upd zD2
      · rintro H3 ⟨r, hrj, hrb, hD3, hp3, kp3, kq3⟩
        rw [List.length_map] at hrj hp3
        have hDD := kp3 _ _ hD n1d
        have hR3 := hR.kept kp3 (fun a ha => (hp.ne (has a ha).1).1)
        refine ⟨_, hDD, ?_, as ++ [D2], rs ++ [r], by simp [hrs], ?_, ?_, ?_, ?_, ?_, ?_⟩
        · rw [List.length_map, hR.1]; exact small1000 (by omega)
        · rw [upd_same]; simp
        · have hq : RowsAt H3 (as ++ [D2]) (rs ++ [r]) := hR3.snoc hD3
          refine ⟨hq.1, fun i a q e1 e2 => ?_⟩
          have hm := List.mem_of_getElem? e1
          have : a ≠ D1 := by
            rcases List.mem_append.mp hm with h | h
            · exact (has a h).2
            · rw [List.mem_singleton.mp h]; exact n12.symm
          rw [upd_ne this]
          exact hq.2 i a q e1 e2
        · intro q hq
          rcases List.mem_append.mp hq with h | h
          · exact hrow q h
          · rw [List.mem_singleton.mp h]; exact ⟨hrj, hrb⟩
        · intro a ha
          rcases List.mem_append.mp ha with h | h
          · exact has a h
          · rw [List.mem_singleton.mp h]; exact ⟨zD2, n12.symm⟩
        · exact (hp3.upd n1d n1c).mono (by omega)
        · exact kq3.upd zD1
    · rintro H5 ⟨as, rs, hrs, hD5, hR5, hrow, has, hp5, kp5⟩
      -- told
      refine ⟨_, rfl, (M : Int), rfl, by omega, by omega, fun D3 hD3 => ?_⟩
      rw [Int.toNat_natCast]
      have zD3 : H D3 = none := kp5.free hp5 hD3
      obtain ⟨n3d, n3c⟩ := hp.ne zD3
      refine lc_range (lo := 0) (n := M) (fun i H' => ∃ ss : List Str, ss.length = i ∧ (∀ z ∈ ss, z ∈ ts) ∧ H' D3 = some (.lst (ss.map V.str)) ∧ PenAt H' d c (n + 340 + i) ∧ Kept d H5 H' ∧ Kept d H H') ?_ ?_ ?_
      · exact ⟨[], rfl, by simp, upd_same, (hp5.upd n3d n3c).mono (by omega), (Kept.refl d H5).upd hD3, kp5.upd zD3⟩
      · rintro i H6 hi ⟨ss, hss, hst, hD6, hp6, kp6, kq6⟩
        refine ⟨rfl, _, rfl, _, rfl, d, c, tl, _, ts.map V.str, rfl, hp6, by omega, ntl, kq6.seq ntl htl, by rw [List.length_map]; exact ht0, by rw [List.length_map]; omega, fun x H7 hx hp7 kp7 => ?_⟩
        obtain ⟨z, hz, rfl⟩ := List.mem_map.mp hx
        refine ⟨_, kp7 _ _ hD6 n3d, ?_, ss ++ [z], by simp [hss], ?_, ?_, ?_, ?_, ?_⟩
        · rw [List.length_map]; exact small1000 (by omega)
        · intro y hy
          rcases List.mem_append.mp hy with h | h
          · exact hst y h
          · rw [List.mem_singleton.mp h]; exact hz
        · rw [upd_same]; simp
        · exact hp7.upd n3d n3c
        · exact (kp6.trans kp7).upd hD3
        · exact (kq6.trans kp7).upd zD3
      · rintro H7 ⟨ss, hss, hst, hD7, hp7, kp7, kq7⟩
        intro p hp'
        have zp : H p = none := kq7.free hp7 hp'
        have kq8 : Kept d H (upd H7 p (.dK [])) := kq7.upd zp
        obtain ⟨npd, npc⟩ := hp.ne zp
        refine ⟨_, rfl, dl, _, rfl, .inl ⟨kq8.seq ndl hdl, fun t ht => ?_⟩⟩
        have zt : H t = none := by
          refine kq8.free (hp7.upd npd npc) ht
        obtain ⟨ntd, ntc⟩ := hp.ne zt
        have npt : p ≠ t := by intro z; rw [← z, upd_same] at ht; cases ht
        refine ⟨_, rfl, _, rfl, _, rfl, _, rfl, d, c, _, (M : Int), rfl, (hp7.upd npd npc).upd ntd ntc, by omega, by omega, by omega, fun st H9 s0 s1 hp9 kp9 => ?_⟩
        have zt7 : H7 t = none := by rw [upd_ne npt.symm] at ht; exact ht
        have sm : Same H7 (upd (upd H7 p (.dK [])) t (.tup (ws.map V.str))) := fun b o e => by
          rw [upd_ne (ne_of_none e zt7), upd_ne (ne_of_none e hp')]; exact e
        have k79 : Kept d H7 H9 := (Kept.same sm).trans kp9
        have hp9' : H9 p = some (.dK []) := kp9 _ _ (by rw [upd_ne npt, upd_same]) npd
        have ht9 : H9 t = some (.tup (ws.map V.str)) := kp9 _ _ upd_same ntd
        have hD79 := k79 _ _ hD7 n3d
        have k59 : Kept d H5 H9 := kp7.trans k79
        have hD59 := k59 _ _ hD5 n1d
        have hR9 := hR5.kept k59 (fun a ha => (hp.ne (has a ha).1).1)
        refine ⟨hp9', plainK t D1 D3 st, rfl, by show 4 ≤ 15; decide, ?_⟩
        rw [plainK_merge]
        have kq9 : Kept d H H9 := kq7.trans k79
        have n1p : D1 ≠ p := ne_of hD59 hp9' (by intro z; cases z)
        have n3p : D3 ≠ p := ne_of hD79 hp9' (by intro z; cases z)
        refine k p rs ss st _ zp ⟨t, D1, D3, as, upd_same, ?_, ?_, ?_, hR9.1, fun i a q e1 e2 => ?_⟩ ⟨by rw [hrs]; exact hM, fun r hr => by rw [hrs]; exact hrow r hr, ⟨by rw [hss, hrs], hst⟩, by rw [hrs]; exact ⟨s0, s1⟩⟩ ((hp9.upd npd npc).mono (by omega)) (kq9.upd zp)
        · rw [upd_ne npt.symm]; exact ht9
        · rw [upd_ne n1p]; exact hD59
        · rw [upd_ne n3p]; exact hD79
        · have := hR9.2 i a q e1 e2
          rw [upd_ne (ne_of this hp9' (by intro z; cases z))]
          exact this
end
end K1
set_option Elab.async false
set_option linter.all false
set_option maxRecDepth 100000
namespace K1
open PySem L2
abbrev sIsInt : Stmt := top 19
abbrev sIsIndex : Stmt := top 20
abbrev sIsWord : Stmt := top 21
abbrev sIsTell : Stmt := top 22
/-- the names of the built-ins, and the constants -/
structure Bt2 (mg : Str → Option Value) : Prop extends Bt mg where
  isinstance : mg "isinstance" = none
  bool : mg "bool" = none
  str : mg "str" = none
  all : mg "all" = none
  enumerate : mg "enumerate" = none
  min : mg "min" = none
  LETTERS : ∃ t, mg "LETTERS" = some (.str zLE t)
  DIGITS : ∃ t, mg "DIGITS" = some (.str zDG t)
  LONGEST_WORD : ∃ t, mg "LONGEST_WORD" = some (.int 12 t)
  LONGEST_TELL : ∃ t, mg "LONGEST_TELL" = some (.int 60 t)
  MOST_DEEDS : ∃ t, mg "MOST_DEEDS" = some (.int 6 t)
  MOST_STATES : ∃ t, mg "MOST_STATES" = some (.int 60 t)
def spIsInt : Sp := fun vs H Q _ => ∃ i : Int, vs = [.int i] ∧ Q (.bl true) H
def spIsIndex : Sp := fun vs H Q _ => ∃ i m : Int, vs = [.int i, .int m] ∧ 0 ≤ i ∧ i < m ∧ Q (.bl true) H
def spIsWord : Sp := fun vs H Q _ => ∃ z : Str, vs = [.str z] ∧ Wd z ∧ ∀ H', Same H H' → Q (.bl true) H'
abbrev zSL : Str := "/"
def TL' : List Nat := AL ++ zSL.cps.toList
def Tl (z : Str) : Prop := 1 ≤ z.cps.toList.length ∧ z.cps.toList.length ≤ 60 ∧ ∀ x ∈ z.cps.toList, x ∈ TL'
def spIsTell : Sp := fun vs H Q _ => ∃ z : Str, vs = [.str z] ∧ Tl z ∧ ∀ H', Same H H' → Q (.bl true) H'
section
variable {P : Program} {w : World} {K : PySem.W.Frag} {mg : Str → Option Value} {base : Heap}
theorem scIsInt : FnScope ["value"] ["value"] (defScope sIsInt) := ⟨rfl, rfl, rfl, by decide +kernel, rfl, by decide +kernel, by decide +kernel⟩
theorem ok_isint {f : Addr} {fd : FuncData} (D : Df K mg "is_integer" sIsInt ["value"] f fd) (T : Bt2 mg) : FnOk P w K mg base CX0 1 f fd ["value"] spIsInt := by
  refine D.F.ok scIsInt (fun vs H Q E h => ?_) (fun cdv A outer s H vs Q E hr h => ?_)
  · obtain ⟨i, rfl, _⟩ := h
    rfl
  · obtain ⟨i, rfl, k⟩ := h
    refine ⟨_, pss_one (ps_ret (pe_and (pe_callB call_isi (by rfl) T.isinstance PyProof.Rows.boot_isinstance (pa_cons (pv 0) (pa_cons (pe_bltn (v := .ty "int") (by rfl) T.int PyProof.Rows.boot_int rfl) pa_nil)))
      (pe_one (pe_not (pe_callB call_isi (by rfl) T.isinstance PyProof.Rows.boot_isinstance (pa_cons (pv 0) (pa_cons (pe_bltn (v := .ty "bool") (by rfl) T.bool PyProof.Rows.boot_bool rfl) pa_nil))))))), ?_⟩
    refine ⟨_, rfl, _, _, _, _, true, rfl, .ty "int", .base (.int i), kit_ty (by decide +kernel), true, rfl, ?_⟩
    refine ⟨_, rfl, _, _, _, _, false, rfl, .ty "bool", .base (.int i), kit_ty (by decide +kernel), false, rfl, k⟩
theorem scIsIndex : FnScope ["value", "many"] ["value", "many"] (defScope sIsIndex) := ⟨rfl, rfl, rfl, by decide +kernel, rfl, by decide +kernel, by decide +kernel⟩
theorem ok_isindex {f fI : Addr} {fd fdI : FuncData} (D : Df K mg "is_index" sIsIndex ["value", "many"] f fd) (DI : Df K mg "is_integer" sIsInt ["value"] fI fdI) (T : Bt2 mg) : FnOk P w K mg base CX0 2 f fd ["value", "many"] spIsIndex := by
  have GI : FnOk P w K mg base CX0 1 fI fdI ["value"] spIsInt := ok_isint DI T
  refine D.F.ok scIsIndex (fun vs H Q E h => ?_) (fun cdv A outer s H vs Q E hr h => ?_)
  · obtain ⟨i, m, rfl, _⟩ := h
    rfl
  · obtain ⟨i, m, rfl, h0, h1, k⟩ := h
    refine ⟨_, pss_one (ps_ret (pe_and (pe_call GI hr rfl DI.g DI.F.kp DI.b .nil pass0 (pa_cons (pv 0) pa_nil)) (pe_one (pe_chain op_le op_lt pe_int (pv 0) (pv 1))))), ?_⟩
    refine ⟨_, rfl, i, rfl, true, rfl, ?_⟩
    refine ⟨_, rfl, _, _, rfl, rfl, _, rfl, ?_⟩
    rw [decide_eq_true h0]
    refine iteT ?_
    refine ⟨_, rfl, _, _, rfl, rfl, ?_⟩
    show Q (V.bl (decide (i < m))) H
    rw [decide_eq_true h1]
    exact k
theorem scIsWord : FnScope ["value", "sign"] ["value"] (defScope sIsWord) := ⟨rfl, rfl, rfl, by decide +kernel, rfl, by decide +kernel, by decide +kernel⟩
theorem ok_isword {f : Addr} {fd : FuncData} (D : Df K mg "is_word" sIsWord ["value"] f fd) (T : Bt2 mg) : FnOk P w K mg base CX0 1 f fd ["value"] spIsWord := by
  refine D.F.ok scIsWord (fun vs H Q E h => ?_) (fun cdv A outer s H vs Q E hr h => ?_)
  · obtain ⟨z, rfl, _⟩ := h
    rfl
  · obtain ⟨z, rfl, hz, k⟩ := h
    obtain ⟨tL, gL⟩ := T.LETTERS
    obtain ⟨tD, gD⟩ := T.DIGITS
    obtain ⟨tW, gW⟩ := T.LONGEST_WORD
    obtain ⟨c, r, ez, hc, hr', hl⟩ := id hz
    refine ⟨_, pss_cons (ps_if (PW.pt (pw_or (pt_not (pt_val (pe_callB call_isi (by rfl) T.isinstance PyProof.Rows.boot_isinstance (pa_cons (pv 0) (pa_cons (pe_bltn (v := .ty "str") (by rfl) T.str PyProof.Rows.boot_str rfl) pa_nil)))))
          (pw_or1 (pt_not (pt_chain op_le op_le pe_int (pe_callB call_len_str (by rfl) T.len PySem.boot_len (pa_cons (pv 0) pa_nil)) (pe_glob (v := .int 12) rfl gW ⟨_, rfl⟩))))))
        pss_never pss_nil)
      (pss_one (ps_ret (pe_and (pe_cmpR op_in_sign (pe_ix ix_str (pv 0) pe_int (fun _ _ => rfl)) (pe_glob (v := .str zLE) rfl gL ⟨_, rfl⟩) rfl)
        (pe_one (pe_callB (cr_all rfl) (by rfl) T.all PyProof.Rows.boot_all (pa_cons (pe_lc (own := [("sign", 1)]) (g := gName 1) (by rfl) scIsWord.nd (pi_str (pv 0))
          (blkOk_by (own := [("sign", 1)]) (N := ["value", "sign"]) (sc := defScope sIsWord) (by decide +kernel)) (fun _ _ _ _ _ => pg_name (i := 1) scIsWord.nd rfl (Or.inl rfl)) (fun _ _ _ _ _ => pts_nil)
          (fun _ _ _ _ _ => pe_cmpR op_in_sign (pv 1) (pe_op op_add_str (pe_glob (v := .str zLE) rfl gL ⟨_, rfl⟩) (pe_glob (v := .str zDG) rfl gD ⟨_, rfl⟩)) rfl)) pa_nil)))))), ?_⟩
    have lz : z.length = r.length + 1 := by rw [len_tl, ez]; rfl
    have hzl : z.length ≤ sizeLine := Nat.le_trans (by omega : z.length ≤ 100) (by decide)
    refine ⟨_, rfl, _, _, _, _, true, rfl, .ty "str", .base (.str z), kit_ty (by decide +kernel), true, rfl, ?_⟩
    refine iteF ?_
    refine ⟨_, rfl, _, rfl, hzl, _, _, rfl, rfl, _, rfl, ?_⟩
    refine ite2 (fun _ => ?_) (fun h => absurd (decide_eq_true (by show (1 : Int) ≤ (z.length : Int); omega)) h)
    refine ⟨_, _, rfl, rfl, _, rfl, ?_⟩
    have e12 : decide ((z.length : Int) ≤ 12) = true := decide_eq_true (by omega)
    show (if (!decide ((z.length : Int) ≤ 12)) = true then _ else _)
    rw [e12]
    refine iteF ?_
    refine ⟨_, rfl, z, _, c, rfl, rfl, hzl, ?_, c, zLE, rfl, rfl, true, ?_, ?_⟩
    · rw [ez]; exact atI_nat (j := 0) rfl
    · rw [decide_eq_true (show c ∈ zLE.cps.toList from hc)]
    refine iteT ?_
    refine ⟨_, rfl, z, rfl, fun D hD => ?_⟩
    have hall : ∀ x ∈ z.cps.toList, x ∈ AL := fun x hx => by
      rw [ez] at hx
      rcases List.mem_cons.mp hx with rfl | h
      · exact LE_AL hc
      · exact hr' x h
    have hsz : z.cps.size = z.cps.toList.length := by simp
    have hsz7 : z.cps.toList.length ≤ 7 := by rw [ez]; simp; exact hl
    refine lc_it (walk_str (z := z)) (fun i H' => Same H H' ∧ H' D = some (.lst ((List.replicate i true).map V.bl))) ?_ ?_ ?_ ?_
    · exact ⟨same_upd hD, upd_same⟩
    · exact fun _ _ _ _ => trivial
    · rintro i x H1 H2 hi ⟨sm, hD1⟩ ⟨rfl, c', hc', rfl⟩
      have hm : c' ∈ z.cps.toList := by
        have : z.cps.toList[i]? = some c' := by simpa using hc'
        exact List.mem_of_getElem? this
      refine ⟨rfl, _, rfl, _, _, rfl, rfl, by decide +kernel, c', zLE ++ zDG, rfl, rfl, _, hD1, ?_, ?_, ?_⟩
      · simp; exact small1000 (by omega)
      · exact fun b o e => by rw [upd_ne (ne_of_none e hD)]; exact sm b o e
      · rw [upd_same, decide_eq_true (show c' ∈ (zLE ++ zDG).cps.toList by rw [← AL_eq]; exact hall c' hm), List.replicate_succ']
        simp
    · rintro H1 ⟨sm, hD1⟩
      refine ⟨D, _, rfl, SqL.of hD1, ?_⟩
      have e : (List.replicate z.cps.size true).all id = true := by simp
      rw [e]
      exact k H1 sm
end
end K1
set_option Elab.async false
set_option linter.all false
set_option maxRecDepth 100000
namespace K1
open PySem L2
abbrev sCheckDiff : Stmt := top 23
abbrev sCheckGroup : Stmt := top 24
abbrev sCheckDeeds : Stmt := top 25
abbrev sCheckRows : Stmt := top 39
abbrev sCheckTells : Stmt := top 40
theorem TL_eq : TL' = (zLE ++ zDG ++ zSL).cps.toList := by decide +kernel
theorem cut_to {xs : List V} {i : Nat} (h : i ≤ xs.length) : cutV xs none (some (i : Int)) = xs.take i := by
  unfold cutV
  rw [HT.sIx_none, HT.sIx_nat, Nat.min_eq_left h]
  simp
theorem inV_str {ws : List Str} {z : Str} (h : z ∉ ws) : inV (.str z) (ws.map V.str) = false := by
  unfold inV
  rw [List.any_map, List.any_eq_false]
  intro y hy
  show ¬ ((y == z) = true)
  intro e
  rw [beq_iff_eq] at e
  exact h (e ▸ hy)
theorem nodup_take {ws : List Str} {i : Nat} {z : Str} (nd : ws.Nodup) (e : ws[i]? = some z) : z ∉ ws.take i := by
  intro hm
  obtain ⟨j, hj, ej⟩ := List.getElem_of_mem hm
  rw [List.getElem_take] at ej
  have hji : j < i := by simp at hj; omega
  have hi : i < ws.length := (List.getElem?_eq_some_iff.mp e).1
  have ei : ws[i] = z := (List.getElem?_eq_some_iff.mp e).2
  exact List.pairwise_iff_getElem.mp nd j i (by omega) hi hji (ej.trans ei.symm)
theorem flat_strs (ws : List Str) : (ws.map V.str).all flatV = true := by simp [flatV]
/-- a list or a tuple of words -/
def Sq (K : PySem.W.Frag) (H : Hp) (a : Addr) (xs : List V) : Prop := SqL K H a xs ∨ SqT K H a xs
theorem Sq.same {K : PySem.W.Frag} {H H' : Hp} {a : Addr} {xs : List V} (h : Sq K H a xs) (s : Same H H') : Sq K H' a xs := by
  rcases h with h | h
  · exact .inl (s.seq h)
  · exact .inr (h.ext s)
structure GoodD (ws : List Str) : Prop where
  nd : ws.Nodup
  wd : ∀ z ∈ ws, Wd z
  len : 1 ≤ ws.length ∧ ws.length ≤ 6
def spDeeds (K : PySem.W.Frag) : Sp := fun vs H Q _ => ∃ (a : Addr) (ws : List Str), vs = [.ref a] ∧ Sq K H a (ws.map V.str) ∧ GoodD ws ∧ ∀ H', Same H H' → Q .non H'
section
variable {P : Program} {w : World} {K : PySem.W.Frag} {mg : Str → Option Value} {base : Heap}
theorem scIsTell : FnScope ["value", "sign"] ["value"] (defScope sIsTell) := ⟨rfl, rfl, rfl, by decide +kernel, rfl, by decide +kernel, by decide +kernel⟩
theorem ok_istell {f : Addr} {fd : FuncData} (D : Df K mg "is_tell" sIsTell ["value"] f fd) (T : Bt2 mg) : FnOk P w K mg base CX0 1 f fd ["value"] spIsTell := by
  refine D.F.ok scIsTell (fun vs H Q E h => ?_) (fun cdv A outer s H vs Q E hr h => ?_)
  · obtain ⟨z, rfl, _⟩ := h
    rfl
  · obtain ⟨z, rfl, ⟨hz0, hz1, hall⟩, k⟩ := h
    obtain ⟨tL, gL⟩ := T.LETTERS
    obtain ⟨tD, gD⟩ := T.DIGITS
    obtain ⟨tW, gW⟩ := T.LONGEST_TELL
    refine ⟨_, pss_cons (ps_if (PW.pt (pw_or (pt_not (pt_val (pe_callB call_isi (by rfl) T.isinstance PyProof.Rows.boot_isinstance (pa_cons (pv 0) (pa_cons (pe_bltn (v := .ty "str") (by rfl) T.str PyProof.Rows.boot_str rfl) pa_nil)))))
          (pw_or1 (pt_not (pt_chain op_le op_le pe_int (pe_callB call_len_str (by rfl) T.len PySem.boot_len (pa_cons (pv 0) pa_nil)) (pe_glob (v := .int 60) rfl gW ⟨_, rfl⟩))))))
        pss_never pss_nil)
      (pss_one (ps_ret (pe_callB (cr_all rfl) (by rfl) T.all PyProof.Rows.boot_all (pa_cons (pe_lc (own := [("sign", 1)]) (g := gName 1) (by rfl) scIsTell.nd (pi_str (pv 0))
          (blkOk_by (own := [("sign", 1)]) (N := ["value", "sign"]) (sc := defScope sIsTell) (by decide +kernel)) (fun _ _ _ _ _ => pg_name (i := 1) scIsTell.nd rfl (Or.inl rfl)) (fun _ _ _ _ _ => pts_nil)
          (fun _ _ _ _ _ => pe_cmpR op_in_sign (pv 1) (pe_op op_add_str (pe_op op_add_str (pe_glob (v := .str zLE) rfl gL ⟨_, rfl⟩) (pe_glob (v := .str zDG) rfl gD ⟨_, rfl⟩)) pe_str) rfl)) pa_nil)))), ?_⟩
    have lz : z.length = z.cps.toList.length := len_tl z
    have hzl : z.length ≤ sizeLine := Nat.le_trans (by omega : z.length ≤ 100) (by decide)
    refine ⟨_, rfl, _, _, _, _, true, rfl, .ty "str", .base (.str z), kit_ty (by decide +kernel), true, rfl, ?_⟩
    refine iteF ?_
    refine ⟨_, rfl, _, rfl, hzl, _, _, rfl, rfl, _, rfl, ?_⟩
    refine ite2 (fun _ => ?_) (fun h => absurd (decide_eq_true (by show (1 : Int) ≤ (z.length : Int); omega)) h)
    refine ⟨_, _, rfl, rfl, _, rfl, ?_⟩
    have e12 : decide ((z.length : Int) ≤ 60) = true := decide_eq_true (by omega)
    show (if (!decide ((z.length : Int) ≤ 60)) = true then _ else _)
    rw [e12]
    refine iteF ?_
    refine ⟨_, rfl, z, rfl, fun D hD => ?_⟩
    have hsz : z.cps.size = z.cps.toList.length := by simp
    refine lc_it (walk_str (z := z)) (fun i H' => Same H H' ∧ H' D = some (.lst ((List.replicate i true).map V.bl))) ?_ ?_ ?_ ?_
    · exact ⟨same_upd hD, upd_same⟩
    · exact fun _ _ _ _ => trivial
    · rintro i x H1 H2 hi ⟨sm, hD1⟩ ⟨rfl, c', hc', rfl⟩
      have hm : c' ∈ z.cps.toList := by
        have : z.cps.toList[i]? = some c' := by simpa using hc'
        exact List.mem_of_getElem? this
      refine ⟨rfl, _, rfl, _, _, rfl, rfl, by decide +kernel, _, _, rfl, rfl, by decide +kernel, c', zLE ++ zDG ++ zSL, rfl, rfl, _, hD1, ?_, ?_, ?_⟩
      · simp; exact small1000 (by omega)
      · exact fun b o e => by rw [upd_ne (ne_of_none e hD)]; exact sm b o e
      · rw [upd_same, decide_eq_true (show c' ∈ (zLE ++ zDG ++ zSL).cps.toList by rw [← TL_eq]; exact hall c' hm), List.replicate_succ']
        simp
    · rintro H1 ⟨sm, hD1⟩
      refine ⟨D, _, rfl, SqL.of hD1, ?_⟩
      have e : (List.replicate z.cps.size true).all id = true := by simp
      rw [e]
      exact k H1 sm
theorem scDiff : FnScope ["deeds", "index", "deed"] ["deeds"] (defScope sCheckDiff) := ⟨rfl, rfl, rfl, by decide +kernel, rfl, by decide +kernel, by decide +kernel⟩
theorem ok_diff {f fW : Addr} {fd fdW : FuncData} (D : Df K mg "check_different" sCheckDiff ["deeds"] f fd) (DW : Df K mg "is_word" sIsWord ["value"] fW fdW) (T : Bt2 mg) : FnOk P w K mg base CX0 2 f fd ["deeds"] (spDeeds K) := by
  have GW : FnOk P w K mg base CX0 1 fW fdW ["value"] spIsWord := ok_isword DW T
  refine D.F.ok scDiff (fun vs H Q E h => ?_) (fun cdv A outer s H vs Q E hr h => ?_)
  · obtain ⟨a, ws, rfl, _⟩ := h
    rfl
  · obtain ⟨a, ws, rfl, ha, gd, k⟩ := h
    have hle : ws.length ≤ 6 := gd.len.2
    rcases ha with ha | ha
    · refine ⟨_, pss_one (ps_for PassesOwn.never rfl (pi_enum (by rfl) T.enumerate (pa_cons (pv 0) pa_nil)) (pg_tup (by rfl) (pgs_cons (pg_name (i := 1) scDiff.nd rfl (Or.inl rfl)) (pgs_cons (pg_name (i := 2) scDiff.nd rfl (Or.inl rfl)) pgs_nil)))
          (pss_one (ps_if (PW.pt (pw_or (pt_not (pt_val (pe_call GW hr rfl DW.g DW.F.kp DW.b .nil pass0 (pa_cons (pv 2) pa_nil)))) (pw_or1 (pt_cmpR op_in_seq (pv 2) (pe_slice sl_list (pv 0) po_none (po_some (pv 1))) (by rfl))))) pss_never pss_nil))), ?_⟩
      refine ⟨_, rfl, a, _, rfl, ha, for_it (walk_enum (K := K) (a := a) (xs := ws.map V.str)) (fun i σ H' => Same H H' ∧ ∃ v1 v2, σ = [some (.ref a), v1, v2]) ⟨Same.refl H, none, none, rfl⟩ (fun i σ H' _ p => p.1.seq ha) ?_ ?_⟩
      · rintro i x σ H1 H2 hi ⟨sm, v1, v2, rfl⟩ ⟨t, x1, x2, rfl, ht, rfl, e1, e2⟩
        cases e1
        replace e2 : (ws.map V.str)[i]? = some x2 := e2
        rw [List.getElem?_map] at e2
        obtain ⟨z, hz, rfl⟩ := Option.map_eq_some_iff.mp e2
        have hzm := List.mem_of_getElem? hz
        have hil : i < ws.length := (List.getElem?_eq_some_iff.mp hz).1
        have sm2 := sm.trans (same_upd (o := .tup [V.int (i : Nat), V.str z]) ht)
        refine ⟨t, _, rfl, SqT.of upd_same, rfl, _, _, rfl, _, _, rfl, rfl, ?_⟩
        refine ⟨_, rfl, z, rfl, gd.wd z hzm, fun H3 sm3 => ⟨true, rfl, ?_⟩⟩
        refine iteF ?_
        have sm4 := sm2.trans sm3
        refine ⟨_, rfl, _, rfl, _, rfl, (i : Int), rfl, a, _, rfl, sm4.seq ha, fun q hq => ?_⟩
        rw [cut_to (by rw [List.length_map]; omega), ← List.map_take]
        refine ⟨q, _, rfl, .inl (SqL.of upd_same), rfl, flat_strs _, false, ?_, ?_⟩
        · show V.bl (if false = true then _ else inV (V.str z) ((ws.take i).map V.str)) = V.bl false
          rw [inV_str (nodup_take gd.nd hz)]
          rfl
        · refine iteF ?_
          exact ⟨sm4.trans (same_upd hq), _, _, rfl⟩
      · rintro σ H1 ⟨sm, v1, v2, rfl⟩
        exact k H1 sm
    · refine ⟨_, pss_one (ps_for PassesOwn.never rfl (pi_enumT (by rfl) T.enumerate (pa_cons (pv 0) pa_nil)) (pg_tup (by rfl) (pgs_cons (pg_name (i := 1) scDiff.nd rfl (Or.inl rfl)) (pgs_cons (pg_name (i := 2) scDiff.nd rfl (Or.inl rfl)) pgs_nil)))
          (pss_one (ps_if (PW.pt (pw_or (pt_not (pt_val (pe_call GW hr rfl DW.g DW.F.kp DW.b .nil pass0 (pa_cons (pv 2) pa_nil)))) (pw_or1 (pt_cmpR op_in_seq (pv 2) (pe_slice sl_tupA (pv 0) po_none (po_some (pv 1))) (by rfl))))) pss_never pss_nil))), ?_⟩
      refine ⟨_, rfl, a, _, rfl, ha, for_it (walk_enumT (K := K) (a := a) (xs := ws.map V.str)) (fun i σ H' => Same H H' ∧ ∃ v1 v2, σ = [some (.ref a), v1, v2]) ⟨Same.refl H, none, none, rfl⟩ (fun i σ H' _ p => ha.ext p.1) ?_ ?_⟩
      · rintro i x σ H1 H2 hi ⟨sm, v1, v2, rfl⟩ ⟨t, x1, x2, rfl, ht, rfl, e1, e2⟩
        cases e1
        replace e2 : (ws.map V.str)[i]? = some x2 := e2
        rw [List.getElem?_map] at e2
        obtain ⟨z, hz, rfl⟩ := Option.map_eq_some_iff.mp e2
        have hzm := List.mem_of_getElem? hz
        have hil : i < ws.length := (List.getElem?_eq_some_iff.mp hz).1
        have sm2 := sm.trans (same_upd (o := .tup [V.int (i : Nat), V.str z]) ht)
        refine ⟨t, _, rfl, SqT.of upd_same, rfl, _, _, rfl, _, _, rfl, rfl, ?_⟩
        refine ⟨_, rfl, z, rfl, gd.wd z hzm, fun H3 sm3 => ⟨true, rfl, ?_⟩⟩
        refine iteF ?_
        have sm4 := sm2.trans sm3
        have eh : HT.sIx (ws.map V.str).length (ws.map V.str).length (some (i : Int)) = i := by rw [HT.sIx_nat, List.length_map]; omega
        refine ⟨_, rfl, _, rfl, _, rfl, (i : Int), rfl, a, _, rfl, ha.ext sm4, fun h => absurd h.2 (by rw [eh, List.length_map]; omega), fun _ q hq => ?_⟩
        rw [cut_to (by rw [List.length_map]; omega), ← List.map_take]
        refine ⟨q, _, rfl, .inr (SqT.of upd_same), rfl, flat_strs _, false, ?_, ?_⟩
        · show V.bl (if false = true then _ else inV (V.str z) ((ws.take i).map V.str)) = V.bl false
          rw [inV_str (nodup_take gd.nd hz)]
          rfl
        · refine iteF ?_
          exact ⟨sm4.trans (same_upd hq), _, _, rfl⟩
      · rintro σ H1 ⟨sm, v1, v2, rfl⟩
        exact k H1 sm
theorem Sq.len {K : PySem.W.Frag} {H : Hp} {a : Addr} {xs : List V} (h : Sq K H a xs) : LenV K (.ref a) H xs.length := by
  rcases h with h | h
  · exact .inl ⟨_, h, rfl⟩
  · exact .inr ⟨_, h, rfl⟩
theorem scGroup : FnScope ["deeds"] ["deeds"] (defScope sCheckGroup) := ⟨rfl, rfl, rfl, by decide +kernel, rfl, by decide +kernel, by decide +kernel⟩
theorem ok_group {f fC fW : Addr} {fd fdC fdW : FuncData} (D : Df K mg "check_group" sCheckGroup ["deeds"] f fd) (DC : Df K mg "check_different" sCheckDiff ["deeds"] fC fdC) (DW : Df K mg "is_word" sIsWord ["value"] fW fdW) (T : Bt2 mg) : FnOk P w K mg base CX0 3 f fd ["deeds"] (spDeeds K) := by
  have GC : FnOk P w K mg base CX0 2 fC fdC ["deeds"] (spDeeds K) := ok_diff DC DW T
  refine D.F.ok scGroup (fun vs H Q E h => ?_) (fun cdv A outer s H vs Q E hr h => ?_)
  · obtain ⟨a, ws, rfl, _⟩ := h
    rfl
  · obtain ⟨a, ws, rfl, ha, gd, k⟩ := h
    refine ⟨_, pss_cons (ps_expr (pe_call GC hr rfl DC.g DC.F.kp DC.b .nil pass0 (pa_cons (pv 0) pa_nil)))
      (pss_one (ps_if (pt_cmpR op_eq (pe_callB call_len (by rfl) T.len PySem.boot_len (pa_cons (pv 0) pa_nil)) pe_int (nomark _)) pss_never pss_nil)), ?_⟩
    refine ⟨_, rfl, a, ws, rfl, ha, gd, fun H1 sm => ?_⟩
    refine ⟨_, rfl, _, _, rfl, (ha.same sm).len, rfl, _, rfl, ?_⟩
    refine ite2 (fun h => ?_) (fun _ => k H1 sm)
    have := of_decide_eq_true h
    injection this with this
    have := gd.len.1
    rw [List.length_map] at *
    omega
theorem scDeeds : FnScope ["deeds"] ["deeds"] (defScope sCheckDeeds) := ⟨rfl, rfl, rfl, by decide +kernel, rfl, by decide +kernel, by decide +kernel⟩
theorem ok_deeds {f fG fC fW : Addr} {fd fdG fdC fdW : FuncData} (D : Df K mg "check_deeds" sCheckDeeds ["deeds"] f fd) (DG : Df K mg "check_group" sCheckGroup ["deeds"] fG fdG) (DC : Df K mg "check_different" sCheckDiff ["deeds"] fC fdC) (DW : Df K mg "is_word" sIsWord ["value"] fW fdW) (T : Bt2 mg) : FnOk P w K mg base CX0 4 f fd ["deeds"] (spDeeds K) := by
  have GC : FnOk P w K mg base CX0 3 fG fdG ["deeds"] (spDeeds K) := ok_group DG DC DW T
  refine D.F.ok scDeeds (fun vs H Q E h => ?_) (fun cdv A outer s H vs Q E hr h => ?_)
  · obtain ⟨a, ws, rfl, _⟩ := h
    rfl
  · obtain ⟨a, ws, rfl, ha, gd, k⟩ := h
    have hle : ws.length ≤ 6 := gd.len.2
    obtain ⟨tM, gM⟩ := T.MOST_DEEDS
    refine ⟨_, pss_cons (ps_expr (pe_call GC hr rfl DG.g DG.F.kp DG.b .nil pass0 (pa_cons (pv 0) pa_nil)))
      (pss_one (ps_if (pt_cmpR op_gt (pe_callB call_len (by rfl) T.len PySem.boot_len (pa_cons (pv 0) pa_nil)) (pe_glob (v := .int 6) rfl gM ⟨_, rfl⟩) (nomark _)) pss_never pss_nil)), ?_⟩
    refine ⟨_, rfl, a, ws, rfl, ha, gd, fun H1 sm => ?_⟩
    refine ⟨_, rfl, _, _, rfl, (ha.same sm).len, _, _, rfl, rfl, _, rfl, ?_⟩
    refine ite2 (fun h => ?_) (fun _ => k H1 sm)
    have := of_decide_eq_true h
    rw [List.length_map] at this
    exact absurd this (by omega)
end
end K1
set_option Elab.async false
set_option linter.all false
set_option maxRecDepth 100000
namespace K1
open PySem L2
theorem kit_list {K : PySem.W.Frag} : PySem.W.kitAny K (.type "list") [.type "list", .type "tuple"] = some true := by
  simp [PySem.W.kitAny, PySem.W.kitOne]
def spRows (K : PySem.W.Frag) : Sp := fun vs H Q _ => ∃ (b : Addr) (m : Nat) (as : List Addr) (rs : List (List Int)), vs = [.ref b, .int (m : Int)] ∧ SqL K H b (as.map V.ref) ∧ RowsAt H as rs ∧ 1 ≤ rs.length ∧ rs.length ≤ 60 ∧ m ≤ 100 ∧
  (∀ r ∈ rs, r.length = m ∧ ∀ x ∈ r, 0 ≤ x ∧ x < (rs.length : Int)) ∧ ∀ H', Same H H' → Q .non H'
def spTells (K : PySem.W.Frag) : Sp := fun vs H Q _ => ∃ (b : Addr) (ss : List Str), vs = [.ref b, .int (ss.length : Int)] ∧ SqL K H b (ss.map V.str) ∧ (∀ z ∈ ss, Tl z) ∧ ss.length ≤ 100 ∧ ∀ H', Same H H' → Q .non H'
theorem RowsAt.same {H H' : Hp} {as : List Addr} {rs : List (List Int)} (h : RowsAt H as rs) (s : Same H H') : RowsAt H' as rs := ⟨h.1, fun i a r e1 e2 => s _ _ (h.2 i a r e1 e2)⟩
def rLn (K : PySem.W.Frag) : List V → Hp → VK → Prop := fun xs H Q => ∃ x n, xs = [x] ∧ LenV K x H n ∧ Q (.int n) H
section
variable {P : Program} {w : World} {K : PySem.W.Frag} {mg : Str → Option Value} {base : Heap}
abbrev nRows : List Str := ["rows", "many", "index", "row", "state"]
theorem scRows : FnScope nRows ["rows", "many"] (defScope sCheckRows) := ⟨rfl, rfl, rfl, by decide +kernel, rfl, by decide +kernel, by decide +kernel⟩
theorem ok_rows {f fX fI : Addr} {fd fdX fdI : FuncData} (D : Df K mg "check_rows" sCheckRows ["rows", "many"] f fd) (DX : Df K mg "is_index" sIsIndex ["value", "many"] fX fdX) (DI : Df K mg "is_integer" sIsInt ["value"] fI fdI) (T : Bt2 mg) : FnOk P w K mg base CX0 3 f fd ["rows", "many"] (spRows K) := by
  have GX : FnOk P w K mg base CX0 2 fX fdX ["value", "many"] spIsIndex := ok_isindex DX DI T
  refine D.F.ok scRows (fun vs H Q E h => ?_) (fun cdv A outer s H vs Q E hr h => ?_)
  · obtain ⟨b, m, as, rs, rfl, _⟩ := h
    rfl
  · obtain ⟨b, m, as, rs, rfl, hb, hR, h1, h60, hm, hrow, k⟩ := h
    obtain ⟨tM, gM⟩ := T.MOST_STATES
    have hlen : (as.map V.ref).length = rs.length := by rw [List.length_map, hR.1]
    refine ⟨_, pss_cons (ps_if (pt_cmpR op_eq (pe_callB call_len (by rfl) T.len PySem.boot_len (pa_cons (pv 0) pa_nil)) pe_int (nomark _)) pss_never pss_nil)
      (pss_cons (ps_if (pt_cmpR op_gt (pe_callB call_len (by rfl) T.len PySem.boot_len (pa_cons (pv 0) pa_nil)) (pe_glob (v := .int 60) rfl gM ⟨_, rfl⟩) (nomark _)) pss_never pss_nil)
      (pss_one (ps_for PassesOwn.never rfl (pi_enum (by rfl) T.enumerate (pa_cons (pv 0) pa_nil)) (pg_tup (by rfl) (pgs_cons (pg_name (i := 2) scRows.nd rfl (Or.inl rfl)) (pgs_cons (pg_name (i := 3) scRows.nd rfl (Or.inl rfl)) pgs_nil)))
        (pss_cons (ps_if (PW.pt (pw_or (pt_not (pt_val (pe_callB call_isiT (by rfl) T.isinstance PyProof.Rows.boot_isinstance (pa_cons (pv 3) (pa_cons (pe_tup (pa_cons (pe_bltn (v := .ty "list") (by rfl) T.list PyProof.Rows.boot_list rfl) (pa_cons (pe_bltn (v := .ty "tuple") (by rfl) T.tuple PyProof.Rows.boot_tuple rfl) pa_nil))) pa_nil)))))
            (pw_or1 (pt_cmpR op_ne (pe_callB call_len (by rfl) T.len PySem.boot_len (pa_cons (pv 3) pa_nil)) (pv 1) (nomark _))))) pss_never pss_nil)
        (pss_one (ps_if (pt_not (pt_val (pe_callB (cr_all rfl) (by rfl) T.all PyProof.Rows.boot_all (pa_cons (pe_lc (own := [("state", 4)]) (g := gName 4) (by rfl) scRows.nd (pi_list (pv 3))
            (blkOk_by (own := [("state", 4)]) (N := nRows) (sc := defScope sCheckRows) (by decide +kernel)) (fun _ _ _ _ _ => pg_name (i := 4) scRows.nd rfl (Or.inl rfl)) (fun _ _ _ _ _ => pts_nil)
            (fun _ _ _ _ _ => pe_call GX hr rfl DX.g DX.F.kp DX.b .nil pass0 (pa_cons (pv 4) (pa_cons (pe_callB (r := rLn K) call_len (by rfl) T.len PySem.boot_len (pa_cons (pv 0) pa_nil)) pa_nil)))) pa_nil)))) pss_never pss_nil)))))), ?_⟩
    refine ⟨_, rfl, _, rs.length, rfl, .inl ⟨_, hb, hlen.symm⟩, rfl, _, rfl, ?_⟩
    refine ite2 (fun h => absurd (of_decide_eq_true h) (fun h => by injection h with h; omega)) (fun _ => ?_)
    refine ⟨_, rfl, _, rs.length, rfl, .inl ⟨_, hb, hlen.symm⟩, _, _, rfl, rfl, _, rfl, ?_⟩
    refine ite2 (fun h => absurd (of_decide_eq_true h) (by omega)) (fun _ => ?_)
    refine ⟨_, rfl, b, _, rfl, hb, for_it (walk_enum (K := K) (a := b) (xs := as.map V.ref)) (fun i σ H' => Same H H' ∧ ∃ v1 v2, σ = [some (.ref b), some (.int (m : Int)), v1, v2, none]) ⟨Same.refl H, none, none, rfl⟩ (fun i σ H' _ p => p.1.seq hb) ?_ ?_⟩
    · rintro i x σ H1 H2 hi ⟨sm, v1, v2, rfl⟩ ⟨t, x1, x2, rfl, ht, rfl, e1, e2⟩
      cases e1
      replace e2 : (as.map V.ref)[i]? = some x2 := e2
      rw [List.getElem?_map] at e2
      obtain ⟨a, ea, rfl⟩ := Option.map_eq_some_iff.mp e2
      have hir : i < rs.length := by rw [← hR.1]; exact (List.getElem?_eq_some_iff.mp ea).1
      have er : rs[i]? = some rs[i] := List.getElem?_eq_getElem hir
      obtain ⟨hl, hx⟩ := hrow _ (List.getElem_mem hir)
      have sm2 := sm.trans (same_upd (o := .tup [V.int (i : Nat), V.ref a]) ht)
      have ha2 := sm2 _ _ (hR.2 i a _ ea er)
      refine ⟨t, _, rfl, SqT.of upd_same, rfl, _, _, rfl, _, _, rfl, rfl, ?_⟩
      generalize upd H1 t (.tup [V.int (i : Nat), V.ref a]) = H3 at sm2 ha2 ⊢
      refine ⟨_, rfl, by show 2 ≤ sizeLine; decide, fun q hq => ?_⟩
      have sm4 := sm2.trans (same_upd (o := .tup [V.ty "list", V.ty "tuple"]) hq)
      have ha4 := (same_upd (o := .tup [V.ty "list", V.ty "tuple"]) hq) _ _ ha2
      refine ⟨_, q, _, _, _, true, rfl, upd_same, .cons (.ty "list") (.cons (.ty "tuple") .nil), .base (.lst ha4), kit_list, true, rfl, ?_⟩
      refine iteF ?_
      refine ⟨_, rfl, _, m, rfl, .inl ⟨_, SqL.of ha4, by rw [List.length_map]; exact hl.symm⟩, _, rfl, rfl, _, rfl, ?_⟩
      refine ite2 (fun h => ?_) (fun _ => ?_)
      · simp at h
      refine ⟨_, rfl, a, rfl, ⟨_, SqL.of ha4⟩, fun D hD => ?_⟩
      generalize upd H3 q (.tup [V.ty "list", V.ty "tuple"]) = H4 at sm4 ha4 hD ⊢
      refine lc_list (K := K) (a := a) (xs := (rs[i]).map V.int) (fun j H' => Same H4 H' ∧ H' D = some (.lst ((List.replicate j true).map V.bl))) ?_ ?_ ?_ ?_
      · exact ⟨same_upd hD, upd_same⟩
      · exact fun j H' _ p => p.1.seq (SqL.of ha4)
      · rintro j x H5 hj ⟨sm5, hD5⟩
        rw [List.getElem?_map] at hj
        obtain ⟨y, hy, rfl⟩ := Option.map_eq_some_iff.mp hj
        obtain ⟨y0, y1⟩ := hx y (List.mem_of_getElem? hy)
        have hjl : j < (rs[i]).length := (List.getElem?_eq_some_iff.mp hy).1
        refine ⟨rfl, _, rfl, _, rfl, _, rs.length, rfl, .inl ⟨_, (sm4.trans sm5).seq hb, hlen.symm⟩, y, rs.length, rfl, y0, y1, ?_⟩
        refine ⟨_, hD5, ?_, ?_, ?_⟩
        · simp; exact small1000 (by omega)
        · exact fun b' o e => by rw [upd_ne (ne_of_none e hD)]; exact sm5 b' o e
        · rw [upd_same, List.replicate_succ']
          simp
      · rintro H5 ⟨sm5, hD5⟩
        refine ⟨D, _, rfl, SqL.of hD5, ?_⟩
        have e : (List.replicate ((rs[i]).map V.int).length true).all id = true := by simp
        rw [e]
        refine ⟨true, rfl, ?_⟩
        refine iteF ?_
        exact ⟨sm4.trans sm5, _, _, rfl⟩
    · rintro σ H1 ⟨sm, v1, v2, rfl⟩
      exact k H1 sm
theorem scTells : FnScope ["tells", "many", "index", "tell"] ["tells", "many"] (defScope sCheckTells) := ⟨rfl, rfl, rfl, by decide +kernel, rfl, by decide +kernel, by decide +kernel⟩
theorem ok_tells {f fT : Addr} {fd fdT : FuncData} (D : Df K mg "check_tells" sCheckTells ["tells", "many"] f fd) (DT : Df K mg "is_tell" sIsTell ["value"] fT fdT) (T : Bt2 mg) : FnOk P w K mg base CX0 2 f fd ["tells", "many"] (spTells K) := by
  have GT : FnOk P w K mg base CX0 1 fT fdT ["value"] spIsTell := ok_istell DT T
  refine D.F.ok scTells (fun vs H Q E h => ?_) (fun cdv A outer s H vs Q E hr h => ?_)
  · obtain ⟨b, ss, rfl, _⟩ := h
    rfl
  · obtain ⟨b, ss, rfl, hb, ht, hl, k⟩ := h
    refine ⟨_, pss_cons (ps_for PassesOwn.never rfl (pi_enum (by rfl) T.enumerate (pa_cons (pv 0) pa_nil)) (pg_tup (by rfl) (pgs_cons (pg_name (i := 2) scTells.nd rfl (Or.inl rfl)) (pgs_cons (pg_name (i := 3) scTells.nd rfl (Or.inl rfl)) pgs_nil)))
        (pss_one (ps_if (pt_not (pt_val (pe_call GT hr rfl DT.g DT.F.kp DT.b .nil pass0 (pa_cons (pv 3) pa_nil)))) pss_never pss_nil)))
      (pss_one (ps_if (pt_cmpR op_ne (pe_callB call_len (by rfl) T.len PySem.boot_len (pa_cons (pv 0) pa_nil)) (pv 1) (nomark _)) pss_never pss_nil)), ?_⟩
    refine ⟨_, rfl, b, _, rfl, hb, for_it (walk_enum (K := K) (a := b) (xs := ss.map V.str)) (fun i σ H' => Same H H' ∧ ∃ v1 v2, σ = [some (.ref b), some (.int (ss.length : Int)), v1, v2]) ⟨Same.refl H, none, none, rfl⟩ (fun i σ H' _ p => p.1.seq hb) ?_ ?_⟩
    · rintro i x σ H1 H2 hi ⟨sm, v1, v2, rfl⟩ ⟨t, x1, x2, rfl, ht', rfl, e1, e2⟩
      cases e1
      replace e2 : (ss.map V.str)[i]? = some x2 := e2
      rw [List.getElem?_map] at e2
      obtain ⟨z, ez, rfl⟩ := Option.map_eq_some_iff.mp e2
      have sm2 := sm.trans (same_upd (o := .tup [V.int (i : Nat), V.str z]) ht')
      refine ⟨t, _, rfl, SqT.of upd_same, rfl, _, _, rfl, _, _, rfl, rfl, ?_⟩
      refine ⟨_, rfl, z, rfl, ht z (List.mem_of_getElem? ez), fun H3 sm3 => ⟨true, rfl, ?_⟩⟩
      refine iteF ?_
      exact ⟨sm2.trans sm3, _, _, rfl⟩
    · rintro σ H1 ⟨sm, v1, v2, rfl⟩
      refine ⟨_, rfl, _, ss.length, rfl, .inl ⟨_, sm.seq hb, (List.length_map _).symm⟩, _, rfl, rfl, _, rfl, ?_⟩
      refine ite2 (fun h => ?_) (fun _ => k H1 sm)
      simp at h
end
end K1
set_option Elab.async false
set_option linter.all false
set_option maxRecDepth 100000
namespace K1
open PySem L2
abbrev sMInit : Stmt := inClass (top 38) 0
abbrev sMLen : Stmt := inClass (top 38) 1
abbrev sMEq : Stmt := inClass (top 38) 2
theorem f_dr : ¬ (("deeds" : Str) = "rows") := by decide +kernel
theorem f_dt : ¬ (("deeds" : Str) = "tells") := by decide +kernel
theorem f_ds : ¬ (("deeds" : Str) = "start") := by decide +kernel
theorem f_rt : ¬ (("rows" : Str) = "tells") := by decide +kernel
theorem f_rs : ¬ (("rows" : Str) = "start") := by decide +kernel
theorem f_ts : ¬ (("tells" : Str) = "start") := by decide +kernel
theorem f_rd : ¬ (("rows" : Str) = "deeds") := by decide +kernel
theorem f_td : ¬ (("tells" : Str) = "deeds") := by decide +kernel
theorem f_tr : ¬ (("tells" : Str) = "rows") := by decide +kernel
def mf (t r l : Addr) (st : Int) : List (Str × V) := putF "start" (.int st) (putF "tells" (.ref l) (putF "rows" (.ref r) (putF "deeds" (.ref t) [])))
theorem mf_deeds (t r l : Addr) (st : Int) : (mf t r l st).lookup ("deeds" : Str) = some (.ref t) := by
  unfold mf
  rw [lookup_putF, if_neg f_ds, lookup_putF, if_neg f_dt, lookup_putF, if_neg f_dr, lookup_putF, if_pos rfl]
theorem mf_rows (t r l : Addr) (st : Int) : (mf t r l st).lookup ("rows" : Str) = some (.ref r) := by
  unfold mf
  rw [lookup_putF, if_neg f_rs, lookup_putF, if_neg f_rt, lookup_putF, if_pos rfl]
theorem mf_tells (t r l : Addr) (st : Int) : (mf t r l st).lookup ("tells" : Str) = some (.ref l) := by
  unfold mf
  rw [lookup_putF, if_neg f_ts, lookup_putF, if_pos rfl]
theorem mf_start (t r l : Addr) (st : Int) : (mf t r l st).lookup ("start" : Str) = some (.int st) := by
  unfold mf
  rw [lookup_putF, if_pos rfl]
theorem mf_no (t r l : Addr) (st : Int) {m : Str} (h1 : ¬ m = "start") (h2 : ¬ m = "tells") (h3 : ¬ m = "rows") (h4 : ¬ m = "deeds") : (mf t r l st).lookup m = none := by
  unfold mf
  rw [lookup_putF, if_neg h1, lookup_putF, if_neg h2, lookup_putF, if_neg h3, lookup_putF, if_neg h4]
  rfl
def RowsT (H : Hp) (as : List Addr) (rs : List (List Int)) : Prop := as.length = rs.length ∧ ∀ (i : Nat) (a : Addr) (r : List Int), as[i]? = some a → rs[i]? = some r → H a = some (.tup (r.map V.int))
theorem RowsT.same {H H' : Hp} {as : List Addr} {rs : List (List Int)} (h : RowsT H as rs) (s : Same H H') : RowsT H' as rs := ⟨h.1, fun i a r e1 e2 => s _ _ (h.2 i a r e1 e2)⟩
def MachAt (K : PySem.W.Frag) (C : Addr) (H : Hp) (x : Addr) (ws : List Str) (rs : List (List Int)) (ss : List Str) (st : Int) : Prop :=
  ∃ (dx t r l : Addr) (as : List Addr), H x = some (.ins C dx (mf t r l st)) ∧ SqT K H t (ws.map V.str) ∧ H r = some (.tup (as.map V.ref)) ∧ RowsT H as rs ∧ H l = some (.tup (ss.map V.str))
/-- the parts that a machine takes -/
structure Parts (ws : List Str) (rs : List (List Int)) (ss : List Str) (st : Int) : Prop where
  gd : GoodD ws
  many : 1 ≤ rs.length ∧ rs.length ≤ 60
  row : ∀ r ∈ rs, r.length = ws.length ∧ ∀ x ∈ r, 0 ≤ x ∧ x < (rs.length : Int)
  tl : ss.length = rs.length ∧ ∀ z ∈ ss, Tl z
  st : 0 ≤ st ∧ st < (rs.length : Int)
def spMInit (K : PySem.W.Frag) (C : Addr) : Sp := fun vs H Q _ => ∃ (x dx a b l : Addr) (as : List Addr) (ws : List Str) (rs : List (List Int)) (ss : List Str) (st : Int), vs = [.ref x, .ref a, .ref b, .ref l, .int st] ∧ H x = some (.ins C dx []) ∧
  Sq K H a (ws.map V.str) ∧ SqL K H b (as.map V.ref) ∧ RowsAt H as rs ∧ SqL K H l (ss.map V.str) ∧ Parts ws rs ss st ∧ ∀ H', MachAt K C H' x ws rs ss st → Kept x H H' → Q .non H'
/-- what the class brings -/
structure Tm (K : PySem.W.Frag) (mg : Str → Option Value) (C : Addr) : Prop where
  cl : Cls K C
  nD : NoAttr K C "deeds"
  nR : NoAttr K C "rows"
  nT : NoAttr K C "tells"
  nS : NoAttr K C "start"
  mgC : mg "Machine" = some (.ref C)
theorem tup_any {K : PySem.W.Frag} {H : Hp} {a : Addr} {ys : List V} {Qf : V → Hp → Prop} (h : Sq K H a ys) (k : ∀ t H', SqT K H' t ys → Same H H' → Qf (.ref t) H') :
    (SqL K H a ys ∧ ∀ l, H l = none → Qf (.ref l) (upd H l (.tup ys))) ∨ (SqT K H a ys ∧ Qf (.ref a) H) := by
  rcases h with h | h
  · exact .inl ⟨h, fun l hl => k l _ (SqT.of upd_same) (same_upd hl)⟩
  · exact .inr ⟨h, k a H h (Same.refl H)⟩
theorem Kept.seqI {K : PySem.W.Frag} {x C dx : Addr} {fs : List (Str × V)} {H H' : Hp} {a : Addr} {xs : List V} (e : Kept x H H') (hx : H x = some (.ins C dx fs)) (h : SqL K H a xs) : SqL K H' a xs := by
  rcases h with (h | ⟨o, h⟩) | h
  · exact .inl (.inl (e _ _ h (ne_of h hx (by intro z; cases z))))
  · exact .inl (.inr ⟨o, e _ _ h (ne_of h hx (by intro z; cases z))⟩)
  · exact .inr h
theorem Kept.seqTI {K : PySem.W.Frag} {x C dx : Addr} {fs : List (Str × V)} {H H' : Hp} {a : Addr} {xs : List V} (e : Kept x H H') (hx : H x = some (.ins C dx fs)) (h : SqT K H a xs) : SqT K H' a xs := by
  rcases h with (h | ⟨o, h⟩) | h
  · exact .inl (.inl (e _ _ h (ne_of h hx (by intro z; cases z))))
  · exact .inl (.inr ⟨o, e _ _ h (ne_of h hx (by intro z; cases z))⟩)
  · exact .inr h
theorem Kept.rowsI {x C dx : Addr} {fs : List (Str × V)} {H H' : Hp} {as : List Addr} {rs : List (List Int)} (e : Kept x H H') (hx : H x = some (.ins C dx fs)) (h : RowsAt H as rs) : RowsAt H' as rs :=
  ⟨h.1, fun i a r e1 e2 => e _ _ (h.2 i a r e1 e2) (ne_of (h.2 i a r e1 e2) hx (by intro z; cases z))⟩
theorem Kept.self {x : Addr} {H : Hp} {o : HO} : Kept x H (L2.upd H x o) := fun b u e n => by rw [upd_ne n]; exact e
theorem RowsT.kept {x C dx : Addr} {fs : List (Str × V)} {H H' : Hp} {as : List Addr} {rs : List (List Int)} (e : Kept x H H') (hx : H x = some (.ins C dx fs)) (h : RowsT H as rs) : RowsT H' as rs :=
  ⟨h.1, fun i a r e1 e2 => e _ _ (h.2 i a r e1 e2) (ne_of (h.2 i a r e1 e2) hx (by intro z; cases z))⟩
theorem RowsT.snoc {H : Hp} {as : List Addr} {rs : List (List Int)} {a : Addr} {r : List Int} (h : RowsT H as rs) (e : H a = some (.tup (r.map V.int))) : RowsT H (as ++ [a]) (rs ++ [r]) := by
  refine ⟨by simp [h.1], fun i b q e1 e2 => ?_⟩
  by_cases hi : i < as.length
  · rw [List.getElem?_append_left hi] at e1
    rw [List.getElem?_append_left (by rw [← h.1]; exact hi)] at e2
    exact h.2 i b q e1 e2
  · rw [List.getElem?_append_right (by omega)] at e1
    rw [List.getElem?_append_right (by rw [← h.1]; omega), ← h.1] at e2
    cases hj : i - as.length with
    | zero =>
      rw [hj] at e1 e2
      simp at e1 e2
      rw [← e1, ← e2]; exact e
    | succ j => rw [hj] at e1; simp at e1
def rTu (K : PySem.W.Frag) : List V → Hp → VK → Prop := fun xs H Q => ∃ p ys, xs = [.ref p] ∧ ((SqL K H p ys ∧ ∀ l, H l = none → Q (.ref l) (upd H l (.tup ys))) ∨ (SqT K H p ys ∧ Q (.ref p) H))
section
variable {P : Program} {w : World} {K : PySem.W.Frag} {mg : Str → Option Value} {base : Heap}
abbrev pInit : List Str := ["self", "deeds", "rows", "tells", "start"]
abbrev nInit : List Str := ["self", "deeds", "rows", "tells", "start", "row"]
theorem scMInit : FnScope nInit pInit (defScope sMInit) := ⟨rfl, rfl, rfl, by decide +kernel, rfl, by decide +kernel, by decide +kernel⟩
abbrev MI (K : PySem.W.Frag) (f : Addr) (fd : FuncData) : Prop := FunD K "__init__" "Machine.__init__" (defArgs sMInit) (defBody sMInit) (defScope sMInit) [.int 0] [] f fd
theorem ok_minit {C f fCd fG fD fW fR fX fI fT fL : Addr} {fd fdCd fdG fdD fdW fdR fdX fdI fdT fdL : FuncData} (F : MI K f fd) (M : Tm K mg C) (T : Bt2 mg)
    (DCd : Df K mg "check_deeds" sCheckDeeds ["deeds"] fCd fdCd) (DG : Df K mg "check_group" sCheckGroup ["deeds"] fG fdG) (DD : Df K mg "check_different" sCheckDiff ["deeds"] fD fdD) (DW : Df K mg "is_word" sIsWord ["value"] fW fdW)
    (DR : Df K mg "check_rows" sCheckRows ["rows", "many"] fR fdR) (DX : Df K mg "is_index" sIsIndex ["value", "many"] fX fdX) (DI : Df K mg "is_integer" sIsInt ["value"] fI fdI)
    (DT : Df K mg "check_tells" sCheckTells ["tells", "many"] fT fdT) (DL : Df K mg "is_tell" sIsTell ["value"] fL fdL) : FnOk P w K mg base CX0 5 f fd pInit (spMInit K C) := by
  have GC : FnOk P w K mg base CX0 4 fCd fdCd ["deeds"] (spDeeds K) := ok_deeds DCd DG DD DW T
  have GR : FnOk P w K mg base CX0 3 fR fdR ["rows", "many"] (spRows K) := ok_rows DR DX DI T
  have GT : FnOk P w K mg base CX0 2 fT fdT ["tells", "many"] (spTells K) := ok_tells DT DL T
  have GX : FnOk P w K mg base CX0 2 fX fdX ["value", "many"] spIsIndex := ok_isindex DX DI T
  refine F.ok scMInit (fun vs H Q E h => ?_) (fun cdv A outer s H vs Q E hr h => ?_)
  · obtain ⟨x, dx, a, b, l, as, ws, rs, ss, st, rfl, _⟩ := h
    rfl
  · obtain ⟨x, dx, a, b, l, as, ws, rs, ss, st, rfl, hx, ha, hb, hR, hl, pt, k⟩ := h
    have hr2 : Room 2 _ := hr.mono (by decide)
    have hr3 : Room 3 _ := hr.mono (by decide)
    obtain ⟨t2, ht2, hq2⟩ : ∃ t2, PSs (cxOf CX0 P w K mg base nInit "Machine.__init__" (defScope sMInit) f cdv A outer s H E) ((defBody sMInit).drop 5) t2 ∧ ∀ (t : Addr) (H5 : Hp), H5 x = some (.ins C dx (putF "deeds" (.ref t) [])) →
        SqT K H5 t (ws.map V.str) → SqL K H5 b (as.map V.ref) → RowsAt H5 as rs → SqL K H5 l (ss.map V.str) → Kept x H H5 → t2 { nx := fun _ H' => Q .non H', rt := Q } (start nInit [.ref x, .ref a, .ref b, .ref l, .int st]) H5 := by
      refine ⟨_, pss_cons (ps_fld (pv 0) (pe_callTy call_tuple_of (by rfl) T.tuple PyProof.Rows.boot_tuple (pa_cons (pe_lc (own := [("row", 5)]) (g := gName 5) (by rfl) scMInit.nd (pi_list (pv 2))
            (blkOk_by (own := [("row", 5)]) (N := nInit) (sc := defScope sMInit) (by decide +kernel)) (fun _ _ _ _ _ => pg_name (i := 5) scMInit.nd rfl (Or.inl rfl)) (fun _ _ _ _ _ => pts_nil)
            (fun _ _ _ _ _ => pe_callTy (r := rTu K) call_tuple_of (by rfl) T.tuple PyProof.Rows.boot_tuple (pa_cons (pv 5) pa_nil))) pa_nil)) rfl)
        (pss_cons (ps_fld (pv 0) (pe_callTy call_tuple_of (by rfl) T.tuple PyProof.Rows.boot_tuple (pa_cons (pv 3) pa_nil)) rfl)
        (pss_one (ps_fld (pv 0) (pv 4) rfl))), ?_⟩
      intro t H5 hx5 ht5 hb5 hR5 hl5 kk5
      refine ⟨_, rfl, b, rfl, ⟨_, hb5⟩, fun D hD => ?_⟩
      refine lc_list (K := K) (a := b) (xs := as.map V.ref) (fun i H' => Same H5 H' ∧ ∃ bs : List Addr, bs.length = i ∧ H' D = some (.lst (bs.map V.ref)) ∧ RowsT H' bs (rs.take i) ∧ ∀ q ∈ bs, q ≠ D) ?_ ?_ ?_ ?_
      · exact ⟨same_upd hD, [], rfl, upd_same, ⟨by simp, fun i a r e => by simp at e⟩, by simp⟩
      · exact fun i H' _ p => p.1.seq hb5
      · rintro i y H6 hi ⟨sm6, bs, hbs, hD6, hR6, hnD⟩
        rw [List.getElem?_map] at hi
        obtain ⟨ai, eai, rfl⟩ := Option.map_eq_some_iff.mp hi
        have hir : i < rs.length := by rw [← hR.1]; exact (List.getElem?_eq_some_iff.mp eai).1
        have eri : rs[i]? = some rs[i] := List.getElem?_eq_getElem hir
        have ha6 := sm6 _ _ (hR5.2 i ai _ eai eri)
        refine ⟨rfl, _, rfl, ai, _, rfl, .inl ⟨SqL.of ha6, fun q hq => ?_⟩⟩
        have nDq : D ≠ q := ne_of_none hD6 hq
        have h60 := pt.many.2
        refine ⟨_, (by rw [upd_ne nDq]; exact hD6), ?_, ?_, bs ++ [q], by simp [hbs], by rw [upd_same]; simp, ?_, ?_⟩
        · rw [List.length_map]; exact small1000 (by omega)
        · exact fun c o e => by rw [upd_ne (ne_of_none e hD), upd_ne (ne_of_none (sm6 _ _ e) hq)]; exact sm6 _ _ e
        · have e7 : RowsT (upd H6 q (.tup ((rs[i]).map V.int))) (bs ++ [q]) (rs.take i ++ [rs[i]]) := (hR6.same (same_upd hq)).snoc upd_same
          rw [List.take_add_one, eri]
          refine ⟨e7.1, fun j c r e1 e2 => ?_⟩
          have hm := List.mem_of_getElem? e1
          have : c ≠ D := by
            rcases List.mem_append.mp hm with h | h
            · exact hnD c h
            · rw [List.mem_singleton.mp h]; exact nDq.symm
          rw [upd_ne this]
          exact e7.2 j c r e1 e2
        · intro c hc
          rcases List.mem_append.mp hc with h | h
          · exact hnD c h
          · rw [List.mem_singleton.mp h]; exact nDq.symm
      · rintro H6 ⟨sm6, bs, hbs, hD6, hR6, hnD⟩
        have etk : rs.take (as.map V.ref).length = rs := by rw [List.length_map, hR.1, List.take_length]
        rw [etk] at hR6
        refine ⟨D, _, rfl, .inl ⟨SqL.of hD6, fun r hr7 => ?_⟩⟩
        have sr := same_upd (o := .tup (bs.map V.ref)) hr7
        have sm7 := sm6.trans sr
        have hx7 := sm7 _ _ hx5
        have hr7' : upd H6 r (.tup (bs.map V.ref)) r = some (.tup (bs.map V.ref)) := upd_same
        have hR7 := hR6.same sr
        have hl7 := sm7.seq hl5
        have ht7 := ht5.ext sm7
        have kk7 : Kept x H (upd H6 r (.tup (bs.map V.ref))) := kk5.trans (.same sm7)
        generalize upd H6 r (.tup (bs.map V.ref)) = H7 at sm7 hx7 hr7' hR7 hl7 ht7 kk7 ⊢
        refine ⟨_, rfl, x, C, dx, _, rfl, hx7, M.cl, M.nR, (by show 1 < 1000; decide), ?_⟩
        have k8 : Kept x H7 (upd H7 x (.ins C dx (putF "rows" (.ref r) (putF "deeds" (.ref t) [])))) := Kept.self
        have hx8 : upd H7 x (.ins C dx (putF "rows" (.ref r) (putF "deeds" (.ref t) []))) x = some (.ins C dx (putF "rows" (.ref r) (putF "deeds" (.ref t) []))) := upd_same
        have hr8 := k8 _ _ hr7' (ne_of hr7' hx7 (by intro z; cases z))
        have hR8 := RowsT.kept k8 hx7 hR7
        have hl8 := k8.seqI hx7 hl7
        have ht8 := k8.seqTI hx7 ht7
        have kk8 := kk7.trans k8
        generalize upd H7 x (.ins C dx (putF "rows" (.ref r) (putF "deeds" (.ref t) []))) = H8 at k8 hx8 hr8 hR8 hl8 ht8 kk8 ⊢
        -- self.tells
        refine ⟨_, rfl, l, _, rfl, .inl ⟨hl8, fun l' hl9 => ?_⟩⟩
        have sl := same_upd (o := .tup (ss.map V.str)) hl9
        have hx9 := sl _ _ hx8
        have hl9' : upd H8 l' (.tup (ss.map V.str)) l' = some (.tup (ss.map V.str)) := upd_same
        have hr9 := sl _ _ hr8
        have hR9 := hR8.same sl
        have ht9 := ht8.ext sl
        have kk9 : Kept x H (upd H8 l' (.tup (ss.map V.str))) := kk8.trans (.same sl)
        generalize upd H8 l' (.tup (ss.map V.str)) = H9 at hx9 hl9' hr9 hR9 ht9 kk9 ⊢
        refine ⟨_, rfl, x, C, dx, _, rfl, hx9, M.cl, M.nT, (by show 2 < 1000; decide), ?_⟩
        have k10 : Kept x H9 (upd H9 x (.ins C dx (putF "tells" (.ref l') (putF "rows" (.ref r) (putF "deeds" (.ref t) []))))) := Kept.self
        have hx10 : upd H9 x (.ins C dx (putF "tells" (.ref l') (putF "rows" (.ref r) (putF "deeds" (.ref t) [])))) x = some (.ins C dx (putF "tells" (.ref l') (putF "rows" (.ref r) (putF "deeds" (.ref t) [])))) := upd_same
        have hl10 := k10 _ _ hl9' (ne_of hl9' hx9 (by intro z; cases z))
        have hr10 := k10 _ _ hr9 (ne_of hr9 hx9 (by intro z; cases z))
        have hR10 := RowsT.kept k10 hx9 hR9
        have ht10 := k10.seqTI hx9 ht9
        have kk10 := kk9.trans k10
        generalize upd H9 x (.ins C dx (putF "tells" (.ref l') (putF "rows" (.ref r) (putF "deeds" (.ref t) [])))) = H10 at k10 hx10 hl10 hr10 hR10 ht10 kk10 ⊢
        -- self.start
        refine ⟨_, rfl, _, rfl, x, C, dx, _, rfl, hx10, M.cl, M.nS, (by show 3 < 1000; decide), ?_⟩
        have k11 : Kept x H10 (upd H10 x (.ins C dx (mf t r l' st))) := Kept.self
        exact k _ ⟨dx, t, r, l', bs, upd_same, k11.seqTI hx10 ht10, k11 _ _ hr10 (ne_of hr10 hx10 (by intro z; cases z)), RowsT.kept k11 hx10 hR10, k11 _ _ hl10 (ne_of hl10 hx10 (by intro z; cases z))⟩ (kk10.trans k11)
    have lnR : ∀ {H' : Hp}, Same H H' → LenV K (.ref b) H' rs.length := fun sm => .inl ⟨_, sm.seq hb, by rw [List.length_map, hR.1]⟩
    refine ⟨_, (pss_cons (ps_expr (pe_call GC hr rfl DCd.g DCd.F.kp DCd.b .nil pass0 (pa_cons (pv 1) pa_nil)))
      (pss_cons (ps_expr (pe_call GR hr3 rfl DR.g DR.F.kp DR.b .nil pass0 (pa_cons (pv 2) (pa_cons (pe_callB call_len (by rfl) T.len PySem.boot_len (pa_cons (pv 1) pa_nil)) pa_nil))))
      (pss_cons (ps_expr (pe_call GT hr2 rfl DT.g DT.F.kp DT.b .nil pass0 (pa_cons (pv 3) (pa_cons (pe_callB call_len (by rfl) T.len PySem.boot_len (pa_cons (pv 2) pa_nil)) pa_nil))))
      (pss_cons (ps_if (pt_not (pt_val (pe_call GX hr2 rfl DX.g DX.F.kp DX.b .nil pass0 (pa_cons (pv 4) (pa_cons (pe_callB call_len (by rfl) T.len PySem.boot_len (pa_cons (pv 2) pa_nil)) pa_nil))))) pss_never pss_nil)
      (pss_cons (ps_fld (pv 0) (pe_callTy call_tuple_of (by rfl) T.tuple PyProof.Rows.boot_tuple (pa_cons (pv 1) pa_nil)) rfl) ht2))))), ?_⟩
    refine ⟨_, rfl, a, ws, rfl, ha, pt.gd, fun H1 sm1 => ?_⟩
    refine ⟨_, rfl, _, rfl, _, ws.length, rfl, (by have := (ha.same sm1).len; rwa [List.length_map] at this), b, ws.length, as, rs, rfl, sm1.seq hb, hR.same sm1, pt.many.1, pt.many.2, (by have := pt.gd.len.2; omega), pt.row, fun H2 sm2 => ?_⟩
    have s2 := sm1.trans sm2
    refine ⟨_, rfl, _, rfl, _, rs.length, rfl, lnR s2, l, ss, by rw [pt.tl.1]; rfl, s2.seq hl, pt.tl.2, by rw [pt.tl.1]; have := pt.many.2; omega, fun H3 sm3 => ?_⟩
    have s3 := s2.trans sm3
    refine ⟨_, rfl, _, rfl, _, rs.length, rfl, lnR s3, st, rs.length, rfl, pt.st.1, pt.st.2, true, rfl, ?_⟩
    refine iteF ?_
    have fin : ∀ (t : Addr) (H4 : Hp), SqT K H4 t (ws.map V.str) → Same H3 H4 → t2 { nx := fun _ H' => Q .non H', rt := Q } (start nInit [.ref x, .ref a, .ref b, .ref l, .int st]) (upd H4 x (.ins C dx (putF "deeds" (.ref t) []))) := fun t H4 ht4 sm4 => by
      have s4 := s3.trans sm4
      have hx4 := s4 _ _ hx
      have k5 : Kept x H4 (upd H4 x (.ins C dx (putF "deeds" (.ref t) []))) := Kept.self
      exact hq2 t _ upd_same (k5.seqTI hx4 ht4) (k5.seqI hx4 (s4.seq hb)) (k5.rowsI hx4 (hR.same s4)) (k5.seqI hx4 (s4.seq hl)) ((Kept.same s4).trans k5)
    rcases ha with ha | ha
    · refine ⟨_, rfl, a, ws.map V.str, rfl, .inl ⟨s3.seq ha, fun t ht4 => ?_⟩⟩
      have st4 := same_upd (o := .tup (ws.map V.str)) ht4
      exact ⟨_, rfl, x, C, dx, _, rfl, st4 _ _ (s3 _ _ hx), M.cl, M.nD, (by show 0 < 1000; decide), fin t _ (SqT.of upd_same) st4⟩
    · exact ⟨_, rfl, a, ws.map V.str, rfl, .inr ⟨ha.ext s3, ⟨_, rfl, x, C, dx, _, rfl, s3 _ _ hx, M.cl, M.nD, (by show 0 < 1000; decide), fin a _ (ha.ext s3) (Same.refl _)⟩⟩⟩
end
end K1
set_option Elab.async false
set_option linter.all false
set_option maxRecDepth 100000
namespace L2
open PySem PySem.Spec PyProof.Rows
/-- len of an instance by its own __len__ -/
structure OwnL (K : PySem.W.Frag) (C f : Addr) : Prop where
  len : PySem.W.findIn K (.ref C) "__len__" = some (some (.ref f))
  fn : PySem.W.isFn K (.ref f) = true
def rLenOwn (C : Addr) (sp : Sp) (E : XK) : List V → Hp → VK → Prop := fun xs H Q => ∃ a dx fs, xs = [.ref a] ∧ H a = some (.ins C dx fs) ∧ sp [.ref a] H (fun v H' => ∃ n : Nat, v = .int (n : Int) ∧ n ≤ sizeLine ∧ Q (.int (n : Int)) H') E
theorem call_lenOwn {X : Cx} {n : Nat} {CX : CXT} {C f : Addr} {fd : FuncData} {ps : List Str} {sp : Sp} {E : XK} (O : OwnL X.K C f) (F : FnOk X.prog X.w X.K X.mg X.base CX n f fd ps sp) (hr : Room (n + 1) X.A) (hb : Binds X.K fd ps []) (hx : Passes CX X E) :
    CallR X (.builtin "len") (rLenOwn C sp E) := by
  intro pins s σ H xs us Q I r h
  obtain ⟨a, dx, fs, rfl, ha, hs⟩ := h
  obtain ⟨u, rfl, rx⟩ := vals1 r
  cases rx
  obtain ⟨mA, J, _⟩ := ins_get I.hok ha
  obtain ⟨od, J, _⟩ := J.look
  obtain ⟨m, hF⟩ := I.fr
  refine PySem.W.len_K hF I.ok.mod.kin J O.len O.fn ?_
  refine wpAny_mono (own_call (vs := [V.ref a]) F hb hx hr.in1 rfl I (.cons rfl .nil) hs) (fun u s' q => ?_) fun _ _ e => e
  obtain ⟨z, H', I', rz, n, rfl, hn, q⟩ := q
  obtain ⟨t, rfl⟩ := rz
  have hl := line63
  have : (sizeLine : Nat) = 16777216 := sizeLine_eq
  exact ⟨⟨by omega, by omega⟩, ⟨.int (n : Int), H', I'.tok _, ⟨_, rfl⟩, q⟩⟩
end L2
namespace K1
open PySem L2
theorem eqv_strs : ∀ ws ws2 : List Str, PyData.eqvAll (ws.map PyData.str) (ws2.map PyData.str) = decide (ws = ws2)
  | [], [] => by simp [PyData.eqvAll]
  | [], _ :: _ => by simp [PyData.eqvAll]
  | _ :: _, [] => by simp [PyData.eqvAll]
  | a :: r, b :: q => by
    simp only [List.map_cons, PyData.eqvAll, eqv_strs r q, PyData.eqv]
    by_cases e : a = b
    · subst e; simp
    · simp [e]
theorem eqv_ints : ∀ ws ws2 : List Int, PyData.eqvAll (ws.map PyData.int) (ws2.map PyData.int) = decide (ws = ws2)
  | [], [] => by simp [PyData.eqvAll]
  | [], _ :: _ => by simp [PyData.eqvAll]
  | _ :: _, [] => by simp [PyData.eqvAll]
  | a :: r, b :: q => by
    simp only [List.map_cons, PyData.eqvAll, eqv_ints r q, PyData.eqv]
    by_cases e : a = b
    · subst e; simp
    · simp [e]
def pdRow (r : List Int) : PyData := .tuple (r.map PyData.int)
theorem eqv_rows : ∀ ws ws2 : List (List Int), PyData.eqvAll (ws.map pdRow) (ws2.map pdRow) = decide (ws = ws2)
  | [], [] => by simp [PyData.eqvAll]
  | [], _ :: _ => by simp [PyData.eqvAll]
  | _ :: _, [] => by simp [PyData.eqvAll]
  | a :: r, b :: q => by
    simp only [List.map_cons, PyData.eqvAll, eqv_rows r q]
    have : PyData.eqv (pdRow a) (pdRow b) = decide (a = b) := by unfold pdRow; rw [PyData.eqv, eqv_ints]
    rw [this]
    by_cases e : a = b
    · subst e; simp
    · simp [e]
def OkS (ws : List Str) : Prop := ∀ z ∈ ws, PyData.strOk z = true
theorem TL_lt : ∀ c ∈ TL', c < 0x110000 := by decide +kernel
theorem ok_chars {z : Str} (h : ∀ c ∈ z.cps.toList, c ∈ TL') : PyData.strOk z = true := by
  unfold PyData.strOk
  rw [Array.all_eq_true']
  intro c hc
  exact decide_eq_true (TL_lt c (h c (by simpa using hc)))
theorem Wd.chars {z : Str} (h : Wd z) : ∀ c ∈ z.cps.toList, c ∈ AL := by
  obtain ⟨c, r, ez, hc, hr, _⟩ := h
  intro x hx
  rw [ez] at hx
  rcases List.mem_cons.mp hx with rfl | hx
  · exact LE_AL hc
  · exact hr x hx
theorem ok_wd {ws : List Str} (h : ∀ z ∈ ws, Wd z) : OkS ws := fun z hz => ok_chars fun c hc => List.mem_append_left _ ((h z hz).chars c hc)
theorem ok_tl {ws : List Str} (h : ∀ z ∈ ws, Tl z) : OkS ws := fun z hz => ok_chars (h z hz).2.2
theorem canLay_strs : ∀ ws : List Str, OkS ws → PyData.canLayAll0 (ws.map PyData.str) = true
  | [], _ => rfl
  | n :: r, h => by simp [PyData.canLayAll0, PyData.canLay0, canLay_strs r (fun z hz => h z (List.mem_cons_of_mem _ hz)), h n (List.mem_cons_self ..)]
theorem canLay_rows : ∀ rs : List (List Int), PyData.canLayAll0 (rs.map pdRow) = true
  | [] => rfl
  | n :: r => by simp [PyData.canLayAll0, PyData.canLay0, canLay_rows r, pdRow, canLay_ints]
theorem depth_ints : ∀ ns : List Int, PyData.depthAll (ns.map PyData.int) ≤ 1
  | [] => by decide
  | n :: r => by have := depth_ints r; simp only [List.map_cons, PyData.depthAll, PyData.depth]; omega
theorem depth_strs : ∀ ns : List Str, PyData.depthAll (ns.map PyData.str) ≤ 1
  | [] => by decide
  | n :: r => by have := depth_strs r; simp only [List.map_cons, PyData.depthAll, PyData.depth]; omega
theorem depth_rows : ∀ rs : List (List Int), PyData.depthAll (rs.map pdRow) ≤ 2
  | [] => by decide
  | n :: r => by
    have := depth_rows r
    have := depth_ints n
    simp only [List.map_cons, PyData.depthAll, PyData.depth, pdRow]
    omega
theorem shaped_of {d : PyData} (h : d.canLay0 = true) (e : d.depth ≤ 64) : SeqAt.shaped d = true := by
  unfold SeqAt.shaped
  rw [h]
  simp [e]
theorem shaped_strs {ws : List Str} (h : OkS ws) : SeqAt.shaped (.tuple (ws.map PyData.str)) = true := shaped_of (by rw [PyData.canLay0, canLay_strs _ h]) (by rw [PyData.depth]; have := depth_strs ws; omega)
theorem shaped_rows (rs : List (List Int)) : SeqAt.shaped (.tuple (rs.map pdRow)) = true := shaped_of (by rw [PyData.canLay0, canLay_rows]) (by rw [PyData.depth]; have := depth_rows rs; omega)
theorem dp_strs {K : PySem.W.Frag} {H : Hp} : ∀ ws : List Str, DpAll K H (ws.map V.str) (ws.map PyData.str)
  | [] => .nil
  | n :: r => .cons (.str n) (dp_strs r)
theorem dp_rows {K : PySem.W.Frag} {H : Hp} : ∀ {as : List Addr} {rs : List (List Int)}, RowsT H as rs → DpAll K H (as.map V.ref) (rs.map pdRow)
  | [], [], _ => .nil
  | [], _ :: _, h => by cases h.1
  | _ :: _, [], h => by cases h.1
  | a :: as, r :: rs, h => .cons (.tup (SqT.of (h.2 0 a r rfl rfl)) (dp_ints r)) (dp_rows ⟨by have := h.1; simpa using this, fun i b q e1 e2 => h.2 (i + 1) b q e1 e2⟩)
abbrev pEq : List Str := ["self", "other"]
/-- what of a class isinstance asks -/
structure Ti (K : PySem.W.Frag) (C : Addr) : Prop where
  ca : PySem.W.findIn K (.ref C) "__class__" = some (some (.builtin "object.__class__"))
  cs : PySem.W.specialIn K (.builtin "object.__class__") "__get__" = some (some (.builtin "getset_descriptor.__get__"))
  ct : PySem.W.takesIn K (.builtin "object.__class__") = some true
  cm : PySem.W.mroIn K C (.type "object") = some true
def spMLen (K : PySem.W.Frag) (C : Addr) : Sp := fun vs H Q _ => ∃ (x : Addr) (ws : List Str) (rs : List (List Int)) (ss : List Str) (st : Int), vs = [.ref x] ∧ MachAt K C H x ws rs ss st ∧ Q (.int (rs.length : Int)) H
def spMEq (K : PySem.W.Frag) (C : Addr) : Sp := fun vs H Q _ => ∃ (x y : Addr) (ws ws2 : List Str) (rs rs2 : List (List Int)) (ss ss2 : List Str) (st st2 : Int), vs = [.ref x, .ref y] ∧ MachAt K C H x ws rs ss st ∧ MachAt K C H y ws2 rs2 ss2 st2 ∧
  OkS ws ∧ OkS ws2 ∧ OkS ss ∧ OkS ss2 ∧ Q (.bl (decide (ws = ws2 ∧ rs = rs2 ∧ ss = ss2 ∧ st = st2))) H
/-- the other one is no machine -/
def preNI (C : Addr) : List V → Hp → Prop := fun vs H => ∃ (x dx : Addr) (fs : List (Str × V)) (v : V), vs = [.ref x, v] ∧ H x = some (.ins C dx fs) ∧ (v = .non ∨ (∃ i, v = .int i) ∨ ∃ l xs, v = .ref l ∧ H l = some (.lst xs))
section
variable {P : Program} {w : World} {K : PySem.W.Frag} {mg : Str → Option Value} {base : Heap}
theorem scMLen : FnScope ["self"] ["self"] (defScope sMLen) := ⟨rfl, rfl, rfl, by decide +kernel, rfl, by decide +kernel, by decide +kernel⟩
theorem ok_mlen {C f : Addr} {fd : FuncData} (F : Fun K "__len__" "Machine.__len__" sMLen f fd) (M : Tm K mg C) (T : Bt2 mg) : FnOk P w K mg base CX0 1 f fd ["self"] (spMLen K C) := by
  refine F.ok scMLen (fun vs H Q E h => ?_) (fun cdv A outer s H vs Q E hr h => ?_)
  · obtain ⟨x, ws, rs, ss, st, rfl, _⟩ := h
    rfl
  · obtain ⟨x, ws, rs, ss, st, rfl, ⟨dx, t, r, l, as, hx, ht, hr', hR, hl⟩, k⟩ := h
    refine ⟨_, pss_one (ps_ret (pe_callB call_len (by rfl) T.len PySem.boot_len (pa_cons (pe_fld (pv 0) rfl) pa_nil))), ?_⟩
    exact ⟨_, rfl, x, C, dx, _, _, rfl, hx, M.cl, M.nR, mf_rows _ _ _ _, _, rs.length, rfl, .inr ⟨_, SqT.of hr', by rw [List.length_map, hR.1]⟩, k⟩
theorem scMEq : FnScope pEq pEq (defScope sMEq) := ⟨rfl, rfl, rfl, by decide +kernel, rfl, by decide +kernel, by decide +kernel⟩
theorem ok_meq {C f : Addr} {fd : FuncData} (F : Fun K "__eq__" "Machine.__eq__" sMEq f fd) (M : Tm K mg C) (I : Ti K C) (T : Bt2 mg) : FnOk P w K mg base CX0 1 f fd pEq (spMEq K C) := by
  refine F.ok scMEq (fun vs H Q E h => ?_) (fun cdv A outer s H vs Q E hr h => ?_)
  · obtain ⟨x, y, ws, ws2, rs, rs2, ss, ss2, st, st2, rfl, _⟩ := h
    rfl
  · obtain ⟨x, y, ws, ws2, rs, rs2, ss, ss2, st, st2, rfl, ⟨dx, t, r, l, as, hx, ht, hr', hR, hl⟩, ⟨dy, t2, r2, l2, as2, hy, ht2, hr2, hR2, hl2⟩, ow, ow2, os, os2, k⟩ := h
    refine ⟨_, pss_cons (ps_if (pt_not (pt_val (pe_callB call_isi (by rfl) T.isinstance PyProof.Rows.boot_isinstance (pa_cons (pv 1) (pa_cons (pe_glob (v := .ref C) rfl M.mgC rfl) pa_nil))))) pss_never pss_nil)
      (pss_cons (ps_if (PW.pt (pw_or (pt_cmpR (op_neD hr.units) (pe_fld (pv 0) rfl) (pe_fld (pv 1) rfl) (nomark _)) (pw_or1 (pt_cmpR (op_neD hr.units) (pe_fld (pv 0) rfl) (pe_fld (pv 1) rfl) (nomark _))))) (pss_one (ps_ret pe_bl)) pss_nil)
      (pss_one (ps_ret (pe_and (pe_cmpR (op_eqD hr.units) (pe_fld (pv 0) rfl) (pe_fld (pv 1) rfl) (nomark _)) (pe_one (pe_cmpR op_eq (pe_fld (pv 0) rfl) (pe_fld (pv 1) rfl) (nomark _))))))), ?_⟩
    refine ⟨_, rfl, _, _, .ref C, .ref C, true, rfl, .own C, .base (.ins hy M.cl I.ca I.cs I.ct I.cm), by simp [PySem.W.kitOne], true, rfl, ?_⟩
    refine iteF ?_
    refine ⟨_, rfl, x, C, dx, _, _, rfl, hx, M.cl, M.nD, mf_deeds _ _ _ _, _, rfl, y, C, dy, _, _, rfl, hy, M.cl, M.nD, mf_deeds _ _ _ _, _, _, .tup ht (dp_strs ws), .tup ht2 (dp_strs ws2), shaped_strs ow, shaped_strs ow2, _, rfl, ?_⟩
    rw [PyData.eqv, eqv_strs]
    refine ite2 (fun h => ?_) (fun h => ?_)
    · have hne : ¬ ws = ws2 := by simpa using h
      refine iteT ?_
      have : decide (ws = ws2 ∧ rs = rs2 ∧ ss = ss2 ∧ st = st2) = false := decide_eq_false fun e => hne e.1
      rw [this] at k
      exact k
    · have e1 : ws = ws2 := by simpa using h
      refine ⟨_, rfl, x, C, dx, _, _, rfl, hx, M.cl, M.nR, mf_rows _ _ _ _, _, rfl, y, C, dy, _, _, rfl, hy, M.cl, M.nR, mf_rows _ _ _ _, _, _, .tup (SqT.of hr') (dp_rows hR), .tup (SqT.of hr2) (dp_rows hR2), shaped_rows rs, shaped_rows rs2, _, rfl, ?_⟩
      rw [PyData.eqv, eqv_rows]
      refine ite2 (fun h => ?_) (fun h => ?_)
      · have hne : ¬ rs = rs2 := by simpa using h
        have : decide (ws = ws2 ∧ rs = rs2 ∧ ss = ss2 ∧ st = st2) = false := decide_eq_false fun e => hne e.2.1
        rw [this] at k
        exact k
      · have e2 : rs = rs2 := by simpa using h
        refine ⟨_, rfl, x, C, dx, _, _, rfl, hx, M.cl, M.nT, mf_tells _ _ _ _, _, rfl, y, C, dy, _, _, rfl, hy, M.cl, M.nT, mf_tells _ _ _ _, _, _, .tup (SqT.of hl) (dp_strs ss), .tup (SqT.of hl2) (dp_strs ss2), shaped_strs os, shaped_strs os2, _, rfl, ?_⟩
        rw [PyData.eqv, eqv_strs]
        refine ite2 (fun h => ?_) (fun h => ?_)
        · have e3 : ss = ss2 := by simpa using h
          refine ⟨_, rfl, x, C, dx, _, _, rfl, hx, M.cl, M.nS, mf_start _ _ _ _, _, rfl, y, C, dy, _, _, rfl, hy, M.cl, M.nS, mf_start _ _ _ _, rfl, ?_⟩
          have : decide (ws = ws2 ∧ rs = rs2 ∧ ss = ss2 ∧ st = st2) = decide (V.int st = V.int st2) := by
            simp [e1, e2, e3]
          rw [this] at k
          exact k
        · have hne : ¬ ss = ss2 := by simpa using h
          have : decide (ws = ws2 ∧ rs = rs2 ∧ ss = ss2 ∧ st = st2) = false := decide_eq_false fun e => hne e.2.2.1
          rw [this] at k
          exact k
end
end K1
set_option Elab.async false
set_option linter.all false
set_option maxRecDepth 100000
namespace K1
open PySem L2
abbrev sMade : Stmt := top 54
abbrev sIsM : Stmt := top 55
theorem pk_deeds (t r l : Addr) (s : Int) : valV (plainK t r l s) kDeeds = some (.ref t) := valV_pos rfl
theorem pk_rows (t r l : Addr) (s : Int) : valV (plainK t r l s) kRows = some (.ref r) := by
  have h1 : ¬ (kDeeds = kRows) := by decide +kernel
  unfold plainK; rw [valV_neg h1]; exact valV_pos rfl
theorem pk_tells (t r l : Addr) (s : Int) : valV (plainK t r l s) kTells = some (.ref l) := by
  have h1 : ¬ (kDeeds = kTells) := by decide +kernel
  have h2 : ¬ (kRows = kTells) := by decide +kernel
  unfold plainK; rw [valV_neg h1, valV_neg h2]; exact valV_pos rfl
theorem pk_start (t r l : Addr) (s : Int) : valV (plainK t r l s) kStart = some (.int s) := by
  have h1 : ¬ (kDeeds = kStart) := by decide +kernel
  have h2 : ¬ (kRows = kStart) := by decide +kernel
  have h3 : ¬ (kTells = kStart) := by decide +kernel
  unfold plainK; rw [valV_neg h1, valV_neg h2, valV_neg h3]; exact valV_pos rfl
theorem gDeeds {H : Hp} {p t r l : Addr} {s : Int} (h : H p = some (.dK (plainK t r l s))) : DGet H p (.str "deeds") (some (.ref t)) := by have := DGet.k (k := kDeeds) h; rw [pk_deeds] at this; exact this
theorem gRows {H : Hp} {p t r l : Addr} {s : Int} (h : H p = some (.dK (plainK t r l s))) : DGet H p (.str "rows") (some (.ref r)) := by have := DGet.k (k := kRows) h; rw [pk_rows] at this; exact this
theorem gTells {H : Hp} {p t r l : Addr} {s : Int} (h : H p = some (.dK (plainK t r l s))) : DGet H p (.str "tells") (some (.ref l)) := by have := DGet.k (k := kTells) h; rw [pk_tells] at this; exact this
theorem gStart {H : Hp} {p t r l : Addr} {s : Int} (h : H p = some (.dK (plainK t r l s))) : DGet H p (.str "start") (some (.int s)) := by have := DGet.k (k := kStart) h; rw [pk_start] at this; exact this
/-- the class as isinstance sees it -/
structure Ti2 (K : PySem.W.Frag) (C : Addr) : Prop extends Ti K C where
  ci : (PySem.W.clsIn K C).isSome = true
  ty : PySem.W.typeIn K (.ref C) = some (.type "type")
theorem kit_no {K : PySem.W.Frag} {C : Addr} (I : Ti2 K C) {T : String} {l : List Value} (h : fastBuiltinMro T = some l) (hc : l.contains (.ref C) = false) : PySem.W.kitOne K (.type T) (.ref C) = some false := by
  unfold PySem.W.kitOne PySem.W.kitCls PySem.W.subIn
  simp only [I.ci, I.ty, h, Option.map_some, hc]
  simp
def spMade (K : PySem.W.Frag) (C : Addr) : Sp := fun vs H Q _ => ∃ (p : Addr) (ws : List Str) (rs : List (List Int)) (ss : List Str) (st : Int), vs = [.ref p] ∧ PlainAt H p ws rs ss st ∧ Parts ws rs ss st ∧
  ∀ (x : Addr) (H' : Hp), H x = none → MachAt K C H' x ws rs ss st → Same H H' → Q (.ref x) H'
def spIsM (K : PySem.W.Frag) (C : Addr) : Sp := fun vs H Q _ => ∃ (x p : Addr) (ws : List Str) (rs : List (List Int)) (ss : List Str) (st : Int), vs = [.ref x, .ref p] ∧ MachAt K C H x ws rs ss st ∧ PlainAt H p ws rs ss st ∧ OkS ws ∧ OkS ss ∧ rs.length ≤ 60 ∧
  ∀ H', Same H H' → Q (.bl true) H'
section
variable {P : Program} {w : World} {K : PySem.W.Frag} {mg : Str → Option Value} {base : Heap}
theorem ok_ni {C f : Addr} {fd : FuncData} (F : Fun K "__eq__" "Machine.__eq__" sMEq f fd) (M : Tm K mg C) (I : Ti2 K C) (T : Bt2 mg) (hn : mg "NotImplemented" = none) : FnNI P w K mg base 1 f fd pEq (preNI C) := by
  obtain ⟨oc, od, kV, doc, pm, an, cdv, ct, osl, rfl, lk, hcd⟩ := F.ex
  refine fn_NI (N := pEq) lk hcd scMEq (fun vs H h => ?_) rfl rfl hn (by decide +kernel) (fun A outer s H vs hr h => ?_)
  · obtain ⟨x, dx, fs, v, rfl, _⟩ := h
    rfl
  · obtain ⟨x, dx, fs, v, rfl, hx, hv⟩ := h
    refine ⟨_, pt_not (pt_val (pe_callB call_isi (by rfl) T.isinstance PyProof.Rows.boot_isinstance (pa_cons (pv 1) (pa_cons (pe_glob (v := .ref C) rfl M.mgC rfl) pa_nil)))), ?_⟩
    rcases hv with rfl | ⟨i, rfl⟩ | ⟨l, xs, rfl, hl⟩
    · exact ⟨_, rfl, _, _, .type "NoneType", .ref C, false, rfl, .own C, .base .non, kit_no I EO.mro_None (by simp), false, rfl, rfl, Same.refl H⟩
    · exact ⟨_, rfl, _, _, .type "int", .ref C, false, rfl, .own C, .base (.int i), kit_no I EO.mro_int (by simp), false, rfl, rfl, Same.refl H⟩
    · exact ⟨_, rfl, _, _, .type "list", .ref C, false, rfl, .own C, .base (.lst hl), kit_no I EO.mro_list (by simp), false, rfl, rfl, Same.refl H⟩
abbrev nMade : List Str := ["_law_plain_here", "_law_row"]
theorem scMade : FnScope nMade ["_law_plain_here"] (defScope sMade) := ⟨rfl, rfl, rfl, by decide +kernel, rfl, by decide +kernel, by decide +kernel⟩
def rLi (K : PySem.W.Frag) : List V → Hp → VK → Prop := fun xs H Q => ∃ p ys, xs = [.ref p] ∧ (SqL K H p ys ∨ SqT K H p ys) ∧ ∀ l, H l = none → Q (.ref l) (upd H l (.lst ys))
theorem ok_made {C f fI : Addr} {fd fdI : FuncData} (D : Df K mg "_law_made" sMade ["_law_plain_here"] f fd) (M : Tm K mg C) (T : Bt2 mg) (Mk' : Mk K C fI) (GI : FnOk P w K mg base CX0 5 fI fdI pInit (spMInit K C)) (bI : Binds K fdI pInit []) : FnOk P w K mg base CX0 7 f fd ["_law_plain_here"] (spMade K C) := by
  refine D.F.ok scMade (fun vs H Q E h => ?_) (fun cdv A outer s H vs Q E hr h => ?_)
  · obtain ⟨p, ws, rs, ss, st, rfl, _⟩ := h
    rfl
  · obtain ⟨p, ws, rs, ss, st, rfl, ⟨t, r, l, as, hp, ht, hr', hl, hR⟩, pt, k⟩ := h
    have hu := hu_of hr
    refine ⟨_, pss_one (ps_ret (pe_make Mk' GI hr rfl M.mgC bI .nil pass0 (pa_cons (pe_dget hu (pv 0) pe_str (fun _ _ => rfl))
      (pa_cons (pe_lc (own := [("_law_row", 1)]) (g := gName 1) (by rfl) scMade.nd (pi_list (pe_dget hu (pv 0) pe_str (fun _ _ => rfl)))
            (blkOk_by (own := [("_law_row", 1)]) (N := nMade) (sc := defScope sMade) (by decide +kernel)) (fun _ _ _ _ _ => pg_name (i := 1) scMade.nd rfl (Or.inl rfl)) (fun _ _ _ _ _ => pts_nil)
            (fun _ _ _ _ _ => pe_callTy (r := rLi K) call_list_of (by rfl) T.list PyProof.Rows.boot_list (pa_cons (pv 1) pa_nil)))
      (pa_cons (pe_callTy call_list_of (by rfl) T.list PyProof.Rows.boot_list (pa_cons (pe_dget hu (pv 0) pe_str (fun _ _ => rfl)) pa_nil))
      (pa_cons (pe_dget hu (pv 0) pe_str (fun _ _ => rfl)) pa_nil)))))), ?_⟩
    refine ⟨_, rfl, p, _, rfl, gDeeds hp, _, rfl, p, _, rfl, gRows hp, r, rfl, ⟨_, SqL.of hr'⟩, fun D1 hD => ?_⟩
    refine lc_list (K := K) (a := r) (xs := as.map V.ref) (fun i H' => Same H H' ∧ ∃ bs : List Addr, bs.length = i ∧ H' D1 = some (.lst (bs.map V.ref)) ∧ RowsAt H' bs (rs.take i) ∧ ∀ q ∈ bs, q ≠ D1) ?_ ?_ ?_ ?_
    · exact ⟨same_upd hD, [], rfl, upd_same, ⟨by simp, fun i a r e => by simp at e⟩, by simp⟩
    · exact fun i H' _ q => SqL.of (q.1 _ _ hr')
    · rintro i y H6 hi ⟨sm6, bs, hbs, hD6, hR6, hnD⟩
      rw [List.getElem?_map] at hi
      obtain ⟨ai, eai, rfl⟩ := Option.map_eq_some_iff.mp hi
      have hir : i < rs.length := by rw [← hR.1]; exact (List.getElem?_eq_some_iff.mp eai).1
      have eri : rs[i]? = some rs[i] := List.getElem?_eq_getElem hir
      have ha6 := sm6 _ _ (hR.2 i ai _ eai eri)
      refine ⟨rfl, _, rfl, ai, _, rfl, .inl (SqL.of ha6), fun q hq => ?_⟩
      have nDq : D1 ≠ q := ne_of_none hD6 hq
      have h60 := pt.many.2
      refine ⟨_, (by rw [upd_ne nDq]; exact hD6), ?_, ?_, bs ++ [q], by simp [hbs], by rw [upd_same]; simp, ?_, ?_⟩
      · rw [List.length_map]; exact small1000 (by omega)
      · exact fun c o e => by rw [upd_ne (ne_of_none e hD), upd_ne (ne_of_none (sm6 _ _ e) hq)]; exact sm6 _ _ e
      · have e7 : RowsAt (upd H6 q (.lst ((rs[i]).map V.int))) (bs ++ [q]) (rs.take i ++ [rs[i]]) := (hR6.same (same_upd hq)).snoc upd_same
        rw [List.take_add_one, eri]
        refine ⟨e7.1, fun j c r e1 e2 => ?_⟩
        have hm := List.mem_of_getElem? e1
        have : c ≠ D1 := by
          rcases List.mem_append.mp hm with h | h
          · exact hnD c h
          · rw [List.mem_singleton.mp h]; exact nDq.symm
        rw [upd_ne this]
        exact e7.2 j c r e1 e2
      · intro c hc
        rcases List.mem_append.mp hc with h | h
        · exact hnD c h
        · rw [List.mem_singleton.mp h]; exact nDq.symm
    · rintro H6 ⟨sm6, bs, hbs, hD6, hR6, hnD⟩
      have etk : rs.take (as.map V.ref).length = rs := by rw [List.length_map, hR.1, List.take_length]
      rw [etk] at hR6
      refine ⟨_, rfl, p, _, rfl, gTells (sm6 _ _ hp), l, _, rfl, .inl (SqL.of (sm6 _ _ hl)), fun l2 hl2 => ?_⟩
      have sl := same_upd (o := .lst (ss.map V.str)) hl2
      have s7 := sm6.trans sl
      refine ⟨_, rfl, p, _, rfl, gStart (s7 _ _ hp), ?_⟩
      intro x dx hx hdx ndx
      have zx : H x = none := s7.free hx
      have s8 : Same (upd H6 l2 (.lst (ss.map V.str))) (upd (upd (upd H6 l2 (.lst (ss.map V.str))) dx (.own x)) x (.ins C dx [])) := fun b o e => by
        rw [upd_ne (ne_of_none e hx), upd_ne (ne_of_none e hdx)]; exact e
      refine ⟨x, dx, t, D1, l2, bs, ws, rs, ss, st, rfl, upd_same, .inr (SqT.of (s8 _ _ (s7 _ _ ht))), SqL.of (s8 _ _ (sl _ _ hD6)), (hR6.same sl).same s8, SqL.of (s8 _ _ upd_same), pt, fun H9 hm hk => ⟨rfl, ?_⟩⟩
      exact k x H9 zx hm fun b o e => hk b o (s8 _ _ (s7 _ _ e)) (ne_of_none e zx)
end
end K1
set_option Elab.async false
set_option linter.all false
set_option maxRecDepth 100000
namespace K1
open PySem L2
section
variable {P : Program} {w : World} {K : PySem.W.Frag} {mg : Str → Option Value} {base : Heap}
abbrev pIsM : List Str := ["_law_machine", "_law_plain_here"]
abbrev nIsM : List Str := ["_law_machine", "_law_plain_here", "_law_row"]
theorem scIsM : FnScope nIsM pIsM (defScope sIsM) := ⟨rfl, rfl, rfl, by decide +kernel, rfl, by decide +kernel, by decide +kernel⟩
theorem ok_ism {C f fL : Addr} {fd fdL : FuncData} (D : Df K mg "_law_is_machine" sIsM pIsM f fd) (M : Tm K mg C) (T : Bt2 mg) (FL : Fun K "__len__" "Machine.__len__" sMLen fL fdL) (bL : Binds K fdL ["self"] []) (OL : OwnL K C fL) : FnOk P w K mg base CX0 3 f fd pIsM (spIsM K C) := by
  have GL : FnOk P w K mg base CX0 1 fL fdL ["self"] (spMLen K C) := ok_mlen FL M T
  refine D.F.ok scIsM (fun vs H Q E h => ?_) (fun cdv A outer s H vs Q E hr h => ?_)
  · obtain ⟨x, p, ws, rs, ss, st, rfl, _⟩ := h
    rfl
  · obtain ⟨x, p, ws, rs, ss, st, rfl, mx, ⟨t, r, l, as, hp, ht, hr', hl, hR⟩, ow, os, h60, k⟩ := h
    obtain ⟨dx, tx, rx, lx, bs0, hx, htx, hrx, hRx, hlx⟩ := id mx
    have hu := hu_of hr
    refine ⟨_, pss_cons (ps_if (PW.pt (pw_or (pt_cmpR (op_neD hr.units) (pe_fld (pv 0) rfl) (pe_dget hu (pv 1) pe_str (fun _ _ => rfl)) (nomark _))
          (pw_or (pt_cmpR op_ne (pe_fld (pv 0) rfl) (pe_dget hu (pv 1) pe_str (fun _ _ => rfl)) (nomark _))
          (pw_or1 (pt_cmpR op_ne (pe_callB (call_lenOwn OL GL hr bL pass0) (by rfl) T.len PySem.boot_len (pa_cons (pv 0) pa_nil)) (pe_callB call_len (by rfl) T.len PySem.boot_len (pa_cons (pe_dget hu (pv 1) pe_str (fun _ _ => rfl)) pa_nil)) (nomark _)))))) (pss_one (ps_ret pe_bl)) pss_nil)
      (pss_one (ps_ret (pe_and (pe_cmpR (op_eqD hr.units) (pe_fld (pv 0) rfl) (pe_callTy call_tuple_of (by rfl) T.tuple PyProof.Rows.boot_tuple (pa_cons (pe_lc (own := [("_law_row", 2)]) (g := gName 2) (by rfl) scIsM.nd (pi_list (pe_dget hu (pv 1) pe_str (fun _ _ => rfl)))
            (blkOk_by (own := [("_law_row", 2)]) (N := nIsM) (sc := defScope sIsM) (by decide +kernel)) (fun _ _ _ _ _ => pg_name (i := 2) scIsM.nd rfl (Or.inl rfl)) (fun _ _ _ _ _ => pts_nil)
            (fun _ _ _ _ _ => pe_callTy (r := rTu K) call_tuple_of (by rfl) T.tuple PyProof.Rows.boot_tuple (pa_cons (pv 2) pa_nil))) pa_nil)) (nomark _))
          (pe_one (pe_cmpR (op_eqD hr.units) (pe_fld (pv 0) rfl) (pe_callTy call_tuple_of (by rfl) T.tuple PyProof.Rows.boot_tuple (pa_cons (pe_dget hu (pv 1) pe_str (fun _ _ => rfl)) pa_nil)) (nomark _)))))), ?_⟩
    refine ⟨_, rfl, x, C, dx, _, _, rfl, hx, M.cl, M.nD, mf_deeds _ _ _ _, _, rfl, p, _, rfl, gDeeds hp, _, _, .tup htx (dp_strs ws), .tup (SqT.of ht) (dp_strs ws), shaped_strs ow, shaped_strs ow, _, rfl, ?_⟩
    rw [PyData.eqv, eqv_strs]
    refine ite2 (fun h => by simp at h) (fun _ => ?_)
    refine ⟨_, rfl, x, C, dx, _, _, rfl, hx, M.cl, M.nS, mf_start _ _ _ _, _, rfl, p, _, rfl, gStart hp, rfl, _, rfl, ?_⟩
    refine ite2 (fun h => by simp at h) (fun _ => ?_)
    refine ⟨_, rfl, x, dx, _, rfl, hx, x, ws, rs, ss, st, rfl, mx, rs.length, rfl, Nat.le_trans h60 (by decide), ?_⟩
    refine ⟨_, rfl, p, _, rfl, gRows hp, _, rs.length, rfl, .inl ⟨_, SqL.of hr', by rw [List.length_map, hR.1]⟩, rfl, _, rfl, ?_⟩
    refine ite2 (fun h => by simp at h) (fun _ => ?_)
    -- machine.rows == tuple([..])
    refine ⟨_, rfl, x, C, dx, _, _, rfl, hx, M.cl, M.nR, mf_rows _ _ _ _, _, rfl, p, _, rfl, gRows hp, r, rfl, ⟨_, SqL.of hr'⟩, fun D1 hD => ?_⟩
    refine lc_list (K := K) (a := r) (xs := as.map V.ref) (fun i H' => Same H H' ∧ ∃ bs : List Addr, bs.length = i ∧ H' D1 = some (.lst (bs.map V.ref)) ∧ RowsT H' bs (rs.take i) ∧ ∀ q ∈ bs, q ≠ D1) ?_ ?_ ?_ ?_
    · exact ⟨same_upd hD, [], rfl, upd_same, ⟨by simp, fun i a r e => by simp at e⟩, by simp⟩
    · exact fun i H' _ q => SqL.of (q.1 _ _ hr')
    · rintro i y H6 hi ⟨sm6, bs, hbs, hD6, hR6, hnD⟩
      rw [List.getElem?_map] at hi
      obtain ⟨ai, eai, rfl⟩ := Option.map_eq_some_iff.mp hi
      have hir : i < rs.length := by rw [← hR.1]; exact (List.getElem?_eq_some_iff.mp eai).1
      have eri : rs[i]? = some rs[i] := List.getElem?_eq_getElem hir
      have ha6 := sm6 _ _ (hR.2 i ai _ eai eri)
      refine ⟨rfl, _, rfl, ai, _, rfl, .inl ⟨SqL.of ha6, fun q hq => ?_⟩⟩
      have nDq : D1 ≠ q := ne_of_none hD6 hq
      refine ⟨_, (by rw [upd_ne nDq]; exact hD6), ?_, ?_, bs ++ [q], by simp [hbs], by rw [upd_same]; simp, ?_, ?_⟩
      · rw [List.length_map]; exact small1000 (by omega)
      · exact fun c o e => by rw [upd_ne (ne_of_none e hD), upd_ne (ne_of_none (sm6 _ _ e) hq)]; exact sm6 _ _ e
      · have e7 : RowsT (upd H6 q (.tup ((rs[i]).map V.int))) (bs ++ [q]) (rs.take i ++ [rs[i]]) := (hR6.same (same_upd hq)).snoc upd_same
        rw [List.take_add_one, eri]
        refine ⟨e7.1, fun j c r e1 e2 => ?_⟩
        have hm := List.mem_of_getElem? e1
        have : c ≠ D1 := by
          rcases List.mem_append.mp hm with h | h
          · exact hnD c h
          · rw [List.mem_singleton.mp h]; exact nDq.symm
        rw [upd_ne this]
        exact e7.2 j c r e1 e2
      · intro c hc
        rcases List.mem_append.mp hc with h | h
        · exact hnD c h
        · rw [List.mem_singleton.mp h]; exact nDq.symm
    · rintro H6 ⟨sm6, bs, hbs, hD6, hR6, hnD⟩
      have etk : rs.take (as.map V.ref).length = rs := by rw [List.length_map, hR.1, List.take_length]
      rw [etk] at hR6
      refine ⟨D1, _, rfl, .inl ⟨SqL.of hD6, fun q hq => ?_⟩⟩
      have sq := same_upd (o := .tup (bs.map V.ref)) hq
      have s7 := sm6.trans sq
      refine ⟨_, _, .tup (SqT.of (s7 _ _ hrx)) (dp_rows (hRx.same s7)), .tup (SqT.of upd_same) (dp_rows (hR6.same sq)), shaped_rows rs, shaped_rows rs, ?_⟩
      rw [PyData.eqv, eqv_rows, decide_eq_true rfl]
      refine ⟨true, rfl, ?_⟩
      refine iteT ?_
      refine ⟨_, rfl, x, C, dx, _, _, rfl, s7 _ _ hx, M.cl, M.nT, mf_tells _ _ _ _, _, rfl, p, _, rfl, gTells (s7 _ _ hp), l, _, rfl, .inl ⟨SqL.of (s7 _ _ hl), fun q2 hq2 => ?_⟩⟩
      have sq2 := same_upd (o := .tup (ss.map V.str)) hq2
      refine ⟨_, _, .tup (SqT.of (sq2 _ _ (s7 _ _ hlx))) (dp_strs ss), .tup (SqT.of upd_same) (dp_strs ss), shaped_strs os, shaped_strs os, ?_⟩
      rw [PyData.eqv, eqv_strs, decide_eq_true rfl]
      exact k _ (s7.trans sq2)
end
end K1
set_option Elab.async false
set_option linter.all false
set_option maxRecDepth 100000
/-! what counts as an integer, an index, a word, a tell: of any value -/
namespace K1
open PySem L2
inductive Th (K : PySem.W.Frag) (H : Hp) : V → String → Prop
  | non : Th K H .non "NoneType"
  | bl (b : Bool) : Th K H (.bl b) "bool"
  | int (i : Int) : Th K H (.int i) "int"
  | str (z : Str) (hl : z.length ≤ 1000) : Th K H (.str z) "str"
  | tup {a : Addr} {xs : List V} (e : H a = some (.tup xs)) : Th K H (.ref a) "tuple"
  | lst {a : Addr} {xs : List V} (e : H a = some (.lst xs)) : Th K H (.ref a) "list"
  | dic {a : Addr} {kv : List (Key × V)} (e : H a = some (.dK kv)) : Th K H (.ref a) "dict"
theorem Th.ty {K : PySem.W.Frag} {H : Hp} {v : V} {t : String} (h : Th K H v t) : TyX K H v (.type t) := by
  cases h with
  | non => exact .base .non
  | bl b => exact .base (.bl b)
  | int i => exact .base (.int i)
  | str z => exact .base (.str z)
  | tup e => exact .base (.tup e)
  | lst e => exact .base (.lst e)
  | dic e => exact .base (.dK e)
theorem Th.same {K : PySem.W.Frag} {H H' : Hp} {v : V} {t : String} (h : Th K H v t) (s : Same H H') : Th K H' v t := by
  cases h with
  | non => exact .non
  | bl b => exact .bl b
  | int i => exact .int i
  | str z hl => exact .str z hl
  | tup e => exact .tup (s _ _ e)
  | lst e => exact .lst (s _ _ e)
  | dic e => exact .dic (s _ _ e)
def isStr : V → Bool | .str _ => true | _ => false
def isInt : V → Bool | .int _ => true | .bl _ => true | _ => false
def isBl : V → Bool | .bl _ => true | _ => false
def intB : V → Bool | .int _ => true | _ => false
def ixB (v : V) (m : Int) : Bool := match v with | .int i => decide (0 ≤ i) && decide (i < m) | _ => false
def wordL : List Nat → Bool
  | [] => false
  | c :: r => decide ((c :: r).length ≤ 12) && (decide (c ∈ LE) && (c :: r).all fun x => decide (x ∈ AL))
def wordB : V → Bool | .str z => wordL z.cps.toList | _ => false
def tellL (l : List Nat) : Bool := decide (1 ≤ l.length) && (decide (l.length ≤ 60) && l.all fun x => decide (x ∈ TL'))
def tellB : V → Bool | .str z => tellL z.cps.toList | _ => false
section
variable {K : PySem.W.Frag} {H : Hp} {v : V} {t : String}
theorem Th.kStr (h : Th K H v t) : PySem.W.kitOne K (.type t) (.type "str") = some (isStr v) := by cases h <;> first | exact kit_ty (r := true) (by decide +kernel) | exact kit_ty (r := false) (by decide +kernel)
theorem Th.kInt (h : Th K H v t) : PySem.W.kitOne K (.type t) (.type "int") = some (isInt v) := by cases h <;> first | exact kit_ty (r := true) (by decide +kernel) | exact kit_ty (r := false) (by decide +kernel)
theorem Th.kBl (h : Th K H v t) : PySem.W.kitOne K (.type t) (.type "bool") = some (isBl v) := by cases h <;> first | exact kit_ty (r := true) (by decide +kernel) | exact kit_ty (r := false) (by decide +kernel)
end
def spInt (K : PySem.W.Frag) : Sp := fun vs H Q _ => ∃ v t, vs = [v] ∧ Th K H v t ∧ Q (.bl (intB v)) H
def spIx (K : PySem.W.Frag) : Sp := fun vs H Q _ => ∃ v t m, vs = [v, .int m] ∧ Th K H v t ∧ Q (.bl (ixB v m)) H
def spWord (K : PySem.W.Frag) : Sp := fun vs H Q _ => ∃ v t, vs = [v] ∧ Th K H v t ∧ ∀ H', Same H H' → Q (.bl (wordB v)) H'
def spTell (K : PySem.W.Frag) : Sp := fun vs H Q _ => ∃ v t, vs = [v] ∧ Th K H v t ∧ ∀ H', Same H H' → Q (.bl (tellB v)) H'
section
variable {P : Program} {w : World} {K : PySem.W.Frag} {mg : Str → Option Value} {base : Heap}
theorem g_isint {f : Addr} {fd : FuncData} (D : Df K mg "is_integer" sIsInt ["value"] f fd) (T : Bt2 mg) : FnOk P w K mg base CX0 1 f fd ["value"] (spInt K) := by
  refine D.F.ok scIsInt (fun vs H Q E h => ?_) (fun cdv A outer s H vs Q E hr h => ?_)
  · obtain ⟨v, t, rfl, _⟩ := h
    rfl
  · obtain ⟨v, t, rfl, th, k⟩ := h
    refine ⟨_, pss_one (ps_ret (pe_and (pe_callB call_isi (by rfl) T.isinstance PyProof.Rows.boot_isinstance (pa_cons (pv 0) (pa_cons (pe_bltn (v := .ty "int") (by rfl) T.int PyProof.Rows.boot_int rfl) pa_nil)))
      (pe_one (pe_not (pe_callB call_isi (by rfl) T.isinstance PyProof.Rows.boot_isinstance (pa_cons (pv 0) (pa_cons (pe_bltn (v := .ty "bool") (by rfl) T.bool PyProof.Rows.boot_bool rfl) pa_nil))))))), ?_⟩
    refine ⟨_, rfl, _, _, _, _, isInt v, rfl, .ty "int", th.ty, th.kInt, isInt v, rfl, ?_⟩
    cases v with
    | int i => exact ⟨_, rfl, _, _, _, _, false, rfl, .ty "bool", th.ty, th.kBl, false, rfl, k⟩
    | bl b => exact ⟨_, rfl, _, _, _, _, true, rfl, .ty "bool", th.ty, th.kBl, true, rfl, k⟩
    | _ => exact k
theorem g_isindex {f fI : Addr} {fd fdI : FuncData} (D : Df K mg "is_index" sIsIndex ["value", "many"] f fd) (DI : Df K mg "is_integer" sIsInt ["value"] fI fdI) (T : Bt2 mg) : FnOk P w K mg base CX0 2 f fd ["value", "many"] (spIx K) := by
  have GI : FnOk P w K mg base CX0 1 fI fdI ["value"] (spInt K) := g_isint DI T
  refine D.F.ok scIsIndex (fun vs H Q E h => ?_) (fun cdv A outer s H vs Q E hr h => ?_)
  · obtain ⟨v, t, m, rfl, _⟩ := h
    rfl
  · obtain ⟨v, t, m, rfl, th, k⟩ := h
    refine ⟨_, pss_one (ps_ret (pe_and (pe_call GI hr rfl DI.g DI.F.kp DI.b .nil pass0 (pa_cons (pv 0) pa_nil)) (pe_one (pe_chain op_le op_lt pe_int (pv 0) (pv 1))))), ?_⟩
    refine ⟨_, rfl, v, t, rfl, th, intB v, rfl, ?_⟩
    cases v with
    | int i =>
      refine ⟨_, rfl, _, _, rfl, rfl, _, rfl, ?_⟩
      refine ite2 (fun h => ?_) (fun h => ?_)
      · refine ⟨_, rfl, _, _, rfl, rfl, ?_⟩
        have e : ixB (.int i) m = decide (i < m) := by
          show (decide (0 ≤ i) && decide (i < m)) = _
          rw [h]; rfl
        rw [e] at k
        exact k
      · have e : ixB (.int i) m = false := by
          show (decide (0 ≤ i) && decide (i < m)) = _
          rw [Bool.eq_false_iff.mpr h]; rfl
        rw [e] at k
        exact k
    | _ => exact k
end
end K1
set_option Elab.async false
set_option linter.all false
set_option maxRecDepth 100000
namespace K1
open PySem L2
/-- the signs of z held against a row of signs, one after the other -/
theorem all_signs {K : PySem.W.Frag} (A : List Nat) (l : List Nat) : ((l.map fun x => decide (x ∈ A)).all id) = l.all fun x => decide (x ∈ A) := by
  rw [List.all_map]; rfl
theorem take_snoc {l : List Nat} {i : Nat} {c : Nat} (h : l[i]? = some c) : l.take (i + 1) = l.take i ++ [c] := by
  rw [List.take_add_one, h]; rfl
section
variable {P : Program} {w : World} {K : PySem.W.Frag} {mg : Str → Option Value} {base : Heap}
theorem g_isword {f : Addr} {fd : FuncData} (D : Df K mg "is_word" sIsWord ["value"] f fd) (T : Bt2 mg) : FnOk P w K mg base CX0 1 f fd ["value"] (spWord K) := by
  refine D.F.ok scIsWord (fun vs H Q E h => ?_) (fun cdv A outer s H vs Q E hr h => ?_)
  · obtain ⟨v, t, rfl, _⟩ := h
    rfl
  · obtain ⟨v, t, rfl, th, k⟩ := h
    obtain ⟨tL, gL⟩ := T.LETTERS
    obtain ⟨tD, gD⟩ := T.DIGITS
    obtain ⟨tW, gW⟩ := T.LONGEST_WORD
    refine ⟨_, pss_cons (ps_if (PW.pt (pw_or (pt_not (pt_val (pe_callB call_isi (by rfl) T.isinstance PyProof.Rows.boot_isinstance (pa_cons (pv 0) (pa_cons (pe_bltn (v := .ty "str") (by rfl) T.str PyProof.Rows.boot_str rfl) pa_nil)))))
          (pw_or1 (pt_not (pt_chain op_le op_le pe_int (pe_callB call_len_str (by rfl) T.len PySem.boot_len (pa_cons (pv 0) pa_nil)) (pe_glob (v := .int 12) rfl gW ⟨_, rfl⟩))))))
        (pss_one (ps_ret pe_bl)) pss_nil)
      (pss_one (ps_ret (pe_and (pe_cmpR op_in_sign (pe_ix ix_str (pv 0) pe_int (fun _ _ => rfl)) (pe_glob (v := .str zLE) rfl gL ⟨_, rfl⟩) rfl)
        (pe_one (pe_callB (cr_all rfl) (by rfl) T.all PyProof.Rows.boot_all (pa_cons (pe_lc (own := [("sign", 1)]) (g := gName 1) (by rfl) scIsWord.nd (pi_str (pv 0))
          (blkOk_by (own := [("sign", 1)]) (N := ["value", "sign"]) (sc := defScope sIsWord) (by decide +kernel)) (fun _ _ _ _ _ => pg_name (i := 1) scIsWord.nd rfl (Or.inl rfl)) (fun _ _ _ _ _ => pts_nil)
          (fun _ _ _ _ _ => pe_cmpR op_in_sign (pv 1) (pe_op op_add_str (pe_glob (v := .str zLE) rfl gL ⟨_, rfl⟩) (pe_glob (v := .str zDG) rfl gD ⟨_, rfl⟩)) rfl)) pa_nil)))))), ?_⟩
    refine ⟨_, rfl, _, _, _, _, isStr v, rfl, .ty "str", th.ty, th.kStr, isStr v, rfl, ?_⟩
    cases th with
    | str z hl1 =>
      refine iteF ?_
      have hzl : z.length ≤ sizeLine := Nat.le_trans hl1 (by decide)
      have elen : z.length = z.cps.toList.length := len_tl z
      refine ⟨_, rfl, _, rfl, hzl, _, _, rfl, rfl, _, rfl, ?_⟩
      refine ite2 (fun h1 => ?_) (fun h1 => ?_)
      · have h1' : (1 : Int) ≤ (z.length : Int) := of_decide_eq_true h1
        refine ⟨_, _, rfl, rfl, _, rfl, ?_⟩
        refine ite2 (fun h2 => ?_) (fun h2 => ?_)
        · have e : wordB (.str z) = false := by
            have hn : ¬ z.cps.toList.length ≤ 12 := by
              intro hc
              have : decide ((z.length : Int) ≤ 12) = true := decide_eq_true (by omega)
              rw [this] at h2; exact absurd h2 (by decide)
            show wordL z.cps.toList = false
            cases hz : z.cps.toList with
            | nil => rfl
            | cons c r => rw [hz] at hn; show (decide _ && _) = false; rw [decide_eq_false hn]; rfl
          have := k H (Same.refl H)
          rw [e] at this
          exact this
        · have h12 : z.cps.toList.length ≤ 12 := by
            have : decide ((z.length : Int) ≤ 12) = true := by
              cases hd : decide ((z.length : Int) ≤ 12) with
              | true => rfl
              | false => rw [hd] at h2; exact absurd rfl h2
            have := of_decide_eq_true this
            omega
          obtain ⟨c, r, ez⟩ : ∃ c r, z.cps.toList = c :: r := by
            cases hz : z.cps.toList with
            | nil => rw [hz] at elen; simp at elen; omega
            | cons c r => exact ⟨c, r, rfl⟩
          have ew : wordB (.str z) = (decide (c ∈ LE) && z.cps.toList.all fun x => decide (x ∈ AL)) := by
            show wordL z.cps.toList = _
            rw [ez]
            show (decide _ && _) = _
            rw [ez] at h12
            rw [decide_eq_true h12]; rfl
          refine ⟨_, rfl, z, _, c, rfl, rfl, hzl, ?_, c, zLE, rfl, rfl, decide (c ∈ LE), rfl, ?_⟩
          · rw [ez]; exact atI_nat (j := 0) rfl
          refine ite2 (fun hc => ?_) (fun hc => ?_)
          · refine ⟨_, rfl, z, rfl, fun D hD => ?_⟩
            refine lc_it (walk_str (z := z)) (fun i H' => Same H H' ∧ H' D = some (.lst ((((z.cps.toList.take i).map fun x => decide (x ∈ AL))).map V.bl))) ?_ ?_ ?_ ?_
            · exact ⟨same_upd hD, upd_same⟩
            · exact fun _ _ _ _ => trivial
            · rintro i x H1 H2 hi ⟨sm, hD1⟩ ⟨rfl, c', hc', rfl⟩
              have hi' : z.cps.toList[i]? = some c' := by simpa using hc'
              refine ⟨rfl, _, rfl, _, _, rfl, rfl, by decide +kernel, c', zLE ++ zDG, rfl, rfl, _, hD1, ?_, ?_, ?_⟩
              · rw [List.length_map, List.length_map, List.length_take]; exact small1000 (by omega)
              · exact fun b o e => by rw [upd_ne (ne_of_none e hD)]; exact sm b o e
              · rw [upd_same, take_snoc hi']
                simp [AL_eq]
            · rintro H1 ⟨sm, hD1⟩
              refine ⟨D, _, rfl, SqL.of hD1, ?_⟩
              have e : ((z.cps.toList.take z.cps.size).map fun x => decide (x ∈ AL)).all id = wordB (.str z) := by
                have hs : z.cps.size = z.cps.toList.length := by simp
                rw [hs, List.take_length, all_signs (K := K), ew, hc]; rfl
              rw [e]
              exact k H1 sm
          · have e : wordB (.str z) = decide (c ∈ LE) := by
              rw [ew, Bool.eq_false_iff.mpr hc]; rfl
            have := k H (Same.refl H)
            rw [e] at this
            have e2 := Bool.eq_false_iff.mpr hc
            rw [e2] at this
            exact this
      · have e : wordB (.str z) = false := by
          have hn : z.cps.toList = [] := by
            cases hz : z.cps.toList with
            | nil => rfl
            | cons c r => exact absurd (decide_eq_true (by rw [elen, hz]; simp; omega)) h1
          show wordL z.cps.toList = false
          rw [hn]; rfl
        have := k H (Same.refl H)
        rw [e] at this
        exact ⟨_, rfl, this⟩
    | _ => exact k H (Same.refl H)
end
end K1
set_option Elab.async false
set_option linter.all false
set_option maxRecDepth 100000
/-! the package's own errors: made from their fields, kept in their dict -/
namespace K1
open PySem L2
structure Oer (K : PySem.W.Frag) (mg : Str → Option Value) (x : Str) (fs : List Str) (C fI : Addr) (fd : FuncData) (qual : Str) (st : Stmt) : Prop where
  T : OexC K C
  xf : XfC K C
  g : mg x = some (.ref C)
  ini : PySem.W.findIn K (.ref C) "__init__" = some (some (.ref fI))
  tI : PySem.W.typeIn K (.ref fI) = some (.type "function")
  no : ∀ f ∈ fs, PySem.W.findIn K (.ref C) f = some none
  F : Fun K "__init__" qual st fI fd
  b : Binds K fd ("self" :: fs) []
def spIni (C : Addr) (fs : List Str) : Sp := fun vs H Q _ => ∃ (a : Addr) (ys : List V), vs = .ref a :: ys ∧ ys.length = fs.length ∧ H a = some (exo a C none) ∧
  ∀ dx, H dx = none → dx ≠ a → ∀ H', (∀ b o, H b = some o → b ≠ a → H' b = some o) → H' a = some (exo a C (some dx)) → H' dx = some (exd dx (fs.zip ys).reverse) → Q .non H'
/-- the reading of C(e, ..): d is the error's dict, new -/
theorem err_read {C : Addr} {fs : List Str} {vs : List V} {H1 : Hp} {Q : XK} (hl : fs.length ≤ 10) (e : vs.length = fs.length) (k : ∀ d G, Same H1 G → H1 d = none → G d = some (.xd (fs.zip vs).reverse) → Q (.ref C) (some d) G) :
    vs.length ≤ 1000 ∧ ∀ a, H1 a = none → spIni C fs (.ref a :: (vs ++ [])) (upd H1 a (exo a C none))
      (fun v H2 => v = .non ∧ ∃ (d : Addr) (gs : List (Str × V)), H2 a = some (exo a C (some d)) ∧ H2 d = some (exd d gs) ∧ H1 d = none ∧ Q (.ref C) (some d) (upd (del H2 a) d (.xd gs))) (fun _ _ _ => False) := by
  refine ⟨by omega, fun a ha => ?_⟩
  rw [List.append_nil]
  refine ⟨a, vs, rfl, e, upd_same, fun dx hdx ne H' keep ea ed => ⟨rfl, dx, _, ea, ed, ?_, ?_⟩⟩
  · rw [upd_ne ne] at hdx; exact hdx
  · have h1 : H1 dx = none := by rw [upd_ne ne] at hdx; exact hdx
    refine k dx _ (fun b o eb => ?_) h1 upd_same
    have nb : b ≠ a := ne_of_none eb ha
    rw [upd_ne (ne_of_none eb h1), del_ne nb]
    exact keep b o (by rw [upd_ne nb]; exact eb) nb
end K1
set_option Elab.async false
set_option linter.all false
set_option maxRecDepth 100000
/-! a machine made of any parts: the first error, or none -/
namespace L2
open PySem PySem.Spec PyProof.Rows
section
variable {X : Cx} {CX : CXT} {k : Nat} {f C : Addr} {fd : FuncData} {ps : List Str} {sp : Sp} {E : St → XK} {x : Str} {p pos : Pos} {e : Expr} {es : List Expr} {t : TA} {ds : List Value} {dvs : List V}
/-- C(e, ..) where the making may raise, inside a try -/
def tMakeS (C : Addr) (sp : Sp) (dvs : List V) (E : St → XK) (t : TA) : TE := fun σ H Q => t σ H fun vs H1 => ∀ x dx, H1 x = none → H1 dx = none → dx ≠ x →
  sp (.ref x :: (vs ++ dvs)) (upd (upd H1 dx (.own x)) x (.ins C dx [])) (fun v H2 => v = .non ∧ Q (.ref x) H2) (E σ)
theorem run_makeS {pins : List (Addr × Obj)} {u : St} {H : Hp} {s : Shared} {Q : VK} {us : List Value} {vs : List V} (M : Mk X.K C f) (F : FnOk X.prog X.w X.K X.mg X.base CX k f fd ps sp) (hr : Room (k + 1) X.A) (hb : Binds X.K fd ps ds) (hd : Vals dvs ds)
    (hx : PassesAt CX X u (E u)) (I : Inv X pins u H s) (r : Vals vs us)
    (go : ∀ x dx, H x = none → H dx = none → dx ≠ x → sp (.ref x :: (vs ++ dvs)) (upd (upd H dx (.own x)) x (.ins C dx [])) (fun v H2 => v = .non ∧ Q (.ref x) H2) (E u)) :
    wpAny (model X.prog X.w) X.A (call (.ref C) us) (EP X pins u Q) X.xe s := by
  have q0 := go (s.heap.objs.size + 1) s.heap.objs.size (I.hok.fresh (Nat.le_succ _)) (I.hok.fresh (Nat.le_refl _)) (Nat.ne_of_lt (Nat.lt_succ_self _))
  have J := Inv.made (C := C) I
  have rr : Vals (V.ref (s.heap.objs.size + 1) :: (vs ++ dvs)) (Value.ref (s.heap.objs.size + 1) :: (us ++ ds)) := .cons rfl (r.append hd)
  have ln : (Value.ref (s.heap.objs.size + 1) :: us ++ ds).length = ps.length := (F.len _ _ _ _ q0 ▸ rr.length).symm
  have run0 := F.run _ X.stack _ _ ⟨Value.ref (s.heap.objs.size + 1) :: us, []⟩ (Value.ref (s.heap.objs.size + 1) :: (us ++ ds)) _ _ (E u) (hr.make C us []) (J.env0.make C us []) (hb _ (Value.ref (s.heap.objs.size + 1) :: us) J.kIn ln) rr q0
  refine wpAny_call (make_map (f := f) I.kIn M.makes M.init (beq_iff_eq.mp M.fn) (codeAny_mono run0 fun r s' hq' => ?_))
  cases r with
  | error e => exact hx pins _ _ e s' J hq'
  | ok fl =>
    cases fl with
    | ret u =>
      obtain ⟨v, H', I3, rv, ev, q3⟩ := J.after hq'
      subst ev
      exact ⟨rv, V.ref (s.heap.objs.size + 1), H', I3, rfl, q3⟩
    | next => exact hq'.elim
    | brk => exact hq'.elim
    | cont => exact hq'.elim
theorem pe_makeS (M : Mk X.K C f) (F : FnOk X.prog X.w X.K X.mg X.base CX k f fd ps sp) (hr : Room (k + 1) X.A) (hg : Gl X x) (hm : X.mg x = some (.ref C)) (hb : Binds X.K fd ps ds) (hd : Vals dvs ds) (hx : ∀ σ, PassesAt CX X σ (E σ))
    (ha : PA X (e :: es) t) (hdb : (x == ("__debug__" : Str)) = false := by decide) (he : starEach (e :: es) X.env = (false, eval e X.env) :: starEach es X.env := by rfl) (hpl : (backTo pos (starEach es X.env)).any (·.1) = false := by rfl) :
    PE X (.Call (.Name x p) (e :: es) [] pos) (tMakeS C sp dvs E t) := by
  refine ⟨fun pins s u H Q I h => wpAny_Call_Name_kw (ld_glob I hg hm ?_ hdb)⟩
  refine PySem.W.callWith_K (h₀ := X.base) I.ok.mod.kin M.kp (thn (ha.run pos pins s u H _ I h) fun us s1 ⟨vs, H1, I1, r, q⟩ => ⟨I1.kIn, ?_⟩) he hpl
  exact run_makeS M F hr hb hd (hx u) I1 r q
end
end L2
set_option Elab.async false
set_option linter.all false
set_option maxRecDepth 100000
/-! zip of a tuple and a list -/
namespace L2
open PySem PySem.Spec PyProof.Rows
/-- the tuple at a and the list at b as they stand at each turn, the items in new pairs -/
def ItzM (K : PySem.W.Frag) (a b : Addr) : It :=
  ⟨fun i H => ∃ (xs ys : List V) (x y : V), SqT K H a xs ∧ SqL K H b ys ∧ xs[i]? = some x ∧ ys[i]? = some y,
    fun i H v H' => ∃ T x y, v = .ref T ∧ H T = none ∧ H' = upd H T (.tup [x, y]) ∧ (∀ xs, SqT K H a xs → xs[i]? = some x) ∧ ∀ ys, SqL K H b ys → ys[i]? = some y,
    fun i H => ∃ xs ys : List V, SqT K H a xs ∧ SqL K H b ys ∧ i = min xs.length ys.length⟩
theorem turn_zipM {P : Program} {w : World} {K : PySem.W.Frag} {elts : List Expr} {kk : Nat} {tpos : Pos} {a b z TI TO i1 i2 : Addr} (S : ZipSep2 z TI TO i1 i2 [i1, a] [i2, b]) (na : a ≠ i1) (nb : b ≠ i2) :
    Turn P w K (.Tuple elts kk tpos) (ItzM K a b) [z, TI, TO, i1, i2] z (fun i h => IsZip h z TI TO .none ∧ IsTupOf2 h TI (.ref i1) (.ref i2) ∧ (∃ x y, IsTupOf2 h TO x y) ∧ h.IsTupleIter i1 a i ∧ h.IsListIter i2 b i) where
  mem := by simp
  obj := fun i h st c hc => by
    obtain ⟨hz, hTI, ⟨x, y, hTO⟩, ⟨o1, e1, _, d1⟩, ⟨o2, e2, _, d2⟩⟩ := st
    have e' : c = z ∨ c = TI ∨ c = TO ∨ c = i1 ∨ c = i2 := by simpa using hc
    rcases e' with q | q | q | q | q
    · rw [q]; exact ⟨_, hz, fun v q => nomatch q⟩
    · rw [q]; exact ⟨_, hTI, fun v q => nomatch q⟩
    · rw [q]; exact ⟨_, hTO, fun v q => nomatch q⟩
    · rw [q]; exact ⟨o1, e1, fun v q => by rw [d1] at q; cases q⟩
    · rw [q]; exact ⟨o2, e2, fun v q => by rw [d2] at q; cases q⟩
  keep := fun i h h' st k => by
    obtain ⟨hz, hTI, ⟨x, y, hTO⟩, h1, h2⟩ := st
    exact ⟨k z (by simp) _ hz, k TI (by simp) _ hTI, ⟨x, y, k TO (by simp) _ hTO⟩, h1.at fun o q => k i1 (by simp) o q, h2.at fun o q => k i2 (by simp) o q⟩
  item := by
    intro X hP hw hK hc i pins s σ H E I hf st hg
    subst hP hw hK
    obtain ⟨hz, hTI, hTO, h1, h2⟩ := id st
    obtain ⟨xs, ys, x, y, hqx, hqy, hx, hy⟩ := hg
    obtain ⟨its, rv, p, _⟩ := I.tuple hqx
    obtain ⟨its2, rv2, p2, _⟩ := I.list hqy
    obtain ⟨u, hu, ru⟩ := rv.get hx
    obtain ⟨u2, hu2, ru2⟩ := rv2.get hy
    have hh : X.A.in1.handled = none := I.ok.hd hc
    have D1 := Draws.tuple (prog := X.prog) (w := X.w) hh i1 a na its.toArray
    have D2 := Draws.list (prog := X.prog) (w := X.w) hh i2 b nb its2.toArray
    have hl1 : i < its.length := (List.getElem?_eq_some_iff.mp hu).1
    have hl2 : i < its2.length := (List.getElem?_eq_some_iff.mp hu2).1
    refine (GoesN.zip2 (elts := elts) (x1 := kk) (pos := tpos) S D1 D2).goes i s (fun v s2 => ∃ x H', Inv X pins σ H' s2 ∧ RelV x v ∧ (ItzM X.K a b).yld i H x H' ∧ (IsZip s2.heap z TI TO .none ∧ IsTupOf2 s2.heap TI (.ref i1) (.ref i2) ∧ (∃ x y, IsTupOf2 s2.heap TO x y) ∧ s2.heap.IsTupleIter i1 a (i + 1) ∧ s2.heap.IsListIter i2 b (i + 1)) ∧ ∀ c ∈ [z, TI, TO, i1, i2], H' c = none) E (by simp; omega) ⟨hz, hTI, hTO, ⟨h1, p⟩, ⟨h2, p2.isList⟩⟩ ?_
    rintro v h' tk ⟨T, x', y', rfl, hn, hx', hy', hT⟩ ⟨z', TI', TO', ⟨h1', _⟩, ⟨h2', _⟩⟩ hk htk
    have ex : x' = u := by
      have e : its[i]? = some x' := by simpa using hx'
      rw [hu] at e; exact (Option.some.inj e).symm
    have ey : y' = u2 := by
      have e : its2[i]? = some y' := by simpa using hy'
      rw [hu2] at e; exact (Option.some.inj e).symm
    subst ex ey
    have new : ObjOk X.prog X.w (upd H T (.tup [x, y])) h' T (.tup [x, y]) := ⟨by show 2 ≤ sizeLine; decide, [x', y'], .cons ru (.cons ru2 .nil), hT⟩
    have I1 : Inv X pins σ (upd H T (.tup [x, y])) { s with heap := h', toks := tk } :=
      I.turnedNew (t' := tk) (ch := [z, TI, TO, i1, i2]) (fun c o hb q => hk c o (fun hm => hb (by
        have e' : c = z ∨ c = TO ∨ c = i1 ∨ c = i2 := by simpa using hm
        rcases e' with q | q | q | q <;> simp [q])) q) hf hn new
    refine ⟨.ref T, _, I1, rfl, ⟨T, x, y, rfl, I.hok.fresh hn, rfl, fun l hl => by rw [I.tuple_inj hl hqx]; exact hx, fun l hl => by rw [I.list_inj hl hqy]; exact hy⟩, ⟨z', TI', TO', h1', h2'⟩, fun c hcm => ?_⟩
    obtain ⟨oc, hoc, _⟩ : ∃ o, s.heap.get? c = some o ∧ True := by
      obtain ⟨x0, y0, hTO'⟩ := hTO
      obtain ⟨o1, e1, _⟩ := h1
      obtain ⟨o2, e2, _⟩ := h2
      have e' : c = z ∨ c = TI ∨ c = TO ∨ c = i1 ∨ c = i2 := by simpa using hcm
      rcases e' with q | q | q | q | q
      · rw [q]; exact ⟨_, hz, trivial⟩
      · rw [q]; exact ⟨_, hTI, trivial⟩
      · rw [q]; exact ⟨_, hTO', trivial⟩
      · rw [q]; exact ⟨_, e1, trivial⟩
      · rw [q]; exact ⟨_, e2, trivial⟩
    have hlt : c < T := Nat.lt_of_lt_of_le (Heap.lt_size hoc) hn
    rw [upd_ne (Nat.ne_of_lt hlt)]
    exact (hf c hcm).1
  done := by
    intro X hP hw hK hc i pins s σ H E I hf st hg
    subst hP hw hK
    obtain ⟨hz, hTI, hTO, h1, h2⟩ := st
    obtain ⟨xs, ys, hqx, hqy, hend⟩ := hg
    obtain ⟨its, rv, p, _⟩ := I.tuple hqx
    obtain ⟨its2, rv2, p2, _⟩ := I.list hqy
    have l1 := rv.length
    have l2 := rv2.length
    have hh : X.A.in1.handled = none := I.ok.hd hc
    have D1 := Draws.tuple (prog := X.prog) (w := X.w) hh i1 a na its.toArray
    have D2 := Draws.list (prog := X.prog) (w := X.w) hh i2 b nb its2.toArray
    have en : i = min its.toArray.size its2.toArray.size := by rw [List.size_toArray, List.size_toArray, ← l1, ← l2]; exact hend
    subst en
    refine (GoesN.zip2 (elts := elts) (x1 := kk) (pos := tpos) S D1 D2).stops s _ E ⟨hz, hTI, hTO, ⟨h1, p⟩, ⟨h2, p2.isList⟩⟩ fun h' tk hk htk => ?_
    exact I.turnedL (t' := tk) (ch := [z, TI, TO, i1, i2]) (fun c o hb q => hk c o (fun hm => hb (by
        have e' : c = z ∨ c = TO ∨ c = i1 ∨ c = i2 := by simpa using hm
        rcases e' with q | q | q | q <;> simp [q])) q) hf
  self := fun A i s Q E st h => wpAny_pyIter_zip st.1 h
def iZipM (K : PySem.W.Frag) (ta : TA) : TI := fun σ H R => ta σ H fun vs H1 => ∃ a b xs ys, vs = [.ref a, .ref b] ∧ SqT K H1 a xs ∧ SqL K H1 b ys ∧ R (ItzM K a b) H1
theorem pi_zipM {X : Cx} {e e2 : Expr} {ta : TA} {p pos tpos : Pos} {elts : List Expr} {kk : Nat} (hg : Gl X "zip") (hm : X.mg "zip" = none) (ha : PA X [e, e2] ta)
    (hs : starEach [e, e2] X.env = (false, eval e X.env) :: starEach [e2] X.env := by rfl) (hpl : (backTo pos (starEach [e2] X.env)).any (·.1) = false := by rfl) :
    PI X (.Tuple elts kk tpos) (.Call (.Name "zip" p) [e, e2] [] pos) (iZipM X.K ta) := by
  refine ⟨fun pins s σ H R I h => ?_⟩
  refine Call_ (ld_blt I hg hm PyProof.Rows.boot_zip (PyProof.Rows.callWith_type1 (thn (ha.run pos pins s σ H _ I h) fun us s1 ⟨vs, H1, I1, r1, q1⟩ => ?_) hs hpl))
  obtain ⟨a, b, xs, ys, ex, hqx, hqy, q⟩ := q1
  subst ex
  cases r1 with
  | cons r rr =>
    cases rr with
    | cons r' rr =>
      cases rr
      cases r
      cases r'
      obtain ⟨its, rv, p1, _⟩ := I1.tuple hqx
      obtain ⟨its2, rv2, p2, _⟩ := I1.list hqy
      obtain ⟨o1, ho1, _⟩ := id p1
      have la : a < s1.heap.objs.size := Heap.lt_size ho1
      have lb : b < s1.heap.objs.size := p2.lt
      refine zip_begins2 (begins_tuple a its.toArray) (begins_list b its2.toArray) p1 p2.isList fun h' hz hTI hTO h1 h2 hsz hk => wpAny_pyIter_zip hz ?_
      have I2 : Inv X pins σ H1 { s1 with heap := h' } := I1.kept (t' := s1.toks) hk
      refine ⟨s1.heap.objs.size + 4, [s1.heap.objs.size + 4, s1.heap.objs.size + 2, s1.heap.objs.size + 3, s1.heap.objs.size, s1.heap.objs.size + 1], _, _, H1, rfl, I2,
        turn_zipM (zip_sep2 (fp1 := [a]) (fp2 := [b]) (fun c hc => by rw [List.mem_singleton.mp hc]; exact la) (fun c hc => by rw [List.mem_singleton.mp hc]; exact lb)) (Nat.ne_of_lt la) (Nat.ne_of_lt (Nat.lt_succ_of_lt lb)), ⟨hz, hTI, ⟨_, _, hTO⟩, ⟨_, h1, rfl, rfl⟩, ⟨_, h2, rfl, rfl⟩⟩, fun c hcm => ?_, q⟩
      have e' : c = s1.heap.objs.size + 4 ∨ c = s1.heap.objs.size + 2 ∨ c = s1.heap.objs.size + 3 ∨ c = s1.heap.objs.size ∨ c = s1.heap.objs.size + 1 := by simpa using hcm
      have hle : s1.heap.objs.size ≤ c := by
        rcases e' with z | z | z | z | z
        · rw [z]; exact Nat.le_add_right _ _
        · rw [z]; exact Nat.le_add_right _ _
        · rw [z]; exact Nat.le_add_right _ _
        · rw [z]; exact Nat.le_refl _
        · rw [z]; exact Nat.le_add_right _ _
      exact I1.fpOk hle (I1.hok.fresh hle)
/-- zip of a tuple and a list, walked -/
theorem walk_zipM {K : PySem.W.Frag} {a b : Addr} {xs ys : List V} {n : Nat} (hn : n = min xs.length ys.length) : Walk (ItzM K a b) n (fun H => SqT K H a xs ∧ SqL K H b ys) (YPair (fun i => xs[i]?) (fun i => ys[i]?)) := by
  refine ⟨fun i H hi h => ?_, fun H h => ⟨xs, ys, h.1, h.2, hn⟩, fun i H x H' hi h y => ?_⟩
  · have h1 : i < xs.length := by omega
    have h2 : i < ys.length := by omega
    exact ⟨xs, ys, _, _, h.1, h.2, List.getElem?_eq_getElem h1, List.getElem?_eq_getElem h2⟩
  · obtain ⟨T, x', y', e, hT, e2, f1, f2⟩ := y
    exact ⟨T, x', y', e, hT, e2, f1 xs h.1, f2 ys h.2⟩
end L2
set_option Elab.async false
set_option linter.all false
set_option maxRecDepth 100000
/-! BadDeeds, TooMany -/
namespace K1
open PySem L2
section
variable {P : Program} {w : World} {K : PySem.W.Frag} {mg : Str → Option Value} {base : Heap}
abbrev sBadDeeds : Stmt := inClass (top 3) 0
theorem scBadDeeds : FnScope ["self", "index"] ["self", "index"] (defScope sBadDeeds) := ⟨rfl, rfl, rfl, by decide +kernel, rfl, by decide +kernel, by decide +kernel⟩
abbrev OBadDeeds (K : PySem.W.Frag) (mg : Str → Option Value) (C fI : Addr) (fd : FuncData) : Prop := Oer K mg "BadDeeds" ["index"] C fI fd "BadDeeds.__init__" sBadDeeds
theorem ini_BadDeeds {C fI : Addr} {fd : FuncData} (O : OBadDeeds K mg C fI fd) : FnOk P w K mg base CX0 1 fI fd ["self", "index"] (spIni C ["index"]) := by
  refine O.F.ok scBadDeeds (fun vs H Q E h => ?_) (fun cdv A outer s H vs Q E hr h => ?_)
  · obtain ⟨a, ys, rfl, e, _⟩ := h
    show ys.length + 1 = _
    rw [e]; rfl
  · obtain ⟨a, ys, rfl, e, ha, k⟩ := h
    obtain ⟨y0, rfl⟩ : ∃ y0, ys = [y0] := by
      match ys, e with
      | [y0], _ => exact ⟨y0, rfl⟩
    refine ⟨_, pss_one (ps_ost (f := "index") (pv 0) (pv 1)), ?_⟩
    refine ⟨_, rfl, _, rfl, a, C, rfl, O.T, O.no _ (List.mem_cons_self ..), .inl ⟨ha, fun dx hdx ne => ?_⟩⟩
    refine k dx hdx ne _ (fun b o eb nb => ?_) ?_ ?_
    · rw [upd_ne nb, upd_ne (ne_of_none eb hdx)]; exact eb
    · exact upd_same
    · rw [upd_ne ne]; exact upd_same
    
abbrev sTooMany : Stmt := inClass (top 4) 0
theorem scTooMany : FnScope ["self", "what", "many", "most"] ["self", "what", "many", "most"] (defScope sTooMany) := ⟨rfl, rfl, rfl, by decide +kernel, rfl, by decide +kernel, by decide +kernel⟩
abbrev OTooMany (K : PySem.W.Frag) (mg : Str → Option Value) (C fI : Addr) (fd : FuncData) : Prop := Oer K mg "TooMany" ["what", "many", "most"] C fI fd "TooMany.__init__" sTooMany
theorem ini_TooMany {C fI : Addr} {fd : FuncData} (O : OTooMany K mg C fI fd) : FnOk P w K mg base CX0 1 fI fd ["self", "what", "many", "most"] (spIni C ["what", "many", "most"]) := by
  refine O.F.ok scTooMany (fun vs H Q E h => ?_) (fun cdv A outer s H vs Q E hr h => ?_)
  · obtain ⟨a, ys, rfl, e, _⟩ := h
    show ys.length + 1 = _
    rw [e]; rfl
  · obtain ⟨a, ys, rfl, e, ha, k⟩ := h
    obtain ⟨y0, y1, y2, rfl⟩ : ∃ y0 y1 y2, ys = [y0, y1, y2] := by
      match ys, e with
      | [y0, y1, y2], _ => exact ⟨y0, y1, y2, rfl⟩
    refine ⟨_, pss_cons (ps_ost (f := "what") (pv 0) (pv 1)) (pss_cons (ps_ost (f := "many") (pv 0) (pv 2)) (pss_one (ps_ost (f := "most") (pv 0) (pv 3)))), ?_⟩
    refine ⟨_, rfl, _, rfl, a, C, rfl, O.T, O.no _ (List.mem_cons_self ..), .inl ⟨ha, fun dx hdx ne => ?_⟩⟩
    refine ⟨_, rfl, _, rfl, a, C, rfl, O.T, O.no _ (List.mem_cons_of_mem _ (List.mem_cons_self ..)), .inr ⟨dx, [("what", y0)], ?ea1, ?ed1, by show 1 ≤ 900; decide, ?nx1⟩⟩
    case ea1 => exact upd_same
    case ed1 => (rw [upd_ne ne]; exact upd_same)
    refine ⟨_, rfl, _, rfl, a, C, rfl, O.T, O.no _ (List.mem_cons_of_mem _ (List.mem_cons_of_mem _ (List.mem_cons_self ..))), .inr ⟨dx, [("many", y1), ("what", y0)], ?ea2, ?ed2, by show 2 ≤ 900; decide, ?nx2⟩⟩
    case ea2 => (rw [upd_ne ne.symm]; exact upd_same)
    case ed2 => exact upd_same
    refine k dx hdx ne _ (fun b o eb nb => ?_) ?_ ?_
    · rw [upd_ne (ne_of_none eb hdx), upd_ne (ne_of_none eb hdx), upd_ne nb, upd_ne (ne_of_none eb hdx)]; exact eb
    · rw [upd_ne ne.symm, upd_ne ne.symm]; exact upd_same
    · exact upd_same
    
end
end K1
set_option Elab.async false
set_option linter.all false
set_option maxRecDepth 100000
/-! the deeds of a machine with one more, of any kind: refused, too many, or fine -/
namespace K1
open PySem L2
theorem Wd.word {z : Str} (h : Wd z) : wordB (.str z) = true := by
  obtain ⟨c, r, e, h1, h2, h3⟩ := h
  show wordL z.cps.toList = true
  rw [e]
  unfold wordL
  simp only [Bool.and_eq_true, decide_eq_true_eq, List.all_eq_true]
  refine ⟨by simp; omega, h1, fun x hx => ?_⟩
  rcases List.mem_cons.mp hx with rfl | h
  · exact LE_AL h1
  · exact h2 x h
theorem word_str {v : V} (h : wordB v = true) : ∃ z, v = .str z := by
  cases v with
  | str z => exact ⟨z, rfl⟩
  | _ => cases h
theorem wd_len {z : Str} (h : Wd z) : z.length ≤ 12 := by
  obtain ⟨c, r, ez, hc, hr, hl⟩ := h
  rw [len_tl z, ez]; simp; omega
theorem word_ok {z : Str} (h : wordB (.str z) = true) : PyData.strOk z = true ∧ z.length ≤ 12 := by
  have e : wordB (.str z) = wordL z.cps.toList := rfl
  rw [e] at h
  cases hz : z.cps.toList with
  | nil => rw [hz] at h; cases h
  | cons c r =>
    rw [hz] at h
    unfold wordL at h
    simp only [Bool.and_eq_true, decide_eq_true_eq, List.all_eq_true] at h
    obtain ⟨h1, h2, h3⟩ := h
    exact ⟨ok_chars fun x hx => List.mem_append_left _ (by rw [hz] at hx; exact h3 x hx), by rw [len_tl z, hz]; exact h1⟩
/-- what an error with the fields fs, of the values vs, is raised as -/
def Rs (C : Addr) (fs : List Str) (vs : List V) (H : Hp) (E : XK) : Prop := ∀ d G, Same H G → H d = none → G d = some (.xd (fs.zip vs).reverse) → E (.ref C) (some d) G
theorem Rs.same {C : Addr} {fs : List Str} {vs : List V} {H H' : Hp} {E : XK} (r : Rs C fs vs H E) (s : Same H H') : Rs C fs vs H' E := fun d G sG hd e => r d G (s.trans sG) (s.free hd) e
abbrev fTM : List Str := ["what", "many", "most"]
abbrev fIx : List Str := ["index"]
/-- the deeds that stand: different words -/
structure GoodW (ws : List Str) : Prop where
  nd : ws.Nodup
  wd : ∀ z ∈ ws, Wd z
  len : 1 ≤ ws.length ∧ ws.length ≤ 6
def okW (ws : List Str) (v : V) : Bool := wordB v && !(inV v (ws.map V.str))
/-- what comes of one deed more -/
def Wo (D T : Addr) (ws : List Str) (v : V) (H : Hp) (E : XK) (fine : Prop) : Prop :=
  if okW ws v = false then Rs D fIx [.int (ws.length : Int)] H E
  else if ws.length = 6 then Rs T fTM [.str "deeds", .int 7, .int 6] H E
  else fine
theorem Wo.same {D T : Addr} {ws : List Str} {v : V} {H H' : Hp} {E : XK} {f f' : Prop} (h : Wo D T ws v H E f) (s : Same H H') (k : f → f') : Wo D T ws v H' E f' := by
  unfold Wo at h ⊢
  split
  · rename_i e; rw [if_pos e] at h; exact h.same s
  · rename_i e
    rw [if_neg e] at h
    split
    · rename_i e2; rw [if_pos e2] at h; exact h.same s
    · rename_i e2; rw [if_neg e2] at h; exact k h
def spDiffW (K : PySem.W.Frag) (C : Addr) : Sp := fun vs H Q E => ∃ (a : Addr) (ws : List Str) (v : V) (t : String), vs = [.ref a] ∧ SqT K H a (ws.map V.str ++ [v]) ∧ Th K H v t ∧ GoodW ws ∧
  if okW ws v = false then Rs C fIx [.int (ws.length : Int)] H E else ∀ G, Same H G → Q .non G
def spDeedsW (K : PySem.W.Frag) (C CT : Addr) : Sp := fun vs H Q E => ∃ (a : Addr) (ws : List Str) (v : V) (t : String), vs = [.ref a] ∧ SqT K H a (ws.map V.str ++ [v]) ∧ Th K H v t ∧ GoodW ws ∧
  Wo C CT ws v H E (∀ G, Same H G → Q .non G)
theorem len_snoc (ws : List Str) (v : V) : (ws.map V.str ++ [v]).length = ws.length + 1 := by simp
section
variable {P : Program} {w : World} {K : PySem.W.Frag} {mg : Str → Option Value} {base : Heap}
theorem g_diffW {f fW C fI : Addr} {fd fdW fdI : FuncData} (D : Df K mg "check_different" sCheckDiff ["deeds"] f fd) (DW : Df K mg "is_word" sIsWord ["value"] fW fdW) (O : OBadDeeds K mg C fI fdI) (T : Bt2 mg) : FnOk P w K mg base (L2.CX P w) 3 f fd ["deeds"] (spDiffW K C) := by
  have GW : FnOk P w K mg base CX0 1 fW fdW ["value"] (spWord K) := g_isword DW T
  refine D.F.okX scDiff (fun vs H Q E h => ?_) (fun cdv A outer s H vs Q E hr h => ?_)
  · obtain ⟨a, ws, v, t, rfl, _⟩ := h
    rfl
  · obtain ⟨a, ws, v, ty, rfl, ha, th, gd, k⟩ := h
    have hle := gd.len.2
    have hr1 : Room 1 _ := hr.mono (by decide)
    refine ⟨_, pss_one (ps_for (passes_of rfl) rfl (pi_enumT (by rfl) T.enumerate (pa_cons (pv 0) pa_nil)) (pg_tup (by rfl) (pgs_cons (pg_name (i := 1) scDiff.nd rfl (Or.inl rfl)) (pgs_cons (pg_name (i := 2) scDiff.nd rfl (Or.inl rfl)) pgs_nil)))
          (pss_one (ps_if (PW.pt (pw_or (pt_not (pt_val (pe_call GW hr1 rfl DW.g DW.F.kp DW.b .nil pass0 (pa_cons (pv 2) pa_nil)))) (pw_or1 (pt_cmpR op_in_seq (pv 2) (pe_slice sl_tupA (pv 0) po_none (po_some (pv 1))) (by rfl)))))
            (pss_one (ps_raise rfl (takes_of rfl rfl rfl rfl) (pmk_oex O.T O.ini O.tI (ini_BadDeeds O) hr O.b .nil pass0 rfl O.g (pa_cons (pv 1) pa_nil)))) pss_nil))), ?_⟩
    refine ⟨_, rfl, a, _, rfl, ha, for_it (walk_enumT (K := K) (a := a) (xs := ws.map V.str ++ [v])) (fun i σ H' => Same H H' ∧ (i = ws.length + 1 → okW ws v = true) ∧ ∃ v1 v2, σ = [some (.ref a), v1, v2]) ⟨Same.refl H, fun e => by omega, none, none, rfl⟩ (fun i σ H' _ p => ha.ext p.1) ?_ ?_⟩
    · rintro i x σ H1 H2 hi ⟨sm, ok, v1, v2, rfl⟩ ⟨t, x1, x2, rfl, ht, rfl, e1, e2⟩
      cases e1
      replace e2 : (ws.map V.str ++ [v])[i]? = some x2 := e2
      have hil : i < ws.length + 1 := by have := (List.getElem?_eq_some_iff.mp e2).1; rwa [len_snoc] at this
      have sm2 := sm.trans (same_upd (o := .tup [V.int (i : Nat), x2]) ht)
      have ecut : cutV (ws.map V.str ++ [v]) none (some (i : Int)) = (ws.take i).map V.str := by
        rw [cut_to (by rw [len_snoc]; omega), List.take_append_of_le_length (by rw [List.length_map]; omega), List.map_take]
      have eh : HT.sIx (ws.map V.str ++ [v]).length (ws.map V.str ++ [v]).length (some (i : Int)) = i := by rw [HT.sIx_nat, len_snoc]; omega
      refine ⟨t, _, rfl, SqT.of upd_same, rfl, _, _, rfl, _, _, rfl, rfl, ?_⟩
      by_cases hlt : i < ws.length
      · -- a deed that stood before
        rw [List.getElem?_append_left (by rw [List.length_map]; exact hlt), List.getElem?_map] at e2
        obtain ⟨z, ez, rfl⟩ := Option.map_eq_some_iff.mp e2
        have wz := gd.wd z (List.mem_of_getElem? ez)
        refine ⟨_, rfl, .str z, "str", rfl, .str z (Nat.le_trans (wd_len wz) (by decide)), fun H3 sm3 => ⟨wordB (.str z), rfl, ?_⟩⟩
        have sm4 := sm2.trans sm3
        rw [wz.word]
        refine iteF ?_
        refine ⟨_, rfl, _, rfl, _, rfl, (i : Int), rfl, a, _, rfl, ha.ext sm4, fun h => absurd h.2 (by rw [eh, len_snoc]; omega), fun _ q hq => ?_⟩
        rw [ecut]
        refine ⟨q, _, rfl, .inr (SqT.of upd_same), rfl, flat_strs _, false, ?_, ?_⟩
        · show V.bl (if false = true then _ else inV (V.str z) ((ws.take i).map V.str)) = V.bl false
          rw [inV_str (nodup_take gd.nd ez)]
          rfl
        · refine iteF ?_
          exact ⟨sm4.trans (same_upd hq), fun e => by omega, _, _, rfl⟩
      · have ei : i = ws.length := by omega
        subst ei
        rw [List.getElem?_append_right (by rw [List.length_map]; exact Nat.le_refl _), List.length_map, Nat.sub_self] at e2
        have ex : v = x2 := Option.some.inj e2
        subst ex
        refine ⟨_, rfl, v, ty, rfl, th.same sm2, fun H3 sm3 => ⟨wordB v, rfl, ?_⟩⟩
        have sm4 := sm2.trans sm3
        cases hw : wordB v with
        | false =>
          refine iteT ?_
          refine iteT ?_
          have eo : okW ws v = false := by unfold okW; rw [hw]; rfl
          rw [if_pos eo] at k
          refine ⟨_, rfl, ?_⟩
          exact err_read (fs := fIx) (by decide) rfl (k.same sm4)
        | true =>
          refine iteF ?_
          obtain ⟨z, rfl⟩ := word_str hw
          refine ⟨_, rfl, _, rfl, _, rfl, (ws.length : Int), rfl, a, _, rfl, ha.ext sm4, fun h => absurd h.2 (by rw [eh, len_snoc]; omega), fun _ q hq => ?_⟩
          rw [ecut, List.take_length]
          refine ⟨q, _, rfl, .inr (SqT.of upd_same), rfl, flat_strs _, inV (.str z) (ws.map V.str), rfl, ?_⟩
          have smq := sm4.trans (same_upd (o := .tup (ws.map V.str)) hq)
          cases hv : inV (.str z) (ws.map V.str) with
          | true =>
            refine iteT ?_
            have eo : okW ws (.str z) = false := by unfold okW; rw [hv, Bool.not_true, Bool.and_false]
            rw [if_pos eo] at k
            refine ⟨_, rfl, ?_⟩
            exact err_read (fs := fIx) (by decide) rfl (k.same smq)
          | false =>
            refine iteF ?_
            exact ⟨smq, fun _ => by unfold okW; rw [hw, hv]; rfl, _, _, rfl⟩
    · rintro σ H1 ⟨sm, ok, v1, v2, rfl⟩
      rw [len_snoc] at ok
      rw [if_neg (by rw [ok rfl]; decide)] at k
      exact k H1 sm
theorem g_groupW {f fD fW C fI : Addr} {fd fdD fdW fdI : FuncData} (D : Df K mg "check_group" sCheckGroup ["deeds"] f fd) (DD : Df K mg "check_different" sCheckDiff ["deeds"] fD fdD) (DW : Df K mg "is_word" sIsWord ["value"] fW fdW) (O : OBadDeeds K mg C fI fdI) (T : Bt2 mg) : FnOk P w K mg base (L2.CX P w) 4 f fd ["deeds"] (spDiffW K C) := by
  have GD : FnOk P w K mg base (L2.CX P w) 3 fD fdD ["deeds"] (spDiffW K C) := g_diffW DD DW O T
  refine D.F.okX scGroup (fun vs H Q E h => ?_) (fun cdv A outer s H vs Q E hr h => ?_)
  · obtain ⟨a, ws, v, t, rfl, _⟩ := h
    rfl
  · obtain ⟨a, ws, v, ty, rfl, ha, th, gd, k⟩ := h
    have hr2 : Room 2 _ := hr.mono (by decide)
    refine ⟨_, pss_cons (ps_expr (pe_callS GD hr rfl DD.g DD.F.kp DD.b (fun σ => passAt (takes_of rfl rfl rfl rfl) σ) (pa_cons (pv 0) pa_nil)))
      (pss_one (ps_if (pt_cmpR op_eq (pe_callB call_len (by rfl) T.len PySem.boot_len (pa_cons (pv 0) pa_nil)) pe_int (nomark _))
        (pss_one (ps_raise rfl (takes_of rfl rfl rfl rfl) (pmk_oex O.T O.ini O.tI (ini_BadDeeds O) hr2 O.b .nil pass0 rfl O.g (pa_cons pe_int pa_nil)))) pss_nil)), ?_⟩
    refine ⟨_, rfl, a, ws, v, ty, rfl, ha, th, gd, ?_⟩
    by_cases eo : okW ws v = false
    · rw [if_pos eo] at k ⊢
      exact k
    · rw [if_neg eo] at k ⊢
      intro H1 sm
      refine ⟨_, rfl, _, ws.length + 1, rfl, .inr ⟨_, ha.ext sm, (len_snoc _ _).symm⟩, rfl, _, rfl, ?_⟩
      refine ite2 (fun h => ?_) (fun _ => k H1 sm)
      have := of_decide_eq_true h
      injection this with this
      omega
theorem g_deedsW {f fG fD fW C fI CT fT : Addr} {fd fdG fdD fdW fdI fdT : FuncData} (D : Df K mg "check_deeds" sCheckDeeds ["deeds"] f fd) (DG : Df K mg "check_group" sCheckGroup ["deeds"] fG fdG) (DD : Df K mg "check_different" sCheckDiff ["deeds"] fD fdD) (DW : Df K mg "is_word" sIsWord ["value"] fW fdW)
    (O : OBadDeeds K mg C fI fdI) (OT : OTooMany K mg CT fT fdT) (T : Bt2 mg) : FnOk P w K mg base (L2.CX P w) 5 f fd ["deeds"] (spDeedsW K C CT) := by
  have GD : FnOk P w K mg base (L2.CX P w) 4 fG fdG ["deeds"] (spDiffW K C) := g_groupW DG DD DW O T
  refine D.F.okX scDeeds (fun vs H Q E h => ?_) (fun cdv A outer s H vs Q E hr h => ?_)
  · obtain ⟨a, ws, v, t, rfl, _⟩ := h
    rfl
  · obtain ⟨a, ws, v, ty, rfl, ha, th, gd, k⟩ := h
    obtain ⟨tM, gM⟩ := T.MOST_DEEDS
    have hr2 : Room 2 _ := hr.mono (by decide)
    refine ⟨_, pss_cons (ps_expr (pe_callS GD hr rfl DG.g DG.F.kp DG.b (fun σ => passAt (takes_of rfl rfl rfl rfl) σ) (pa_cons (pv 0) pa_nil)))
      (pss_one (ps_if (pt_cmpR op_gt (pe_callB call_len (by rfl) T.len PySem.boot_len (pa_cons (pv 0) pa_nil)) (pe_glob (v := .int 6) rfl gM ⟨_, rfl⟩) (nomark _))
        (pss_one (ps_raise rfl (takes_of rfl rfl rfl rfl) (pmk_oex OT.T OT.ini OT.tI (ini_TooMany OT) hr2 OT.b .nil pass0 rfl OT.g (pa_cons pe_str (pa_cons (pe_callB call_len (by rfl) T.len PySem.boot_len (pa_cons (pv 0) pa_nil)) (pa_cons (pe_glob (v := .int 6) rfl gM ⟨_, rfl⟩) pa_nil)))))) pss_nil)), ?_⟩
    refine ⟨_, rfl, a, ws, v, ty, rfl, ha, th, gd, ?_⟩
    unfold Wo at k
    by_cases eo : okW ws v = false
    · rw [if_pos eo] at k ⊢
      exact k
    · rw [if_neg eo] at k ⊢
      intro G sG
      have hl : LenV K (.ref a) G (ws.length + 1) := .inr ⟨_, ha.ext sG, (len_snoc _ _).symm⟩
      refine ⟨_, rfl, _, ws.length + 1, rfl, hl, _, _, rfl, rfl, _, rfl, ?_⟩
      by_cases h6 : ws.length = 6
      · rw [if_pos h6] at k
        refine ite2 (fun _ => ?_) (fun h => absurd (decide_eq_true (by rw [h6]; decide)) h)
        refine ⟨_, rfl, _, ws.length + 1, rfl, hl, ?_⟩
        rw [h6]
        exact err_read (fs := fTM) (by decide) rfl (k.same sG)
      · rw [if_neg h6] at k
        have := gd.len.2
        refine ite2 (fun h => ?_) (fun _ => k G sG)
        have := of_decide_eq_true h
        exfalso
        omega
end
end K1
set_option Elab.async false
set_option linter.all false
set_option maxRecDepth 100000
/-! rows in tuples, tells in a tuple; a machine made with one deed more -/
namespace K1
open PySem L2
theorem kit_tupl {K : PySem.W.Frag} : PySem.W.kitAny K (.type "tuple") [.type "list", .type "tuple"] = some true := by
  exact kitAny_cons (b := false) (kit_ty (by decide +kernel)) (fun _ => kitAny_cons (b := true) (kit_ty (by decide +kernel)) (fun h => nomatch h) fun _ => rfl) fun h => nomatch h
def spRowsT (K : PySem.W.Frag) : Sp := fun vs H Q _ => ∃ (b : Addr) (m : Nat) (as : List Addr) (rs : List (List Int)), vs = [.ref b, .int (m : Int)] ∧ SqL K H b (as.map V.ref) ∧ RowsT H as rs ∧ 1 ≤ rs.length ∧ rs.length ≤ 60 ∧ m ≤ 100 ∧
  (∀ r ∈ rs, r.length = m ∧ ∀ x ∈ r, 0 ≤ x ∧ x < (rs.length : Int)) ∧ ∀ H', Same H H' → Q .non H'
def spTellsT (K : PySem.W.Frag) : Sp := fun vs H Q _ => ∃ (b : Addr) (ss : List Str), vs = [.ref b, .int (ss.length : Int)] ∧ SqT K H b (ss.map V.str) ∧ (∀ z ∈ ss, Tl z) ∧ ss.length ≤ 100 ∧ ∀ H', Same H H' → Q .non H'
structure PartsW (n : Nat) (rs : List (List Int)) (ss : List Str) (st : Int) : Prop where
  many : 1 ≤ rs.length ∧ rs.length ≤ 60
  row : ∀ r ∈ rs, r.length = n + 1 ∧ ∀ x ∈ r, 0 ≤ x ∧ x < (rs.length : Int)
  tl : ss.length = rs.length ∧ ∀ z ∈ ss, Tl z
  st : 0 ≤ st ∧ st < (rs.length : Int)
def spMW (K : PySem.W.Frag) (C D CT : Addr) : Sp := fun vs H Q E => ∃ (x dx a b l : Addr) (as : List Addr) (ws : List Str) (v : V) (t : String) (rs : List (List Int)) (ss : List Str) (st : Int), vs = [.ref x, .ref a, .ref b, .ref l, .int st] ∧ H x = some (.ins C dx []) ∧
  SqT K H a (ws.map V.str ++ [v]) ∧ Th K H v t ∧ GoodW ws ∧ H b = some (.lst (as.map V.ref)) ∧ RowsT H as rs ∧ H l = some (.tup (ss.map V.str)) ∧ PartsW ws.length rs ss st ∧
  Wo D CT ws v H E (∀ z, v = .str z → ∀ H', MachAt K C H' x (ws ++ [z]) rs ss st → Kept x H H' → Q .non H')
section
variable {P : Program} {w : World} {K : PySem.W.Frag} {mg : Str → Option Value} {base : Heap}
theorem ok_rowsT {f fX fI : Addr} {fd fdX fdI : FuncData} (D : Df K mg "check_rows" sCheckRows ["rows", "many"] f fd) (DX : Df K mg "is_index" sIsIndex ["value", "many"] fX fdX) (DI : Df K mg "is_integer" sIsInt ["value"] fI fdI) (T : Bt2 mg) : FnOk P w K mg base CX0 3 f fd ["rows", "many"] (spRowsT K) := by
  have GX : FnOk P w K mg base CX0 2 fX fdX ["value", "many"] spIsIndex := ok_isindex DX DI T
  refine D.F.ok scRows (fun vs H Q E h => ?_) (fun cdv A outer s H vs Q E hr h => ?_)
  · obtain ⟨b, m, as, rs, rfl, _⟩ := h
    rfl
  · obtain ⟨b, m, as, rs, rfl, hb, hR, h1, h60, hm, hrow, k⟩ := h
    obtain ⟨tM, gM⟩ := T.MOST_STATES
    have hlen : (as.map V.ref).length = rs.length := by rw [List.length_map, hR.1]
    refine ⟨_, pss_cons (ps_if (pt_cmpR op_eq (pe_callB call_len (by rfl) T.len PySem.boot_len (pa_cons (pv 0) pa_nil)) pe_int (nomark _)) pss_never pss_nil)
      (pss_cons (ps_if (pt_cmpR op_gt (pe_callB call_len (by rfl) T.len PySem.boot_len (pa_cons (pv 0) pa_nil)) (pe_glob (v := .int 60) rfl gM ⟨_, rfl⟩) (nomark _)) pss_never pss_nil)
      (pss_one (ps_for PassesOwn.never rfl (pi_enum (by rfl) T.enumerate (pa_cons (pv 0) pa_nil)) (pg_tup (by rfl) (pgs_cons (pg_name (i := 2) scRows.nd rfl (Or.inl rfl)) (pgs_cons (pg_name (i := 3) scRows.nd rfl (Or.inl rfl)) pgs_nil)))
        (pss_cons (ps_if (PW.pt (pw_or (pt_not (pt_val (pe_callB call_isiT (by rfl) T.isinstance PyProof.Rows.boot_isinstance (pa_cons (pv 3) (pa_cons (pe_tup (pa_cons (pe_bltn (v := .ty "list") (by rfl) T.list PyProof.Rows.boot_list rfl) (pa_cons (pe_bltn (v := .ty "tuple") (by rfl) T.tuple PyProof.Rows.boot_tuple rfl) pa_nil))) pa_nil)))))
            (pw_or1 (pt_cmpR op_ne (pe_callB call_len (by rfl) T.len PySem.boot_len (pa_cons (pv 3) pa_nil)) (pv 1) (nomark _))))) pss_never pss_nil)
        (pss_one (ps_if (pt_not (pt_val (pe_callB (cr_all rfl) (by rfl) T.all PyProof.Rows.boot_all (pa_cons (pe_lc (own := [("state", 4)]) (g := gName 4) (by rfl) scRows.nd (pi_tup (pv 3))
            (blkOk_by (own := [("state", 4)]) (N := nRows) (sc := defScope sCheckRows) (by decide +kernel)) (fun _ _ _ _ _ => pg_name (i := 4) scRows.nd rfl (Or.inl rfl)) (fun _ _ _ _ _ => pts_nil)
            (fun _ _ _ _ _ => pe_call GX hr rfl DX.g DX.F.kp DX.b .nil pass0 (pa_cons (pv 4) (pa_cons (pe_callB (r := rLn K) call_len (by rfl) T.len PySem.boot_len (pa_cons (pv 0) pa_nil)) pa_nil)))) pa_nil)))) pss_never pss_nil)))))), ?_⟩
    refine ⟨_, rfl, _, rs.length, rfl, .inl ⟨_, hb, hlen.symm⟩, rfl, _, rfl, ?_⟩
    refine ite2 (fun h => absurd (of_decide_eq_true h) (fun h => by injection h with h; omega)) (fun _ => ?_)
    refine ⟨_, rfl, _, rs.length, rfl, .inl ⟨_, hb, hlen.symm⟩, _, _, rfl, rfl, _, rfl, ?_⟩
    refine ite2 (fun h => absurd (of_decide_eq_true h) (by omega)) (fun _ => ?_)
    refine ⟨_, rfl, b, _, rfl, hb, for_it (walk_enum (K := K) (a := b) (xs := as.map V.ref)) (fun i σ H' => Same H H' ∧ ∃ v1 v2, σ = [some (.ref b), some (.int (m : Int)), v1, v2, none]) ⟨Same.refl H, none, none, rfl⟩ (fun i σ H' _ p => p.1.seq hb) ?_ ?_⟩
    · rintro i x σ H1 H2 hi ⟨sm, v1, v2, rfl⟩ ⟨t, x1, x2, rfl, ht, rfl, e1, e2⟩
      cases e1
      replace e2 : (as.map V.ref)[i]? = some x2 := e2
      rw [List.getElem?_map] at e2
      obtain ⟨a, ea, rfl⟩ := Option.map_eq_some_iff.mp e2
      have hir : i < rs.length := by rw [← hR.1]; exact (List.getElem?_eq_some_iff.mp ea).1
      have er : rs[i]? = some rs[i] := List.getElem?_eq_getElem hir
      obtain ⟨hl, hx⟩ := hrow _ (List.getElem_mem hir)
      have sm2 := sm.trans (same_upd (o := .tup [V.int (i : Nat), V.ref a]) ht)
      have ha2 := sm2 _ _ (hR.2 i a _ ea er)
      refine ⟨t, _, rfl, SqT.of upd_same, rfl, _, _, rfl, _, _, rfl, rfl, ?_⟩
      generalize upd H1 t (.tup [V.int (i : Nat), V.ref a]) = H3 at sm2 ha2 ⊢
      refine ⟨_, rfl, by show 2 ≤ sizeLine; decide, fun q hq => ?_⟩
      have sm4 := sm2.trans (same_upd (o := .tup [V.ty "list", V.ty "tuple"]) hq)
      have ha4 := (same_upd (o := .tup [V.ty "list", V.ty "tuple"]) hq) _ _ ha2
      refine ⟨_, q, _, _, _, true, rfl, upd_same, .cons (.ty "list") (.cons (.ty "tuple") .nil), .base (.tup ha4), kit_tupl, true, rfl, ?_⟩
      refine iteF ?_
      refine ⟨_, rfl, _, m, rfl, .inr ⟨_, SqT.of ha4, by rw [List.length_map]; exact hl.symm⟩, _, rfl, rfl, _, rfl, ?_⟩
      refine ite2 (fun h => ?_) (fun _ => ?_)
      · simp at h
      refine ⟨_, rfl, a, rfl, ⟨_, SqT.of ha4⟩, fun D hD => ?_⟩
      generalize upd H3 q (.tup [V.ty "list", V.ty "tuple"]) = H4 at sm4 ha4 hD ⊢
      refine lc_tup (K := K) (a := a) (xs := (rs[i]).map V.int) (fun j H' => Same H4 H' ∧ H' D = some (.lst ((List.replicate j true).map V.bl))) ?_ ?_ ?_ ?_
      · exact ⟨same_upd hD, upd_same⟩
      · exact fun j H' _ p => (SqT.of ha4).ext p.1
      · rintro j x H5 hj ⟨sm5, hD5⟩
        rw [List.getElem?_map] at hj
        obtain ⟨y, hy, rfl⟩ := Option.map_eq_some_iff.mp hj
        obtain ⟨y0, y1⟩ := hx y (List.mem_of_getElem? hy)
        have hjl : j < (rs[i]).length := (List.getElem?_eq_some_iff.mp hy).1
        refine ⟨rfl, _, rfl, _, rfl, _, rs.length, rfl, .inl ⟨_, (sm4.trans sm5).seq hb, hlen.symm⟩, y, rs.length, rfl, y0, y1, ?_⟩
        refine ⟨_, hD5, ?_, ?_, ?_⟩
        · simp; exact small1000 (by omega)
        · exact fun b' o e => by rw [upd_ne (ne_of_none e hD)]; exact sm5 b' o e
        · rw [upd_same, List.replicate_succ']
          simp
      · rintro H5 ⟨sm5, hD5⟩
        refine ⟨D, _, rfl, SqL.of hD5, ?_⟩
        have e : (List.replicate ((rs[i]).map V.int).length true).all id = true := by simp
        rw [e]
        refine ⟨true, rfl, ?_⟩
        refine iteF ?_
        exact ⟨sm4.trans sm5, _, _, rfl⟩
    · rintro σ H1 ⟨sm, v1, v2, rfl⟩
      exact k H1 sm
theorem ok_tellsT {f fT : Addr} {fd fdT : FuncData} (D : Df K mg "check_tells" sCheckTells ["tells", "many"] f fd) (DT : Df K mg "is_tell" sIsTell ["value"] fT fdT) (T : Bt2 mg) : FnOk P w K mg base CX0 2 f fd ["tells", "many"] (spTellsT K) := by
  have GT : FnOk P w K mg base CX0 1 fT fdT ["value"] spIsTell := ok_istell DT T
  refine D.F.ok scTells (fun vs H Q E h => ?_) (fun cdv A outer s H vs Q E hr h => ?_)
  · obtain ⟨b, ss, rfl, _⟩ := h
    rfl
  · obtain ⟨b, ss, rfl, hb, ht, hl, k⟩ := h
    refine ⟨_, pss_cons (ps_for PassesOwn.never rfl (pi_enumT (by rfl) T.enumerate (pa_cons (pv 0) pa_nil)) (pg_tup (by rfl) (pgs_cons (pg_name (i := 2) scTells.nd rfl (Or.inl rfl)) (pgs_cons (pg_name (i := 3) scTells.nd rfl (Or.inl rfl)) pgs_nil)))
        (pss_one (ps_if (pt_not (pt_val (pe_call GT hr rfl DT.g DT.F.kp DT.b .nil pass0 (pa_cons (pv 3) pa_nil)))) pss_never pss_nil)))
      (pss_one (ps_if (pt_cmpR op_ne (pe_callB call_len (by rfl) T.len PySem.boot_len (pa_cons (pv 0) pa_nil)) (pv 1) (nomark _)) pss_never pss_nil)), ?_⟩
    refine ⟨_, rfl, b, _, rfl, hb, for_it (walk_enumT (K := K) (a := b) (xs := ss.map V.str)) (fun i σ H' => Same H H' ∧ ∃ v1 v2, σ = [some (.ref b), some (.int (ss.length : Int)), v1, v2]) ⟨Same.refl H, none, none, rfl⟩ (fun i σ H' _ p => hb.ext p.1) ?_ ?_⟩
    · rintro i x σ H1 H2 hi ⟨sm, v1, v2, rfl⟩ ⟨t, x1, x2, rfl, ht', rfl, e1, e2⟩
      cases e1
      replace e2 : (ss.map V.str)[i]? = some x2 := e2
      rw [List.getElem?_map] at e2
      obtain ⟨z, ez, rfl⟩ := Option.map_eq_some_iff.mp e2
      have sm2 := sm.trans (same_upd (o := .tup [V.int (i : Nat), V.str z]) ht')
      refine ⟨t, _, rfl, SqT.of upd_same, rfl, _, _, rfl, _, _, rfl, rfl, ?_⟩
      refine ⟨_, rfl, z, rfl, ht z (List.mem_of_getElem? ez), fun H3 sm3 => ⟨true, rfl, ?_⟩⟩
      refine iteF ?_
      exact ⟨sm2.trans sm3, _, _, rfl⟩
    · rintro σ H1 ⟨sm, v1, v2, rfl⟩
      refine ⟨_, rfl, _, ss.length, rfl, .inr ⟨_, hb.ext sm, (List.length_map _).symm⟩, _, rfl, rfl, _, rfl, ?_⟩
      refine ite2 (fun h => ?_) (fun _ => k H1 sm)
      simp at h
theorem g_minitW {C f fCd fG fD fW fR fX fI fT fL CD fCD CT fCT : Addr} {fd fdCd fdG fdD fdW fdR fdX fdI fdT fdL fdCD fdCT : FuncData} (F : MI K f fd) (M : Tm K mg C) (T : Bt2 mg)
    (DCd : Df K mg "check_deeds" sCheckDeeds ["deeds"] fCd fdCd) (DG : Df K mg "check_group" sCheckGroup ["deeds"] fG fdG) (DD : Df K mg "check_different" sCheckDiff ["deeds"] fD fdD) (DW : Df K mg "is_word" sIsWord ["value"] fW fdW)
    (DR : Df K mg "check_rows" sCheckRows ["rows", "many"] fR fdR) (DX : Df K mg "is_index" sIsIndex ["value", "many"] fX fdX) (DI : Df K mg "is_integer" sIsInt ["value"] fI fdI)
    (DT : Df K mg "check_tells" sCheckTells ["tells", "many"] fT fdT) (DL : Df K mg "is_tell" sIsTell ["value"] fL fdL) (O : OBadDeeds K mg CD fCD fdCD) (OT : OTooMany K mg CT fCT fdCT) : FnOk P w K mg base (L2.CX P w) 6 f fd pInit (spMW K C CD CT) := by
  have GC : FnOk P w K mg base (L2.CX P w) 5 fCd fdCd ["deeds"] (spDeedsW K CD CT) := g_deedsW DCd DG DD DW O OT T
  have GR : FnOk P w K mg base CX0 3 fR fdR ["rows", "many"] (spRowsT K) := ok_rowsT DR DX DI T
  have GT : FnOk P w K mg base CX0 2 fT fdT ["tells", "many"] (spTellsT K) := ok_tellsT DT DL T
  have GX : FnOk P w K mg base CX0 2 fX fdX ["value", "many"] spIsIndex := ok_isindex DX DI T
  refine F.ok scMInit (fun vs H Q E h => ?_) (fun cdv A outer s H vs Q E hr h => ?_)
  · obtain ⟨x, dx, a, b, l, as, ws, v, t, rs, ss, st, rfl, _⟩ := h
    rfl
  · obtain ⟨x, dx, a, b, l, as, ws, v, t, rs, ss, st, rfl, hx, ha, th, gd, hb, hR, hl, pt, k⟩ := h
    have hr2 : Room 2 _ := hr.mono (by decide)
    have hr3 : Room 3 _ := hr.mono (by decide)
    refine ⟨_, (pss_cons (ps_expr (pe_callS GC hr rfl DCd.g DCd.F.kp DCd.b (fun σ => passAt (takes_of rfl rfl rfl rfl) σ) (pa_cons (pv 1) pa_nil)))
      (pss_cons (ps_expr (pe_call GR hr3 rfl DR.g DR.F.kp DR.b .nil pass0 (pa_cons (pv 2) (pa_cons (pe_callB call_len (by rfl) T.len PySem.boot_len (pa_cons (pv 1) pa_nil)) pa_nil))))
      (pss_cons (ps_expr (pe_call GT hr2 rfl DT.g DT.F.kp DT.b .nil pass0 (pa_cons (pv 3) (pa_cons (pe_callB call_len (by rfl) T.len PySem.boot_len (pa_cons (pv 2) pa_nil)) pa_nil))))
      (pss_cons (ps_if (pt_not (pt_val (pe_call GX hr2 rfl DX.g DX.F.kp DX.b .nil pass0 (pa_cons (pv 4) (pa_cons (pe_callB call_len (by rfl) T.len PySem.boot_len (pa_cons (pv 2) pa_nil)) pa_nil))))) pss_never pss_nil)
      (pss_cons (ps_fld (pv 0) (pe_callTy (r := rTu K) call_tuple_of (by rfl) T.tuple PyProof.Rows.boot_tuple (pa_cons (pv 1) pa_nil)) rfl)
      (pss_cons (ps_fld (pv 0) (pe_callTy (r := rTu K) call_tuple_of (by rfl) T.tuple PyProof.Rows.boot_tuple (pa_cons (pe_lc (own := [("row", 5)]) (g := gName 5) (by rfl) scMInit.nd (pi_list (pv 2))
            (blkOk_by (own := [("row", 5)]) (N := nInit) (sc := defScope sMInit) (by decide +kernel)) (fun _ _ _ _ _ => pg_name (i := 5) scMInit.nd rfl (Or.inl rfl)) (fun _ _ _ _ _ => pts_nil)
            (fun _ _ _ _ _ => pe_callTy (r := rTu K) call_tuple_of (by rfl) T.tuple PyProof.Rows.boot_tuple (pa_cons (pv 5) pa_nil))) pa_nil)) rfl)
        (pss_cons (ps_fld (pv 0) (pe_callTy (r := rTu K) call_tuple_of (by rfl) T.tuple PyProof.Rows.boot_tuple (pa_cons (pv 3) pa_nil)) rfl)
        (pss_one (ps_fld (pv 0) (pv 4) rfl))))))))), ?_⟩
    refine ⟨_, rfl, a, ws, v, t, rfl, ha, th, gd, ?_⟩
    unfold Wo at k ⊢
    by_cases eo : okW ws v = false
    · rw [if_pos eo] at k ⊢
      exact k
    rw [if_neg eo] at k ⊢
    by_cases h6 : ws.length = 6
    · rw [if_pos h6] at k ⊢
      exact k
    rw [if_neg h6] at k ⊢
    have g6 := gd.len.2
    have h60 := pt.many.2
    have hlr : (as.map V.ref).length = rs.length := by rw [List.length_map, hR.1]
    intro H1 s1
    refine ⟨_, rfl, _, rfl, _, ws.length + 1, rfl, .inr ⟨_, ha.ext s1, (len_snoc _ _).symm⟩, b, ws.length + 1, as, rs, rfl, SqL.of (s1 _ _ hb), hR.same s1, pt.many.1, h60, by omega, pt.row, fun H2 s2' => ?_⟩
    have s2 := s1.trans s2'
    refine ⟨_, rfl, _, rfl, _, rs.length, rfl, .inl ⟨_, SqL.of (s2 _ _ hb), hlr.symm⟩, l, ss, by rw [pt.tl.1]; rfl, SqT.of (s2 _ _ hl), pt.tl.2, by rw [pt.tl.1]; omega, fun H3 s3' => ?_⟩
    have s3 := s2.trans s3'
    refine ⟨_, rfl, _, rfl, _, rs.length, rfl, .inl ⟨_, SqL.of (s3 _ _ hb), hlr.symm⟩, st, rs.length, rfl, pt.st.1, pt.st.2, true, rfl, ?_⟩
    refine iteF ?_
    refine ⟨_, rfl, a, _, rfl, .inr ⟨ha.ext s3, ?_⟩⟩
    have hx3 := s3 _ _ hx
    refine ⟨_, rfl, x, C, dx, _, rfl, hx3, M.cl, M.nD, (by show 0 < 1000; decide), ?_⟩
    have k5 : Kept x H3 (upd H3 x (.ins C dx (putF "deeds" (.ref a) []))) := Kept.self
    have hx5 : upd H3 x (.ins C dx (putF "deeds" (.ref a) [])) x = some (.ins C dx (putF "deeds" (.ref a) [])) := upd_same
    have ha5 := k5.seqTI hx3 (ha.ext s3)
    have hb5 := k5 _ _ (s3 _ _ hb) (ne_of (s3 _ _ hb) hx3 (by intro z; cases z))
    have hl5 := k5 _ _ (s3 _ _ hl) (ne_of (s3 _ _ hl) hx3 (by intro z; cases z))
    have hR5 := RowsT.kept k5 hx3 (hR.same s3)
    have kk5 : Kept x H (upd H3 x (.ins C dx (putF "deeds" (.ref a) []))) := (Kept.same s3).trans k5
    generalize upd H3 x (.ins C dx (putF "deeds" (.ref a) [])) = H5 at k5 hx5 ha5 hb5 hl5 hR5 kk5 ⊢
    refine ⟨_, rfl, b, rfl, ⟨_, SqL.of hb5⟩, fun D hD => ?_⟩
    refine lc_list (K := K) (a := b) (xs := as.map V.ref) (fun i H' => Same H5 H' ∧ H' D = some (.lst ((as.take i).map V.ref))) ?_ ?_ ?_ ?_
    · exact ⟨same_upd hD, upd_same⟩
    · exact fun i H' _ p => SqL.of (p.1 _ _ hb5)
    · rintro i y H6 hi ⟨sm6, hD6⟩
      rw [List.getElem?_map] at hi
      obtain ⟨ai, eai, rfl⟩ := Option.map_eq_some_iff.mp hi
      have hir : i < rs.length := by rw [← hR.1]; exact (List.getElem?_eq_some_iff.mp eai).1
      have ha6 := sm6 _ _ (hR5.2 i ai _ eai (List.getElem?_eq_getElem hir))
      refine ⟨rfl, _, rfl, ai, _, rfl, .inr ⟨SqT.of ha6, ?_⟩⟩
      refine ⟨_, hD6, ?_, ?_, ?_⟩
      · rw [List.length_map, List.length_take]; exact small1000 (by omega)
      · exact fun c o e => by rw [upd_ne (ne_of_none e hD)]; exact sm6 _ _ e
      · rw [upd_same, List.take_add_one, eai, List.map_append]; rfl
    · rintro H6 ⟨sm6, hD6⟩
      rw [List.length_map, List.take_length] at hD6
      refine ⟨D, _, rfl, .inl ⟨SqL.of hD6, fun r hr6 => ?_⟩⟩
      have sr := same_upd (o := .tup (as.map V.ref)) hr6
      have s7 := sm6.trans sr
      have hx7 := s7 _ _ hx5
      have hr7 : upd H6 r (.tup (as.map V.ref)) r = some (.tup (as.map V.ref)) := upd_same
      have ha7 := ha5.ext s7
      have hl7 := s7 _ _ hl5
      have hR7 := hR5.same s7
      have kk7 := kk5.trans (.same s7)
      generalize upd H6 r (.tup (as.map V.ref)) = H7 at hx7 hr7 ha7 hl7 hR7 kk7 ⊢
      refine ⟨_, rfl, x, C, dx, _, rfl, hx7, M.cl, M.nR, (by show 1 < 1000; decide), ?_⟩
      have k8 : Kept x H7 (upd H7 x (.ins C dx (putF "rows" (.ref r) (putF "deeds" (.ref a) [])))) := Kept.self
      have hx8 : upd H7 x (.ins C dx (putF "rows" (.ref r) (putF "deeds" (.ref a) []))) x = some (.ins C dx (putF "rows" (.ref r) (putF "deeds" (.ref a) []))) := upd_same
      have hr8 := k8 _ _ hr7 (ne_of hr7 hx7 (by intro z; cases z))
      have ha8 := k8.seqTI hx7 ha7
      have hl8 := k8 _ _ hl7 (ne_of hl7 hx7 (by intro z; cases z))
      have hR8 := RowsT.kept k8 hx7 hR7
      have kk8 := kk7.trans k8
      generalize upd H7 x (.ins C dx (putF "rows" (.ref r) (putF "deeds" (.ref a) []))) = H8 at hx8 hr8 ha8 hl8 hR8 kk8 ⊢
      refine ⟨_, rfl, l, _, rfl, .inr ⟨SqT.of hl8, ?_⟩⟩
      refine ⟨_, rfl, x, C, dx, _, rfl, hx8, M.cl, M.nT, (by show 2 < 1000; decide), ?_⟩
      have k9 : Kept x H8 (upd H8 x (.ins C dx (putF "tells" (.ref l) (putF "rows" (.ref r) (putF "deeds" (.ref a) []))))) := Kept.self
      have hx9 : upd H8 x (.ins C dx (putF "tells" (.ref l) (putF "rows" (.ref r) (putF "deeds" (.ref a) [])))) x = some (.ins C dx (putF "tells" (.ref l) (putF "rows" (.ref r) (putF "deeds" (.ref a) [])))) := upd_same
      have hr9 := k9 _ _ hr8 (ne_of hr8 hx8 (by intro z; cases z))
      have ha9 := k9.seqTI hx8 ha8
      have hl9 := k9 _ _ hl8 (ne_of hl8 hx8 (by intro z; cases z))
      have hR9 := RowsT.kept k9 hx8 hR8
      have kk9 := kk8.trans k9
      generalize upd H8 x (.ins C dx (putF "tells" (.ref l) (putF "rows" (.ref r) (putF "deeds" (.ref a) [])))) = H9 at hx9 hr9 ha9 hl9 hR9 kk9 ⊢
      refine ⟨_, rfl, _, rfl, x, C, dx, _, rfl, hx9, M.cl, M.nS, (by show 3 < 1000; decide), ?_⟩
      have k10 : Kept x H9 (upd H9 x (.ins C dx (mf a r l st))) := Kept.self
      have wv : wordB v = true := by
        unfold okW at eo
        cases hw : wordB v with
        | true => rfl
        | false => rw [hw] at eo; exact absurd rfl eo
      obtain ⟨z, rfl⟩ := word_str wv
      refine k z rfl _ ⟨dx, a, r, l, as, upd_same, ?_, k10 _ _ hr9 (ne_of hr9 hx9 (by intro z; cases z)), RowsT.kept k10 hx9 hR9, k10 _ _ hl9 (ne_of hl9 hx9 (by intro z; cases z))⟩ (kk9.trans k10)
      have := k10.seqTI hx9 ha9
      rw [List.map_append]
      exact this
end
end K1
set_option Elab.async false
set_option linter.all false
set_option maxRecDepth 100000
/-! a machine with one deed more; marks -/
namespace K1
open PySem L2
abbrev sWith : Stmt := top 44
abbrev sIdle : Stmt := top 45
abbrev sExpo : Stmt := top 46
abbrev sHidd : Stmt := top 47
abbrev sKInit : Stmt := inClass (top 27) 0
def wideR (rs : List (List Int)) (tos : List Int) : List (List Int) := List.zipWith (fun r t => r ++ [t]) rs tos
def ToOk (rs : List (List Int)) (tos : List Int) : Prop := tos.length = rs.length ∧ ∀ t ∈ tos, 0 ≤ t ∧ t < (rs.length : Int)
theorem wide_len {rs : List (List Int)} {tos : List Int} (h : ToOk rs tos) : (wideR rs tos).length = rs.length := by unfold wideR; rw [List.length_zipWith, h.1]; simp
theorem Parts.wide {ws : List Str} {rs : List (List Int)} {ss : List Str} {st : Int} {tos : List Int} (pt : Parts ws rs ss st) (h : ToOk rs tos) : PartsW ws.length (wideR rs tos) ss st := by
  have hl := wide_len h
  refine ⟨by rw [hl]; exact pt.many, fun r hr => ?_, by rw [hl]; exact pt.tl, by rw [hl]; exact pt.st⟩
  obtain ⟨i, hi, ei⟩ := List.getElem_of_mem hr
  have h1 : i < rs.length := by rw [hl] at hi; exact hi
  have h2 : i < tos.length := by rw [h.1]; exact h1
  have e : r = rs[i] ++ [tos[i]] := by
    have q : (wideR rs tos)[i]? = some (rs[i] ++ [tos[i]]) := by unfold wideR; rw [List.getElem?_zipWith, List.getElem?_eq_getElem h1, List.getElem?_eq_getElem h2]
    rw [List.getElem?_eq_getElem hi, ei] at q
    exact Option.some.inj q
  obtain ⟨q1, q2⟩ := pt.row _ (List.getElem_mem h1)
  refine ⟨by rw [e, List.length_append, q1]; rfl, fun x hx => ?_⟩
  rw [hl]
  rw [e] at hx
  rcases List.mem_append.mp hx with z | z
  · exact q2 x z
  · rw [List.mem_singleton.mp z]; exact h.2 _ (List.getElem_mem h2)
theorem Parts.goodW {ws : List Str} {rs : List (List Int)} {ss : List Str} {st : Int} (pt : Parts ws rs ss st) : GoodW ws := ⟨pt.gd.nd, pt.gd.wd, pt.gd.len⟩
theorem MachAt.same {K : PySem.W.Frag} {C : Addr} {H H' : Hp} {x : Addr} {ws : List Str} {rs : List (List Int)} {ss : List Str} {st : Int} (h : MachAt K C H x ws rs ss st) (s : Same H H') : MachAt K C H' x ws rs ss st := by
  obtain ⟨dx, t, r, l, as, h1, h2, h3, h4, h5⟩ := h
  exact ⟨dx, t, r, l, as, s _ _ h1, h2.ext s, s _ _ h3, h4.same s, s _ _ h5⟩
def spWith (K : PySem.W.Frag) (C D CT : Addr) : Sp := fun vs H Q E => ∃ (m q : Addr) (v : V) (t : String) (ws : List Str) (rs : List (List Int)) (ss : List Str) (st : Int) (tos : List Int), vs = [.ref m, v, .ref q] ∧ MachAt K C H m ws rs ss st ∧ Th K H v t ∧ Parts ws rs ss st ∧
  SqL K H q (tos.map V.int) ∧ ToOk rs tos ∧ Wo D CT ws v H E (∀ z, v = .str z → ∀ x H', H x = none → MachAt K C H' x (ws ++ [z]) (wideR rs tos) ss st → Same H H' → Q (.ref x) H')
section
variable {P : Program} {w : World} {K : PySem.W.Frag} {mg : Str → Option Value} {base : Heap}
abbrev pWith : List Str := ["machine", "deed", "led"]
abbrev nWith : List Str := ["machine", "deed", "led", "rows", "row", "to"]
theorem scWith : FnScope nWith pWith (defScope sWith) := ⟨rfl, rfl, rfl, by decide +kernel, rfl, by decide +kernel, by decide +kernel⟩
theorem g_with {C D CT f fI : Addr} {fd fdI : FuncData} (F : Df K mg "with_deed" sWith pWith f fd) (M : Tm K mg C) (T : Bt2 mg) (hz : mg "zip" = none) (Mk' : Mk K C fI) (GI : FnOk P w K mg base (L2.CX P w) 6 fI fdI pInit (spMW K C D CT)) (bI : Binds K fdI pInit []) : FnOk P w K mg base (L2.CX P w) 8 f fd pWith (spWith K C D CT) := by
  refine F.F.okX scWith (fun vs H Q E h => ?_) (fun cdv A outer s H vs Q E hr h => ?_)
  · obtain ⟨m, q, v, t, ws, rs, ss, st, tos, rfl, _⟩ := h
    rfl
  · obtain ⟨m, q, v, ty, ws, rs, ss, st, tos, rfl, ⟨dx, t, r, l, as, hx, ht, hr', hR, hl⟩, th, pt, hq, ok, k⟩ := h
    refine ⟨_, pss_cons (ps_setLc (i := 3) (own := [("row", 4), ("to", 5)]) (g := gTup K 2 (gCons (gName 4) (gCons (gName 5) gNil))) (by rfl) scWith.nd rfl rfl (sw_true rfl rfl rfl (by decide +kernel)) (pi_zipM (by rfl) hz (pa_cons (pe_fld (pv 0) rfl) (pa_cons (pv 2) pa_nil)))
        (blkOk_by (own := [("row", 4), ("to", 5)]) (N := nWith) (sc := defScope sWith) (by decide +kernel)) (fun _ _ _ _ _ => pg_tup (by rfl) (pgs_cons (pg_name (i := 4) scWith.nd rfl (Or.inl rfl)) (pgs_cons (pg_name (i := 5) scWith.nd rfl (Or.inl rfl)) pgs_nil))) (fun _ _ _ _ _ => pts_nil)
        (fun _ _ _ _ _ => pe_op (r := rCatT K) op_catT (pv 4) (pe_tup (pa_cons (pv 5) pa_nil))))
      (pss_one (ps_ret (pe_makeS Mk' GI hr rfl M.mgC bI .nil (fun σ => passAt (takes_of rfl rfl rfl rfl) σ) (pa_cons (pe_op (r := rCatT K) op_catT (pe_fld (pv 0) rfl) (pe_tup (pa_cons (pv 1) pa_nil)))
        (pa_cons (pv 3) (pa_cons (pe_fld (pv 0) rfl) (pa_cons (pe_fld (pv 0) rfl) pa_nil))))))), ?_⟩
    have h60 := pt.many.2
    have h6 := pt.gd.len
    refine ⟨_, rfl, m, C, dx, _, _, rfl, hx, M.cl, M.nR, mf_rows _ _ _ _, _, rfl, r, q, as.map V.ref, tos.map V.int, rfl, SqT.of hr', hq, fun D1 hD => ?_⟩
    have hln : rs.length = min (as.map V.ref).length (tos.map V.int).length := by rw [List.length_map, List.length_map, hR.1, ok.1]; simp
    refine lc_it (walk_zipM hln) (fun i H' => Same H H' ∧ ∃ bs : List Addr, bs.length = i ∧ H' D1 = some (.lst (bs.map V.ref)) ∧ RowsT H' bs ((wideR rs tos).take i)) ?_ ?_ ?_ ?_
    · exact ⟨same_upd hD, [], rfl, upd_same, by simp, fun i a r e => by simp at e⟩
    · exact fun i H' _ p => ⟨SqT.of (p.1 _ _ hr'), p.1.seq hq⟩
    · rintro i y H1 H2 hi ⟨sm, bs, hbs, hD1, hRb⟩ ⟨T', x', y', rfl, hT, rfl, e1, e2⟩
      replace e1 : (as.map V.ref)[i]? = some x' := e1
      replace e2 : (tos.map V.int)[i]? = some y' := e2
      rw [List.getElem?_map] at e1 e2
      obtain ⟨a, ea, rfl⟩ := Option.map_eq_some_iff.mp e1
      obtain ⟨to, et, rfl⟩ := Option.map_eq_some_iff.mp e2
      have er : rs[i]? = some rs[i] := List.getElem?_eq_getElem hi
      have hlr := (pt.row _ (List.getElem_mem hi)).1
      have ewd : (wideR rs tos)[i]? = some (rs[i] ++ [to]) := by unfold wideR; rw [List.getElem?_zipWith, er, et]
      have nDT : D1 ≠ T' := ne_of_none hD1 hT
      have sT := same_upd (o := .tup [V.ref a, V.int to]) hT
      have sm2 := sm.trans sT
      have ha2 := sm2 _ _ (hR.2 i a _ ea er)
      have hD2 := sT _ _ hD1
      have hRb2 := hRb.same sT
      refine ⟨T', _, rfl, SqT.of upd_same, rfl, _, _, rfl, _, _, rfl, rfl, rfl, ?_⟩
      generalize upd H1 T' (.tup [V.ref a, V.int to]) = H3 at sm2 ha2 hD2 hRb2 ⊢
      refine ⟨_, rfl, _, rfl, (by show 1 ≤ sizeLine; decide), fun p hp => ?_⟩
      have sp := same_upd (o := .tup [V.int to]) hp
      have hne : (rs[i]).map V.int ≠ [] := fun e => by
        have := congrArg List.length e
        rw [List.length_map, hlr] at this
        have e0 : ws.length = 0 := this
        omega
      refine ⟨a, p, _, _, rfl, rfl, SqT.of (sp _ _ ha2), SqT.of upd_same, hne, ?_, (fun e => absurd e (by simp)), fun _ b hb => ?_⟩
      · rw [List.length_map, hlr]; exact Nat.le_of_lt (small1000 (by simp; omega))
      have sb := sp.trans (same_upd (o := .tup ((rs[i]).map V.int ++ [V.int to])) hb)
      have nDb : D1 ≠ b := ne_of_none (sp _ _ hD2) hb
      refine ⟨_, sb _ _ hD2, ?_, ?_, bs ++ [b], by simp [hbs], by rw [upd_same]; simp, ?_⟩
      · rw [List.length_map, hbs]; exact small1000 (by omega)
      · exact fun c o e => by rw [upd_ne (ne_of_none e hD)]; exact sb _ _ (sm2 _ _ e)
      · have e7 : RowsT (upd (upd H3 p (.tup [V.int to])) b (.tup ((rs[i]).map V.int ++ [V.int to]))) (bs ++ [b]) ((wideR rs tos).take i ++ [rs[i] ++ [to]]) := (hRb2.same sb).snoc (by rw [upd_same, List.map_append]; rfl)
        rw [List.take_add_one, ewd]
        exact ⟨e7.1, fun j c r e1 e2 => by
          have hj := e7.2 j c r e1 e2
          have : c ≠ D1 := fun e => by rw [e, sb _ _ hD2] at hj; cases hj
          rw [upd_ne this]
          exact hj⟩
    · rintro H2 ⟨sm, bs, hbs, hD2, hRb⟩
      have etk : (wideR rs tos).take rs.length = wideR rs tos := by rw [← wide_len ok, List.take_length]
      rw [etk] at hRb
      have hx2 := sm _ _ hx
      refine ⟨_, rfl, m, C, dx, _, _, rfl, hx2, M.cl, M.nD, mf_deeds _ _ _ _, _, rfl, (by show 1 ≤ sizeLine; decide), fun p hp => ?_⟩
      have sp := same_upd (o := .tup [v]) hp
      have hne : ws.map V.str ≠ [] := fun e => by
        have := congrArg List.length e
        simp at this
        rw [this] at h6
        simp at h6
      refine ⟨t, p, _, _, rfl, rfl, (ht.ext sm).ext sp, SqT.of upd_same, hne, ?_, (fun e => absurd e (by simp)), fun _ a ha => ?_⟩
      · rw [List.length_map]; exact Nat.le_of_lt (small1000 (by simp; omega))
      have s3 := sm.trans (sp.trans (same_upd (o := .tup (ws.map V.str ++ [v])) ha))
      have s23 := sp.trans (same_upd (o := .tup (ws.map V.str ++ [v])) ha)
      have ha3 : upd (upd H2 p (.tup [v])) a (.tup (ws.map V.str ++ [v])) a = some (.tup (ws.map V.str ++ [v])) := upd_same
      generalize upd (upd H2 p (.tup [v])) a (.tup (ws.map V.str ++ [v])) = H3 at s3 s23 ha3 ⊢
      have hx3 := s3 _ _ hx
      refine ⟨_, rfl, _, rfl, m, C, dx, _, _, rfl, hx3, M.cl, M.nT, mf_tells _ _ _ _, _, rfl, m, C, dx, _, _, rfl, hx3, M.cl, M.nS, mf_start _ _ _ _, ?_⟩
      intro x dx2 hx4 hdx ndx
      have zx : H x = none := s3.free hx4
      have s4 : Same H3 (upd (upd H3 dx2 (.own x)) x (.ins C dx2 [])) := fun b o e => by rw [upd_ne (ne_of_none e hx4), upd_ne (ne_of_none e hdx)]; exact e
      have sH := s3.trans s4
      refine ⟨x, dx2, a, D1, l, bs, ws, v, ty, wideR rs tos, ss, st, rfl, upd_same, SqT.of (s4 _ _ ha3), th.same sH, pt.goodW, s4 _ _ (s23 _ _ hD2), (hRb.same s23).same s4, sH _ _ hl, pt.wide ok, k.same sH fun f z e H' hm hk => ⟨rfl, f z e x H' zx hm fun b o eb => hk b o (sH _ _ eb) (ne_of_none eb zx)⟩⟩
end
end K1
set_option Elab.async false
set_option linter.all false
set_option maxRecDepth 100000
namespace L2
open PySem PySem.Spec PyProof.Rows
variable {X : Cx}
/-- x in t, of data, where t is a tuple -/
def rInT (K : PySem.W.Frag) (neg : Bool) : R2 := fun x y H Q => ∃ d ds, Dp K H x d ∧ Dp K H y (.tuple ds) ∧ SeqAt.shaped d = true ∧ SeqAt.shaped (.tuple ds) = true ∧ Q (.bl (if neg then !(ds.any fun z => PyData.eqv z d) else ds.any fun z => PyData.eqv z d)) H
theorem canLay_tup {ds : List PyData} (h : SeqAt.shaped (.tuple ds) = true) : PyData.canLayAll0 ds = true := by
  unfold SeqAt.shaped at h
  rw [PyData.canLay0] at h
  exact (Bool.and_eq_true_iff.mp h).1
theorem op_inT (hu : X.A.units + 65 < cLine) : OpR X (compareOp .In) (rInT X.K false) := by
  intro pins s σ H x y v u Q I rx ry h
  obtain ⟨d, ds, hd, he, sd, se, q⟩ := h
  obtain ⟨as, r1⟩ := Dp.reads I d x v hd rx
  obtain ⟨bs, r2⟩ := Dp.reads I (.tuple ds) y u he ry
  exact SeqAt.in_tuple_reads r2 r1 (canLay_tup se) (SeqAt.canLay_of_shaped sd) (room_in_shaped sd hu) ⟨.bl _, H, I, rfl, q⟩
theorem op_notInT (hu : X.A.units + 65 < cLine) : OpR X (compareOp .NotIn) (rInT X.K true) := by
  intro pins s σ H x y v u Q I rx ry h
  obtain ⟨d, ds, hd, he, sd, se, q⟩ := h
  obtain ⟨as, r1⟩ := Dp.reads I d x v hd rx
  obtain ⟨bs, r2⟩ := Dp.reads I (.tuple ds) y u he ry
  exact SeqAt.notIn_tuple_reads r2 r1 (canLay_tup se) (SeqAt.canLay_of_shaped sd) (room_in_shaped sd hu) ⟨.bl _, H, I, rfl, q⟩
end L2
namespace K1
open PySem L2
theorem room65 {k : Nat} {A : Around} (r : Room k A) : A.units + 65 < cLine := by have := r.un; omega
theorem eqv_str (a b : Str) : PyData.eqv (.str a) (.str b) = decide (a = b) := by
  simp [PyData.eqv]
  by_cases e : a = b <;> simp [e]
end K1
set_option Elab.async false
set_option linter.all false
set_option maxRecDepth 100000
/-! idle, marks made, hidden, exposed -/
namespace K1
open PySem L2
def idleT (n : Nat) : List Int := (List.range n).map fun (i : Nat) => (i : Int)
theorem idle_rg (n : Nat) : rgV 0 (n : Int) = (idleT n).map V.int := by
  unfold rgV idleT
  rw [List.map_map]
  have e : ((n : Int) - 0).toNat = n := by omega
  rw [e]
  refine List.map_congr_left fun i _ => ?_
  show V.int (0 + (i : Int)) = V.int (i : Int)
  rw [Int.zero_add]
theorem idle_ok (rs : List (List Int)) : ToOk rs (idleT rs.length) := by
  refine ⟨by unfold idleT; simp, fun t ht => ?_⟩
  unfold idleT at ht
  obtain ⟨i, hi, rfl⟩ := List.mem_map.mp ht
  have := List.mem_range.mp hi
  omega
def spIdle (K : PySem.W.Frag) (C D CT : Addr) : Sp := fun vs H Q E => ∃ (m : Addr) (v : V) (t : String) (ws : List Str) (rs : List (List Int)) (ss : List Str) (st : Int), vs = [.ref m, v] ∧ MachAt K C H m ws rs ss st ∧ Th K H v t ∧ Parts ws rs ss st ∧
  Wo D CT ws v H E (∀ z, v = .str z → ∀ x H', H x = none → MachAt K C H' x (ws ++ [z]) (wideR rs (idleT rs.length)) ss st → Same H H' → Q (.ref x) H')
def rules : List Str := ["kept", "cleared"]
def kf (x : Addr) (ru : Str) : List (Str × V) := putF "rule" (.str ru) (putF "machine" (.ref x) [])
theorem kf_m (x : Addr) (ru : Str) : (kf x ru).lookup ("machine" : Str) = some (.ref x) := by
  unfold kf; rw [lookup_putF, if_neg (by decide +kernel), lookup_putF, if_pos rfl]
theorem kf_r (x : Addr) (ru : Str) : (kf x ru).lookup ("rule" : Str) = some (.str ru) := by
  unfold kf; rw [lookup_putF, if_pos rfl]
structure Tk (K : PySem.W.Frag) (mg : Str → Option Value) (C : Addr) : Prop where
  cl : Cls K C
  nM : NoAttr K C "machine"
  nR : NoAttr K C "rule"
  mgC : mg "Mark" = some (.ref C)
def MarkAt (K : PySem.W.Frag) (C CM : Addr) (H : Hp) (a : Addr) (ws : List Str) (rs : List (List Int)) (ss : List Str) (st : Int) (ru : Str) : Prop := ∃ dx x, H a = some (.ins CM dx (kf x ru)) ∧ MachAt K C H x ws rs ss st
theorem MarkAt.same {K : PySem.W.Frag} {C CM : Addr} {H H' : Hp} {a : Addr} {ws : List Str} {rs : List (List Int)} {ss : List Str} {st : Int} {ru : Str} (h : MarkAt K C CM H a ws rs ss st ru) (s : Same H H') : MarkAt K C CM H' a ws rs ss st ru := by
  obtain ⟨dx, x, h1, h2⟩ := h
  exact ⟨dx, x, s _ _ h1, h2.same s⟩
/-- kept but for z, an instance without deeds: nothing of a machine is lost -/
theorem MachAt.kept {K : PySem.W.Frag} {C z Cz dz : Addr} {H H' : Hp} {x : Addr} {ws : List Str} {rs : List (List Int)} {ss : List Str} {st : Int} {fs : List (Str × V)} (h : MachAt K C H x ws rs ss st) (hz : H z = some (.ins Cz dz fs)) (hf : fs.lookup ("deeds" : Str) = none) (k : Kept z H H') : MachAt K C H' x ws rs ss st := by
  obtain ⟨dx, t, r, l, as, h1, h2, h3, h4, h5⟩ := h
  refine ⟨dx, t, r, l, as, k _ _ h1 (fun e => ?_), k.seqTI hz h2, k _ _ h3 (ne_of h3 hz (by intro z; cases z)), RowsT.kept k hz h4, k _ _ h5 (ne_of h5 hz (by intro z; cases z))⟩
  rw [e, hz] at h1
  cases h1
  rw [mf_deeds] at hf
  cases hf
def spKInit (K : PySem.W.Frag) (CM : Addr) : Sp := fun vs H Q _ => ∃ (a dx x : Addr) (ru : Str), vs = [.ref a, .ref x, .str ru] ∧ H a = some (.ins CM dx []) ∧ ru ∈ rules ∧ ∀ H', H' a = some (.ins CM dx (kf x ru)) → Kept a H H' → Q .non H'
theorem rules_sh : SeqAt.shaped (.tuple (rules.map PyData.str)) = true := shaped_strs (fun z hz => (by decide +kernel : ∀ z ∈ rules, PyData.strOk z = true) z hz)
theorem rule_ok {z : Str} (h : z ∈ rules) : PyData.strOk z = true := (by decide +kernel : ∀ z ∈ rules, PyData.strOk z = true) z h
def tosOf (ru : Str) (rs : List (List Int)) (st : Int) : List Int := if ru = "kept" then idleT rs.length else List.replicate rs.length st
def spHidd (K : PySem.W.Frag) (C CM D CT : Addr) : Sp := fun vs H Q E => ∃ (a : Addr) (v : V) (t : String) (ws : List Str) (rs : List (List Int)) (ss : List Str) (st : Int) (ru : Str), vs = [.ref a, v] ∧ MarkAt K C CM H a ws rs ss st ru ∧ ru ∈ rules ∧ Th K H v t ∧ Parts ws rs ss st ∧
  Wo D CT ws v H E (∀ z, v = .str z → ∀ x H', H x = none → MarkAt K C CM H' x (ws ++ [z]) (wideR rs (idleT rs.length)) ss st ru → Same H H' → Q (.ref x) H')
def spExpo (K : PySem.W.Frag) (C CM D CT : Addr) : Sp := fun vs H Q E => ∃ (a : Addr) (v : V) (t : String) (ws : List Str) (rs : List (List Int)) (ss : List Str) (st : Int) (ru : Str), vs = [.ref a, v] ∧ MarkAt K C CM H a ws rs ss st ru ∧ ru ∈ rules ∧ Th K H v t ∧ Parts ws rs ss st ∧
  Wo D CT ws v H E (∀ z, v = .str z → ∀ x H', H x = none → MarkAt K C CM H' x (ws ++ [z]) (wideR rs (tosOf ru rs st)) ss st ru → Same H H' → Q (.ref x) H')
section
variable {P : Program} {w : World} {K : PySem.W.Frag} {mg : Str → Option Value} {base : Heap}
structure Bk (K : PySem.W.Frag) (mg : Str → Option Value) : Prop where
  RU : ∃ p, mg "RULES" = some (.ref p) ∧ ∀ H : Hp, SqT K H p (rules.map V.str)
abbrev pKI : List Str := ["self", "machine", "rule"]
theorem scKI : FnScope pKI pKI (defScope sKInit) := ⟨rfl, rfl, rfl, by decide +kernel, rfl, by decide +kernel, by decide +kernel⟩
theorem ok_kinit {CM f : Addr} {fd : FuncData} (F : Fun K "__init__" "Mark.__init__" sKInit f fd) (M : Tk K mg CM) (B : Bk K mg) : FnOk P w K mg base CX0 1 f fd pKI (spKInit K CM) := by
  refine F.ok scKI (fun vs H Q E h => ?_) (fun cdv A outer s H vs Q E hr h => ?_)
  · obtain ⟨a, dx, x, ru, rfl, _⟩ := h
    rfl
  · obtain ⟨a, dx, x, ru, rfl, ha, hru, k⟩ := h
    obtain ⟨pR, gR, qR⟩ := B.RU
    refine ⟨_, pss_cons (ps_if (pt_cmpR (op_notInT (room65 hr)) (pv 2) (pe_glob (v := .ref pR) rfl gR rfl) (by rfl)) pss_never pss_nil)
      (pss_cons (ps_fld (pv 0) (pv 1) rfl) (pss_one (ps_fld (pv 0) (pv 2) rfl))), ?_⟩
    refine ⟨_, rfl, .str ru, _, .str _, .tup (qR H) (dp_strs rules), shaped_of (by rw [PyData.canLay0]; exact rule_ok hru) (Nat.zero_le _), rules_sh, _, rfl, ?_⟩
    have e1 : ((rules.map PyData.str).any fun q => PyData.eqv q (.str ru)) = true := by
      rw [List.any_eq_true]
      exact ⟨_, List.mem_map_of_mem hru, by rw [eqv_str]; simp⟩
    rw [if_pos rfl, e1]
    refine iteF ?_
    refine ⟨_, rfl, _, rfl, a, CM, dx, _, rfl, ha, M.cl, M.nM, by simp, ?_⟩
    refine ⟨_, rfl, _, rfl, a, CM, dx, _, rfl, upd_same, M.cl, M.nR, (by show 1 < 1000; decide), ?_⟩
    refine k _ upd_same fun b u e n => ?_
    rw [upd_ne n, upd_ne n]; exact e
abbrev pId : List Str := ["machine", "deed"]
theorem scId : FnScope pId pId (defScope sIdle) := ⟨rfl, rfl, rfl, by decide +kernel, rfl, by decide +kernel, by decide +kernel⟩
theorem g_idle {C D CT f fW fL : Addr} {fd fdW fdL : FuncData} (F : Df K mg "idle" sIdle pId f fd) (DW : Df K mg "with_deed" sWith pWith fW fdW) (GW : FnOk P w K mg base (L2.CX P w) 8 fW fdW pWith (spWith K C D CT)) (M : Tm K mg C) (T : Bt2 mg)
    (FL : Fun K "__len__" "Machine.__len__" sMLen fL fdL) (bL : Binds K fdL ["self"] []) (OL : OwnL K C fL) : FnOk P w K mg base (L2.CX P w) 9 f fd pId (spIdle K C D CT) := by
  have GL : FnOk P w K mg base CX0 1 fL fdL ["self"] (spMLen K C) := ok_mlen FL M T
  refine F.F.okX scId (fun vs H Q E h => ?_) (fun cdv A outer s H vs Q E hr h => ?_)
  · obtain ⟨m, v, t, ws, rs, ss, st, rfl, _⟩ := h
    rfl
  · obtain ⟨m, v, ty, ws, rs, ss, st, rfl, mx, th, pt, k⟩ := h
    obtain ⟨dx, t, r, l, as, hx, ht, hr', hR, hl⟩ := id mx
    have hr2 : Room 2 _ := hr.mono (by decide)
    refine ⟨_, pss_one (ps_ret (pe_callS GW hr rfl DW.g DW.F.kp DW.b (fun σ => passAt (takes_of rfl rfl rfl rfl) σ) (pa_cons (pv 0) (pa_cons (pv 1) (pa_cons
      (pe_listRg rfl (by rfl) T.list (prg_1 (by rfl) T.range (pe_callB (call_lenOwn OL GL hr2 bL pass0) (by rfl) T.len PySem.boot_len (pa_cons (pv 0) pa_nil)))) pa_nil))))), ?_⟩
    have h60 := pt.many.2
    refine ⟨_, rfl, _, rfl, _, rfl, m, dx, _, rfl, hx, m, ws, rs, ss, st, rfl, mx, rs.length, rfl, Nat.le_trans h60 (by decide), _, rfl, .of_le (by omega) (by omega) (by omega) (by omega), fun q hq => ?_⟩
    have sq := same_upd (o := .lst (rgV 0 (rs.length : Int))) hq
    refine ⟨m, q, v, ty, ws, rs, ss, st, idleT rs.length, rfl, mx.same sq, th.same sq, pt, ?_, idle_ok rs, k.same sq fun f z e x H' hx' hm hs => f z e x H' (sq.free hx') hm (sq.trans hs)⟩
    rw [← idle_rg]
    exact SqL.of upd_same
abbrev pHi : List Str := ["mark", "deed"]
theorem scHi : FnScope pHi pHi (defScope sHidd) := ⟨rfl, rfl, rfl, by decide +kernel, rfl, by decide +kernel, by decide +kernel⟩
theorem scEx : FnScope pHi pHi (defScope sExpo) := ⟨rfl, rfl, rfl, by decide +kernel, rfl, by decide +kernel, by decide +kernel⟩
/-- a mark made of a machine new made -/
theorem mark_new {C CM x : Addr} {H H' : Hp} {ws : List Str} {rs : List (List Int)} {ss : List Str} {st : Int} {ru : Str} {Q : VK} (hm : MachAt K C H' x ws rs ss st) (hs : Same H H') (hru : ru ∈ rules) (k : ∀ a G, H a = none → MarkAt K C CM G a ws rs ss st ru → Same H G → Q (.ref a) G) :
    ∀ a dx, H' a = none → H' dx = none → dx ≠ a → spKInit K CM [.ref a, .ref x, .str ru] (upd (upd H' dx (.own a)) a (.ins CM dx [])) (fun v G => v = .non ∧ Q (.ref a) G) (fun _ _ _ => False) := by
  intro a dx ha hdx nd
  have s4 : Same H' (upd (upd H' dx (.own a)) a (.ins CM dx [])) := fun b o e => by rw [upd_ne (ne_of_none e ha), upd_ne (ne_of_none e hdx)]; exact e
  have za : H a = none := hs.free ha
  refine ⟨a, dx, x, ru, rfl, upd_same, hru, fun G hG kG => ⟨rfl, k a G za ⟨dx, x, hG, (hm.same s4).kept upd_same rfl kG⟩ fun b o e => kG b o (s4 _ _ (hs _ _ e)) (ne_of_none e za)⟩⟩
theorem g_hidd {C CM D CT f fI fK : Addr} {fd fdI fdK : FuncData} (F : Df K mg "hidden" sHidd pHi f fd) (DI : Df K mg "idle" sIdle pId fI fdI) (GI : FnOk P w K mg base (L2.CX P w) 9 fI fdI pId (spIdle K C D CT)) (M : Tk K mg CM) (B : Bk K mg) (MkM : Mk K CM fK) (FK : Fun K "__init__" "Mark.__init__" sKInit fK fdK) (bK : Binds K fdK pKI []) : FnOk P w K mg base (L2.CX P w) 10 f fd pHi (spHidd K C CM D CT) := by
  have GK : FnOk P w K mg base CX0 1 fK fdK pKI (spKInit K CM) := ok_kinit FK M B
  refine F.F.okX scHi (fun vs H Q E h => ?_) (fun cdv A outer s H vs Q E hr h => ?_)
  · obtain ⟨a, v, t, ws, rs, ss, st, ru, rfl, _⟩ := h
    rfl
  · obtain ⟨a, v, ty, ws, rs, ss, st, ru, rfl, ⟨dx, x, ha, mx⟩, hru, th, pt, k⟩ := h
    have hr2 : Room 2 _ := hr.mono (by decide)
    refine ⟨_, pss_one (ps_ret (pe_make MkM GK hr2 rfl M.mgC bK .nil pass0 (pa_cons (pe_callS GI hr rfl DI.g DI.F.kp DI.b (fun σ => passAt (takes_of rfl rfl rfl rfl) σ) (pa_cons (pe_fld (pv 0) rfl) (pa_cons (pv 1) pa_nil)))
      (pa_cons (pe_fld (pv 0) rfl) pa_nil)))), ?_⟩
    refine ⟨_, rfl, a, CM, dx, _, _, rfl, ha, M.cl, M.nM, kf_m _ _, _, rfl, x, v, ty, ws, rs, ss, st, rfl, mx, th, pt, k.same (Same.refl H) fun f z e y H' hy hm hs => ?_⟩
    refine ⟨_, rfl, a, CM, dx, _, _, rfl, hs _ _ ha, M.cl, M.nR, kf_r _ _, ?_⟩
    exact mark_new hm hs hru (fun b G hb mk sG => f z e b G hb mk sG)
theorem g_expo {C CM D CT f fH fK fW fL : Addr} {fd fdH fdK fdW fdL : FuncData} (F : Df K mg "exposed" sExpo pHi f fd) (DH : Df K mg "hidden" sHidd pHi fH fdH) (GH : FnOk P w K mg base (L2.CX P w) 10 fH fdH pHi (spHidd K C CM D CT)) (DW : Df K mg "with_deed" sWith pWith fW fdW) (GW : FnOk P w K mg base (L2.CX P w) 8 fW fdW pWith (spWith K C D CT))
    (M : Tm K mg C) (MK : Tk K mg CM) (B : Bk K mg) (MkM : Mk K CM fK) (FK : Fun K "__init__" "Mark.__init__" sKInit fK fdK) (bK : Binds K fdK pKI []) (T : Bt2 mg) (FL : Fun K "__len__" "Machine.__len__" sMLen fL fdL) (bL : Binds K fdL ["self"] []) (OL : OwnL K C fL) : FnOk P w K mg base (L2.CX P w) 11 f fd pHi (spExpo K C CM D CT) := by
  have GK : FnOk P w K mg base CX0 1 fK fdK pKI (spKInit K CM) := ok_kinit FK MK B
  have GL : FnOk P w K mg base CX0 1 fL fdL ["self"] (spMLen K C) := ok_mlen FL M T
  refine F.F.okX scEx (fun vs H Q E h => ?_) (fun cdv A outer s H vs Q E hr h => ?_)
  · obtain ⟨a, v, t, ws, rs, ss, st, ru, rfl, _⟩ := h
    rfl
  · obtain ⟨a, v, ty, ws, rs, ss, st, ru, rfl, mk, hru, th, pt, k⟩ := h
    obtain ⟨dx, x, ha, mx⟩ := id mk
    have hr8 : Room 8 _ := hr.mono (by decide)
    have hr2 : Room 2 _ := hr.mono (by decide)
    refine ⟨_, pss_cons (ps_if (pt_cmpR op_eq (pe_fld (pv 0) rfl) pe_str (nomark _)) (pss_one (ps_ret (pe_callS GH hr rfl DH.g DH.F.kp DH.b (fun σ => passAt (takes_of rfl rfl rfl rfl) σ) (pa_cons (pv 0) (pa_cons (pv 1) pa_nil))))) pss_nil)
      (pss_one (ps_ret (pe_make MkM GK hr2 rfl MK.mgC bK .nil pass0 (pa_cons (pe_callS GW hr8 rfl DW.g DW.F.kp DW.b (fun σ => passAt (takes_of rfl rfl rfl rfl) σ) (pa_cons (pe_fld (pv 0) rfl) (pa_cons (pv 1)
          (pa_cons (pe_op op_rep (pe_lst (pa_cons (pe_fld (pe_fld (pv 0) rfl) rfl) pa_nil)) (pe_callB (call_lenOwn OL GL hr2 bL pass0) (by rfl) T.len PySem.boot_len (pa_cons (pe_fld (pv 0) rfl) pa_nil))) pa_nil))))
        (pa_cons (pe_fld (pv 0) rfl) pa_nil))))), ?_⟩
    refine ⟨_, rfl, a, CM, dx, _, _, rfl, ha, MK.cl, MK.nR, kf_r _ _, rfl, _, rfl, ?_⟩
    have h60 := pt.many.2
    refine ite2 (fun h => ?_) (fun h => ?_)
    · have ek : ru = "kept" := by have := of_decide_eq_true h; injection this
      refine ⟨_, rfl, _, rfl, a, v, ty, ws, rs, ss, st, ru, rfl, mk, hru, th, pt, k.same (Same.refl H) fun f z e y H' hy hm hs => f z e y H' hy ?_ hs⟩
      unfold tosOf
      rw [if_pos ek]; exact hm
    · have nk : ru ≠ "kept" := fun e => h (decide_eq_true (by rw [e]))
      obtain ⟨dm, t, r, l, as, hx, ht, hr', hR, hl⟩ := id mx
      refine ⟨_, rfl, a, CM, dx, _, _, rfl, ha, MK.cl, MK.nM, kf_m _ _, _, rfl, _, rfl, a, CM, dx, _, _, rfl, ha, MK.cl, MK.nM, kf_m _ _, x, C, dm, _, _, rfl, hx, M.cl, M.nS, mf_start _ _ _ _, (by show 1 ≤ sizeLine; decide), fun q hq => ?_⟩
      have sq := same_upd (o := .lst [V.int st]) hq
      refine ⟨_, rfl, a, CM, dx, _, _, rfl, sq _ _ ha, MK.cl, MK.nM, kf_m _ _, x, dm, _, rfl, sq _ _ hx, x, ws, rs, ss, st, rfl, mx.same sq, rs.length, rfl, Nat.le_trans h60 (by decide), ?_⟩
      refine ⟨q, (rs.length : Int), _, rfl, rfl, upd_same, by omega, by omega, ?_, fun p hp => ?_⟩
      · show 1 * _ ≤ sizeLine
        rw [Int.toNat_natCast, Nat.one_mul]
        exact Nat.le_trans h60 (by decide)
      have erep : (List.replicate ((rs.length : Int)).toNat [V.int st]).flatten = (List.replicate rs.length st).map V.int := by
        rw [Int.toNat_natCast]
        generalize rs.length = n
        induction n with
        | zero => rfl
        | succ n ih => rw [List.replicate_succ, List.flatten_cons, ih]; rfl
      rw [erep]
      have sp := sq.trans (same_upd (o := .lst ((List.replicate rs.length st).map V.int)) hp)
      have hok : ToOk rs (List.replicate rs.length st) := ⟨List.length_replicate, fun t ht => by rw [List.eq_of_mem_replicate ht]; exact pt.st⟩
      refine ⟨x, p, v, ty, ws, rs, ss, st, _, rfl, mx.same sp, th.same sp, pt, SqL.of upd_same, hok, k.same sp fun f z e y H' hy hm hs => ?_⟩
      have sH := sp.trans hs
      refine ⟨_, rfl, a, CM, dx, _, _, rfl, sH _ _ ha, MK.cl, MK.nR, kf_r _ _, ?_⟩
      exact mark_new hm sH hru (fun b G hb mk sG => f z e b G hb (by unfold tosOf; rw [if_neg nk]; exact mk) sG)
end
end K1
set_option Elab.async false
set_option linter.all false
set_option maxRecDepth 100000
set_option maxHeartbeats 2000000
/-! isinstance of a caught error; _law_met -/
namespace L2
open PySem PySem.Spec PyProof.Rows
/-- isinstance(e, c), e the caught error at a, of the program's class C -/
def rIsX (K : PySem.W.Frag) (a C : Addr) (cls : Value) (d : Option Addr) : List V → Hp → VK → Prop := fun xs H Q => ∃ (c : V) (u : Value) (b : Bool) (dd : Addr) (fs : List (Str × V)), xs = [.ref a, c] ∧ cls = .ref C ∧ ClsV c u ∧ PySem.W.kitOne K (.ref C) u = some b ∧ d = some dd ∧ H dd = some (.xd fs) ∧ Q (.bl b) H
theorem call_isX {X : Cx} {a C : Addr} {oe : Obj} {cls : Value} {d : Option Addr} {pn : List (Addr × Obj)} (T : XfC X.K C) (I2 : K1.Ti2 X.K C) (hz : Zc cls d oe) (hf : ∃ vs, oe.data = .fields vs) : CallR (X.suite a ((a, oe) :: pn)) (.builtin "isinstance") (rIsX X.K a C cls d) := by
  intro pins s σ H xs us Q I r h
  obtain ⟨c, u, b, dd, fs, rfl, ec, k, e, ed, hdd, q⟩ := h
  obtain ⟨u1, u2, rfl, r1, r2⟩ := vals2 r
  have e2 := k.eq r2
  subst e2
  obtain rfl : u1 = Value.ref a := r1
  subst ec ed
  obtain ⟨ha, _⟩ := I.pin (a, oe) (List.mem_append_left _ List.mem_cons_self)
  obtain ⟨vs, hd⟩ := hf
  have hx : ObjOk X.prog X.w H s.heap dd (.xd fs) := I.hok dd _ hdd
  obtain ⟨mA, hns, hr⟩ := hx
  obtain ⟨od, ho, hl⟩ := lookIn_ns hns
  have J : PySem.W.InstAt s.heap a oe C (some od) := ⟨ha, hz.1, by unfold PySem.W.notCls; rw [hd] <;> rfl, by rw [hz.2]; exact ho⟩
  exact PySem.W.kia_one (PySem.W.kitx_exc (x := a) (ox := oe) (od := some od) I2.ci T.ga T.gg T.exC I2.ca I2.cs I2.ct I2.cm) I.kIn J e (fun z => nomatch z) fun tk => ⟨.bl b, H, I.tok tk, rfl, q⟩
end L2
namespace K1
open PySem PySem.Spec PyProof.Rows L2 LamX
/-- try: return (tag, a()) / except C as e: .. / .. -/
def TTm (K : PySem.W.Frag) (i : Nat) (tag : Str) (l : List (Value × (Addr → Value → Option Addr → TS))) : (XK → Hp → VK → Prop) → Hp → VK → Prop := fun tl H Q =>
  ∀ f : Addr, tl (fun cls dd G => wAsAll K i (fun _ _ _ _ => False) { nx := fun _ G' => Q .non G', rt := Q } l cls dd [some (.ref f), none] G) H fun v G => 2 ≤ sizeLine ∧ ∀ p, G p = none → Q (.ref p) (upd G p (.tup [.str tag, v]))
theorem met_gives {X : Cx} {a n x q tag : Str} {gs : Scope} {g : Addr} {gcd : Value} {h0 : ExceptHandler} {hds : List ExceptHandler} {l : List (Value × (Addr → Value → Option Addr → TS))} {ctx : Nat} {j : Nat} {p1 p2 p3 p4 p5 p6 : Pos} (nd : [a, n].Nodup) (hln : gs.names.lookup n = some .local)
    (hh : ∀ (s : Shared) (H : Hp), AsOk (cxOf L2.CX0 X.prog X.w X.K X.mg X.base [a, n] x gs g gcd X.A X.stack s H L2.E0).nox n (h0 :: hds) l) :
    Gives X [a, n] x gs g gcd [.Try [.Return (some (.Tuple [.Constant (.str tag) j p5, .Call (.Name a p1) [] [] p2] ctx p6)) p3] (h0 :: hds) [] [] p4] a q (TTm X.K 1 tag l) := by
  intro f c' s H Q tl act hc h
  refine ⟨_, pss_one (ps_try_asAll (X := (cxOf L2.CX0 X.prog X.w X.K X.mg X.base [a, n] x gs g gcd X.A X.stack s H L2.E0).nox) (i := 1)
    (tb := fun W D τ G => τ[0]? = some (some (.ref f)) ∧ G c' = some (CodeO c' q) ∧ tl (fun cls dd G' => W cls dd τ G') G fun v G' => 2 ≤ sizeLine ∧ ∀ p, G' p = none → D.rt (.ref p) (upd G' p (.tup [.str tag, v]))) rfl rfl nd rfl hln LamX.takes0 (fun W pn xe tk _ => ?_) (hh s H)), ?_⟩
  · constructor
    intro pins s' τ G D I go
    exact (pss_one (ps_ret (pe_tup (pa_cons pe_str (pa_cons (act W pn xe p1 p2 tk) pa_nil))))).run pins s' τ G D I go
  · exact ⟨rfl, hc, h f⟩
abbrev sMet : Stmt := top 60
abbrev pMet : List Str := ["_law_call"]
abbrev nMet : List Str := ["_law_call", "e"]
theorem scMet : FnScope nMet pMet (defScope sMet) := ⟨rfl, rfl, rfl, by decide +kernel, rfl, by decide +kernel, by decide +kernel⟩
def isX (K : PySem.W.Frag) (a C : Addr) (cl : Value) (dd : Option Addr) (c : V) : TE := tCB (rIsX K a C cl dd) (tCons (tVar 1) (tCons (tC c) tNil))
def suiteD (K : PySem.W.Frag) (CD CL : Addr) : Addr → Value → Option Addr → TS := fun a cl dd => tRet (tTup (tCons (tC (.str "deeds")) (tCons (tXf a cl dd CD "index" (tVar 1)) (tCons (tAndV (isX K a CD cl dd (.ref CL)) (isX K a CD cl dd (.ty "ValueError"))) tNil))))
def suiteN (K : PySem.W.Frag) (CT CL : Addr) : Addr → Value → Option Addr → TS := fun a cl dd => tRet (tTup (tCons (tC (.str "many")) (tCons (tXf a cl dd CT "what" (tVar 1)) (tCons (tXf a cl dd CT "many" (tVar 1)) (tCons (tXf a cl dd CT "most" (tVar 1)) (tCons (isX K a CT cl dd (.ref CL)) tNil))))))
def clausesM (K : PySem.W.Frag) (CD CT CL : Addr) : List (Value × (Addr → Value → Option Addr → TS)) := [(.ref CD, suiteD K CD CL), (.ref CT, suiteN K CT CL)]
/-- the errors' classes, told apart -/
structure Em (K : PySem.W.Frag) (CD CT CL : Addr) : Prop where
  dd : PySem.W.exmOne K (.ref CD) (.ref CD) = some true
  td : PySem.W.exmOne K (.ref CT) (.ref CD) = some false
  tt : PySem.W.exmOne K (.ref CT) (.ref CT) = some true
  iD : Ti2 K CD
  iT : Ti2 K CT
  kD : PySem.W.kitOne K (.ref CD) (.ref CL) = some true
  kV : PySem.W.kitOne K (.ref CD) (.type "ValueError") = some true
  kT : PySem.W.kitOne K (.ref CT) (.ref CL) = some true
theorem gives_met {X : Cx} {g CD CT CL fD fT : Addr} {fdD fdT : FuncData} {gcd : Value} {q : Str} (OD : OBadDeeds X.K X.mg CD fD fdD) (OT : OTooMany X.K X.mg CT fT fdT) (EM : Em X.K CD CT CL) (hL : X.mg "LooksError" = some (.ref CL)) (hV : X.mg "ValueError" = none) (hI : X.mg "isinstance" = none) :
    Gives X nMet "_law_met" (defScope sMet) g gcd (defBody sMet) "_law_call" q (TTm X.K 1 "given" (clausesM X.K CD CT CL)) := by
  refine met_gives scMet.nd rfl fun s H => ?_
  exact (.cons (x := "BadDeeds") ⟨rfl, by decide, .inl OD.g⟩ (fun a oe cl dd pn hz hf => pss_one (ps_ret (pe_tup (pa_cons pe_str (pa_cons (pe_xf OD.xf (OD.no "index" (by simp)) hz hf (pv 1)) (pa_cons
      (pe_and (pe_callB (call_isX OD.xf EM.iD hz hf) (by rfl) hI PyProof.Rows.boot_isinstance (pa_cons (pv 1) (pa_cons (pe_glob (v := .ref CL) rfl hL rfl) pa_nil)))
        (pe_one (pe_callB (call_isX OD.xf EM.iD hz hf) (by rfl) hI PyProof.Rows.boot_isinstance (pa_cons (pv 1) (pa_cons (pe_bltn (v := .ty "ValueError") (by rfl) hV (by decide +kernel) rfl) pa_nil))))) pa_nil))))))
    (.cons (x := "TooMany") ⟨rfl, by decide, .inl OT.g⟩ (fun a oe cl dd pn hz hf => pss_one (ps_ret (pe_tup (pa_cons pe_str (pa_cons (pe_xf OT.xf (OT.no "what" (by simp)) hz hf (pv 1)) (pa_cons (pe_xf OT.xf (OT.no "many" (by simp)) hz hf (pv 1)) (pa_cons (pe_xf OT.xf (OT.no "most" (by simp)) hz hf (pv 1)) (pa_cons
      (pe_callB (call_isX OT.xf EM.iT hz hf) (by rfl) hI PyProof.Rows.boot_isinstance (pa_cons (pv 1) (pa_cons (pe_glob (v := .ref CL) rfl hL rfl) pa_nil))) pa_nil))))))))
    .nil))
abbrev WM (K : PySem.W.Frag) (CD CT CL f : Addr) (Q : VK) : XK := fun cls dd G => wAsAll K 1 (fun _ _ _ _ => False) { nx := fun _ G' => Q .non G', rt := Q } (clausesM K CD CT CL) cls dd [some (.ref f), none] G
theorem wm_deed {K : PySem.W.Frag} {CD CT CL : Addr} (EM : Em K CD CT CL) {H1 : Hp} {Q : VK} {n : Int} (k : ∀ p G, Same H1 G → H1 p = none → G p = some (.tup [.str "deeds", .int n, .bl true]) → Q (.ref p) G) (f : Addr) : Rs CD fIx [.int n] H1 (WM K CD CT CL f Q) := by
  intro d G sG hd eG
  refine ⟨true, EM.dd, fun _ e he => ?_, fun q => nomatch q⟩
  refine ⟨_, rfl, rfl, rfl, d, _, .int n, rfl, eG, rfl, ?_⟩
  refine ⟨_, rfl, .ref CL, _, true, d, _, rfl, rfl, .own CL, EM.kD, rfl, eG, true, rfl, ?_⟩
  refine iteT ?_
  refine ⟨_, rfl, .ty "ValueError", _, true, d, _, rfl, rfl, .ty "ValueError", EM.kV, rfl, eG, ?_⟩
  exact ⟨by show 3 ≤ sizeLine; decide, fun p hp => k p _ (sG.trans (same_upd hp)) (sG.free hp) upd_same⟩
theorem wm_many {K : PySem.W.Frag} {CD CT CL : Addr} (EM : Em K CD CT CL) {H1 : Hp} {Q : VK} (k : ∀ p G, Same H1 G → H1 p = none → G p = some (.tup [.str "many", .str "deeds", .int 7, .int 6, .bl true]) → Q (.ref p) G) (f : Addr) : Rs CT fTM [.str "deeds", .int 7, .int 6] H1 (WM K CD CT CL f Q) := by
  intro d G sG hd eG
  refine ⟨false, EM.td, (fun q => nomatch q), fun _ => ⟨true, EM.tt, fun _ e he => ?_, fun q => nomatch q⟩⟩
  refine ⟨_, rfl, rfl, rfl, d, _, .str "deeds", rfl, eG, rfl, ?_⟩
  refine ⟨_, rfl, rfl, rfl, d, _, .int 7, rfl, eG, rfl, ?_⟩
  refine ⟨_, rfl, rfl, rfl, d, _, .int 6, rfl, eG, rfl, ?_⟩
  refine ⟨_, rfl, .ref CL, _, true, d, _, rfl, rfl, .own CL, EM.kT, rfl, eG, ?_⟩
  exact ⟨by show 5 ≤ sizeLine; decide, fun p hp => k p _ (sG.trans (same_upd hp)) (sG.free hp) upd_same⟩
/-- what _law_met tells of one deed more -/
def Met (K : PySem.W.Frag) (ws : List Str) (v : V) (G : Hp) (p : Addr) (ok : Str → Addr → Prop) : Prop :=
  if okW ws v = false then G p = some (.tup [.str "deeds", .int (ws.length : Int), .bl true])
  else if ws.length = 6 then G p = some (.tup [.str "many", .str "deeds", .int 7, .int 6, .bl true])
  else ∃ z x, v = .str z ∧ ok z x ∧ G p = some (.tup [.str "given", .ref x])
end K1
set_option Elab.async false
set_option linter.all false
set_option maxRecDepth 100000
/-! plain machines with one deed more -/
namespace K1
open PySem L2
abbrev sMore : Stmt := top 56
abbrev sMoreI : Stmt := top 57
abbrev sMoreE : Stmt := top 58
/-- a plain machine whose deeds are any values -/
def PlainV (H : Hp) (p : Addr) (vs : List V) (rs : List (List Int)) (ss : List Str) (st : Int) : Prop :=
  ∃ (t r l : Addr) (as : List Addr), H p = some (.dK (plainK t r l st)) ∧ H t = some (.tup vs) ∧ H r = some (.lst (as.map V.ref)) ∧ H l = some (.lst (ss.map V.str)) ∧ RowsAt H as rs
theorem PlainV.same {H H' : Hp} {p : Addr} {vs : List V} {rs : List (List Int)} {ss : List Str} {st : Int} (h : PlainV H p vs rs ss st) (s : Same H H') : PlainV H' p vs rs ss st := by
  obtain ⟨t, r, l, as, h1, h2, h3, h4, h5⟩ := h
  exact ⟨t, r, l, as, s _ _ h1, s _ _ h2, s _ _ h3, s _ _ h4, h5.same s⟩
theorem PlainV.at {H : Hp} {p : Addr} {ws : List Str} {z : Str} {rs : List (List Int)} {ss : List Str} {st : Int} (h : PlainV H p (ws.map V.str ++ [V.str z]) rs ss st) : PlainAt H p (ws ++ [z]) rs ss st := by
  obtain ⟨t, r, l, as, h1, h2, h3, h4, h5⟩ := h
  exact ⟨t, r, l, as, h1, by rw [List.map_append]; exact h2, h3, h4, h5⟩
theorem PlainAt.same {H H' : Hp} {p : Addr} {ws : List Str} {rs : List (List Int)} {ss : List Str} {st : Int} (h : PlainAt H p ws rs ss st) (s : Same H H') : PlainAt H' p ws rs ss st := by
  obtain ⟨t, r, l, as, h1, h2, h3, h4, h5⟩ := h
  exact ⟨t, r, l, as, s _ _ h1, s _ _ h2, s _ _ h3, s _ _ h4, h5.same s⟩
def spMore (K : PySem.W.Frag) : Sp := fun vs H Q _ => ∃ (p q : Addr) (v : V) (ws : List Str) (rs : List (List Int)) (ss : List Str) (st : Int) (tos : List Int), vs = [.ref p, v, .ref q] ∧ PlainAt H p ws rs ss st ∧ Parts ws rs ss st ∧ SqL K H q (tos.map V.int) ∧ ToOk rs tos ∧
  ∀ p' H', H p' = none → Same H H' → PlainV H' p' (ws.map V.str ++ [v]) (wideR rs tos) ss st → Q (.ref p') H'
def spMoreI (K : PySem.W.Frag) : Sp := fun vs H Q _ => ∃ (p : Addr) (v : V) (ws : List Str) (rs : List (List Int)) (ss : List Str) (st : Int), vs = [.ref p, v] ∧ PlainAt H p ws rs ss st ∧ Parts ws rs ss st ∧
  ∀ p' H', H p' = none → Same H H' → PlainV H' p' (ws.map V.str ++ [v]) (wideR rs (idleT rs.length)) ss st → Q (.ref p') H'
def spMoreE (K : PySem.W.Frag) : Sp := fun vs H Q _ => ∃ (u p : Addr) (v : V) (ru : Str) (ws : List Str) (rs : List (List Int)) (ss : List Str) (st : Int), vs = [.ref u, v] ∧ SqT K H u [.ref p, .str ru] ∧ PlainAt H p ws rs ss st ∧ Parts ws rs ss st ∧
  ∀ u' p' H', Same H H' → H' u' = some (.tup [.ref p', .str ru]) → PlainV H' p' (ws.map V.str ++ [v]) (wideR rs (tosOf ru rs st)) ss st → Q (.ref u') H'
theorem rep_ints (n : Nat) (st : Int) : (List.replicate ((n : Int)).toNat [V.int st]).flatten = (List.replicate n st).map V.int := by
  rw [Int.toNat_natCast]
  induction n with
  | zero => rfl
  | succ n ih => rw [List.replicate_succ, List.flatten_cons, ih]; rfl
section
variable {P : Program} {w : World} {K : PySem.W.Frag} {mg : Str → Option Value} {base : Heap}
abbrev pMore : List Str := ["_law_plain_here", "_law_word", "_law_to"]
abbrev nMore : List Str := ["_law_plain_here", "_law_word", "_law_to", "_law_rows", "_law_spot"]
theorem scMore : FnScope nMore pMore (defScope sMore) := ⟨rfl, rfl, rfl, by decide +kernel, rfl, by decide +kernel, by decide +kernel⟩
theorem ok_more {f : Addr} {fd : FuncData} (D : Df K mg "_law_more" sMore pMore f fd) (T : Bt2 mg) : FnOk P w K mg base CX0 1 f fd pMore (spMore K) := by
  refine D.F.ok scMore (fun vs H Q E h => ?_) (fun cdv A outer s H vs Q E hr h => ?_)
  · obtain ⟨p, q, v, ws, rs, ss, st, tos, rfl, _⟩ := h
    rfl
  · obtain ⟨p, q, v, ws, rs, ss, st, tos, rfl, ⟨t, r, l, as, hp, ht, hr', hl, hR⟩, pt, hq, ok, k⟩ := h
    have hu := hu_of hr
    refine ⟨_, pss_cons (ps_setLc (i := 3) (own := [("_law_spot", 4)]) (g := gName 4) (by rfl) scMore.nd rfl rfl (sw_true rfl rfl rfl (by decide +kernel))
        (pi_range1 rfl T.range (pa_cons (pe_callB call_len (by rfl) T.len PySem.boot_len (pa_cons (pe_dget hu (pv 0) pe_str (fun _ _ => rfl)) pa_nil)) pa_nil))
        (blkOk_by (own := [("_law_spot", 4)]) (N := nMore) (sc := defScope sMore) (by decide +kernel)) (fun _ _ _ _ _ => pg_name (i := 4) scMore.nd rfl (Or.inl rfl)) (fun _ _ _ _ _ => pts_nil)
        (fun _ _ _ _ _ => pe_op (r := rCat) op_cat (pe_callTy (r := rLi K) call_list_of (by rfl) T.list PyProof.Rows.boot_list (pa_cons (pe_ix (r := rIxL K) ix_list (pe_dget hu (pv 0) pe_str (fun _ _ => rfl)) (pv 4) (fun _ _ => rfl)) pa_nil))
          (pe_lst (pa_cons (pe_ix (r := rIxL K) ix_list (pv 2) (pv 4) (fun _ _ => rfl)) pa_nil))))
      (pss_one (ps_ret (pe_disp (pps_cons pe_str (pe_op (r := rCatT K) op_catT (pe_callTy (r := rTu K) call_tuple_of (by rfl) T.tuple PyProof.Rows.boot_tuple (pa_cons (pe_dget hu (pv 0) pe_str (fun _ _ => rfl)) pa_nil)) (pe_tup (pa_cons (pv 1) pa_nil)))
        (pps_cons pe_str (pv 3) (pps_cons pe_str (pe_dget hu (pv 0) pe_str (fun _ _ => rfl)) (pps_cons pe_str (pe_dget hu (pv 0) pe_str (fun _ _ => rfl)) pps_nil)))) (by rfl) (by rfl) (fun z => by cases z) (by decide)))), ?_⟩
    have h60 := pt.many.2
    have h6 := pt.gd.len
    have hlr : (as.map V.ref).length = rs.length := by rw [List.length_map, hR.1]
    refine ⟨_, rfl, p, _, rfl, gRows hp, _, rs.length, rfl, .inl ⟨_, SqL.of hr', hlr.symm⟩, (rs.length : Int), rfl, by omega, by omega, fun D1 hD => ?_⟩
    rw [Int.toNat_natCast]
    refine lc_range (lo := 0) (n := rs.length) (fun i H' => Same H H' ∧ ∃ bs : List Addr, bs.length = i ∧ H' D1 = some (.lst (bs.map V.ref)) ∧ RowsAt H' bs ((wideR rs tos).take i)) ?_ ?_ ?_
    · exact ⟨same_upd hD, [], rfl, upd_same, by simp, fun i a r e => by simp at e⟩
    · rintro i H1 hi ⟨sm, bs, hbs, hD1, hRb⟩
      have hia : i < as.length := by rw [hR.1]; exact hi
      have hit : i < tos.length := by rw [ok.1]; exact hi
      have ea : as[i]? = some as[i] := List.getElem?_eq_getElem hia
      have et : tos[i]? = some tos[i] := List.getElem?_eq_getElem hit
      have er : rs[i]? = some rs[i] := List.getElem?_eq_getElem hi
      have hlr1 := (pt.row _ (List.getElem_mem hi)).1
      generalize as[i] = a at ea
      generalize tos[i] = to at et
      generalize rs[i] = row at er hlr1
      have ewd : (wideR rs tos)[i]? = some (row ++ [to]) := by unfold wideR; rw [List.getElem?_zipWith, er, et]
      have ha1 := sm _ _ (hR.2 i a _ ea er)
      refine ⟨rfl, ?_⟩
      show _
      rw [show (0 : Int) + (i : Nat) = ((i : Nat) : Int) by omega]
      refine ⟨_, rfl, p, _, rfl, gRows (sm _ _ hp), _, rfl, r, _, (i : Int), _, rfl, rfl, SqL.of (sm _ _ hr'), atI_nat (j := i) (v := V.ref a) (by rw [List.getElem?_map, ea]; rfl), ?_⟩
      refine ⟨a, _, rfl, .inl (SqL.of ha1), fun l1 hl1 => ?_⟩
      have s1 := same_upd (o := .lst (row.map V.int)) hl1
      refine ⟨_, rfl, _, rfl, q, _, (i : Int), _, rfl, rfl, (sm.trans s1).seq hq, atI_nat (j := i) (v := V.int to) (by rw [List.getElem?_map, et]; rfl), (by show 1 ≤ sizeLine; decide), fun l2 hl2 => ?_⟩
      have s2 := same_upd (o := .lst [V.int to]) hl2
      refine ⟨l1, l2, _, _, rfl, rfl, s2 _ _ upd_same, upd_same, ?_, fun b hb => ?_⟩
      · have e9 : (row.map V.int).length = ws.length := by rw [List.length_map, hlr1]
        rw [e9]; show ws.length + 1 ≤ sizeLine; exact Nat.le_of_lt (small1000 (by omega))
      have sb := (s1.trans s2).trans (same_upd (o := .lst (row.map V.int ++ [V.int to])) hb)
      have hb1 : upd (upd (upd H1 l1 (.lst (row.map V.int))) l2 (.lst [V.int to])) b (.lst (row.map V.int ++ [V.int to])) b = some (.lst ((row ++ [to]).map V.int)) := by rw [upd_same, List.map_append]; rfl
      have nDb : D1 ≠ b := ne_of_none ((s1.trans s2) _ _ hD1) hb
      generalize upd (upd (upd H1 l1 (.lst (row.map V.int))) l2 (.lst [V.int to])) b (.lst (row.map V.int ++ [V.int to])) = H4 at sb hb1 ⊢
      refine ⟨_, sb _ _ hD1, ?_, ?_, bs ++ [b], by simp [hbs], by rw [upd_same]; simp, ?_⟩
      · rw [List.length_map, hbs]; exact small1000 (by omega)
      · exact fun c o e => by rw [upd_ne (ne_of_none e hD)]; exact sb _ _ (sm _ _ e)
      · have e7 : RowsAt H4 (bs ++ [b]) ((wideR rs tos).take i ++ [row ++ [to]]) := (hRb.same sb).snoc hb1
        have nbD : ∀ c ∈ bs, c ≠ D1 := fun c hc e => by
          obtain ⟨j, hj, ej⟩ := List.getElem_of_mem hc
          have hjw : j < ((wideR rs tos).take i).length := by rw [← hRb.1]; exact hj
          have := hRb.2 j c _ (by rw [List.getElem?_eq_getElem hj, ej]) (List.getElem?_eq_getElem hjw)
          rw [e, hD1] at this
          have e2 := congrArg (fun o => match o with | some (HO.lst xs) => xs | _ => []) this
          replace e2 : bs.map V.ref = (((wideR rs tos).take i)[j]).map V.int := e2
          cases bs with
          | nil => simp at hj
          | cons b0 br =>
            cases hw : ((wideR rs tos).take i)[j] with
            | nil => rw [hw] at e2; simp at e2
            | cons x y => rw [hw] at e2; simp at e2
        rw [List.take_add_one, ewd]
        exact ⟨e7.1, fun j c r e1 e2 => by
          have hj := e7.2 j c r e1 e2
          have : c ≠ D1 := by
            rcases List.mem_append.mp (List.mem_of_getElem? e1) with z | z
            · exact nbD c z
            · rw [List.mem_singleton.mp z]; exact nDb.symm
          rw [upd_ne this]
          exact hj⟩
    · rintro H2 ⟨sm, bs, hbs, hD2, hRb⟩
      have etk : (wideR rs tos).take rs.length = wideR rs tos := by rw [← wide_len ok, List.take_length]
      rw [etk] at hRb
      intro p' hp'
      have s0 := same_upd (o := .dK []) hp'
      have ep' : upd H2 p' (.dK []) p' = some (.dK []) := upd_same
      have sm1 := sm.trans s0
      refine ⟨_, rfl, p, _, rfl, gDeeds (sm1 _ _ hp), t, _, rfl, .inr ⟨SqT.of (sm1 _ _ ht), ?_⟩⟩
      refine ⟨_, rfl, (by show 1 ≤ sizeLine; decide), fun b hb => ?_⟩
      have sb := same_upd (o := .tup [v]) hb
      have hne : ws.map V.str ≠ [] := fun e => by
        have := congrArg List.length e
        have e0 : ws.length = 0 := by simpa using this
        omega
      refine ⟨t, b, _, _, rfl, rfl, SqT.of (sb _ _ (sm1 _ _ ht)), SqT.of upd_same, hne, ?_, (fun e => absurd e (by simp)), fun _ a ha => ?_⟩
      · rw [List.length_map]; show ws.length + 1 ≤ sizeLine; exact Nat.le_of_lt (small1000 (by omega))
      have sa := sb.trans (same_upd (o := .tup (ws.map V.str ++ [v])) ha)
      have ea3 : upd (upd (upd H2 p' (.dK [])) b (.tup [v])) a (.tup (ws.map V.str ++ [v])) a = some (.tup (ws.map V.str ++ [v])) := upd_same
      generalize upd (upd (upd H2 p' (.dK [])) b (.tup [v])) a (.tup (ws.map V.str ++ [v])) = H3 at sa ea3 ⊢
      have s3 := sm1.trans sa
      have hp3 := s3 _ _ hp
      refine ⟨_, rfl, _, rfl, p, _, rfl, gTells hp3, _, rfl, p, _, rfl, gStart hp3, sa _ _ ep', plainK a D1 l st, rfl, by show 4 ≤ 15; decide, ?_⟩
      rw [plainK_merge]
      have np' : ∀ {b o}, H b = some o → b ≠ p' := fun e => ne_of_none (sm _ _ e) hp'
      have n2 : ∀ {b o}, H2 b = some o → b ≠ p' := fun e => ne_of_none e hp'
      have s23 := s0.trans sa
      refine k p' _ (sm.free hp') (fun b o e => by rw [upd_ne (np' e)]; exact s3 _ _ e) ⟨a, D1, l, bs, upd_same, ?_, ?_, ?_, ?_⟩
      · rw [upd_ne (fun e => by rw [e, sa _ _ ep'] at ea3; cases ea3)]; exact ea3
      · rw [upd_ne (n2 hD2)]; exact s23 _ _ hD2
      · rw [upd_ne (np' hl)]; exact s3 _ _ hl
      · exact ⟨hRb.1, fun i c r e1 e2 => by have := hRb.2 i c r e1 e2; rw [upd_ne (n2 this)]; exact s23 _ _ this⟩
abbrev pMoreI : List Str := ["_law_plain_here", "_law_word"]
theorem scMoreI : FnScope pMoreI pMoreI (defScope sMoreI) := ⟨rfl, rfl, rfl, by decide +kernel, rfl, by decide +kernel, by decide +kernel⟩
theorem ok_moreI {f fM : Addr} {fd fdM : FuncData} (D : Df K mg "_law_more_idle" sMoreI pMoreI f fd) (DM : Df K mg "_law_more" sMore pMore fM fdM) (T : Bt2 mg) : FnOk P w K mg base CX0 2 f fd pMoreI (spMoreI K) := by
  have GM : FnOk P w K mg base CX0 1 fM fdM pMore (spMore K) := ok_more DM T
  refine D.F.ok scMoreI (fun vs H Q E h => ?_) (fun cdv A outer s H vs Q E hr h => ?_)
  · obtain ⟨p, v, ws, rs, ss, st, rfl, _⟩ := h
    rfl
  · obtain ⟨p, v, ws, rs, ss, st, rfl, hpl, pt, k⟩ := h
    obtain ⟨t, r, l, as, hp, ht, hr', hl, hR⟩ := id hpl
    have hu := hu_of hr
    refine ⟨_, pss_one (ps_ret (pe_call GM hr rfl DM.g DM.F.kp DM.b .nil pass0 (pa_cons (pv 0) (pa_cons (pv 1) (pa_cons
      (pe_listRg rfl (by rfl) T.list (prg_1 (by rfl) T.range (pe_callB call_len (by rfl) T.len PySem.boot_len (pa_cons (pe_dget hu (pv 0) pe_str (fun _ _ => rfl)) pa_nil)))) pa_nil))))), ?_⟩
    have h60 := pt.many.2
    have hlr : (as.map V.ref).length = rs.length := by rw [List.length_map, hR.1]
    refine ⟨_, rfl, _, rfl, _, rfl, p, _, rfl, gRows hp, _, rs.length, rfl, .inl ⟨_, SqL.of hr', hlr.symm⟩, _, rfl, .of_le (by omega) (by omega) (by omega) (by omega), fun q hq => ?_⟩
    have sq := same_upd (o := .lst (rgV 0 (rs.length : Int))) hq
    refine ⟨p, q, v, ws, rs, ss, st, idleT rs.length, rfl, hpl.same sq, pt, ?_, idle_ok rs, fun p' H' hp' sm hv => k p' H' (sq.free hp') (sq.trans sm) hv⟩
    rw [← idle_rg]
    exact SqL.of upd_same
abbrev pMoreE : List Str := ["_law_pair", "_law_word"]
abbrev nMoreE : List Str := ["_law_pair", "_law_word", "_law_plain_here", "_law_rule"]
theorem scMoreE : FnScope nMoreE pMoreE (defScope sMoreE) := ⟨rfl, rfl, rfl, by decide +kernel, rfl, by decide +kernel, by decide +kernel⟩
theorem ok_moreE {f fM fI : Addr} {fd fdM fdI : FuncData} (D : Df K mg "_law_more_exposed" sMoreE pMoreE f fd) (DM : Df K mg "_law_more" sMore pMore fM fdM) (DI : Df K mg "_law_more_idle" sMoreI pMoreI fI fdI) (T : Bt2 mg) : FnOk P w K mg base CX0 3 f fd pMoreE (spMoreE K) := by
  have GM : FnOk P w K mg base CX0 1 fM fdM pMore (spMore K) := ok_more DM T
  have GI : FnOk P w K mg base CX0 2 fI fdI pMoreI (spMoreI K) := ok_moreI DI DM T
  refine D.F.ok scMoreE (fun vs H Q E h => ?_) (fun cdv A outer s H vs Q E hr h => ?_)
  · obtain ⟨u, p, v, ru, ws, rs, ss, st, rfl, _⟩ := h
    rfl
  · obtain ⟨u, p, v, ru, ws, rs, ss, st, rfl, hpr, hpl, pt, k⟩ := h
    obtain ⟨t, r, l, as, hp, ht, hr', hl, hR⟩ := id hpl
    have hu := hu_of hr
    have hr1 : Room 1 _ := hr.mono (by decide)
    refine ⟨_, pss_cons (ps_asg (pv 0) (pg_tup (by rfl) (pgs_cons (pg_name (i := 2) scMoreE.nd rfl (Or.inl rfl)) (pgs_cons (pg_name (i := 3) scMoreE.nd rfl (Or.inl rfl)) pgs_nil))))
      (pss_cons (ps_if (pt_cmpR op_eq (pv 3) pe_str (nomark _)) (pss_one (ps_ret (pe_tup (pa_cons (pe_call GI hr rfl DI.g DI.F.kp DI.b .nil pass0 (pa_cons (pv 2) (pa_cons (pv 1) pa_nil))) (pa_cons (pv 3) pa_nil))))) pss_nil)
      (pss_one (ps_ret (pe_tup (pa_cons (pe_call GM hr1 rfl DM.g DM.F.kp DM.b .nil pass0 (pa_cons (pv 2) (pa_cons (pv 1) (pa_cons
        (pe_op op_rep (pe_lst (pa_cons (pe_dget hu (pv 2) pe_str (fun _ _ => rfl)) pa_nil)) (pe_callB call_len (by rfl) T.len PySem.boot_len (pa_cons (pe_dget hu (pv 2) pe_str (fun _ _ => rfl)) pa_nil))) pa_nil)))) (pa_cons (pv 3) pa_nil)))))), ?_⟩
    have h60 := pt.many.2
    have hlr : (as.map V.ref).length = rs.length := by rw [List.length_map, hR.1]
    refine ⟨_, rfl, u, _, rfl, hpr, rfl, _, _, rfl, _, _, rfl, rfl, ?_⟩
    refine ⟨_, rfl, rfl, _, rfl, ?_⟩
    refine ite2 (fun h => ?_) (fun h => ?_)
    · have ek : ru = "kept" := by have := of_decide_eq_true h; injection this
      refine ⟨_, rfl, _, rfl, p, v, ws, rs, ss, st, rfl, hpl, pt, fun p' H' hp' sm hv => ?_⟩
      refine ⟨_, rfl, by show 2 ≤ sizeLine; decide, fun u' hu' => ?_⟩
      have su := same_upd (o := .tup [V.ref p', V.str ru]) hu'
      refine k u' p' _ (sm.trans su) upd_same ?_
      unfold tosOf
      rw [if_pos ek]
      exact hv.same su
    · have nk : ru ≠ "kept" := fun e => h (decide_eq_true (by rw [e]))
      refine ⟨_, rfl, _, rfl, _, rfl, p, _, rfl, gStart hp, (by show 1 ≤ sizeLine; decide), fun q hq => ?_⟩
      have sq := same_upd (o := .lst [V.int st]) hq
      refine ⟨_, rfl, p, _, rfl, gRows (sq _ _ hp), _, rs.length, rfl, .inl ⟨_, SqL.of (sq _ _ hr'), hlr.symm⟩, ?_⟩
      refine ⟨q, (rs.length : Int), _, rfl, rfl, upd_same, by omega, by omega, ?_, fun b hb => ?_⟩
      · show 1 * _ ≤ sizeLine
        rw [Int.toNat_natCast, Nat.one_mul]
        exact Nat.le_trans h60 (by decide)
      rw [rep_ints]
      have sp := sq.trans (same_upd (o := .lst ((List.replicate rs.length st).map V.int)) hb)
      have hok : ToOk rs (List.replicate rs.length st) := ⟨List.length_replicate, fun t ht => by rw [List.eq_of_mem_replicate ht]; exact pt.st⟩
      refine ⟨p, b, v, ws, rs, ss, st, _, rfl, hpl.same sp, pt, SqL.of upd_same, hok, fun p' H' hp' sm hv => ?_⟩
      refine ⟨_, rfl, by show 2 ≤ sizeLine; decide, fun u' hu' => ?_⟩
      have su := same_upd (o := .tup [V.ref p', V.str ru]) hu'
      refine k u' p' _ ((sp.trans sm).trans su) upd_same ?_
      unfold tosOf
      rw [if_neg nk]
      exact hv.same su
end
end K1
set_option Elab.async false
set_option linter.all false
set_option maxRecDepth 100000
namespace K1
open PySem L2
abbrev sGoodW : Stmt := top 59
section
variable {P : Program} {w : World} {K : PySem.W.Frag} {mg : Str → Option Value} {base : Heap}
abbrev nGoodW : List Str := ["_law_value", "_law_letters", "_law_sign"]
theorem scGoodW : FnScope nGoodW ["_law_value"] (defScope sGoodW) := ⟨rfl, rfl, rfl, by decide +kernel, rfl, by decide +kernel, by decide +kernel⟩
theorem g_goodw {f : Addr} {fd : FuncData} (D : Df K mg "_law_good_word" sGoodW ["_law_value"] f fd) (T : Bt2 mg) : FnOk P w K mg base CX0 1 f fd ["_law_value"] (spWord K) := by
  refine D.F.ok scGoodW (fun vs H Q E h => ?_) (fun cdv A outer s H vs Q E hr h => ?_)
  · obtain ⟨v, t, rfl, _⟩ := h
    rfl
  · obtain ⟨v, t, rfl, th, k⟩ := h
    refine ⟨_, pss_cons (ps_set (i := 1) scGoodW.nd rfl (Or.inr rfl) pe_str)
      (pss_cons (ps_if (PW.pt (pw_or (pt_not (pt_val (pe_callB call_isi (by rfl) T.isinstance PyProof.Rows.boot_isinstance (pa_cons (pv 0) (pa_cons (pe_bltn (v := .ty "str") (by rfl) T.str PyProof.Rows.boot_str rfl) pa_nil)))))
          (pw_or (pt_not (pt_chain op_le op_le pe_int (pe_callB call_len_str (by rfl) T.len PySem.boot_len (pa_cons (pv 0) pa_nil)) pe_int))
            (pw_or1 (pt_cmpR op_notIn_sign (pe_ix ix_str (pv 0) pe_int (fun _ _ => rfl)) (pv 1) (by rfl))))))
        (pss_one (ps_ret pe_bl)) pss_nil)
      (pss_one (ps_ret (pe_callB (cr_all rfl) (by rfl) T.all PyProof.Rows.boot_all (pa_cons (pe_lc (own := [("_law_sign", 2)]) (g := gName 2) (by rfl) scGoodW.nd (pi_str (pv 0))
          (blkOk_by (own := [("_law_sign", 2)]) (N := nGoodW) (sc := defScope sGoodW) (by decide +kernel)) (fun _ _ _ _ _ => pg_name (i := 2) scGoodW.nd rfl (Or.inl rfl)) (fun _ _ _ _ _ => pts_nil)
          (fun _ _ _ _ _ => pe_cmpR op_in_sign (pv 2) (pe_op op_add_str (pv 1) pe_str) rfl)) pa_nil))))), ?_⟩
    refine ⟨_, rfl, _, _, _, _, isStr v, rfl, .ty "str", th.ty, th.kStr, isStr v, rfl, ?_⟩
    cases th with
    | str z hl1 =>
      refine iteF ?_
      have hzl : z.length ≤ sizeLine := Nat.le_trans hl1 (by decide)
      have elen : z.length = z.cps.toList.length := len_tl z
      refine ⟨_, rfl, _, rfl, hzl, _, _, rfl, rfl, _, rfl, ?_⟩
      refine ite2 (fun h1 => ?_) (fun h1 => ?_)
      · have h1' : (1 : Int) ≤ (z.length : Int) := of_decide_eq_true h1
        refine ⟨_, _, rfl, rfl, _, rfl, ?_⟩
        refine ite2 (fun h2 => ?_) (fun h2 => ?_)
        · have e : wordB (.str z) = false := by
            have hn : ¬ z.cps.toList.length ≤ 12 := by
              intro hc
              have : decide ((z.length : Int) ≤ 12) = true := decide_eq_true (by omega)
              rw [this] at h2; exact absurd h2 (by decide)
            show wordL z.cps.toList = false
            cases hz : z.cps.toList with
            | nil => rfl
            | cons c r => rw [hz] at hn; show (decide _ && _) = false; rw [decide_eq_false hn]; rfl
          have := k H (Same.refl H)
          rw [e] at this
          exact this
        · have h12 : z.cps.toList.length ≤ 12 := by
            have : decide ((z.length : Int) ≤ 12) = true := by
              cases hd : decide ((z.length : Int) ≤ 12) with
              | true => rfl
              | false => rw [hd] at h2; exact absurd rfl h2
            have := of_decide_eq_true this
            omega
          obtain ⟨c, r, ez⟩ : ∃ c r, z.cps.toList = c :: r := by
            cases hz : z.cps.toList with
            | nil => rw [hz] at elen; simp at elen; omega
            | cons c r => exact ⟨c, r, rfl⟩
          have ew : wordB (.str z) = (decide (c ∈ LE) && z.cps.toList.all fun x => decide (x ∈ AL)) := by
            show wordL z.cps.toList = _
            rw [ez]
            show (decide _ && _) = _
            rw [ez] at h12
            rw [decide_eq_true h12]; rfl
          refine ⟨_, rfl, z, _, c, rfl, rfl, hzl, ?_, _, rfl, c, zLE, rfl, rfl, !decide (c ∈ LE), rfl, ?_⟩
          · rw [ez]; exact atI_nat (j := 0) rfl
          cases hc : decide (c ∈ LE) with
          | true =>
            refine iteF ?_
            refine ⟨_, rfl, z, rfl, fun D hD => ?_⟩
            refine lc_it (walk_str (z := z)) (fun i H' => Same H H' ∧ H' D = some (.lst ((((z.cps.toList.take i).map fun x => decide (x ∈ AL))).map V.bl))) ?_ ?_ ?_ ?_
            · exact ⟨same_upd hD, upd_same⟩
            · exact fun _ _ _ _ => trivial
            · rintro i x H1 H2 hi ⟨sm, hD1⟩ ⟨rfl, c', hc', rfl⟩
              have hi' : z.cps.toList[i]? = some c' := by simpa using hc'
              refine ⟨rfl, _, rfl, _, rfl, _, _, rfl, rfl, by decide +kernel, c', zLE ++ zDG, rfl, rfl, _, hD1, ?_, ?_, ?_⟩
              · rw [List.length_map, List.length_map, List.length_take]; exact small1000 (by omega)
              · exact fun b o e => by rw [upd_ne (ne_of_none e hD)]; exact sm b o e
              · rw [upd_same, take_snoc hi']
                simp [AL_eq]
            · rintro H1 ⟨sm, hD1⟩
              refine ⟨D, _, rfl, SqL.of hD1, ?_⟩
              have e : ((z.cps.toList.take z.cps.size).map fun x => decide (x ∈ AL)).all id = wordB (.str z) := by
                have hs : z.cps.size = z.cps.toList.length := by simp
                rw [hs, List.take_length, all_signs (K := K), ew, hc]; rfl
              rw [e]
              exact k H1 sm
          | false =>
            refine iteT ?_
            have e : wordB (.str z) = false := by rw [ew, hc]; rfl
            have := k H (Same.refl H)
            rw [e] at this
            exact this
      · have e : wordB (.str z) = false := by
          have hn : z.cps.toList = [] := by
            cases hz : z.cps.toList with
            | nil => rfl
            | cons c r => exact absurd (decide_eq_true (by rw [elen, hz]; simp; omega)) h1
          show wordL z.cps.toList = false
          rw [hn]; rfl
        have := k H (Same.refl H)
        rw [e] at this
        exact ⟨_, rfl, this⟩
    | _ => exact k H (Same.refl H)
end
end K1
set_option Elab.async false
set_option linter.all false
set_option maxRecDepth 100000
/-! what a right answer is -/
namespace K1
open PySem L2
abbrev sRight : Stmt := top 61
theorem GoodW.ok {ws : List Str} (h : GoodW ws) : OkS ws := ok_wd h.wd
theorem ok_snoc {ws : List Str} {z : Str} (h : OkS ws) (hz : PyData.strOk z = true) : OkS (ws ++ [z]) := fun y hy => by
  rcases List.mem_append.mp hy with q | q
  · exact h y q
  · rw [List.mem_singleton.mp q]; exact hz
/-- the answer as it must be -/
def Ans (K : PySem.W.Frag) (C CM : Addr) (H : Hp) (an : Addr) (ws : List Str) (v : V) (rs : List (List Int)) (ss : List Str) (st : Int) (rule : Option Str) : Prop :=
  if okW ws v = false then H an = some (.tup [.str "deeds", .int (ws.length : Int), .bl true])
  else if ws.length = 6 then H an = some (.tup [.str "many", .str "deeds", .int 7, .int 6, .bl true])
  else ∃ z x, v = .str z ∧ H an = some (.tup [.str "given", .ref x]) ∧ match rule with
    | none => MachAt K C H x (ws ++ [z]) rs ss st
    | some ru => MarkAt K C CM H x (ws ++ [z]) rs ss st ru
theorem Ans.same {K : PySem.W.Frag} {C CM : Addr} {H H' : Hp} {an : Addr} {ws : List Str} {v : V} {rs : List (List Int)} {ss : List Str} {st : Int} {rule : Option Str} (h : Ans K C CM H an ws v rs ss st rule) (s : Same H H') : Ans K C CM H' an ws v rs ss st rule := by
  unfold Ans at h ⊢
  split
  · rename_i e; rw [if_pos e] at h; exact s _ _ h
  · rename_i e
    rw [if_neg e] at h
    split
    · rename_i e2; rw [if_pos e2] at h; exact s _ _ h
    · rename_i e2
      rw [if_neg e2] at h
      obtain ⟨z, x, ez, ha, hm⟩ := h
      refine ⟨z, x, ez, s _ _ ha, ?_⟩
      cases rule with
      | none => exact MachAt.same hm s
      | some ru => exact MarkAt.same hm s
def rulV : Option Str → V | none => .non | some z => .str z
def spRight (K : PySem.W.Frag) (C CM : Addr) : Sp := fun vs H Q _ => ∃ (an dl p : Addr) (v : V) (t : String) (rule : Option Str) (ws : List Str) (rs : List (List Int)) (ss : List Str) (st : Int), vs = [.ref an, .ref dl, v, .ref p, rulV rule] ∧
  SqL K H dl (ws.map V.str) ∧ GoodW ws ∧ Th K H v t ∧ Ans K C CM H an ws v rs ss st rule ∧ PlainV H p (ws.map V.str ++ [v]) rs ss st ∧ OkS ss ∧ rs.length ≤ 60 ∧ ∀ H', Same H H' → Q (.bl true) H'
theorem okS_lit1 : PyData.strOk "deeds" = true := by decide +kernel
theorem okS_lit2 : PyData.strOk "many" = true := by decide +kernel
def pdD (n : Int) : PyData := .tuple [.str "deeds", .int n, .bool true]
def pdN : PyData := .tuple [.str "many", .str "deeds", .int 7, .int 6, .bool true]
theorem sh_D (n : Int) : SeqAt.shaped (pdD n) = true := shaped_of (by simp [pdD, PyData.canLay0, PyData.canLayAll0, okS_lit1]) (by simp [pdD, PyData.depth, PyData.depthAll])
theorem sh_N : SeqAt.shaped pdN = true := shaped_of (by simp [pdN, PyData.canLay0, PyData.canLayAll0, okS_lit1, okS_lit2]) (by simp [pdN, PyData.depth, PyData.depthAll])
theorem eqv_D (n : Int) : PyData.eqv (pdD n) (pdD n) = true := by simp [pdD, PyData.eqv, PyData.eqvAll]
theorem eqv_N : PyData.eqv pdN pdN = true := by simp [pdN, PyData.eqv, PyData.eqvAll]
section
variable {P : Program} {w : World} {K : PySem.W.Frag} {mg : Str → Option Value} {base : Heap}
abbrev pRight : List Str := ["_law_answer", "_law_deeds", "_law_word", "_law_plain_here", "_law_rule"]
theorem scRight : FnScope pRight pRight (defScope sRight) := ⟨rfl, rfl, rfl, by decide +kernel, rfl, by decide +kernel, by decide +kernel⟩
theorem ok_right {C CM f fG fI fL : Addr} {fd fdG fdI fdL : FuncData} (D : Df K mg "_law_right" sRight pRight f fd) (DG : Df K mg "_law_good_word" sGoodW ["_law_value"] fG fdG) (DI : Df K mg "_law_is_machine" sIsM pIsM fI fdI) (M : Tm K mg C) (MK : Tk K mg CM) (I1 : Ti2 K C) (I2 : Ti2 K CM) (T : Bt2 mg)
    (FL : Fun K "__len__" "Machine.__len__" sMLen fL fdL) (bL : Binds K fdL ["self"] []) (OL : OwnL K C fL) : FnOk P w K mg base CX0 4 f fd pRight (spRight K C CM) := by
  have GG : FnOk P w K mg base CX0 1 fG fdG ["_law_value"] (spWord K) := g_goodw DG T
  have GI : FnOk P w K mg base CX0 3 fI fdI pIsM (spIsM K C) := ok_ism DI M T FL bL OL
  refine D.F.ok scRight (fun vs H Q E h => ?_) (fun cdv A outer s H vs Q E hr h => ?_)
  · obtain ⟨an, dl, p, v, t, rule, ws, rs, ss, st, rfl, _⟩ := h
    rfl
  · obtain ⟨an, dl, p, v, ty, rule, ws, rs, ss, st, rfl, hdl, gd, th, ha, hp, oss, h60, k⟩ := h
    have hr1 : Room 1 _ := hr.mono (by decide)
    refine ⟨_, pss_cons (ps_if (PW.pt (pw_or (pt_not (pt_val (pe_call GG hr1 rfl DG.g DG.F.kp DG.b .nil pass0 (pa_cons (pv 2) pa_nil)))) (pw_or1 (pt_cmpR op_in_seq (pv 2) (pv 1) (by rfl)))))
        (pss_one (ps_ret (pe_cmpR (op_eqD hr.units) (pv 0) (pe_tup (pa_cons pe_str (pa_cons (pe_callB call_len (by rfl) T.len PySem.boot_len (pa_cons (pv 1) pa_nil)) (pa_cons pe_bl pa_nil)))) (nomark _)))) pss_nil)
      (pss_cons (ps_if (pt_cmpR op_eq (pe_callB call_len (by rfl) T.len PySem.boot_len (pa_cons (pv 1) pa_nil)) pe_int (nomark _))
        (pss_one (ps_ret (pe_cmpR (op_eqD hr.units) (pv 0) (pe_tup (pa_cons pe_str (pa_cons pe_str (pa_cons pe_int (pa_cons pe_int (pa_cons pe_bl pa_nil)))))) (nomark _)))) pss_nil)
      (pss_cons (ps_if (pt_cmpR op_ne (pe_ix (r := rIxT K) ix_tup (pv 0) pe_int (fun _ _ => rfl)) pe_str (nomark _)) (pss_one (ps_ret pe_bl)) pss_nil)
      (pss_cons (ps_if (pt_cmpR op_isN (pv 4) pe_non (nomark _)) (pss_one (ps_ret (pe_and (pe_callB call_isi (by rfl) T.isinstance PyProof.Rows.boot_isinstance (pa_cons (pe_ix (r := rIxT K) ix_tup (pv 0) pe_int (fun _ _ => rfl)) (pa_cons (pe_glob (v := .ref C) rfl M.mgC rfl) pa_nil)))
          (pe_one (pe_call GI hr rfl DI.g DI.F.kp DI.b .nil pass0 (pa_cons (pe_ix (r := rIxT K) ix_tup (pv 0) pe_int (fun _ _ => rfl)) (pa_cons (pv 3) pa_nil))))))) pss_nil)
      (pss_one (ps_ret (pe_and (pe_callB call_isi (by rfl) T.isinstance PyProof.Rows.boot_isinstance (pa_cons (pe_ix (r := rIxT K) ix_tup (pv 0) pe_int (fun _ _ => rfl)) (pa_cons (pe_glob (v := .ref CM) rfl MK.mgC rfl) pa_nil)))
        (pe_and (pe_cmpR op_eq (pe_fld (pe_ix (r := rIxT K) ix_tup (pv 0) pe_int (fun _ _ => rfl)) rfl) (pv 4) (nomark _))
          (pe_one (pe_call GI hr rfl DI.g DI.F.kp DI.b .nil pass0 (pa_cons (pe_fld (pe_ix (r := rIxT K) ix_tup (pv 0) pe_int (fun _ _ => rfl)) rfl) (pa_cons (pv 3) pa_nil))))))))))), ?_⟩
    have hlen : ∀ {G : Hp}, Same H G → LenV K (.ref dl) G ws.length := fun s => .inl ⟨_, s.seq hdl, (List.length_map _).symm⟩
    have r1 : ∀ {G : Hp} {q : Addr} (hq : G q = none), Same H G → okW ws v = false → SqT K (upd G q (.tup [.str "deeds", .int (ws.length : Int), .bl true])) an [.str "deeds", .int (ws.length : Int), .bl true] := fun {G q} hq s e => by
      unfold Ans at ha
      rw [if_pos e] at ha
      exact SqT.of ((s.trans (same_upd hq)) _ _ ha)
    have dpD : ∀ {G : Hp} {q : Addr}, SqT K G q [.str "deeds", .int (ws.length : Int), .bl true] → Dp K G (.ref q) (pdD (ws.length : Int)) := fun h => .tup h (.cons (.str "deeds") (.cons (.int _) (.cons (.bl true) .nil)))
    refine ⟨_, rfl, v, ty, rfl, th, fun H1 s1 => ⟨wordB v, rfl, ?_⟩⟩
    cases hw : wordB v with
    | false =>
      have eo : okW ws v = false := by unfold okW; rw [hw]; rfl
      refine iteT ?_
      refine iteT ?_
      refine ⟨_, rfl, _, rfl, _, ws.length, rfl, hlen s1, by show 3 ≤ sizeLine; decide, fun q hq => ?_⟩
      refine ⟨pdD ws.length, pdD ws.length, dpD (r1 hq s1 eo), dpD (SqT.of upd_same), sh_D _, sh_D _, ?_⟩
      rw [eqv_D]
      exact k _ (s1.trans (same_upd hq))
    | true =>
      refine iteF ?_
      obtain ⟨z, rfl⟩ := word_str hw
      refine ⟨_, rfl, _, rfl, dl, _, rfl, .inl (s1.seq hdl), rfl, flat_strs _, inV (.str z) (ws.map V.str), rfl, ?_⟩
      cases hv : inV (.str z) (ws.map V.str) with
      | true =>
        have eo : okW ws (.str z) = false := by unfold okW; rw [hv, Bool.not_true, Bool.and_false]
        refine iteT ?_
        refine ⟨_, rfl, _, rfl, _, ws.length, rfl, hlen s1, by show 3 ≤ sizeLine; decide, fun q hq => ?_⟩
        refine ⟨pdD ws.length, pdD ws.length, dpD (r1 hq s1 eo), dpD (SqT.of upd_same), sh_D _, sh_D _, ?_⟩
        rw [eqv_D]
        exact k _ (s1.trans (same_upd hq))
      | false =>
        have eo : ¬ okW ws (.str z) = false := by unfold okW; rw [hw, hv]; decide
        refine iteF ?_
        unfold Ans at ha
        rw [if_neg eo] at ha
        refine ⟨_, rfl, _, ws.length, rfl, hlen s1, rfl, _, rfl, ?_⟩
        by_cases h6 : ws.length = 6
        · rw [if_pos h6] at ha
          refine ite2 (fun _ => ?_) (fun h => absurd (decide_eq_true (by rw [h6]; rfl)) h)
          refine ⟨_, rfl, by show 5 ≤ sizeLine; decide, fun q hq => ?_⟩
          have sq := same_upd (o := .tup [V.str "many", .str "deeds", .int 7, .int 6, .bl true]) hq
          have dpN : ∀ {G : Hp} {q : Addr}, SqT K G q [.str "many", .str "deeds", .int 7, .int 6, .bl true] → Dp K G (.ref q) pdN := fun h => .tup h (.cons (.str "many") (.cons (.str "deeds") (.cons (.int _) (.cons (.int _) (.cons (.bl true) .nil)))))
          refine ⟨pdN, pdN, dpN (SqT.of (sq _ _ (s1 _ _ ha))), dpN (SqT.of upd_same), sh_N, sh_N, ?_⟩
          rw [eqv_N]
          exact k _ (s1.trans sq)
        · rw [if_neg h6] at ha
          refine ite2 (fun h => ?_) (fun _ => ?_)
          · exfalso
            have := of_decide_eq_true h
            injection this with this
            omega
          obtain ⟨z', x, ez, han, hm⟩ := ha
          cases ez
          have han1 := SqT.of (K := K) (s1 _ _ han)
          have hpa : PlainAt H1 p (ws ++ [z]) rs ss st := (hp.same s1).at
          have okw := ok_snoc gd.ok (word_ok hw).1
          refine ⟨_, rfl, an, _, 0, _, rfl, rfl, han1, atI_nat (j := 0) rfl, rfl, _, rfl, ?_⟩
          refine ite2 (fun h => by simp at h) (fun _ => ?_)
          cases rule with
          | none =>
            replace hm : MachAt K C H x (ws ++ [z]) rs ss st := hm
            have hm1 := hm.same s1
            obtain ⟨dx, t, r, l, as, hx, _⟩ := id hm1
            refine ⟨_, rfl, rfl, _, rfl, ?_⟩
            refine ite2 (fun _ => ?_) (fun h => absurd rfl h)
            refine ⟨_, rfl, an, _, 1, _, rfl, rfl, han1, atI_nat (j := 1) rfl, _, _, .ref C, .ref C, true, rfl, .own C, .base (.ins hx M.cl I1.ca I1.cs I1.ct I1.cm), by simp [PySem.W.kitOne], true, rfl, ?_⟩
            refine iteT ?_
            exact ⟨_, rfl, an, _, 1, _, rfl, rfl, han1, atI_nat (j := 1) rfl, _, rfl, x, p, ws ++ [z], rs, ss, st, rfl, hm1, hpa, okw, oss, h60, fun H2 s2 => k H2 (s1.trans s2)⟩
          | some ru =>
            replace hm : MarkAt K C CM H x (ws ++ [z]) rs ss st ru := hm
            obtain ⟨dx, y, hx, hy⟩ := hm.same s1
            refine ⟨_, rfl, rfl, _, rfl, ?_⟩
            refine ite2 (fun h => absurd h (by show ¬ decide (V.str ru = V.non) = true; simp)) (fun _ => ?_)
            refine ⟨_, rfl, an, _, 1, _, rfl, rfl, han1, atI_nat (j := 1) rfl, _, _, .ref CM, .ref CM, true, rfl, .own CM, .base (.ins hx MK.cl I2.ca I2.cs I2.ct I2.cm), by simp [PySem.W.kitOne], true, rfl, ?_⟩
            refine iteT ?_
            refine ⟨_, rfl, an, _, 1, _, rfl, rfl, han1, atI_nat (j := 1) rfl, x, CM, dx, _, _, rfl, hx, MK.cl, MK.nR, kf_r _ _, _, rfl, rfl, true, ?_, ?_⟩
            · show V.bl (decide (V.str ru = V.str ru)) = V.bl true
              rw [decide_eq_true rfl]
            refine iteT ?_
            exact ⟨_, rfl, an, _, 1, _, rfl, rfl, han1, atI_nat (j := 1) rfl, x, CM, dx, _, _, rfl, hx, MK.cl, MK.nM, kf_m _ _, _, rfl, y, p, ws ++ [z], rs, ss, st, rfl, hy, hpa, okw, oss, h60, fun H2 s2 => k H2 (s1.trans s2)⟩
end
end K1
set_option Elab.async false
set_option linter.all false
set_option maxRecDepth 100000
/-! a turn of the law, from the wide machine on -/
namespace K1
open PySem L2 LamX
abbrev sLaw : Stmt := top 62
def forBody : Stmt → List Stmt
  | .For _ _ b _ _ => b
  | _ => []
abbrev lawBody : List Stmt := forBody (stOf sLaw 1)
abbrev qLaw : Str := "law.<locals>.<lambda>"
/-! what a lambda's making keeps -/
theorem RowsAt.ext {H H' : Hp} {as : List Addr} {rs : List (List Int)} (h : RowsAt H as rs) (e : ExtN H H') : RowsAt H' as rs := ⟨h.1, fun i a r e1 e2 => e.lst (h.2 i a r e1 e2)⟩
theorem PlainV.ext {H H' : Hp} {p : Addr} {vs : List V} {rs : List (List Int)} {ss : List Str} {st : Int} (h : PlainV H p vs rs ss st) (e : ExtN H H') : PlainV H' p vs rs ss st := by
  obtain ⟨t, r, l, as, h1, h2, h3, h4, h5⟩ := h
  exact ⟨t, r, l, as, e.dk h1, e.tup h2, e.lst h3, e.lst h4, h5.ext e⟩
theorem PlainAt.ext {H H' : Hp} {p : Addr} {ws : List Str} {rs : List (List Int)} {ss : List Str} {st : Int} (h : PlainAt H p ws rs ss st) (e : ExtN H H') : PlainAt H' p ws rs ss st := by
  obtain ⟨t, r, l, as, h1, h2, h3, h4, h5⟩ := h
  exact ⟨t, r, l, as, e.dk h1, e.tup h2, e.lst h3, e.lst h4, h5.ext e⟩
theorem MachAt.ext {K : PySem.W.Frag} {C : Addr} {H H' : Hp} {x : Addr} {ws : List Str} {rs : List (List Int)} {ss : List Str} {st : Int} (h : MachAt K C H x ws rs ss st) (e : ExtN H H') : MachAt K C H' x ws rs ss st := by
  obtain ⟨dx, t, r, l, as, h1, h2, h3, h4, h5⟩ := h
  exact ⟨dx, t, r, l, as, e.ins h1, e.seqT h2, e.tup h3, ⟨h4.1, fun i a r e1 e2 => e.tup (h4.2 i a r e1 e2)⟩, e.tup h5⟩
theorem Th.ext {K : PySem.W.Frag} {H H' : Hp} {v : V} {t : String} (h : Th K H v t) (e : ExtN H H') : Th K H' v t := by
  cases h with
  | non => exact .non
  | bl b => exact .bl b
  | int i => exact .int i
  | str z hl => exact .str z hl
  | tup q => exact .tup (e.tup q)
  | lst q => exact .lst (e.lst q)
  | dic q => exact .dic (e.dk q)
/-- a turn: the pen, the deeds, the plain machine, the machine, the mark, the word, the tables -/
structure Mn (K : PySem.W.Frag) (C CM : Addr) (T : List (Addr × Str)) (H : Hp) (d c : Addr) (n : Nat) (dl p x mk : Addr) (v : V) (ws : List Str) (rs : List (List Int)) (ss : List Str) (st : Int) (ru : Str) : Prop where
  pen : PenAt H d c n
  hdl : H dl = some (.lst (ws.map V.str))
  pl : PlainAt H p ws rs ss st
  mac : MachAt K C H x ws rs ss st
  mark : ∃ dk, H mk = some (.ins CM dk (kf x ru))
  th : ∃ t, Th K H v t
  tab : Tabs T H
section
variable {K : PySem.W.Frag} {C CM : Addr} {T : List (Addr × Str)} {H H' : Hp} {d c : Addr} {n : Nat} {dl p x mk : Addr} {v : V} {ws : List Str} {rs : List (List Int)} {ss : List Str} {st : Int} {ru : Str}
theorem Mn.same (m : Mn K C CM T H d c n dl p x mk v ws rs ss st ru) (s : Same H H') : Mn K C CM T H' d c n dl p x mk v ws rs ss st ru := by
  obtain ⟨h1, h2, h3, h4, ⟨dk, h5⟩, ⟨t, h6⟩, h7⟩ := m
  exact ⟨h1.same s, s _ _ h2, h3.same s, h4.same s, ⟨dk, s _ _ h5⟩, ⟨t, h6.same s⟩, h7.same s⟩
theorem Mn.ext (m : Mn K C CM T H d c n dl p x mk v ws rs ss st ru) (e : ExtN H H') (b : Tabs T H') : Mn K C CM T H' d c n dl p x mk v ws rs ss st ru := by
  obtain ⟨h1, h2, h3, h4, ⟨dk, h5⟩, ⟨t, h6⟩, h7⟩ := m
  exact ⟨e.pen h1, e.lst h2, h3.ext e, h4.ext e, ⟨dk, e.ins h5⟩, ⟨t, h6.ext e⟩, b⟩
theorem Mn.markAt (m : Mn K C CM T H d c n dl p x mk v ws rs ss st ru) : MarkAt K C CM H mk ws rs ss st ru := by
  obtain ⟨dk, h⟩ := m.mark
  exact ⟨dk, x, h, m.mac⟩
end
/-- what the law calls -/
structure Fs (P : Program) (w : World) (K : PySem.W.Frag) (mg : Str → Option Value) (base : Heap) (C CM CD CT CL : Addr) : Prop where
  T2 : Bt2 mg
  M : Tm K mg C
  MK : Tk K mg CM
  pen : ∃ f fd, mg "_law_pen" = some (.ref f) ∧ PySem.W.keepIn K (.ref f) = true ∧ Binds K fd ["_law_script"] [] ∧ FnOk P w K mg base CX0 1 f fd ["_law_script"] (spPen K)
  draw : ∃ f fd, mg "_law_draw" = some (.ref f) ∧ PySem.W.keepIn K (.ref f) = true ∧ Binds K fd pDraw [] ∧ FnOk P w K mg base CX0 1 f fd pDraw spDraw
  pick : ∃ f fd, mg "_law_pick" = some (.ref f) ∧ PySem.W.keepIn K (.ref f) = true ∧ Binds K fd pPick [] ∧ FnOk P w K mg base CX0 2 f fd pPick (spPickL K)
  words : ∃ f fd, mg "_law_words" = some (.ref f) ∧ PySem.W.keepIn K (.ref f) = true ∧ Binds K fd pDraw [] ∧ FnOk P w K mg base CX0 3 f fd pDraw (spWords K)
  plain : ∃ f fd, mg "_law_plain" = some (.ref f) ∧ PySem.W.keepIn K (.ref f) = true ∧ Binds K fd pPlain [] ∧ FnOk P w K mg base CX0 3 f fd pPlain (spPlain K)
  made : ∃ f fd, mg "_law_made" = some (.ref f) ∧ PySem.W.keepIn K (.ref f) = true ∧ Binds K fd ["_law_plain_here"] [] ∧ FnOk P w K mg base CX0 7 f fd ["_law_plain_here"] (spMade K C)
  ism : ∃ f fd, mg "_law_is_machine" = some (.ref f) ∧ PySem.W.keepIn K (.ref f) = true ∧ Binds K fd pIsM [] ∧ FnOk P w K mg base CX0 3 f fd pIsM (spIsM K C)
  moreI : ∃ f fd, mg "_law_more_idle" = some (.ref f) ∧ PySem.W.keepIn K (.ref f) = true ∧ Binds K fd pMoreI [] ∧ FnOk P w K mg base CX0 2 f fd pMoreI (spMoreI K)
  moreE : ∃ f fd, mg "_law_more_exposed" = some (.ref f) ∧ PySem.W.keepIn K (.ref f) = true ∧ Binds K fd pMoreE [] ∧ FnOk P w K mg base CX0 3 f fd pMoreE (spMoreE K)
  right : ∃ f fd, mg "_law_right" = some (.ref f) ∧ PySem.W.keepIn K (.ref f) = true ∧ Binds K fd pRight [] ∧ FnOk P w K mg base CX0 4 f fd pRight (spRight K C CM)
  idle : ∃ f fd, mg "idle" = some (.ref f) ∧ PySem.W.keepIn K (.ref f) = true ∧ Binds K fd pId [] ∧ FnOk P w K mg base (L2.CX P w) 9 f fd pId (spIdle K C CD CT)
  expo : ∃ f fd, mg "exposed" = some (.ref f) ∧ PySem.W.keepIn K (.ref f) = true ∧ Binds K fd pHi [] ∧ FnOk P w K mg base (L2.CX P w) 11 f fd pHi (spExpo K C CM CD CT)
  mkm : ∃ f fd, Mk K CM f ∧ Binds K fd pKI [] ∧ FnOk P w K mg base CX0 1 f fd pKI (spKInit K CM)
  met : ∃ f fd, Df K mg "_law_met" sMet pMet f fd
  od : ∃ f fd, OBadDeeds K mg CD f fd
  ot : ∃ f fd, OTooMany K mg CT f fd
  em : Em K CD CT CL
  hL : mg "LooksError" = some (.ref CL)
  hV : mg "ValueError" = none
abbrev nLaw : List Str := ["_law_script", "_law_pen_here", "_law_lap", "_law_words_here", "_law_deeds", "_law_plain_here", "_law_machine", "_law_rule", "_law_mark", "_law_odd", "_law_fine", "_law_word", "_law_wide", "_law_kept_rule"]
theorem scLaw : FnScope nLaw ["_law_script"] (defScope sLaw) := ⟨rfl, rfl, rfl, by decide +kernel, rfl, by decide +kernel, by decide +kernel⟩
theorem wo_met {K : PySem.W.Frag} {C CM CD CT CL : Addr} (EM : Em K CD CT CL) {Q : VK} {H1 : Hp} {ws : List Str} {v : V} {rs : List (List Int)} {ss : List Str} {st : Int} (f : Addr) (k : ∀ p G, Same H1 G → Ans K C CM G p ws v rs ss st none → Q (.ref p) G) :
    Wo CD CT ws v H1 (WM K CD CT CL f Q) (∀ z, v = .str z → ∀ x H', H1 x = none → MachAt K C H' x (ws ++ [z]) rs ss st → Same H1 H' → 2 ≤ sizeLine ∧ ∀ p, H' p = none → Q (.ref p) (upd H' p (.tup [.str "given", .ref x]))) := by
  unfold Wo
  by_cases eo : okW ws v = false
  · rw [if_pos eo]
    exact wm_deed EM (fun p G s _ e => k p G s (by unfold Ans; rw [if_pos eo]; exact e)) f
  rw [if_neg eo]
  by_cases h6 : ws.length = 6
  · rw [if_pos h6]
    exact wm_many EM (fun p G s _ e => k p G s (by unfold Ans; rw [if_neg eo, if_pos h6]; exact e)) f
  rw [if_neg h6]
  intro z ez x H' _ hm hs
  refine ⟨by show 2 ≤ sizeLine; decide, fun p hp => k p _ (hs.trans (same_upd hp)) ?_⟩
  unfold Ans
  rw [if_neg eo, if_neg h6]
  exact ⟨z, x, ez, upd_same, hm.same (same_upd hp)⟩
theorem wo_metM {K : PySem.W.Frag} {C CM CD CT CL : Addr} (EM : Em K CD CT CL) {Q : VK} {H1 : Hp} {ws : List Str} {v : V} {rs : List (List Int)} {ss : List Str} {st : Int} {ru : Str} (f : Addr) (k : ∀ p G, Same H1 G → Ans K C CM G p ws v rs ss st (some ru) → Q (.ref p) G) :
    Wo CD CT ws v H1 (WM K CD CT CL f Q) (∀ z, v = .str z → ∀ x H', H1 x = none → MarkAt K C CM H' x (ws ++ [z]) rs ss st ru → Same H1 H' → 2 ≤ sizeLine ∧ ∀ p, H' p = none → Q (.ref p) (upd H' p (.tup [.str "given", .ref x]))) := by
  unfold Wo
  by_cases eo : okW ws v = false
  · rw [if_pos eo]
    exact wm_deed EM (fun p G s _ e => k p G s (by unfold Ans; rw [if_pos eo]; exact e)) f
  rw [if_neg eo]
  by_cases h6 : ws.length = 6
  · rw [if_pos h6]
    exact wm_many EM (fun p G s _ e => k p G s (by unfold Ans; rw [if_neg eo, if_pos h6]; exact e)) f
  rw [if_neg h6]
  intro z ez x H' _ hm hs
  refine ⟨by show 2 ≤ sizeLine; decide, fun p hp => k p _ (hs.trans (same_upd hp)) ?_⟩
  unfold Ans
  rw [if_neg eo, if_neg h6]
  exact ⟨z, x, ez, upd_same, hm.same (same_upd hp)⟩
section
variable {P : Program} {w : World} {K : PySem.W.Frag} {mg : Str → Option Value} {base : Heap} {C CM CD CT CL : Addr} {T : List (Addr × Str)}
theorem tail_ok (F : Fs P w K mg base C CM CD CT CL) (f c pT : Addr) (A : Around) (outer : List Env) (s : Shared) (H0 : Hp) (E : XK) (hr : Room 13 (A.deeper (PyProof.Rows.envOfC "law" (defScope sLaw) s.heap.objs.size f (.ref c))))
    (TB : TabB base mg c pT) (mem : (pT, qLaw) ∈ T) (uni : ∀ p ∈ T, p.1 = pT → p.2 = qLaw) :
    ∃ t, PSs (cxOf CX0 P w K mg base nLaw "law" (defScope sLaw) f (.ref c) A outer s H0 E).nox (lawBody.drop 8) t ∧
      ∀ (D : Ends) (H : Hp) (v0 v2 v3 v9 v10 v12 v13 : Option V) (v : V) (d cc dl p x mk : Addr) (n : Nat) (ws : List Str) (rs : List (List Int)) (ss : List Str) (st : Int) (ru : Str),
        Mn K C CM T H d cc n dl p x mk v ws rs ss st ru → Parts ws rs ss st → ru ∈ rules →
        (∀ (v12 v13 : Option V) (H' : Hp), PenAt H' d cc n → Tabs T H' → D.nx [v0, some (.ref d), v2, v3, some (.ref dl), some (.ref p), some (.ref x), some (.str ru), some (.ref mk), v9, v10, some v, v12, v13] H') →
        t D [v0, some (.ref d), v2, v3, some (.ref dl), some (.ref p), some (.ref x), some (.str ru), some (.ref mk), v9, v10, some v, v12, v13] H := by
  obtain ⟨T2, M, MK, _, _, _, _, _, _, ⟨fS, fdS, mgS, kpS, bS, GS⟩, ⟨fI, fdI, mgI, kpI, bI, GI⟩, ⟨fE, fdE, mgE, kpE, bE, GE⟩, ⟨fR, fdR, mgR, kpR, bR, GR⟩, ⟨fD, fdD, mgD, kpD, bD, GD⟩, ⟨fX, fdX, mgX, kpX, bX, GX⟩, _, ⟨fM, fdM, DF⟩, ⟨fO, fdO, OD⟩, ⟨fN, fdN, OT⟩, EM, hL, hV⟩ := F
  have hI : mg "isinstance" = none := T2.isinstance
  have hr11 : Room 11 (cxOf CX0 P w K mg base nLaw "law" (defScope sLaw) f (.ref c) A outer s H0 E).nox.A := hr.mono (by decide)
  have hr4 : Room 4 (cxOf CX0 P w K mg base nLaw "law" (defScope sLaw) f (.ref c) A outer s H0 E).nox.A := hr.mono (by decide)
  have hr3 : Room 3 (cxOf CX0 P w K mg base nLaw "law" (defScope sLaw) f (.ref c) A outer s H0 E).nox.A := hr.mono (by decide)
  have hr2 : Room 2 (cxOf CX0 P w K mg base nLaw "law" (defScope sLaw) f (.ref c) A outer s H0 E).nox.A := hr.mono (by decide)
  refine ⟨_, pss_cons (ps_set (i := 12) scLaw.nd rfl (Or.inl rfl) (pe_call GI hr2 rfl mgI kpI bI .nil pass0 (pa_cons (pv 5) (pa_cons (pv 11) pa_nil))))
    (pss_cons (ps_if (pt_not (pt_val (pe_call GR hr4 rfl mgR kpR bR .nil pass0 (pa_cons
        (pe_lamS (T := T) (k := 9) DF scMet rfl (Or.inl rfl) rfl (fun gcd => gives_met OD OT EM hL hV hI) TB rfl mem uni hr11 (lamS_by (by show lamSB (defScope sLaw) _ = true; decide +kernel))
          (fun A outer s2 H2 E f c' hr' => pe_call GD hr' rfl mgD kpD bD .nil (passes_call (takes_of rfl rfl rfl rfl) fun _ _ _ _ h => h) (pa_cons (pv 6) (pa_cons (pv 11) pa_nil))))
        (pa_cons (pv 4) (pa_cons (pv 11) (pa_cons (pv 12) (pa_cons pe_non pa_nil)))))))) (pss_one (ps_ret pe_bl)) pss_nil)
    (pss_cons (ps_asg (pe_call GE hr3 rfl mgE kpE bE .nil pass0 (pa_cons (pe_tup (pa_cons (pv 5) (pa_cons (pv 7) pa_nil))) (pa_cons (pv 11) pa_nil))) (pg_tup (by rfl) (pgs_cons (pg_name (i := 12) scLaw.nd rfl (Or.inl rfl)) (pgs_cons (pg_name (i := 13) scLaw.nd rfl (Or.inl rfl)) pgs_nil))))
    (pss_cons (ps_if (pt_not (pt_val (pe_call GR hr4 rfl mgR kpR bR .nil pass0 (pa_cons
        (pe_lamS (T := T) (k := 11) DF scMet rfl (Or.inl rfl) rfl (fun gcd => gives_met OD OT EM hL hV hI) TB rfl mem uni hr (lamS_by (by show lamSB (defScope sLaw) _ = true; decide +kernel))
          (fun A outer s2 H2 E f c' hr' => pe_call GX hr' rfl mgX kpX bX .nil (passes_call (takes_of rfl rfl rfl rfl) fun _ _ _ _ h => h) (pa_cons (pv 8) (pa_cons (pv 11) pa_nil))))
        (pa_cons (pv 4) (pa_cons (pv 11) (pa_cons (pv 12) (pa_cons (pv 7) pa_nil)))))))) (pss_one (ps_ret pe_bl)) pss_nil)
    (pss_one (ps_if (PW.pt (pw_or (pt_not (pt_val (pe_call GS hr3 rfl mgS kpS bS .nil pass0 (pa_cons (pv 6) (pa_cons (pv 5) pa_nil)))))
        (pw_or (pt_not (pt_val (pe_call GS hr3 rfl mgS kpS bS .nil pass0 (pa_cons (pe_fld (pv 8) rfl) (pa_cons (pv 5) pa_nil)))))
          (pw_or1 (pt_cmpR op_ne (pe_fld (pv 8) rfl) (pv 7) (nomark _)))))) (pss_one (ps_ret pe_bl)) pss_nil))))), ?_⟩
  intro D H v0 v2 v3 v9 v10 v12 v13 v d cc dl p x mk n ws rs ss st ru mn pt hru done
  have h60 := pt.many.2
  have oss : OkS ss := ok_tl pt.tl.2
  have wI : (wideR rs (idleT rs.length)).length ≤ 60 := by rw [wide_len (idle_ok rs)]; exact h60
  have tosOk : ToOk rs (tosOf ru rs st) := by
    unfold tosOf
    split
    · exact idle_ok rs
    · exact ⟨List.length_replicate, fun t ht => by rw [List.eq_of_mem_replicate ht]; exact pt.st⟩
  have wE : (wideR rs (tosOf ru rs st)).length ≤ 60 := by rw [wide_len tosOk]; exact h60
  -- wide
  refine ⟨_, rfl, _, rfl, p, v, ws, rs, ss, st, rfl, mn.pl, pt, fun p1 H1 hp1 s1 hv1 => ?_⟩
  have m1 := mn.same s1
  refine ⟨m1.tab, fun H2 e2 T2' f2 => ?_⟩
  have m2 := m1.ext e2 T2'
  have hv2 := hv1.ext e2
  obtain ⟨ty2, th2⟩ := m2.th
  refine ⟨_, rfl, _, rfl, x, v, ty2, ws, rs, ss, st, rfl, m2.mac, th2, pt, wo_met (C := C) (CM := CM) EM f2 fun an H3 s3 ha => ?_⟩
  have m3 := m2.same s3
  obtain ⟨ty3, th3⟩ := m3.th
  refine ⟨_, rfl, _, rfl, _, rfl, an, dl, p1, v, ty3, none, ws, _, ss, st, rfl, SqL.of m3.hdl, pt.goodW, th3, ha, hv2.same s3, oss, wI, fun H4 s4 => ⟨true, rfl, ?_⟩⟩
  refine iteF ?_
  have m4 := m3.same s4
  -- wide, kept_rule
  refine ⟨_, rfl, _, rfl, by show 2 ≤ sizeLine; decide, fun u hu => ?_⟩
  have s5 := same_upd (o := .tup [V.ref p, V.str ru]) hu
  have m5 := m4.same s5
  refine ⟨_, rfl, u, p, v, ru, ws, rs, ss, st, rfl, SqT.of upd_same, m5.pl, pt, fun u' p2 H6 s6 hu' hv6 => ?_⟩
  have m6 := m5.same s6
  refine ⟨u', _, rfl, SqT.of hu', rfl, _, _, rfl, _, _, rfl, rfl, ?_⟩
  refine ⟨m6.tab, fun H7 e7 T7 f7 => ?_⟩
  have m7 := m6.ext e7 T7
  have hv7 := hv6.ext e7
  obtain ⟨ty7, th7⟩ := m7.th
  refine ⟨_, rfl, _, rfl, mk, v, ty7, ws, rs, ss, st, ru, rfl, m7.markAt, hru, th7, pt, wo_metM (C := C) (CM := CM) EM f7 fun an2 H8 s8 ha2 => ?_⟩
  have m8 := m7.same s8
  obtain ⟨ty8, th8⟩ := m8.th
  refine ⟨_, rfl, _, rfl, _, rfl, _, rfl, an2, dl, p2, v, ty8, some ru, ws, _, ss, st, rfl, SqL.of m8.hdl, pt.goodW, th8, ha2, hv7.same s8, oss, wE, fun H9 s9 => ⟨true, rfl, ?_⟩⟩
  refine iteF ?_
  have m9 := m8.same s9
  refine ⟨_, rfl, _, rfl, x, p, ws, rs, ss, st, rfl, m9.mac, m9.pl, pt.goodW.ok, oss, h60, fun H10 s10 => ⟨true, rfl, ?_⟩⟩
  refine iteF ?_
  have m10 := m9.same s10
  obtain ⟨dk, hmk⟩ := m10.mark
  refine ⟨_, rfl, mk, CM, dk, _, _, rfl, hmk, MK.cl, MK.nM, kf_m _ _, _, rfl, x, p, ws, rs, ss, st, rfl, m10.mac, m10.pl, pt.goodW.ok, oss, h60, fun H11 s11 => ⟨true, rfl, ?_⟩⟩
  refine iteF ?_
  have m11 := m10.same s11
  refine ⟨_, rfl, mk, CM, dk, _, _, rfl, s11 _ _ hmk, MK.cl, MK.nR, kf_r _ _, _, rfl, rfl, _, rfl, ?_⟩
  refine ite2 (fun h => by simp at h) (fun _ => ?_)
  exact done _ _ _ m11.pen m11.tab
end
end K1
set_option Elab.async false
set_option linter.all false
set_option maxRecDepth 100000
/-! the law -/
namespace K1
open PySem L2 LamX
def spLaw (K : PySem.W.Frag) (T : List (Addr × Str)) : Sp := fun vs H Q _ => ∃ (a : Addr) (ns : List Int), vs = [.ref a] ∧ SqL K H a (ns.map V.int) ∧ ns.length ≤ 63 ∧ Tabs T H ∧ ∀ H', Q (.bl true) H'
/-- the begin of a turn: the pen, the words, the deeds, the plain machine, the machine, the tables -/
structure Mp (K : PySem.W.Frag) (C : Addr) (T : List (Addr × Str)) (H : Hp) (d c : Addr) (n : Nat) (wl dl p x : Addr) (w8 ws : List Str) (rs : List (List Int)) (ss : List Str) (st : Int) : Prop where
  pen : PenAt H d c n
  hwl : H wl = some (.lst (w8.map V.str))
  hdl : H dl = some (.lst (ws.map V.str))
  npd : p ≠ d
  pl : PlainAt H p ws rs ss st
  mac : MachAt K C H x ws rs ss st
  tab : Tabs T H
section
variable {K : PySem.W.Frag} {C : Addr} {T : List (Addr × Str)} {H H' : Hp} {d c : Addr} {n n' : Nat} {wl dl p x : Addr} {w8 ws : List Str} {rs : List (List Int)} {ss : List Str} {st : Int}
theorem Mp.same (m : Mp K C T H d c n wl dl p x w8 ws rs ss st) (s : Same H H') : Mp K C T H' d c n wl dl p x w8 ws rs ss st := by
  obtain ⟨h1, h2, h3, h4, h5, h6, h7⟩ := m
  exact ⟨h1.same s, s _ _ h2, s _ _ h3, h4, h5.same s, h6.same s, h7.same s⟩
theorem pen_ne (h : PenAt H d c n) {a : Addr} {u : HO} (e : H a = some u) (m : ∀ kv, u ≠ .dK kv) : a ≠ d := by
  obtain ⟨_, _, _, hd, _⟩ := h
  intro z
  rw [z, hd] at e; cases e; exact m _ rfl
theorem Mp.kept (m : Mp K C T H d c n wl dl p x w8 ws rs ss st) (k : Kept d H H') (hp : PenAt H' d c n') : Mp K C T H' d c n' wl dl p x w8 ws rs ss st := by
  obtain ⟨h1, h2, h3, npd, ⟨t1, r1, l1, as1, e1, e2, e3, e4, e5⟩, ⟨dx, t2, r2, l2, as2, f1, f2, f3, f4, f5⟩, h7⟩ := m
  have ne : ∀ {a : Addr} {u : HO}, H a = some u → (∀ kv, u ≠ .dK kv) → a ≠ d := fun e m => pen_ne h1 e m
  have kl : ∀ {a : Addr} {xs : List V}, H a = some (.lst xs) → H' a = some (.lst xs) := fun h => k _ _ h (ne h (fun _ z => by cases z))
  have kt : ∀ {a : Addr} {xs : List V}, H a = some (.tup xs) → H' a = some (.tup xs) := fun h => k _ _ h (ne h (fun _ z => by cases z))
  have f2' : SqT K H' t2 (ws.map V.str) := by
    rcases f2 with (h | ⟨o, h⟩) | h
    · exact .inl (.inl (kt h))
    · exact .inl (.inr ⟨o, k _ _ h (ne h (fun _ z => by cases z))⟩)
    · exact .inr h
  exact ⟨hp, kl h2, kl h3, npd, ⟨t1, r1, l1, as1, k _ _ e1 npd, kt e2, kl e3, kl e4, e5.1, fun i a r g1 g2 => kl (e5.2 i a r g1 g2)⟩,
    ⟨dx, t2, r2, l2, as2, k _ _ f1 (ne f1 (fun _ z => by cases z)), f2', kt f3, ⟨f4.1, fun i a r g1 g2 => kt (f4.2 i a r g1 g2)⟩, kt f5⟩, h7.pen h1 k⟩
end
def menu : List Str := ["x", "y/z", "0"]
theorem menu_ok : ∀ z ∈ menu, 1 ≤ z.cps.toList.length ∧ z.cps.toList.length ≤ 60 ∧ ∀ x ∈ z.cps.toList, x ∈ TL' := by decide +kernel
theorem menu_tl {z : Str} (h : z ∈ menu) : Tl z := menu_ok z h
def odds (t : Addr) : List V := [.str "", .str "Up", .str "a b", .str "1a", .str "abcdefghijklm", .str "a-b", .non, .int 7, .ref t, .bl true]
theorem odd_th {K : PySem.W.Frag} {H : Hp} {t : Addr} {v : V} (h : v ∈ odds t) (ht : H t = some (.tup [.str "a"])) : ∃ ty, Th K H v ty := by
  unfold odds at h
  simp only [List.mem_cons, List.not_mem_nil, or_false] at h
  rcases h with rfl | rfl | rfl | rfl | rfl | rfl | rfl | rfl | rfl | rfl
  · exact ⟨_, .str _ (by decide +kernel)⟩
  · exact ⟨_, .str _ (by decide +kernel)⟩
  · exact ⟨_, .str _ (by decide +kernel)⟩
  · exact ⟨_, .str _ (by decide +kernel)⟩
  · exact ⟨_, .str _ (by decide +kernel)⟩
  · exact ⟨_, .str _ (by decide +kernel)⟩
  · exact ⟨_, .non⟩
  · exact ⟨_, .int _⟩
  · exact ⟨_, .tup ht⟩
  · exact ⟨_, .bl _⟩
theorem tl_app (a b : Str) : (a ++ b).cps.toList = a.cps.toList ++ b.cps.toList := by
  show (a.cps ++ b.cps).toList = _
  simp
theorem len_app (a b : Str) : (a ++ b).length = a.length + b.length := by rw [len_tl, len_tl, len_tl, tl_app, List.length_append]
section
variable {P : Program} {w : World} {K : PySem.W.Frag} {mg : Str → Option Value} {base : Heap} {C CM CD CT CL : Addr} {T : List (Addr × Str)}
theorem ok_law (F : Fs P w K mg base C CM CD CT CL) {f c pT : Addr} {fd : FuncData} (FL : FunC K "law" "law" sLaw f fd c) (TB : TabB base mg c pT) (mem : (pT, qLaw) ∈ T) (uni : ∀ p ∈ T, p.1 = pT → p.2 = qLaw) : FnOk P w K mg base CX0 14 f fd ["_law_script"] (spLaw K T) := by
  refine FL.ok scLaw (fun vs H Q E h => ?_) (fun A outer s H vs Q E hr h => ?_)
  · obtain ⟨a, ns, rfl, _⟩ := h
    rfl
  · obtain ⟨a, ns, rfl, ha, hns, hT, k⟩ := h
    obtain ⟨tR, htR, hqR⟩ := tail_ok F f c pT A outer s H E hr TB mem uni
    obtain ⟨T2, M, MK, ⟨fE, fdE, mgE, kpE, bE, GE⟩, ⟨fD, fdD, mgD, kpD, bD, GD⟩, ⟨fP, fdP, mgP, kpP, bP, GP⟩, ⟨fW, fdW, mgW, kpW, bW, GW⟩, ⟨fL, fdL, mgL, kpL, bL, GL⟩, ⟨fM, fdM, mgM, kpM, bM, GM⟩, _, _, _, _, _, _, ⟨fK, fdK, MkM, bK, GK⟩, _, _, _, _, _, _⟩ := F
    have T1 : Bt mg := T2.toBt
    have hr1 : Room 1 (cxOf CX0 P w K mg base nLaw "law" (defScope sLaw) f (.ref c) A outer s H E).nox.A := hr.mono (by decide)
    have hr2 : Room 2 (cxOf CX0 P w K mg base nLaw "law" (defScope sLaw) f (.ref c) A outer s H E).nox.A := hr.mono (by decide)
    have hr3 : Room 3 (cxOf CX0 P w K mg base nLaw "law" (defScope sLaw) f (.ref c) A outer s H E).nox.A := hr.mono (by decide)
    have hr7 : Room 7 (cxOf CX0 P w K mg base nLaw "law" (defScope sLaw) f (.ref c) A outer s H E).nox.A := hr.mono (by decide)
    refine ⟨_, pss_cons (ps_set (i := 1) scLaw.nd rfl (Or.inl rfl) (pe_call GE hr1 rfl mgE kpE bE .nil pass0 (pa_cons (pv 0) pa_nil)))
      (pss_cons (ps_for PassesOwn.never rfl (pi_range1 rfl T1.range (pa_cons pe_int pa_nil)) (pg_name (i := 2) scLaw.nd rfl (Or.inl rfl))
        (pss_cons (ps_set (i := 3) scLaw.nd rfl (Or.inl rfl) (pe_call GW hr3 rfl mgW kpW bW .nil pass0 (pa_cons (pv 1) (pa_cons pe_int pa_nil))))
        (pss_cons (ps_set (i := 4) scLaw.nd rfl (Or.inl rfl) (pe_slice sl_list (pv 3) po_none (po_some (pe_op op_add pe_int (pe_call GD hr1 rfl mgD kpD bD .nil pass0 (pa_cons (pv 1) (pa_cons pe_int pa_nil)))))))
        (pss_cons (ps_set (i := 5) scLaw.nd rfl (Or.inl rfl) (pe_call GL hr3 rfl mgL kpL bL .nil pass0 (pa_cons (pv 1) (pa_cons (pv 4) (pa_cons pe_int (pa_cons (pe_lst (pa_cons pe_str (pa_cons pe_str (pa_cons pe_str pa_nil)))) pa_nil))))))
        (pss_cons (ps_asg (pe_tup (pa_cons (pe_call GM hr7 rfl mgM kpM bM .nil pass0 (pa_cons (pv 5) pa_nil)) (pa_cons (pe_call GP hr2 rfl mgP kpP bP .nil pass0 (pa_cons (pv 1) (pa_cons (pe_lst (pa_cons pe_str (pa_cons pe_str pa_nil))) pa_nil))) pa_nil)))
          (pg_tup (by rfl) (pgs_cons (pg_name (i := 6) scLaw.nd rfl (Or.inr rfl)) (pgs_cons (pg_name (i := 7) scLaw.nd rfl (Or.inl rfl)) pgs_nil))))
        (pss_cons (ps_set (i := 8) scLaw.nd rfl (Or.inr rfl) (pe_make MkM GK hr2 rfl MK.mgC bK .nil pass0 (pa_cons (pv 6) (pa_cons (pv 7) pa_nil))))
        (pss_cons (ps_set (i := 9) scLaw.nd rfl (Or.inl rfl) (pe_lst (pa_cons pe_str (pa_cons pe_str (pa_cons pe_str (pa_cons pe_str (pa_cons pe_str (pa_cons pe_str (pa_cons pe_non (pa_cons pe_int (pa_cons (pe_tup (pa_cons pe_str pa_nil)) (pa_cons pe_bl pa_nil))))))))))))
        (pss_cons (ps_set (i := 10) scLaw.nd rfl (Or.inl rfl) (pe_lst (pa_cons (pe_ix (r := rIxL K) ix_list (pv 3) pe_int (fun _ _ => rfl)) (pa_cons (pe_ix (r := rIxL K) ix_list (pv 3) pe_int (fun _ _ => rfl))
          (pa_cons (pe_op op_add_str (pe_ix (r := rIxL K) ix_list (pv 3) pe_int (fun _ _ => rfl)) pe_str) (pa_cons pe_str pa_nil))))))
        (pss_cons (ps_set (i := 11) scLaw.nd rfl (Or.inr rfl) (pe_call GP hr2 rfl mgP kpP bP .nil pass0 (pa_cons (pv 1) (pa_cons (pe_op (r := rCat) op_cat (pv 10) (pe_lst (pa_cons (pe_call GP hr2 rfl mgP kpP bP .nil pass0 (pa_cons (pv 1) (pa_cons (pv 4) pa_nil)))
          (pa_cons (pe_call GP hr2 rfl mgP kpP bP .nil pass0 (pa_cons (pv 1) (pa_cons (pv 9) pa_nil))) pa_nil)))) pa_nil))))
          htR)))))))))
      (pss_one (ps_ret pe_bl))), ?_⟩
    refine ⟨_, rfl, a, ns, rfl, ha, hns, fun d cc Hs hd0 hc0 hpen0 sm0 => ?_⟩
    refine ⟨4, rfl, by decide, by decide, ?_⟩
    refine for_range (lo := 0) (n := 4) (fun i σ H' => ∃ (v2 v3 v4 v5 v6 v7 v8 v9 v10 v11 v12 v13 : Option V) (n : Nat), σ = [some (.ref a), some (.ref d), v2, v3, v4, v5, v6, v7, v8, v9, v10, v11, v12, v13] ∧ PenAt H' d cc n ∧ n ≤ 1000 * i ∧ Tabs T H') ?_ ?_ ?_
    · exact ⟨_, _, _, _, _, _, _, _, _, _, _, _, 0, rfl, hpen0, Nat.le_refl _, hT.same sm0⟩
    · rintro i σ H1 hi ⟨v2, v3, v4, v5, v6, v7, v8, v9, v10, v11, v12, v13, n, rfl, hp1, hn, T1'⟩
      -- words
      refine ⟨_, rfl, d, cc, n, 8, rfl, hp1, by omega, by decide, fun wl w8 H2 hwl0 hwl2 hwn hnd hwd _ hp2 kp2 => ?_⟩
      have T2' := T1'.pen hp1 kp2
      -- deeds
      refine ⟨_, rfl, _, rfl, d, cc, _, 6, rfl, hp2, by omega, by decide, by decide, fun r0 H3 r00 r01 hp3 kp3 => ⟨_, _, rfl, rfl, ?_⟩⟩
      obtain ⟨M', eM, hM'⟩ : ∃ M' : Nat, 1 + r0 = (M' : Int) ∧ (1 ≤ M' ∧ M' ≤ 6) := ⟨(1 + r0).toNat, by omega, by omega, by omega⟩
      have hwl3 := kp3 _ _ hwl2 (pen_ne hp2 hwl2 (fun _ z => by cases z))
      have T3 := T2'.pen hp2 kp3
      refine ⟨(M' : Int), by rw [← eM], wl, _, rfl, SqL.of hwl3, fun dl hdl0 => ?_⟩
      rw [cut_to (by rw [List.length_map, hwn]; omega), ← List.map_take]
      have s4 := same_upd (o := .lst ((w8.take M').map V.str)) hdl0
      have hdl4 : upd H3 dl (.lst ((w8.take M').map V.str)) dl = some (.lst ((w8.take M').map V.str)) := upd_same
      have ndl := (hp3.ne hdl0).1
      generalize hws : w8.take M' = ws at s4 hdl4 ⊢
      have lws : ws.length = M' := by rw [← hws, List.length_take, hwn]; omega
      have gd : GoodD ws := ⟨by rw [← hws]; exact hnd.sublist (List.take_sublist _ _), fun z hz => hwd z (List.mem_of_mem_take (by rw [hws]; exact hz)), by omega, by omega⟩
      have hp4 := hp3.same s4
      have hwl4 := s4 _ _ hwl3
      have T4 := T3.same s4
      generalize upd H3 dl (.lst (ws.map V.str)) = H4 at s4 hdl4 hp4 hwl4 T4 ⊢
      -- plain
      refine ⟨_, rfl, _, rfl, Nat.le_of_ble_eq_true rfl, fun lm hlm => ?_⟩
      have s5 := same_upd (o := .lst [V.str "x", V.str "y/z", V.str "0"]) hlm
      have hlm5 : upd H4 lm (.lst [V.str "x", V.str "y/z", V.str "0"]) lm = some (.lst (menu.map V.str)) := upd_same
      have nlm := (hp4.ne hlm).1
      have hp5 := hp4.same s5
      have hdl5 := s5 _ _ hdl4
      have hwl5 := s5 _ _ hwl4
      have T5 := T4.same s5
      generalize upd H4 lm (.lst [V.str "x", V.str "y/z", V.str "0"]) = H5 at s5 hlm5 hp5 hdl5 hwl5 T5 ⊢
      refine ⟨d, cc, dl, lm, _, 4, ws, menu, rfl, hp5, by omega, SqL.of hdl5, ndl, by omega, SqL.of hlm5, nlm, by decide, by decide, by decide, by decide, fun p rs ss st H6 hp0 pl gp hp6 kp6 => ?_⟩
      have npd := (hp5.ne hp0).1
      have pt : Parts ws rs ss st := ⟨gd, ⟨gp.many.1, by have := gp.many.2; omega⟩, gp.row, ⟨gp.tl.1, fun z hz => menu_tl (gp.tl.2 z hz)⟩, gp.st⟩
      have T6 := T5.pen hp5 kp6
      have hdl6 := kp6 _ _ hdl5 ndl
      have hwl6 := kp6 _ _ hwl5 (pen_ne hp5 hwl5 (fun _ z => by cases z))
      -- made
      refine ⟨_, rfl, p, ws, rs, ss, st, rfl, pl, pt, fun x H7 hx0 mac s7 => ?_⟩
      have m7 : Mp K C T H7 d cc _ wl dl p x w8 ws rs ss st := ⟨hp6.same s7, s7 _ _ hwl6, s7 _ _ hdl6, npd, pl.same s7, mac, T6.same s7⟩
      -- rule
      refine ⟨_, rfl, Nat.le_of_ble_eq_true rfl, fun lr hlr => ?_⟩
      have s8 := same_upd (o := .lst [V.str "kept", V.str "cleared"]) hlr
      have hlr8 : upd H7 lr (.lst [V.str "kept", V.str "cleared"]) lr = some (.lst (rules.map V.str)) := upd_same
      have nlr := (m7.pen.ne hlr).1
      have m8 := m7.same s8
      generalize upd H7 lr (.lst [V.str "kept", V.str "cleared"]) = H8 at s8 hlr8 m8 ⊢
      refine ⟨d, cc, lr, _, _, rfl, m8.pen, by omega, nlr, SqL.of hlr8, by decide, by decide, fun vr H9 hvr hp9 k9 => ?_⟩
      obtain ⟨ru, hru, rfl⟩ := List.mem_map.mp hvr
      have m9 := m8.kept k9 hp9
      refine ⟨Nat.le_of_ble_eq_true rfl, fun tp htp => ?_⟩
      have m10 := m9.same (same_upd (o := .tup [V.ref x, V.str ru]) htp)
      refine ⟨tp, _, rfl, SqT.of upd_same, rfl, _, _, rfl, _, _, rfl, rfl, ?_⟩
      generalize upd H9 tp (.tup [V.ref x, V.str ru]) = H10 at m10 ⊢
      -- mark
      refine ⟨_, rfl, _, rfl, ?_⟩
      (try delta tNil)
      intro mk dxm hmk0 hdxm ndxm
      have s10 : Same H10 (upd (upd H10 dxm (.own mk)) mk (.ins CM dxm [])) := fun b o e => by rw [upd_ne (ne_of_none e hmk0), upd_ne (ne_of_none e hdxm)]; exact e
      refine ⟨mk, dxm, x, ru, rfl, upd_same, hru, fun H11 hG kG => ⟨rfl, ?_⟩⟩
      have s11 : Same H10 H11 := fun b o e => kG b o (s10 _ _ e) (ne_of_none e hmk0)
      have hmk : H11 mk = some (.ins CM dxm (kf x ru)) := hG
      have m11 := m10.same s11
      -- odd
      refine ⟨Nat.le_of_ble_eq_true rfl, fun tt htt => ?_⟩
      have s12 := same_upd (o := .tup [V.str "a"]) htt
      have ett : upd H11 tt (.tup [V.str "a"]) tt = some (.tup [V.str "a"]) := upd_same
      have m12 := m11.same s12
      have hmk12 := s12 _ _ hmk
      generalize upd H11 tt (.tup [V.str "a"]) = H12 at s12 ett m12 hmk12 ⊢
      refine ⟨Nat.le_of_ble_eq_true rfl, fun od hod => ?_⟩
      have s13 := same_upd (o := .lst [V.str "", V.str "Up", V.str "a b", V.str "1a", V.str "abcdefghijklm", V.str "a-b", V.non, V.int 7, V.ref tt, V.bl true]) hod
      have eod : upd H12 od (.lst [V.str "", V.str "Up", V.str "a b", V.str "1a", V.str "abcdefghijklm", V.str "a-b", V.non, V.int 7, V.ref tt, V.bl true]) od = some (.lst (odds tt)) := upd_same
      have m13 := m12.same s13
      have hmk13 := s13 _ _ hmk12
      have ett13 := s13 _ _ ett
      generalize upd H12 od (.lst [V.str "", V.str "Up", V.str "a b", V.str "1a", V.str "abcdefghijklm", V.str "a-b", V.non, V.int 7, V.ref tt, V.bl true]) = H13 at s13 eod m13 hmk13 ett13 ⊢
      -- fine
      have h7 : 7 < w8.length := by omega
      have e7 : (w8.map V.str)[7]? = some (V.str w8[7]) := by rw [List.getElem?_map, List.getElem?_eq_getElem h7]; rfl
      have e6 : (w8.map V.str)[6]? = some (V.str w8[6]) := by rw [List.getElem?_map, List.getElem?_eq_getElem (by omega)]; rfl
      have w7 := wd_len (hwd _ (List.getElem_mem h7))
      have w6 := wd_len (hwd _ (List.getElem_mem (show 6 < w8.length by omega)))
      generalize w8[7] = z7 at e7 w7
      generalize w8[6] = z6 at e6 w6
      have hwl13 := SqL.of (K := K) m13.hwl
      have zl : (z6 ++ ("z" : Str)).length ≤ 13 := by
        have h1 : ("z" : Str).length = 1 := by decide +kernel
        rw [len_app, h1]; omega
      refine ⟨_, rfl, wl, _, 7, _, rfl, rfl, hwl13, atI_nat (j := 7) e7, ?_⟩
      refine ⟨_, rfl, wl, _, 7, _, rfl, rfl, hwl13, atI_nat (j := 7) e7, ?_⟩
      refine ⟨_, rfl, wl, _, 6, _, rfl, rfl, hwl13, atI_nat (j := 6) e6, ?_⟩
      refine ⟨_, _, rfl, rfl, ?_, Nat.le_of_ble_eq_true rfl, fun fi hfi => ?_⟩
      · have h1 : ("z" : Str).length = 1 := by decide +kernel
        rw [h1]; exact Nat.le_trans (by omega : _ ≤ 13) (by decide)
      have s14 := same_upd (o := .lst [V.str z7, V.str z7, V.str (z6 ++ "z"), V.str "looknine"]) hfi
      have efi : upd H13 fi (.lst [V.str z7, V.str z7, V.str (z6 ++ "z"), V.str "looknine"]) fi = some (.lst [V.str z7, V.str z7, V.str (z6 ++ "z"), V.str "looknine"]) := upd_same
      have m14 := m13.same s14
      have hmk14 := s14 _ _ hmk13
      have ett14 := s14 _ _ ett13
      have eod14 := s14 _ _ eod
      generalize upd H13 fi (.lst [V.str z7, V.str z7, V.str (z6 ++ "z"), V.str "looknine"]) = H14 at efi m14 hmk14 ett14 eod14 ⊢
      -- word
      refine ⟨_, rfl, _, rfl, _, rfl, _, rfl, d, cc, dl, _, ws.map V.str, rfl, m14.pen, by omega, ndl, SqL.of m14.hdl, by rw [List.length_map]; omega, by rw [List.length_map]; omega, fun va H15 hva hp15 k15 => ?_⟩
      have nep : ∀ {a : Addr} {u : HO}, H14 a = some u → (∀ kv, u ≠ .dK kv) → a ≠ d := fun e m => pen_ne m14.pen e m
      have m15 := m14.kept k15 hp15
      have nmk := nep hmk14 (fun _ z => by cases z)
      have ntt := nep ett14 (fun _ z => by cases z)
      have nod := nep eod14 (fun _ z => by cases z)
      have nfi := nep efi (fun _ z => by cases z)
      refine ⟨_, rfl, _, rfl, d, cc, od, _, odds tt, rfl, m15.pen, by omega, nod, SqL.of (k15 _ _ eod14 nod), (by show 0 < 10; decide), (by show 10 < 1073741824; decide), fun vb H16 hvb hp16 k16 => ?_⟩
      have m16 := m15.kept k16 hp16
      have k1416 := k15.trans k16
      refine ⟨Nat.le_of_ble_eq_true rfl, fun il hil => ?_⟩
      have s17 := same_upd (o := .lst [va, vb]) hil
      refine ⟨fi, il, _, _, rfl, rfl, s17 _ _ (k1416 _ _ efi nfi), upd_same, Nat.le_of_ble_eq_true rfl, fun cl hcl => ?_⟩
      have s18 := s17.trans (same_upd (o := .lst ([V.str z7, V.str z7, V.str (z6 ++ "z"), V.str "looknine"] ++ [va, vb])) hcl)
      have ecl : upd (upd H16 il (.lst [va, vb])) cl (.lst ([V.str z7, V.str z7, V.str (z6 ++ "z"), V.str "looknine"] ++ [va, vb])) cl = some (.lst ([V.str z7, V.str z7, V.str (z6 ++ "z"), V.str "looknine"] ++ [va, vb])) := upd_same
      have ncl := ((m16.same s17).pen.ne hcl).1
      have m18 := m16.same s18
      have hmk18 := s18 _ _ (k1416 _ _ hmk14 nmk)
      have ett18 := s18 _ _ (k1416 _ _ ett14 ntt)
      generalize upd (upd H16 il (.lst [va, vb])) cl (.lst ([V.str z7, V.str z7, V.str (z6 ++ "z"), V.str "looknine"] ++ [va, vb])) = H18 at ecl m18 hmk18 ett18 ⊢
      refine ⟨d, cc, cl, _, _, rfl, m18.pen, by omega, ncl, SqL.of ecl, (by show 0 < 6; decide), (by show 6 < 1073741824; decide), fun v H19 hv hp19 k19 => ?_⟩
      have m19 := m18.kept k19 hp19
      have hmk19 := k19 _ _ hmk18 nmk
      have ett19 := k19 _ _ ett18 ntt
      have thv : ∃ ty, Th K H19 v ty := by
        rcases List.mem_append.mp hv with h | h
        · simp only [List.mem_cons, List.not_mem_nil, or_false] at h
          rcases h with rfl | rfl | rfl | rfl
          · exact ⟨_, .str _ (by omega)⟩
          · exact ⟨_, .str _ (by omega)⟩
          · exact ⟨_, .str _ (by omega)⟩
          · exact ⟨_, .str _ (by decide +kernel)⟩
        · simp only [List.mem_cons, List.not_mem_nil, or_false] at h
          rcases h with rfl | rfl
          · obtain ⟨z, hz, rfl⟩ := List.mem_map.mp hva
            exact ⟨_, .str _ (by have := wd_len (gd.wd z hz); omega)⟩
          · exact odd_th hvb ett19
      have mn : Mn K C CM T H19 d cc _ dl p x mk v ws rs ss st ru := ⟨m19.pen, m19.hdl, m19.pl, m19.mac, ⟨_, hmk19⟩, thv, m19.tab⟩
      refine hqR _ H19 _ _ _ _ _ _ _ v d cc dl p x mk _ ws rs ss st ru mn pt hru fun w12 w13 H20 p20 T20 => ?_
      exact ⟨_, _, _, _, _, _, _, _, _, _, _, _, _, rfl, p20, by omega, T20⟩
    · rintro σ H1 _
      exact k H1
end
end K1
set_option Elab.async false
set_option linter.all false
set_option maxRecDepth 100000
/-! what isinstance says of a caught error, from the classes' facts -/
namespace K1
open PySem L2
theorem kit_own {K : PySem.W.Frag} {S N : Addr} (h2 : PySem.W.isClsIn K N = true) (h3 : PySem.W.typeIn K (.ref N) = some (.type "type")) (h4 : PySem.W.subIn K (.ref S) (.ref N) = some true) : PySem.W.kitOne K (.ref S) (.ref N) = some true := by
  have e2 : ((PySem.W.clsIn K N).isSome && PySem.W.typeIn K (.ref N) == some (.type "type")) = true := by
    have h2' : (PySem.W.clsIn K N).isSome = true := h2
    rw [h2', h3] <;> rfl
  show (if (Value.ref S == Value.ref N) = true then some true else (if ((PySem.W.clsIn K N).isSome && PySem.W.typeIn K (.ref N) == some (.type "type")) = true then PySem.W.subIn K (.ref S) (.ref N) else none)) = some true
  split
  · rfl
  · first | exact h4 | (rw [if_pos e2]; exact h4)
theorem kit_blt {K : PySem.W.Frag} {S : Addr} {T : String} (h : PySem.W.kitMeta T = true) (h4 : PySem.W.subIn K (.ref S) (.type T) = some true) : PySem.W.kitOne K (.ref S) (.type T) = some true := by
  show (if (Value.ref S == Value.type T) = true then some true else (if PySem.W.kitMeta T = true then PySem.W.subIn K (.ref S) (.type T) else none)) = some true
  split
  · rfl
  · first | exact h4 | (rw [if_pos h]; exact h4)
end K1
set_option Elab.async false
set_option linter.all false
set_option maxRecDepth 100000
namespace K1
open PySem PyProof.Rows L2 LamX
set_option maxHeartbeats 0 in
theorem all_mk {l : PySem.W.OpenLaw} {q : Program} {w : World} {K : PySem.W.Frag} {h : Heap} {mg : Str → Option Value}
    {E0 f1 f2 f3 f4 f5 f6 f7 f8 f9 f10 f11 f12 f13 f14 cc14 pt14 f15 f16 f17 f18 f19 f20 f21 f22 f23 f24 f25 f26 f27 C f28 T28 f29 CM f30 ED ND f31 ET NT f32 pR fa : Addr}
    {od1 an1 od2 an2 od3 an3 od4 an4 od5 an5 od6 an6 od7 an7 od8 an8 od9 an9 od10 an10 od11 an11 od12 an12 od13 an13 dd14c od14 an14 od15 an15 od16 an16 od17 an17 od18 an18 od19 an19 od20 an20 od21 an21 od22 an22 od23 an23 od24 an24 od25 an25 od26 an26 od27 an27 odT28 od28 an28 od29 an29 od30 an30 ddD od31 an31 ddT od32 an32 : Option Addr}
    {sl1 sl2 sl3 sl4 sl5 sl6 sl7 sl8 sl9 sl10 sl11 sl12 sl13 slc14 sl14 sl15 sl16 sl17 sl18 sl19 sl20 sl21 sl22 sl23 sl24 sl25 sl26 sl27 slT28 sl28 sl29 sl30 sl31 sl32 : Array (Option Value)}
    {oc1 kV1 dc1 pm1 ct1 cd1 oc2 kV2 dc2 pm2 ct2 cd2 oc3 kV3 dc3 pm3 ct3 cd3 oc4 kV4 dc4 pm4 ct4 cd4 oc5 kV5 dc5 pm5 ct5 cd5 oc6 kV6 dc6 pm6 ct6 cd6 oc7 kV7 dc7 pm7 ct7 cd7 oc8 kV8 dc8 pm8 ct8 cd8 oc9 kV9 dc9 pm9 ct9 cd9 oc10 kV10 dc10 pm10 ct10 cd10 oc11 kV11 dc11 pm11 ct11 cd11 oc12 kV12 dc12 pm12 ct12 cd12 oc13 kV13 dc13 pm13 ct13 cd13 ec14 oc14 kV14 dc14 pm14 ct14 oc15 kV15 dc15 pm15 ct15 cd15 oc16 kV16 dc16 pm16 ct16 cd16 oc17 kV17 dc17 pm17 ct17 cd17 oc18 kV18 dc18 pm18 ct18 cd18 oc19 kV19 dc19 pm19 ct19 cd19 oc20 kV20 dc20 pm20 ct20 cd20 oc21 kV21 dc21 pm21 ct21 cd21 oc22 kV22 dc22 pm22 ct22 cd22 oc23 kV23 dc23 pm23 ct23 cd23 oc24 kV24 dc24 pm24 ct24 cd24 oc25 kV25 dc25 pm25 ct25 cd25 oc26 kV26 dc26 pm26 ct26 cd26 oc27 kV27 dc27 pm27 ct27 cd27 ocT28 oc28 kV28 dc28 pm28 ct28 cd28 oc29 kV29 dc29 pm29 ct29 cd29 oc30 kV30 dc30 pm30 ct30 cd30 oc31 kV31 dc31 pm31 ct31 cd31 oc32 kV32 dc32 pm32 ct32 cd32 : Value}
    {m0D m1D m2D m3D m5D m0T m1T m2T m3T m5T : Option Value}
    {tc0 tc1 tc2 tc3 tc4 tc5 tc6 : Tok}
    {nT28 nqpR : Nat}
    {nmD qnD nmT qnT : Str}
    {bsD subD bsT subT : List Value}
    {snD snT : List Str}
    {abD abT : Bool}
    {colD colT : Option Bool}
    {vs14 iqpR : Array Value}
    {oqpR : Obj}
    (X : K.In h) (G : h.Ns mainGlobals mg) (hfa : mg "law" = some (.ref fa)) (O : OwnTabs q mg h)
    (a1 : PySem.W.nsIn K mainGlobals "_law_pen" = some (some (.ref f1)))
    (l1 : K.lookup f1 = some ⟨oc1, od1, .func (PySem.W.fnOf "_law_pen" "_law_pen" (defArgs sPen) (defBody sPen) (defScope sPen) .none kV1 dc1 pm1 an1 cd1 ct1), sl1⟩)
    (c1 : PySem.W.codeIn K (cd1) "_law_pen" = true)
    (k1 : PySem.W.keepIn K (.ref f1) = true)
    (a2 : PySem.W.nsIn K mainGlobals "_law_draw" = some (some (.ref f2)))
    (l2 : K.lookup f2 = some ⟨oc2, od2, .func (PySem.W.fnOf "_law_draw" "_law_draw" (defArgs sDraw) (defBody sDraw) (defScope sDraw) .none kV2 dc2 pm2 an2 cd2 ct2), sl2⟩)
    (c2 : PySem.W.codeIn K (cd2) "_law_draw" = true)
    (k2 : PySem.W.keepIn K (.ref f2) = true)
    (a3 : PySem.W.nsIn K mainGlobals "_law_pick" = some (some (.ref f3)))
    (l3 : K.lookup f3 = some ⟨oc3, od3, .func (PySem.W.fnOf "_law_pick" "_law_pick" (defArgs sPick) (defBody sPick) (defScope sPick) .none kV3 dc3 pm3 an3 cd3 ct3), sl3⟩)
    (c3 : PySem.W.codeIn K (cd3) "_law_pick" = true)
    (k3 : PySem.W.keepIn K (.ref f3) = true)
    (a4 : PySem.W.nsIn K mainGlobals "_law_words" = some (some (.ref f4)))
    (l4 : K.lookup f4 = some ⟨oc4, od4, .func (PySem.W.fnOf "_law_words" "_law_words" (defArgs sWords) (defBody sWords) (defScope sWords) .none kV4 dc4 pm4 an4 cd4 ct4), sl4⟩)
    (c4 : PySem.W.codeIn K (cd4) "_law_words" = true)
    (k4 : PySem.W.keepIn K (.ref f4) = true)
    (a5 : PySem.W.nsIn K mainGlobals "_law_plain" = some (some (.ref f5)))
    (l5 : K.lookup f5 = some ⟨oc5, od5, .func (PySem.W.fnOf "_law_plain" "_law_plain" (defArgs sPlain) (defBody sPlain) (defScope sPlain) .none kV5 dc5 pm5 an5 cd5 ct5), sl5⟩)
    (c5 : PySem.W.codeIn K (cd5) "_law_plain" = true)
    (k5 : PySem.W.keepIn K (.ref f5) = true)
    (a6 : PySem.W.nsIn K mainGlobals "_law_made" = some (some (.ref f6)))
    (l6 : K.lookup f6 = some ⟨oc6, od6, .func (PySem.W.fnOf "_law_made" "_law_made" (defArgs sMade) (defBody sMade) (defScope sMade) .none kV6 dc6 pm6 an6 cd6 ct6), sl6⟩)
    (c6 : PySem.W.codeIn K (cd6) "_law_made" = true)
    (k6 : PySem.W.keepIn K (.ref f6) = true)
    (a7 : PySem.W.nsIn K mainGlobals "_law_is_machine" = some (some (.ref f7)))
    (l7 : K.lookup f7 = some ⟨oc7, od7, .func (PySem.W.fnOf "_law_is_machine" "_law_is_machine" (defArgs sIsM) (defBody sIsM) (defScope sIsM) .none kV7 dc7 pm7 an7 cd7 ct7), sl7⟩)
    (c7 : PySem.W.codeIn K (cd7) "_law_is_machine" = true)
    (k7 : PySem.W.keepIn K (.ref f7) = true)
    (a8 : PySem.W.nsIn K mainGlobals "_law_more" = some (some (.ref f8)))
    (l8 : K.lookup f8 = some ⟨oc8, od8, .func (PySem.W.fnOf "_law_more" "_law_more" (defArgs sMore) (defBody sMore) (defScope sMore) .none kV8 dc8 pm8 an8 cd8 ct8), sl8⟩)
    (c8 : PySem.W.codeIn K (cd8) "_law_more" = true)
    (k8 : PySem.W.keepIn K (.ref f8) = true)
    (a9 : PySem.W.nsIn K mainGlobals "_law_more_idle" = some (some (.ref f9)))
    (l9 : K.lookup f9 = some ⟨oc9, od9, .func (PySem.W.fnOf "_law_more_idle" "_law_more_idle" (defArgs sMoreI) (defBody sMoreI) (defScope sMoreI) .none kV9 dc9 pm9 an9 cd9 ct9), sl9⟩)
    (c9 : PySem.W.codeIn K (cd9) "_law_more_idle" = true)
    (k9 : PySem.W.keepIn K (.ref f9) = true)
    (a10 : PySem.W.nsIn K mainGlobals "_law_more_exposed" = some (some (.ref f10)))
    (l10 : K.lookup f10 = some ⟨oc10, od10, .func (PySem.W.fnOf "_law_more_exposed" "_law_more_exposed" (defArgs sMoreE) (defBody sMoreE) (defScope sMoreE) .none kV10 dc10 pm10 an10 cd10 ct10), sl10⟩)
    (c10 : PySem.W.codeIn K (cd10) "_law_more_exposed" = true)
    (k10 : PySem.W.keepIn K (.ref f10) = true)
    (a11 : PySem.W.nsIn K mainGlobals "_law_good_word" = some (some (.ref f11)))
    (l11 : K.lookup f11 = some ⟨oc11, od11, .func (PySem.W.fnOf "_law_good_word" "_law_good_word" (defArgs sGoodW) (defBody sGoodW) (defScope sGoodW) .none kV11 dc11 pm11 an11 cd11 ct11), sl11⟩)
    (c11 : PySem.W.codeIn K (cd11) "_law_good_word" = true)
    (k11 : PySem.W.keepIn K (.ref f11) = true)
    (a12 : PySem.W.nsIn K mainGlobals "_law_met" = some (some (.ref f12)))
    (l12 : K.lookup f12 = some ⟨oc12, od12, .func (PySem.W.fnOf "_law_met" "_law_met" (defArgs sMet) (defBody sMet) (defScope sMet) .none kV12 dc12 pm12 an12 cd12 ct12), sl12⟩)
    (c12 : PySem.W.codeIn K (cd12) "_law_met" = true)
    (k12 : PySem.W.keepIn K (.ref f12) = true)
    (a13 : PySem.W.nsIn K mainGlobals "_law_right" = some (some (.ref f13)))
    (l13 : K.lookup f13 = some ⟨oc13, od13, .func (PySem.W.fnOf "_law_right" "_law_right" (defArgs sRight) (defBody sRight) (defScope sRight) .none kV13 dc13 pm13 an13 cd13 ct13), sl13⟩)
    (c13 : PySem.W.codeIn K (cd13) "_law_right" = true)
    (k13 : PySem.W.keepIn K (.ref f13) = true)
    (a14 : PySem.W.nsIn K mainGlobals "law" = some (some (.ref f14)))
    (l14 : K.lookup f14 = some ⟨oc14, od14, .func (PySem.W.fnOf "law" "law" (defArgs sLaw) (defBody sLaw) (defScope sLaw) .none kV14 dc14 pm14 an14 (.ref cc14) ct14), sl14⟩)
    (c14 : PySem.W.codeIn K ((.ref cc14)) "law" = true)
    (k14 : PySem.W.keepIn K (.ref f14) = true)
    (lc14 : K.lookup cc14 = some ⟨ec14, dd14c, .fields vs14, slc14⟩)
    (h14 : vs14[11]? = some (.ref pt14))
    (np14 : K.lookup pt14 = none)
    (mr14 : ((recsOf q).any fun e => e.name == ("law" : Str)) = true)
    (a15 : PySem.W.nsIn K mainGlobals "is_integer" = some (some (.ref f15)))
    (l15 : K.lookup f15 = some ⟨oc15, od15, .func (PySem.W.fnOf "is_integer" "is_integer" (defArgs sIsInt) (defBody sIsInt) (defScope sIsInt) .none kV15 dc15 pm15 an15 cd15 ct15), sl15⟩)
    (c15 : PySem.W.codeIn K (cd15) "is_integer" = true)
    (k15 : PySem.W.keepIn K (.ref f15) = true)
    (a16 : PySem.W.nsIn K mainGlobals "is_index" = some (some (.ref f16)))
    (l16 : K.lookup f16 = some ⟨oc16, od16, .func (PySem.W.fnOf "is_index" "is_index" (defArgs sIsIndex) (defBody sIsIndex) (defScope sIsIndex) .none kV16 dc16 pm16 an16 cd16 ct16), sl16⟩)
    (c16 : PySem.W.codeIn K (cd16) "is_index" = true)
    (k16 : PySem.W.keepIn K (.ref f16) = true)
    (a17 : PySem.W.nsIn K mainGlobals "is_word" = some (some (.ref f17)))
    (l17 : K.lookup f17 = some ⟨oc17, od17, .func (PySem.W.fnOf "is_word" "is_word" (defArgs sIsWord) (defBody sIsWord) (defScope sIsWord) .none kV17 dc17 pm17 an17 cd17 ct17), sl17⟩)
    (c17 : PySem.W.codeIn K (cd17) "is_word" = true)
    (k17 : PySem.W.keepIn K (.ref f17) = true)
    (a18 : PySem.W.nsIn K mainGlobals "is_tell" = some (some (.ref f18)))
    (l18 : K.lookup f18 = some ⟨oc18, od18, .func (PySem.W.fnOf "is_tell" "is_tell" (defArgs sIsTell) (defBody sIsTell) (defScope sIsTell) .none kV18 dc18 pm18 an18 cd18 ct18), sl18⟩)
    (c18 : PySem.W.codeIn K (cd18) "is_tell" = true)
    (k18 : PySem.W.keepIn K (.ref f18) = true)
    (a19 : PySem.W.nsIn K mainGlobals "check_different" = some (some (.ref f19)))
    (l19 : K.lookup f19 = some ⟨oc19, od19, .func (PySem.W.fnOf "check_different" "check_different" (defArgs sCheckDiff) (defBody sCheckDiff) (defScope sCheckDiff) .none kV19 dc19 pm19 an19 cd19 ct19), sl19⟩)
    (c19 : PySem.W.codeIn K (cd19) "check_different" = true)
    (k19 : PySem.W.keepIn K (.ref f19) = true)
    (a20 : PySem.W.nsIn K mainGlobals "check_group" = some (some (.ref f20)))
    (l20 : K.lookup f20 = some ⟨oc20, od20, .func (PySem.W.fnOf "check_group" "check_group" (defArgs sCheckGroup) (defBody sCheckGroup) (defScope sCheckGroup) .none kV20 dc20 pm20 an20 cd20 ct20), sl20⟩)
    (c20 : PySem.W.codeIn K (cd20) "check_group" = true)
    (k20 : PySem.W.keepIn K (.ref f20) = true)
    (a21 : PySem.W.nsIn K mainGlobals "check_deeds" = some (some (.ref f21)))
    (l21 : K.lookup f21 = some ⟨oc21, od21, .func (PySem.W.fnOf "check_deeds" "check_deeds" (defArgs sCheckDeeds) (defBody sCheckDeeds) (defScope sCheckDeeds) .none kV21 dc21 pm21 an21 cd21 ct21), sl21⟩)
    (c21 : PySem.W.codeIn K (cd21) "check_deeds" = true)
    (k21 : PySem.W.keepIn K (.ref f21) = true)
    (a22 : PySem.W.nsIn K mainGlobals "check_rows" = some (some (.ref f22)))
    (l22 : K.lookup f22 = some ⟨oc22, od22, .func (PySem.W.fnOf "check_rows" "check_rows" (defArgs sCheckRows) (defBody sCheckRows) (defScope sCheckRows) .none kV22 dc22 pm22 an22 cd22 ct22), sl22⟩)
    (c22 : PySem.W.codeIn K (cd22) "check_rows" = true)
    (k22 : PySem.W.keepIn K (.ref f22) = true)
    (a23 : PySem.W.nsIn K mainGlobals "check_tells" = some (some (.ref f23)))
    (l23 : K.lookup f23 = some ⟨oc23, od23, .func (PySem.W.fnOf "check_tells" "check_tells" (defArgs sCheckTells) (defBody sCheckTells) (defScope sCheckTells) .none kV23 dc23 pm23 an23 cd23 ct23), sl23⟩)
    (c23 : PySem.W.codeIn K (cd23) "check_tells" = true)
    (k23 : PySem.W.keepIn K (.ref f23) = true)
    (a24 : PySem.W.nsIn K mainGlobals "with_deed" = some (some (.ref f24)))
    (l24 : K.lookup f24 = some ⟨oc24, od24, .func (PySem.W.fnOf "with_deed" "with_deed" (defArgs sWith) (defBody sWith) (defScope sWith) .none kV24 dc24 pm24 an24 cd24 ct24), sl24⟩)
    (c24 : PySem.W.codeIn K (cd24) "with_deed" = true)
    (k24 : PySem.W.keepIn K (.ref f24) = true)
    (a25 : PySem.W.nsIn K mainGlobals "idle" = some (some (.ref f25)))
    (l25 : K.lookup f25 = some ⟨oc25, od25, .func (PySem.W.fnOf "idle" "idle" (defArgs sIdle) (defBody sIdle) (defScope sIdle) .none kV25 dc25 pm25 an25 cd25 ct25), sl25⟩)
    (c25 : PySem.W.codeIn K (cd25) "idle" = true)
    (k25 : PySem.W.keepIn K (.ref f25) = true)
    (a26 : PySem.W.nsIn K mainGlobals "hidden" = some (some (.ref f26)))
    (l26 : K.lookup f26 = some ⟨oc26, od26, .func (PySem.W.fnOf "hidden" "hidden" (defArgs sHidd) (defBody sHidd) (defScope sHidd) .none kV26 dc26 pm26 an26 cd26 ct26), sl26⟩)
    (c26 : PySem.W.codeIn K (cd26) "hidden" = true)
    (k26 : PySem.W.keepIn K (.ref f26) = true)
    (a27 : PySem.W.nsIn K mainGlobals "exposed" = some (some (.ref f27)))
    (l27 : K.lookup f27 = some ⟨oc27, od27, .func (PySem.W.fnOf "exposed" "exposed" (defArgs sExpo) (defBody sExpo) (defScope sExpo) .none kV27 dc27 pm27 an27 cd27 ct27), sl27⟩)
    (c27 : PySem.W.codeIn K (cd27) "exposed" = true)
    (k27 : PySem.W.keepIn K (.ref f27) = true)
    (aC : PySem.W.nsIn K mainGlobals "Machine" = some (some (.ref C)))
    (pgC : PySem.W.plainGet K C Str.empty = true)
    (hdC : PySem.W.hasDictIn K C = true)
    (poC : PySem.W.plainOver K C = true)
    (saC : PySem.W.findIn K (.ref C) "__setattr__" = some (some (.builtin "object.__setattr__")))
    (mkC : PySem.W.makesIn K C = true)
    (kcC : PySem.W.keepIn K (.ref C) = true)
    (nC_deeds : PySem.W.findIn K (.ref C) "deeds" = some none)
    (nC_rows : PySem.W.findIn K (.ref C) "rows" = some none)
    (nC_tells : PySem.W.findIn K (.ref C) "tells" = some none)
    (nC_start : PySem.W.findIn K (.ref C) "start" = some none)
    (ca_C : PySem.W.findIn K (.ref C) "__class__" = some (some (.builtin "object.__class__")))
    (cs_C : PySem.W.specialIn K (.builtin "object.__class__") "__get__" = some (some (.builtin "getset_descriptor.__get__")))
    (ct_C : PySem.W.takesIn K (.builtin "object.__class__") = some true)
    (cm_C : PySem.W.mroIn K C (.type "object") = some true)
    (ci_C : PySem.W.isClsIn K C = true)
    (ty_C : PySem.W.typeIn K (.ref C) = some (.type "type"))
    (a28 : PySem.W.findIn K (.ref C) "__init__" = some (some (.ref f28)))
    (i28 : PySem.W.isFn K (.ref f28) = true)
    (l28 : K.lookup f28 = some ⟨oc28, od28, .func (PySem.W.fnOf "__init__" "Machine.__init__" (defArgs sMInit) (defBody sMInit) (defScope sMInit) (.ref T28) kV28 dc28 pm28 an28 cd28 ct28), sl28⟩)
    (c28 : PySem.W.codeIn K (cd28) "Machine.__init__" = true)
    (k28 : PySem.W.keepIn K (.ref f28) = true)
    (lT28 : K.lookup T28 = some ⟨ocT28, odT28, .seq #[.int 0 tc0] nT28, slT28⟩)
    (a29 : PySem.W.findIn K (.ref C) "__len__" = some (some (.ref f29)))
    (i29 : PySem.W.isFn K (.ref f29) = true)
    (l29 : K.lookup f29 = some ⟨oc29, od29, .func (PySem.W.fnOf "__len__" "Machine.__len__" (defArgs sMLen) (defBody sMLen) (defScope sMLen) .none kV29 dc29 pm29 an29 cd29 ct29), sl29⟩)
    (c29 : PySem.W.codeIn K (cd29) "Machine.__len__" = true)
    (k29 : PySem.W.keepIn K (.ref f29) = true)
    (aCM : PySem.W.nsIn K mainGlobals "Mark" = some (some (.ref CM)))
    (pgCM : PySem.W.plainGet K CM Str.empty = true)
    (hdCM : PySem.W.hasDictIn K CM = true)
    (poCM : PySem.W.plainOver K CM = true)
    (saCM : PySem.W.findIn K (.ref CM) "__setattr__" = some (some (.builtin "object.__setattr__")))
    (mkCM : PySem.W.makesIn K CM = true)
    (kcCM : PySem.W.keepIn K (.ref CM) = true)
    (nCM_machine : PySem.W.findIn K (.ref CM) "machine" = some none)
    (nCM_rule : PySem.W.findIn K (.ref CM) "rule" = some none)
    (ca_CM : PySem.W.findIn K (.ref CM) "__class__" = some (some (.builtin "object.__class__")))
    (cs_CM : PySem.W.specialIn K (.builtin "object.__class__") "__get__" = some (some (.builtin "getset_descriptor.__get__")))
    (ct_CM : PySem.W.takesIn K (.builtin "object.__class__") = some true)
    (cm_CM : PySem.W.mroIn K CM (.type "object") = some true)
    (ci_CM : PySem.W.isClsIn K CM = true)
    (ty_CM : PySem.W.typeIn K (.ref CM) = some (.type "type"))
    (a30 : PySem.W.findIn K (.ref CM) "__init__" = some (some (.ref f30)))
    (i30 : PySem.W.isFn K (.ref f30) = true)
    (l30 : K.lookup f30 = some ⟨oc30, od30, .func (PySem.W.fnOf "__init__" "Mark.__init__" (defArgs sKInit) (defBody sKInit) (defScope sKInit) .none kV30 dc30 pm30 an30 cd30 ct30), sl30⟩)
    (c30 : PySem.W.codeIn K (cd30) "Mark.__init__" = true)
    (k30 : PySem.W.keepIn K (.ref f30) = true)
    (a00 : PySem.W.nsIn K mainGlobals "LooksError" = some (some (.ref E0)))
    (aD : PySem.W.nsIn K mainGlobals "BadDeeds" = some (some (.ref ED)))
    (xD : K.lookup ED = some (excClassObj nmD qnD ED ND bsD [.ref E0, .type "ValueError", .type "Exception", .type "BaseException", .type "object"] true snD subD abD colD ddD m0D m1D m2D m3D m5D "ValueError.__new__"))
    (saD : PySem.W.findIn K (.ref ED) "__setattr__" = some (some (.builtin "object.__setattr__")))
    (gaD : PySem.W.findIn K (.ref ED) "__getattribute__" = some (some (.builtin "BaseException.__getattribute__")))
    (ggD : PySem.W.findIn K (.ref ED) "__getattr__" = some none)
    (eD : PySem.W.subIn K (.ref ED) (.type "BaseException") = some true)
    (tD : PySem.W.typeIn K (.ref ED) = some (.type "type"))
    (kkD : PySem.W.keepIn K (.ref ED) = true)
    (hD : PySem.W.hasDictIn K ED = true)
    (iD : PySem.W.isClsIn K ED = true)
    (noD_index : PySem.W.findIn K (.ref ED) "index" = some none)
    (a31 : PySem.W.findIn K (.ref ED) "__init__" = some (some (.ref f31)))
    (t31 : PySem.W.typeIn K (.ref f31) = some (.type "function"))
    (l31 : K.lookup f31 = some ⟨oc31, od31, .func (PySem.W.fnOf "__init__" "BadDeeds.__init__" (defArgs sBadDeeds) (defBody sBadDeeds) (defScope sBadDeeds) .none kV31 dc31 pm31 an31 cd31 ct31), sl31⟩)
    (c31 : PySem.W.codeIn K (cd31) "BadDeeds.__init__" = true)
    (k31 : PySem.W.keepIn K (.ref f31) = true)
    (aT : PySem.W.nsIn K mainGlobals "TooMany" = some (some (.ref ET)))
    (xT : K.lookup ET = some (excClassObj nmT qnT ET NT bsT [.ref E0, .type "ValueError", .type "Exception", .type "BaseException", .type "object"] true snT subT abT colT ddT m0T m1T m2T m3T m5T "ValueError.__new__"))
    (saT : PySem.W.findIn K (.ref ET) "__setattr__" = some (some (.builtin "object.__setattr__")))
    (gaT : PySem.W.findIn K (.ref ET) "__getattribute__" = some (some (.builtin "BaseException.__getattribute__")))
    (ggT : PySem.W.findIn K (.ref ET) "__getattr__" = some none)
    (eT : PySem.W.subIn K (.ref ET) (.type "BaseException") = some true)
    (tT : PySem.W.typeIn K (.ref ET) = some (.type "type"))
    (kkT : PySem.W.keepIn K (.ref ET) = true)
    (hT : PySem.W.hasDictIn K ET = true)
    (iT : PySem.W.isClsIn K ET = true)
    (noT_what : PySem.W.findIn K (.ref ET) "what" = some none)
    (noT_many : PySem.W.findIn K (.ref ET) "many" = some none)
    (noT_most : PySem.W.findIn K (.ref ET) "most" = some none)
    (a32 : PySem.W.findIn K (.ref ET) "__init__" = some (some (.ref f32)))
    (t32 : PySem.W.typeIn K (.ref f32) = some (.type "function"))
    (l32 : K.lookup f32 = some ⟨oc32, od32, .func (PySem.W.fnOf "__init__" "TooMany.__init__" (defArgs sTooMany) (defBody sTooMany) (defScope sTooMany) .none kV32 dc32 pm32 an32 cd32 ct32), sl32⟩)
    (c32 : PySem.W.codeIn K (cd32) "TooMany.__init__" = true)
    (k32 : PySem.W.keepIn K (.ref f32) = true)
    (ca_ED : PySem.W.findIn K (.ref ED) "__class__" = some (some (.builtin "object.__class__")))
    (cs_ED : PySem.W.specialIn K (.builtin "object.__class__") "__get__" = some (some (.builtin "getset_descriptor.__get__")))
    (ct_ED : PySem.W.takesIn K (.builtin "object.__class__") = some true)
    (cm_ED : PySem.W.mroIn K ED (.type "object") = some true)
    (ci_ED : PySem.W.isClsIn K ED = true)
    (ty_ED : PySem.W.typeIn K (.ref ED) = some (.type "type"))
    (ca_ET : PySem.W.findIn K (.ref ET) "__class__" = some (some (.builtin "object.__class__")))
    (cs_ET : PySem.W.specialIn K (.builtin "object.__class__") "__get__" = some (some (.builtin "getset_descriptor.__get__")))
    (ct_ET : PySem.W.takesIn K (.builtin "object.__class__") = some true)
    (cm_ET : PySem.W.mroIn K ET (.type "object") = some true)
    (ci_ET : PySem.W.isClsIn K ET = true)
    (ty_ET : PySem.W.typeIn K (.ref ET) = some (.type "type"))
    (i0 : PySem.W.isClsIn K E0 = true)
    (t0 : PySem.W.typeIn K (.ref E0) = some (.type "type"))
    (s0D : PySem.W.subIn K (.ref ED) (.ref E0) = some true)
    (s0T : PySem.W.subIn K (.ref ET) (.ref E0) = some true)
    (sV : PySem.W.subIn K (.ref ED) (.type "ValueError") = some true)
    (sDD : PySem.W.subIn K (.ref ED) (.ref ED) = some true)
    (sTD : PySem.W.subIn K (.ref ET) (.ref ED) = some false)
    (sTT : PySem.W.subIn K (.ref ET) (.ref ET) = some true)
    (co_LETTERS : PySem.W.nsIn K mainGlobals "LETTERS" = some (some (.str zLE tc1)))
    (co_DIGITS : PySem.W.nsIn K mainGlobals "DIGITS" = some (some (.str zDG tc2)))
    (co_LONGEST_WORD : PySem.W.nsIn K mainGlobals "LONGEST_WORD" = some (some (.int 12 tc3)))
    (co_LONGEST_TELL : PySem.W.nsIn K mainGlobals "LONGEST_TELL" = some (some (.int 60 tc4)))
    (co_MOST_DEEDS : PySem.W.nsIn K mainGlobals "MOST_DEEDS" = some (some (.int 6 tc5)))
    (co_MOST_STATES : PySem.W.nsIn K mainGlobals "MOST_STATES" = some (some (.int 60 tc6)))
    (aRU : PySem.W.nsIn K mainGlobals "RULES" = some (some (.ref pR)))
    (lqpR : K.lookup pR = some oqpR)
    (cqpR : oqpR.cls = .type "tuple")
    (dqpR : oqpR.data = .seq iqpR nqpR)
    (zqpR : iqpR.size ≤ sizeLine)
    (vqpR : Vals [.str "kept", .str "cleared"] iqpR.toList)
    (z_int : PySem.W.nsIn K mainGlobals "int" = some none)
    (z_len : PySem.W.nsIn K mainGlobals "len" = some none)
    (z_list : PySem.W.nsIn K mainGlobals "list" = some none)
    (z_range : PySem.W.nsIn K mainGlobals "range" = some none)
    (z_tuple : PySem.W.nsIn K mainGlobals "tuple" = some none)
    (z_isinstance : PySem.W.nsIn K mainGlobals "isinstance" = some none)
    (z_bool : PySem.W.nsIn K mainGlobals "bool" = some none)
    (z_str : PySem.W.nsIn K mainGlobals "str" = some none)
    (z_all : PySem.W.nsIn K mainGlobals "all" = some none)
    (z_enumerate : PySem.W.nsIn K mainGlobals "enumerate" = some none)
    (z_min : PySem.W.nsIn K mainGlobals "min" = some none)
    (z_zip : PySem.W.nsIn K mainGlobals "zip" = some none)
    (z_ValueError : PySem.W.nsIn K mainGlobals "ValueError" = some none) :
    LawAtS l w K L2.CX0 14 63 "_law_script" mg fa h := by
  have e := (PySem.W.mg_of X G a14).symm.trans hfa
  cases e
  have D1 : Df K mg "_law_pen" sPen ["_law_script"] f1 _ := ⟨fun_mk (st := sPen) l1 c1 k1, PySem.W.mg_of X G a1, (fun_mk (st := sPen) l1 c1 k1).binds (ps := ["_law_script"]) fun _ _ _ _ _ _ us hl => match us, hl with | [_], _ => rfl⟩
  have D2 : Df K mg "_law_draw" sDraw ["_law_pen_here", "_law_many"] f2 _ := ⟨fun_mk (st := sDraw) l2 c2 k2, PySem.W.mg_of X G a2, (fun_mk (st := sDraw) l2 c2 k2).binds (ps := ["_law_pen_here", "_law_many"]) fun _ _ _ _ _ _ us hl => match us, hl with | [_, _], _ => rfl⟩
  have D3 : Df K mg "_law_pick" sPick ["_law_pen_here", "_law_some"] f3 _ := ⟨fun_mk (st := sPick) l3 c3 k3, PySem.W.mg_of X G a3, (fun_mk (st := sPick) l3 c3 k3).binds (ps := ["_law_pen_here", "_law_some"]) fun _ _ _ _ _ _ us hl => match us, hl with | [_, _], _ => rfl⟩
  have D4 : Df K mg "_law_words" sWords ["_law_pen_here", "_law_many"] f4 _ := ⟨fun_mk (st := sWords) l4 c4 k4, PySem.W.mg_of X G a4, (fun_mk (st := sWords) l4 c4 k4).binds (ps := ["_law_pen_here", "_law_many"]) fun _ _ _ _ _ _ us hl => match us, hl with | [_, _], _ => rfl⟩
  have D5 : Df K mg "_law_plain" sPlain ["_law_pen_here", "_law_deeds", "_law_most", "_law_tells"] f5 _ := ⟨fun_mk (st := sPlain) l5 c5 k5, PySem.W.mg_of X G a5, (fun_mk (st := sPlain) l5 c5 k5).binds (ps := ["_law_pen_here", "_law_deeds", "_law_most", "_law_tells"]) fun _ _ _ _ _ _ us hl => match us, hl with | [_, _, _, _], _ => rfl⟩
  have D6 : Df K mg "_law_made" sMade ["_law_plain_here"] f6 _ := ⟨fun_mk (st := sMade) l6 c6 k6, PySem.W.mg_of X G a6, (fun_mk (st := sMade) l6 c6 k6).binds (ps := ["_law_plain_here"]) fun _ _ _ _ _ _ us hl => match us, hl with | [_], _ => rfl⟩
  have D7 : Df K mg "_law_is_machine" sIsM ["_law_machine", "_law_plain_here"] f7 _ := ⟨fun_mk (st := sIsM) l7 c7 k7, PySem.W.mg_of X G a7, (fun_mk (st := sIsM) l7 c7 k7).binds (ps := ["_law_machine", "_law_plain_here"]) fun _ _ _ _ _ _ us hl => match us, hl with | [_, _], _ => rfl⟩
  have D8 : Df K mg "_law_more" sMore ["_law_plain_here", "_law_word", "_law_to"] f8 _ := ⟨fun_mk (st := sMore) l8 c8 k8, PySem.W.mg_of X G a8, (fun_mk (st := sMore) l8 c8 k8).binds (ps := ["_law_plain_here", "_law_word", "_law_to"]) fun _ _ _ _ _ _ us hl => match us, hl with | [_, _, _], _ => rfl⟩
  have D9 : Df K mg "_law_more_idle" sMoreI ["_law_plain_here", "_law_word"] f9 _ := ⟨fun_mk (st := sMoreI) l9 c9 k9, PySem.W.mg_of X G a9, (fun_mk (st := sMoreI) l9 c9 k9).binds (ps := ["_law_plain_here", "_law_word"]) fun _ _ _ _ _ _ us hl => match us, hl with | [_, _], _ => rfl⟩
  have D10 : Df K mg "_law_more_exposed" sMoreE ["_law_pair", "_law_word"] f10 _ := ⟨fun_mk (st := sMoreE) l10 c10 k10, PySem.W.mg_of X G a10, (fun_mk (st := sMoreE) l10 c10 k10).binds (ps := ["_law_pair", "_law_word"]) fun _ _ _ _ _ _ us hl => match us, hl with | [_, _], _ => rfl⟩
  have D11 : Df K mg "_law_good_word" sGoodW ["_law_value"] f11 _ := ⟨fun_mk (st := sGoodW) l11 c11 k11, PySem.W.mg_of X G a11, (fun_mk (st := sGoodW) l11 c11 k11).binds (ps := ["_law_value"]) fun _ _ _ _ _ _ us hl => match us, hl with | [_], _ => rfl⟩
  have D12 : Df K mg "_law_met" sMet ["_law_call"] f12 _ := ⟨fun_mk (st := sMet) l12 c12 k12, PySem.W.mg_of X G a12, (fun_mk (st := sMet) l12 c12 k12).binds (ps := ["_law_call"]) fun _ _ _ _ _ _ us hl => match us, hl with | [_], _ => rfl⟩
  have D13 : Df K mg "_law_right" sRight ["_law_answer", "_law_deeds", "_law_word", "_law_plain_here", "_law_rule"] f13 _ := ⟨fun_mk (st := sRight) l13 c13 k13, PySem.W.mg_of X G a13, (fun_mk (st := sRight) l13 c13 k13).binds (ps := ["_law_answer", "_law_deeds", "_law_word", "_law_plain_here", "_law_rule"]) fun _ _ _ _ _ _ us hl => match us, hl with | [_, _, _, _, _], _ => rfl⟩
  have FC14 : FunC K "law" "law" sLaw f14 _ cc14 := ⟨⟨_, _, _, _, _, _, _, _, rfl, l14, c14⟩, k14⟩
  have TA14 := tab_at (q := q) X O mr14 (PySem.W.mg_of X G a14) l14 rfl lc14 h14
  have D14 : Df K mg "law" sLaw ["_law_script"] f14 _ := ⟨FC14.toFun, PySem.W.mg_of X G a14, FC14.toFun.binds (ps := ["_law_script"]) fun _ _ _ _ _ _ us hl => match us, hl with | [_], _ => rfl⟩
  have D15 : Df K mg "is_integer" sIsInt ["value"] f15 _ := ⟨fun_mk (st := sIsInt) l15 c15 k15, PySem.W.mg_of X G a15, (fun_mk (st := sIsInt) l15 c15 k15).binds (ps := ["value"]) fun _ _ _ _ _ _ us hl => match us, hl with | [_], _ => rfl⟩
  have D16 : Df K mg "is_index" sIsIndex ["value", "many"] f16 _ := ⟨fun_mk (st := sIsIndex) l16 c16 k16, PySem.W.mg_of X G a16, (fun_mk (st := sIsIndex) l16 c16 k16).binds (ps := ["value", "many"]) fun _ _ _ _ _ _ us hl => match us, hl with | [_, _], _ => rfl⟩
  have D17 : Df K mg "is_word" sIsWord ["value"] f17 _ := ⟨fun_mk (st := sIsWord) l17 c17 k17, PySem.W.mg_of X G a17, (fun_mk (st := sIsWord) l17 c17 k17).binds (ps := ["value"]) fun _ _ _ _ _ _ us hl => match us, hl with | [_], _ => rfl⟩
  have D18 : Df K mg "is_tell" sIsTell ["value"] f18 _ := ⟨fun_mk (st := sIsTell) l18 c18 k18, PySem.W.mg_of X G a18, (fun_mk (st := sIsTell) l18 c18 k18).binds (ps := ["value"]) fun _ _ _ _ _ _ us hl => match us, hl with | [_], _ => rfl⟩
  have D19 : Df K mg "check_different" sCheckDiff ["deeds"] f19 _ := ⟨fun_mk (st := sCheckDiff) l19 c19 k19, PySem.W.mg_of X G a19, (fun_mk (st := sCheckDiff) l19 c19 k19).binds (ps := ["deeds"]) fun _ _ _ _ _ _ us hl => match us, hl with | [_], _ => rfl⟩
  have D20 : Df K mg "check_group" sCheckGroup ["deeds"] f20 _ := ⟨fun_mk (st := sCheckGroup) l20 c20 k20, PySem.W.mg_of X G a20, (fun_mk (st := sCheckGroup) l20 c20 k20).binds (ps := ["deeds"]) fun _ _ _ _ _ _ us hl => match us, hl with | [_], _ => rfl⟩
  have D21 : Df K mg "check_deeds" sCheckDeeds ["deeds"] f21 _ := ⟨fun_mk (st := sCheckDeeds) l21 c21 k21, PySem.W.mg_of X G a21, (fun_mk (st := sCheckDeeds) l21 c21 k21).binds (ps := ["deeds"]) fun _ _ _ _ _ _ us hl => match us, hl with | [_], _ => rfl⟩
  have D22 : Df K mg "check_rows" sCheckRows ["rows", "many"] f22 _ := ⟨fun_mk (st := sCheckRows) l22 c22 k22, PySem.W.mg_of X G a22, (fun_mk (st := sCheckRows) l22 c22 k22).binds (ps := ["rows", "many"]) fun _ _ _ _ _ _ us hl => match us, hl with | [_, _], _ => rfl⟩
  have D23 : Df K mg "check_tells" sCheckTells ["tells", "many"] f23 _ := ⟨fun_mk (st := sCheckTells) l23 c23 k23, PySem.W.mg_of X G a23, (fun_mk (st := sCheckTells) l23 c23 k23).binds (ps := ["tells", "many"]) fun _ _ _ _ _ _ us hl => match us, hl with | [_, _], _ => rfl⟩
  have D24 : Df K mg "with_deed" sWith ["machine", "deed", "led"] f24 _ := ⟨fun_mk (st := sWith) l24 c24 k24, PySem.W.mg_of X G a24, (fun_mk (st := sWith) l24 c24 k24).binds (ps := ["machine", "deed", "led"]) fun _ _ _ _ _ _ us hl => match us, hl with | [_, _, _], _ => rfl⟩
  have D25 : Df K mg "idle" sIdle ["machine", "deed"] f25 _ := ⟨fun_mk (st := sIdle) l25 c25 k25, PySem.W.mg_of X G a25, (fun_mk (st := sIdle) l25 c25 k25).binds (ps := ["machine", "deed"]) fun _ _ _ _ _ _ us hl => match us, hl with | [_, _], _ => rfl⟩
  have D26 : Df K mg "hidden" sHidd ["mark", "deed"] f26 _ := ⟨fun_mk (st := sHidd) l26 c26 k26, PySem.W.mg_of X G a26, (fun_mk (st := sHidd) l26 c26 k26).binds (ps := ["mark", "deed"]) fun _ _ _ _ _ _ us hl => match us, hl with | [_, _], _ => rfl⟩
  have D27 : Df K mg "exposed" sExpo ["mark", "deed"] f27 _ := ⟨fun_mk (st := sExpo) l27 c27 k27, PySem.W.mg_of X G a27, (fun_mk (st := sExpo) l27 c27 k27).binds (ps := ["mark", "deed"]) fun _ _ _ _ _ _ us hl => match us, hl with | [_, _], _ => rfl⟩
  have F28 : FunD K "__init__" "Machine.__init__" (defArgs sMInit) (defBody sMInit) (defScope sMInit) [.int 0] [] f28 _ := ⟨⟨_, _, _, _, _, _, _, _, _, _, rfl, l28, c28, .inr ⟨by simp, T28, _, [.int 0 tc0], nT28, rfl, lT28, rfl, (.cons ⟨_, rfl⟩ .nil)⟩, .inl rfl⟩, k28⟩
  have b28 : Binds K (PySem.W.fnOf "__init__" "Machine.__init__" (defArgs sMInit) (defBody sMInit) (defScope sMInit) (.ref T28) kV28 dc28 pm28 an28 cd28 ct28) ["self", "deeds", "rows", "tells", "start"] [] := by
    obtain ⟨ds, v, b⟩ := F28.binds1 (ps := ["self", "deeds", "rows", "tells", "start"]) 5 1 (by simp) rfl fun T kV doc pm an cdv ct us its hu hi => match us, hu, its, hi with | [_, _, _, _, _], _, [_], _ => ⟨_, rfl, rfl⟩
    cases v
    exact b
  obtain ⟨ds28, vd28, b028⟩ := F28.binds1 (ps := ["self", "deeds", "rows", "tells", "start"]) 4 0 (by simp) rfl fun T kV doc pm an cdv ct us its hu hi => match us, hu, its, hi with | [_, _, _, _], _, [_], _ => ⟨_, rfl, rfl⟩
  have Mk28 : Mk K C f28 := ⟨mkC, a28, i28, kcC⟩
  have F29 := fun_mk (st := sMLen) l29 c29 k29
  have b29 : Binds K _ ["self"] [] := F29.binds (ps := ["self"]) fun _ _ _ _ _ _ us hl => match us, hl with | [_], _ => rfl
  have F30 := fun_mk (st := sKInit) l30 c30 k30
  have b30 : Binds K _ ["self", "machine", "rule"] [] := F30.binds (ps := ["self", "machine", "rule"]) fun _ _ _ _ _ _ us hl => match us, hl with | [_, _, _], _ => rfl
  have Mk30 : Mk K CM f30 := ⟨mkCM, a30, i30, kcCM⟩
  have FED := fun_mk (st := sBadDeeds) l31 c31 k31
  have OD : OBadDeeds K mg ED f31 _ := ⟨⟨⟨nmD, qnD, ND, bsD, _, snD, subD, abD, colD, ddD, m0D, m1D, m2D, m3D, m5D, xD, rfl⟩, saD, eD, tD, kkD⟩, ⟨gaD, ggD, eD, hD⟩, PySem.W.mg_of X G aD, a31, t31, (fun f hf => by
      simp only [List.mem_cons, List.not_mem_nil, or_false] at hf
      rcases hf with rfl
      · exact noD_index), FED, FED.binds (ps := ["self", "index"]) fun _ _ _ _ _ _ us hl => match us, hl with | [_, _], _ => rfl⟩
  have FET := fun_mk (st := sTooMany) l32 c32 k32
  have OT : OTooMany K mg ET f32 _ := ⟨⟨⟨nmT, qnT, NT, bsT, _, snT, subT, abT, colT, ddT, m0T, m1T, m2T, m3T, m5T, xT, rfl⟩, saT, eT, tT, kkT⟩, ⟨gaT, ggT, eT, hT⟩, PySem.W.mg_of X G aT, a32, t32, (fun f hf => by
      simp only [List.mem_cons, List.not_mem_nil, or_false] at hf
      rcases hf with rfl | rfl | rfl
      · exact noT_what
      · exact noT_many
      · exact noT_most), FET, FET.binds (ps := ["self", "what", "many", "most"]) fun _ _ _ _ _ _ us hl => match us, hl with | [_, _, _, _], _ => rfl⟩
  refine ⟨PySem.W.fnOf "law" "law" (defArgs sLaw) (defBody sLaw) (defScope sLaw) .none kV14 dc14 pm14 an14 (.ref cc14) ct14, [(cc14, pt14)], spLaw K [(pt14, qLaw)], ?_, ?_, ?_, fun s v => .of_eq rfl, ?_, fun base _ _ TB => ?_⟩
  · intro p hp
    simp only [List.mem_cons, List.not_mem_nil, or_false] at hp
    rcases hp with rfl
    · exact TA14.2
  · intro p hp
    simp only [List.mem_cons, List.not_mem_nil, or_false] at hp
    rcases hp with rfl
    · exact np14
  · intro p hp
    simp only [List.mem_cons, List.not_mem_nil, or_false] at hp
    rcases hp with rfl
    · exact TA14.1
  · intro H a ns hns _ hT hS
    refine ⟨a, ns, rfl, hS, hns, fun p hp => ?_, fun _ => rfl⟩
    simp only [List.mem_cons, List.not_mem_nil, or_false] at hp
    rcases hp with rfl
    · exact TabS.nil (hT (cc14, pt14) (by simp))
  · have BT : Bt2 mg := ⟨⟨PySem.W.mg_none_of X G z_int, PySem.W.mg_none_of X G z_len, PySem.W.mg_none_of X G z_list, PySem.W.mg_none_of X G z_range, PySem.W.mg_none_of X G z_tuple⟩, PySem.W.mg_none_of X G z_isinstance, PySem.W.mg_none_of X G z_bool, PySem.W.mg_none_of X G z_str, PySem.W.mg_none_of X G z_all, PySem.W.mg_none_of X G z_enumerate, PySem.W.mg_none_of X G z_min, ⟨_, PySem.W.mg_of X G co_LETTERS⟩, ⟨_, PySem.W.mg_of X G co_DIGITS⟩, ⟨_, PySem.W.mg_of X G co_LONGEST_WORD⟩, ⟨_, PySem.W.mg_of X G co_LONGEST_TELL⟩, ⟨_, PySem.W.mg_of X G co_MOST_DEEDS⟩, ⟨_, PySem.W.mg_of X G co_MOST_STATES⟩⟩
    have B1 : Bt mg := BT.toBt
    have BK : Bk K mg := ⟨⟨pR, PySem.W.mg_of X G aRU, (fun H => .inr ⟨_, _, _, lqpR, cqpR, dqpR, zqpR, vqpR⟩)⟩⟩
    have MT : Tm K mg C := ⟨⟨pgC, hdC, poC, saC⟩, nC_deeds, nC_rows, nC_tells, nC_start, PySem.W.mg_of X G aC⟩
    have MK : Tk K mg CM := ⟨⟨pgCM, hdCM, poCM, saCM⟩, nCM_machine, nCM_rule, PySem.W.mg_of X G aCM⟩
    have I1 : Ti2 K C := ⟨⟨ca_C, cs_C, ct_C, cm_C⟩, ci_C, ty_C⟩
    have I2 : Ti2 K CM := ⟨⟨ca_CM, cs_CM, ct_CM, cm_CM⟩, ci_CM, ty_CM⟩
    have EMM : Em K ED ET E0 := ⟨exm_of eD iD tD sDD, exm_of eD iD tD sTD, exm_of eT iT tT sTT, ⟨⟨ca_ED, cs_ED, ct_ED, cm_ED⟩, ci_ED, ty_ED⟩, ⟨⟨ca_ET, cs_ET, ct_ET, cm_ET⟩, ci_ET, ty_ET⟩, kit_own i0 t0 s0D, kit_blt (by decide +kernel) sV, kit_own i0 t0 s0T⟩
    have GI : FnOk l.prog w K mg base L2.CX0 5 f28 _ pInit (spMInit K C) := ok_minit F28 MT BT D21 D20 D19 D17 D22 D16 D15 D23 D18
    have GW : FnOk l.prog w K mg base (L2.CX l.prog w) 6 f28 _ pInit (spMW K C ED ET) := g_minitW F28 MT BT D21 D20 D19 D17 D22 D16 D15 D23 D18 OD OT
    have GWD : FnOk l.prog w K mg base (L2.CX l.prog w) 8 _ _ pWith (spWith K C ED ET) := g_with D24 MT BT (PySem.W.mg_none_of X G z_zip) Mk28 GW b28
    have GID : FnOk l.prog w K mg base (L2.CX l.prog w) 9 _ _ pId (spIdle K C ED ET) := g_idle D25 D24 GWD MT BT F29 b29 ⟨a29, i29⟩
    have GK : FnOk l.prog w K mg base L2.CX0 1 f30 _ pKI (spKInit K CM) := ok_kinit F30 MK BK
    have GHI : FnOk l.prog w K mg base (L2.CX l.prog w) 10 _ _ pHi (spHidd K C CM ED ET) := g_hidd D26 D25 GID MK BK Mk30 F30 b30
    have GEX : FnOk l.prog w K mg base (L2.CX l.prog w) 11 _ _ pHi (spExpo K C CM ED ET) := g_expo D27 D26 GHI D24 GWD MT MK BK Mk30 F30 b30 BT F29 b29 ⟨a29, i29⟩
    have tbL := TB (cc14, pt14) (by simp)
    have FF : Fs l.prog w K mg base C CM ED ET E0 := ⟨BT, MT, MK,
      ⟨_, _, D1.g, D1.F.kp, D1.b, ok_pen D1 B1⟩,
      ⟨_, _, D2.g, D2.F.kp, D2.b, ok_draw D2.F B1⟩,
      ⟨_, _, D3.g, D3.F.kp, D3.b, ok_pickL D3 D2 B1⟩,
      ⟨_, _, D4.g, D4.F.kp, D4.b, ok_words D4 D2 D3 B1⟩,
      ⟨_, _, D5.g, D5.F.kp, D5.b, ok_plain D5 D2 D3 B1⟩,
      ⟨_, _, D6.g, D6.F.kp, D6.b, ok_made D6 MT BT Mk28 GI b28⟩,
      ⟨_, _, D7.g, D7.F.kp, D7.b, ok_ism D7 MT BT F29 b29 ⟨a29, i29⟩⟩,
      ⟨_, _, D9.g, D9.F.kp, D9.b, ok_moreI D9 D8 BT⟩,
      ⟨_, _, D10.g, D10.F.kp, D10.b, ok_moreE D10 D8 D9 BT⟩,
      ⟨_, _, D13.g, D13.F.kp, D13.b, ok_right D13 D11 D7 MT MK I1 I2 BT F29 b29 ⟨a29, i29⟩⟩,
      ⟨_, _, D25.g, D25.F.kp, D25.b, GID⟩,
      ⟨_, _, D27.g, D27.F.kp, D27.b, GEX⟩,
      ⟨_, _, Mk30, b30, GK⟩,
      ⟨_, _, D12⟩,
      ⟨_, _, OD⟩, ⟨_, _, OT⟩, EMM, PySem.W.mg_of X G a00, PySem.W.mg_none_of X G z_ValueError⟩
    exact ok_law FF FC14 tbL (by simp) (by intro p hp e; simp only [List.mem_cons, List.not_mem_nil, or_false] at hp; rcases hp with rfl; rfl)

theorem walk {l : PySem.W.OpenLaw} {q : Program} {loose : List Str} {XP : (Str → Option Value) → Heap → Prop} {YP : World → Heap → Prop} {d : DefRec} {K : Params → PySem.W.Frag} (hn : l.most = some 63) (hdf : d.params.defaults = [])
    (hY : ∀ (w : World) (h : Heap), YP w h → (K w.params).In h)
    (F : ∀ (w : World) (mg : Str → Option Value) (fa : Addr) (h : Heap), (K w.params).In h → h.Ns mainGlobals mg → mg d.name = some (.ref fa) → OwnTabs q mg h → LawAtS l w (K w.params) L2.CX0 14 63 "_law_script" mg fa h) :
    PySem.W.WalkO q loose XP YP l.row.toRowW d [] (fun f vs => PySem.call f vs) :=
  walk_tabs (n := 63) (k := 14) (x := "_law_script") (CX := fun _ => L2.CX0) hn (by decide) hdf ⟨rfl, by decide, by decide⟩ hY (fun w mg fa h _ => F w mg fa h) fun _ _ _ _ _ z => z
end K1
open PySem PySem.W PyProof.Rows in
set_option maxRecDepth 100000 in
set_option maxHeartbeats 0 in
theorem PySem.Challenge.cw_betweenlooks_k73_looks_of_others_as_one_holds : PySem.Challenge.rw_betweenlooks_k73_looks_of_others_as_one.Holds := by
  w_on; o_law; k_head; (case hw => w_witness2)
  k_fill
  refine K1.walk (l := PySem.Challenge.rw_betweenlooks_k73_looks_of_others_as_one) rfl rfl (fun w h Y => PySem.W.km_in_of Y) ?F
  case F =>
    intro w mg fa h KX G hmg OT
    refine' K1.all_mk KX G hmg OT ?a1 ?l1 ?c1 ?k1 ?a2 ?l2 ?c2 ?k2 ?a3 ?l3 ?c3 ?k3 ?a4 ?l4 ?c4 ?k4 ?a5 ?l5 ?c5 ?k5 ?a6 ?l6 ?c6 ?k6 ?a7 ?l7 ?c7 ?k7 ?a8 ?l8 ?c8 ?k8 ?a9 ?l9 ?c9 ?k9 ?a10 ?l10 ?c10 ?k10 ?a11 ?l11 ?c11 ?k11 ?a12 ?l12 ?c12 ?k12 ?a13 ?l13 ?c13 ?k13 ?a14 ?l14 ?c14 ?k14 ?lc14 ?h14 ?np14 ?mr14 ?a15 ?l15 ?c15 ?k15 ?a16 ?l16 ?c16 ?k16 ?a17 ?l17 ?c17 ?k17 ?a18 ?l18 ?c18 ?k18 ?a19 ?l19 ?c19 ?k19 ?a20 ?l20 ?c20 ?k20 ?a21 ?l21 ?c21 ?k21 ?a22 ?l22 ?c22 ?k22 ?a23 ?l23 ?c23 ?k23 ?a24 ?l24 ?c24 ?k24 ?a25 ?l25 ?c25 ?k25 ?a26 ?l26 ?c26 ?k26 ?a27 ?l27 ?c27 ?k27 ?aC ?pgC ?hdC ?poC ?saC ?mkC ?kcC ?nC_deeds ?nC_rows ?nC_tells ?nC_start ?ca_C ?cs_C ?ct_C ?cm_C ?ci_C ?ty_C ?a28 ?i28 ?l28 ?c28 ?k28 ?lT28 ?a29 ?i29 ?l29 ?c29 ?k29 ?aCM ?pgCM ?hdCM ?poCM ?saCM ?mkCM ?kcCM ?nCM_machine ?nCM_rule ?ca_CM ?cs_CM ?ct_CM ?cm_CM ?ci_CM ?ty_CM ?a30 ?i30 ?l30 ?c30 ?k30 ?a00 ?aD ?xD ?saD ?gaD ?ggD ?eD ?tD ?kkD ?hD ?iD ?noD_index ?a31 ?t31 ?l31 ?c31 ?k31 ?aT ?xT ?saT ?gaT ?ggT ?eT ?tT ?kkT ?hT ?iT ?noT_what ?noT_many ?noT_most ?a32 ?t32 ?l32 ?c32 ?k32 ?ca_ED ?cs_ED ?ct_ED ?cm_ED ?ci_ED ?ty_ED ?ca_ET ?cs_ET ?ct_ET ?cm_ET ?ci_ET ?ty_ET ?i0 ?t0 ?s0D ?s0T ?sV ?sDD ?sTD ?sTT ?co_LETTERS ?co_DIGITS ?co_LONGEST_WORD ?co_LONGEST_TELL ?co_MOST_DEEDS ?co_MOST_STATES ?aRU ?lqpR ?cqpR ?dqpR ?zqpR ?vqpR ?z_int ?z_len ?z_list ?z_range ?z_tuple ?z_isinstance ?z_bool ?z_str ?z_all ?z_enumerate ?z_min ?z_zip ?z_ValueError
    (case a1 => k_is)
    (case l1 => k_is)
    (case c1 => k_is)
    (case k1 => k_is)
    (case a2 => k_is)
    (case l2 => k_is)
    (case c2 => k_is)
    (case k2 => k_is)
    (case a3 => k_is)
    (case l3 => k_is)
    (case c3 => k_is)
    (case k3 => k_is)
    (case a4 => k_is)
    (case l4 => k_is)
    (case c4 => k_is)
    (case k4 => k_is)
    (case a5 => k_is)
    (case l5 => k_is)
    (case c5 => k_is)
    (case k5 => k_is)
    (case a6 => k_is)
    (case l6 => k_is)
    (case c6 => k_is)
    (case k6 => k_is)
    (case a7 => k_is)
    (case l7 => k_is)
    (case c7 => k_is)
    (case k7 => k_is)
    (case a8 => k_is)
    (case l8 => k_is)
    (case c8 => k_is)
    (case k8 => k_is)
    (case a9 => k_is)
    (case l9 => k_is)
    (case c9 => k_is)
    (case k9 => k_is)
    (case a10 => k_is)
    (case l10 => k_is)
    (case c10 => k_is)
    (case k10 => k_is)
    (case a11 => k_is)
    (case l11 => k_is)
    (case c11 => k_is)
    (case k11 => k_is)
    (case a12 => k_is)
    (case l12 => k_is)
    (case c12 => k_is)
    (case k12 => k_is)
    (case a13 => k_is)
    (case l13 => k_is)
    (case c13 => k_is)
    (case k13 => k_is)
    (case a14 => k_is)
    (case l14 => k_is)
    (case c14 => k_is)
    (case k14 => k_is)
    (case lc14 => k_is)
    (case h14 => rfl)
    (case np14 => first | rfl | decide +kernel)
    (case mr14 => first | rfl | decide +kernel)
    (case a15 => k_is)
    (case l15 => k_is)
    (case c15 => k_is)
    (case k15 => k_is)
    (case a16 => k_is)
    (case l16 => k_is)
    (case c16 => k_is)
    (case k16 => k_is)
    (case a17 => k_is)
    (case l17 => k_is)
    (case c17 => k_is)
    (case k17 => k_is)
    (case a18 => k_is)
    (case l18 => k_is)
    (case c18 => k_is)
    (case k18 => k_is)
    (case a19 => k_is)
    (case l19 => k_is)
    (case c19 => k_is)
    (case k19 => k_is)
    (case a20 => k_is)
    (case l20 => k_is)
    (case c20 => k_is)
    (case k20 => k_is)
    (case a21 => k_is)
    (case l21 => k_is)
    (case c21 => k_is)
    (case k21 => k_is)
    (case a22 => k_is)
    (case l22 => k_is)
    (case c22 => k_is)
    (case k22 => k_is)
    (case a23 => k_is)
    (case l23 => k_is)
    (case c23 => k_is)
    (case k23 => k_is)
    (case a24 => k_is)
    (case l24 => k_is)
    (case c24 => k_is)
    (case k24 => k_is)
    (case a25 => k_is)
    (case l25 => k_is)
    (case c25 => k_is)
    (case k25 => k_is)
    (case a26 => k_is)
    (case l26 => k_is)
    (case c26 => k_is)
    (case k26 => k_is)
    (case a27 => k_is)
    (case l27 => k_is)
    (case c27 => k_is)
    (case k27 => k_is)
    (case aC => k_is)
    (case pgC => k_is)
    (case hdC => k_is)
    (case poC => k_is)
    (case saC => k_is)
    (case mkC => k_is)
    (case kcC => k_is)
    (case nC_deeds => k_is)
    (case nC_rows => k_is)
    (case nC_tells => k_is)
    (case nC_start => k_is)
    (case ca_C => k_is)
    (case cs_C => k_is)
    (case ct_C => k_is)
    (case cm_C => k_is)
    (case ci_C => k_is)
    (case ty_C => k_is)
    (case a28 => k_is)
    (case i28 => k_is)
    (case l28 => k_is)
    (case c28 => k_is)
    (case k28 => k_is)
    (case lT28 => k_is)
    (case a29 => k_is)
    (case i29 => k_is)
    (case l29 => k_is)
    (case c29 => k_is)
    (case k29 => k_is)
    (case aCM => k_is)
    (case pgCM => k_is)
    (case hdCM => k_is)
    (case poCM => k_is)
    (case saCM => k_is)
    (case mkCM => k_is)
    (case kcCM => k_is)
    (case nCM_machine => k_is)
    (case nCM_rule => k_is)
    (case ca_CM => k_is)
    (case cs_CM => k_is)
    (case ct_CM => k_is)
    (case cm_CM => k_is)
    (case ci_CM => k_is)
    (case ty_CM => k_is)
    (case a30 => k_is)
    (case i30 => k_is)
    (case l30 => k_is)
    (case c30 => k_is)
    (case k30 => k_is)
    (case a00 => k_is)
    (case aD => k_is)
    (case xD => k_is)
    (case saD => k_is)
    (case gaD => k_is)
    (case ggD => k_is)
    (case eD => k_is)
    (case tD => k_is)
    (case kkD => k_is)
    (case hD => k_is)
    (case iD => k_is)
    (case noD_index => k_is)
    (case a31 => k_is)
    (case t31 => k_is)
    (case l31 => k_is)
    (case c31 => k_is)
    (case k31 => k_is)
    (case aT => k_is)
    (case xT => k_is)
    (case saT => k_is)
    (case gaT => k_is)
    (case ggT => k_is)
    (case eT => k_is)
    (case tT => k_is)
    (case kkT => k_is)
    (case hT => k_is)
    (case iT => k_is)
    (case noT_what => k_is)
    (case noT_many => k_is)
    (case noT_most => k_is)
    (case a32 => k_is)
    (case t32 => k_is)
    (case l32 => k_is)
    (case c32 => k_is)
    (case k32 => k_is)
    (case ca_ED => k_is)
    (case cs_ED => k_is)
    (case ct_ED => k_is)
    (case cm_ED => k_is)
    (case ci_ED => k_is)
    (case ty_ED => k_is)
    (case ca_ET => k_is)
    (case cs_ET => k_is)
    (case ct_ET => k_is)
    (case cm_ET => k_is)
    (case ci_ET => k_is)
    (case ty_ET => k_is)
    (case i0 => k_is)
    (case t0 => k_is)
    (case s0D => k_is)
    (case s0T => k_is)
    (case sV => k_is)
    (case sDD => k_is)
    (case sTD => k_is)
    (case sTT => k_is)
    (case co_LETTERS => k_is)
    (case co_DIGITS => k_is)
    (case co_LONGEST_WORD => k_is)
    (case co_LONGEST_TELL => k_is)
    (case co_MOST_DEEDS => k_is)
    (case co_MOST_STATES => k_is)
    (case aRU => k_is)
    (case lqpR => k_is)
    (case cqpR => rfl)
    (case dqpR => rfl)
    (case zqpR => exact Nat.le_of_ble_eq_true rfl)
    (case vqpR => exact (.cons ⟨_, rfl⟩ (.cons ⟨_, rfl⟩ .nil)))
    (case z_int => k_is)
    (case z_len => k_is)
    (case z_list => k_is)
    (case z_range => k_is)
    (case z_tuple => k_is)
    (case z_isinstance => k_is)
    (case z_bool => k_is)
    (case z_str => k_is)
    (case z_all => k_is)
    (case z_enumerate => k_is)
    (case z_min => k_is)
    (case z_zip => k_is)
    (case z_ValueError => k_is)
