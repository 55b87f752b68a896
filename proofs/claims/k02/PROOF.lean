import PyProof.Rows.All
import PySem.Challenge.RW_sevenball_k02_products_and_undoings
import HandS.ForMost
import HandS.Exc
import HandS.TryOnly
import HandS.ExcIs
import HandS.ExcField
import HandS.ExcInit
import HandS.IsInst
import HandS.Lambda
import HandS.EndTab
import KE.KExcIs
import KE.GoesMore
import HandS.Walk
import HandS.ClsMeth
import PyProof.InstNe
import KE.KCallOwn
import HandS.Style
import HandS.WordsExc
import HandS.Codes
import PyProof.StrBlock2
import HandS.Text
import HandS.IterNext
import KE.KOwnIter
import PyProof.SliceStr2
import KE.KOpsOwn
import HandS.Defaults
import HandS.RaiseMore
import HandS.Replace
set_option Elab.async false
set_option linter.all false
set_option maxRecDepth 100000
set_option maxHeartbeats 4000000
-- R1
namespace SB
open PySem PySem.Spec PyProof.Rows L2

/-! ### an error that was caught and is kept as a value -/
/-- at a: an error of the class at C; its own dict is at d -/
def ErrO (C d a : Addr) : HO := .ext fun h => ∃ (oe : Obj) (fv : Array Value),
  h.get? a = some oe ∧ oe.cls = .ref C ∧ oe.dict = some d ∧ oe.data = .fields fv
section
variable {X : Cx} {pins : List (Addr × Obj)} {σ : L2.St} {H : Hp} {s : Shared} {a C d : Addr} {oe : Obj} {fv : Array Value}
/-- what stands there untracked, made since the entry, is tracked from now on -/
theorem track_err (I : Inv X pins σ H s) (ha : s.heap.get? a = some oe) (hn : H a = none)
    (new : X.s_0.heap.get? a = none) (hc : oe.cls = .ref C) (hd : oe.dict = some d) (hf : oe.data = .fields fv)
    (nL : a ≠ X.env.locals) (np : ∀ p ∈ X.pn ++ pins, p.1 ≠ a) :
    Inv X pins σ (upd H a (ErrO C d a)) s := by
  have ne0 : ∀ b o, X.s_0.heap.get? b = some o → b ≠ a := fun b o e z => by
    rw [z, new] at e
    cases e
  have neH : ∀ b o, H b = some o → b ≠ a := fun b o e => ne_of_none e hn
  have neC : ∀ x c, X.env.cells.lookup x = some c → c ≠ a := fun x c e z => by
    obtain ⟨v, o, ho, hv⟩ := I.cell x c e
    rw [z, ha] at ho
    cases ho
    rw [hf] at hv
    cases hv
  have at_ : ∀ b, b ≠ a → upd H a (ErrO C d a) b = H b := fun b h => upd_ne h
  refine { ok := I.ok, os := I.os, bare := I.bare, base := ?_, loc := I.loc, cell := I.cell, free := ?_, freeC := ?_, pin := ?_, hok := ?_, len := I.len }
  · have u := I.base
    refine { keep := u.keep, slot := u.slot, free := ?_, there := u.there, tups := ?_, frzs := ?_, tbls := ?_ }
    · intro b o e n hx
      rw [at_ b (ne0 b o e)]
      exact u.free b o e n hx
    · intro b xs e
      have q := u.tups b xs e
      rw [at_ b (neH b _ q)]
      exact q
    · intro b o w e
      have q := u.frzs b o w e
      rw [at_ b (neH b _ q)]
      exact q
    · intro b ps e
      obtain ⟨m, q⟩ := u.tbls b ps e
      exact ⟨m, by rw [at_ b (neH b _ q)]; exact q⟩
  · rw [at_ _ (Ne.symm nL)]
    exact I.free
  · intro x c e
    rw [at_ c (neC x c e)]
    exact I.freeC x c e
  · intro p hp
    obtain ⟨e1, e2, e3⟩ := I.pin p hp
    exact ⟨e1, by rw [at_ _ (np p hp)]; exact e2, e3⟩
  · intro b u e
    by_cases hb : b = a
    · subst hb
      rw [upd_same] at e
      cases e
      exact ⟨⟨oe, fv, ha, hc, hd, hf⟩, ⟨oe, ha⟩, fun h1 h2 ⟨o, v, q1, q2⟩ k => ⟨o, v, k o q1, q2⟩⟩
    · rw [at_ b hb] at e
      exact (I.hok b u e).stay (fun c v _ q => q) (fun c q => by rw [at_ c (neH c _ q)]; exact q) fun c xs q => by rw [at_ c (neH c _ q)]; exact q
end

/-- what the clause «except x as n: y = n» wishes: slot i is n's, slot j is y's -/
def wKeep (K : PySem.W.Frag) (c : Value) (i j m : Nat) (D : Ends) : WX := fun cls d σ H =>
  ∃ b, PySem.W.exmOne K cls c = some b ∧ (b = false → False) ∧
    (b = true → ∃ C dd, cls = .ref C ∧ d = some dd ∧
      ∀ a, H a = none → σ.length = m → D.nx ((σ.set j (some (.ref a))).set i none) (upd H a (ErrO C dd a)))
end SB
-- R2
namespace SB
open PySem PySem.Spec PyProof.Rows L2
section
variable {X : Cx} {x n y : Str} {c : Value} {i j : Nat} {body : List Stmt} {np p1 p2 pos pos1 pos' : Pos} {tb : WX → TS}
/-- try: body / except x as n: y = n — the error is kept as a value -/
theorem ps_try_keep (hstk : X.stack = X.env :: X.outer) (hfrm : X.env.frame = some X.env.locals) (nd : X.N.Nodup)
    (hi : X.N[i]? = some n) (hj : X.N[j]? = some y) (hij : i ≠ j) (kn : X.env.kindOf n = some .local) (ky : X.env.kindOf y = some .local) (nm : Names X x c) (hex : X.ex = [])
    (hb : ∀ (W : WX) (pn : List (Addr × Obj)) (xe : Value → Shared → Prop), Takes (X.tr pn xe) W →
      PassesOwn (model X.prog X.w) X.A X.env xe → PSs (X.tr pn xe) body (tb W))
    (hns : (n == ("__debug__" : Str)) = false := by decide) (hnc : (n == ("__classdict__" : Str)) = false := by decide)
    (hsw : ∀ (a : Addr) (pn : List (Addr × Obj)), PG (X.suite a pn) (.Name y p1) (gName j)) :
    PS X (.Try body [.ExceptHandler (some (.Name x np)) (some n) [.Assign [.Name y p1] (.Name n p2) pos1] pos'] [] [] pos)
      (fun D σ H => tb (wKeep X.K c i j X.N.length D) D σ H) := by
  constructor
  intro pins s σ H D I h
  have ok := I.ok
  have frames : X.A.frames = some (X.env :: X.outer) := by
    rw [ok.frames, hstk]
  have locN : Loc X.env.scope n := .inl kn
  apply wpAny_Try_except
  let hand : List ExceptHandler := [.ExceptHandler (some (.Name x np)) (some n) [.Assign [.Name y p1] (.Name n p2) pos1] pos']
  let away : Value → Shared → Prop := fun e t1 => wpAny (model X.prog X.w) X.A (noteFrame e X.env)
    (fun _ t2 => wpAny (model X.prog X.w) X.A (setFlight e none)
      (fun _ t3 => wpAny (model X.prog X.w) X.A (handleBy e X.env hand) (SP X pins D) X.xe t3) X.xe t2) X.xe t1
  have taken : Takes (X.tr (X.pn ++ pins) away) (wKeep X.K c i j X.N.length D) := by
    rintro u s' ⟨a, B, sI, pins', σ', H', cls, d, rfl, J', nb, up, sky, na, os, ag, b, hb1, hno, hyes⟩
    have J : Inv X pins σ' H' sI := J'.ofTry ok
    rw [show (X.tr (X.pn ++ pins) away).stack = X.env :: X.outer from hstk] at sky
    show wpAny (model X.prog X.w) X.A (noteFrame (.ref a) X.env) _ X.xe s'
    refine Sky.land Zc.steady frames hfrm sky fun g3 fly3 up3 => ?_
    have J3 : Inv X pins σ' H' { s' with heap := g3 } := J.landed nb fly3.1 (up.trans up3) os ag
    obtain ⟨o3, v3, at3, z3, dat3⟩ := fly3.there
    have notF : a ∉ frs (X.env :: X.outer) := fun hm => by
      obtain ⟨_, o', e', hnf⟩ := fly3.2.2.1.mem hm
      have at3' : g3.get? a = some o3 := at3
      rw [at3'] at e'
      cases e'
      exact hnf _ dat3
    have nL : a ≠ X.env.locals := fun z => notF (List.mem_filterMap.mpr ⟨X.env, List.mem_cons_self, by rw [hfrm, z]⟩)
    have nF : a ∉ X.fs := fun hm => by
      obtain ⟨e, he, q⟩ := List.mem_filterMap.mp hm
      exact notF (List.mem_filterMap.mpr ⟨e, List.mem_cons_of_mem _ he, q⟩)
    have gone : B.get? a = none := fly3.2.1
    have newI : sI.heap.get? a = none := by
      cases q : sI.heap.get? a with
      | none => rfl
      | some o =>
        have z := nb a o q (by rw [show (X.tr (X.pn ++ pins) away).stack = X.env :: X.outer from hstk]; exact notF)
        rw [gone] at z
        cases z
    have new0 : X.s_0.heap.get? a = none := by
      cases q : X.s_0.heap.get? a with
      | none => rfl
      | some o =>
        obtain ⟨o', z⟩ := J.base.there a o q (by rw [hex]; exact fun z => nomatch z)
        rw [newI] at z
        cases z
    have pinsNe : ∀ p ∈ X.pn ++ pins, p.1 ≠ a := fun p hp z => by
      have q := (J.pin p hp).1
      rw [z, newI] at q
      cases q
    have S3 := J3.suite at3 dat3 na nL nF
    refine wpAny_handleBy_cons (codeAny_handlers_test ?_) (by intro q; cases q)
    have ty : PySem.W.Looks (model X.prog X.w) g3 (typeOf (.ref a)) cls := fun A Q E s k q =>
      wpAny_typeOf_ref (k _ _ at3) (by rw [z3.1]; exact q)
    have mt := PySem.W.exm_one (M := model X.prog X.w) J3.kIn ty hb1
    have asked : ∀ {Q : Value → Shared → Prop} {E : Value → Shared → Prop}, Q c { s' with heap := g3 } →
        wpAny (model X.prog X.w) (X.A.mark (some (.ref a))) (eval (.Name x np) X.env) Q E { s' with heap := g3 } := by
      intro Q E q
      obtain ⟨hg, hdbg, hm⟩ := nm
      rcases hm with hm | ⟨hm, hv, hnn⟩
      · exact ld_glob (X := X.suite a ((a, o3) :: (X.pn ++ pins))) S3 hg hm q hdbg
      · exact ld_blt (X := X.suite a ((a, o3) :: (X.pn ++ pins))) S3 hg hm hv q hnn hdbg
    refine asked (mt.here ?_)
    cases b with
    | false => exact (hno rfl).elim
    | true =>
      obtain ⟨C, dd, rfl, rfl, kept⟩ := hyes rfl
      refine codeAny_handlers_suite_as ?_
      refine HandSPX.lands_againZ fly3 fun g4 fly4 up4 => ?_
      have J4 : Inv X pins σ' H' { s' with heap := g4 } := J.landed nb fly4.1 ((up.trans up3).trans up4) os ag
      obtain ⟨o4, v4, at4, z4, dat4⟩ := fly4.there
      have S4 := J4.suite at4 dat4 na nL nF
      refine store_ok (X := X.suite a ((a, o4) :: (X.pn ++ pins))) (v := .ref a) S4 nd hi locN rfl (fun s5 S5 => ?_) (.inr kn)
      have len : σ'.length = X.N.length := J.len
      have hin : i < σ'.length := by
        rw [len]
        exact (List.getElem?_eq_some_iff.mp hi).1
      have suite : PSs (X.suite a ((a, o4) :: (X.pn ++ pins))) [.Assign [.Name y p1] (.Name n p2) pos1] (tAsg (tVar i) (gName j)) :=
        pss_one (ps_asg (pe_var hi (.inl kn) hns hnc) (hsw a _))
      let D5 : Ends := { nx := fun σ6 H6 => σ6 = (σ'.set i (some (.ref a))).set j (some (.ref a)) ∧ H6 = H', rt := fun _ _ => False, bk := fun _ _ => False, ct := fun _ _ => False }
      have start : tAsg (tVar i) (gName j) D5 (σ'.set i (some (.ref a))) H' := by
        refine ⟨.ref a, ?_, rfl, rfl⟩
        rw [List.getElem?_set_self hin]
      refine wpAny_mono (suite.run [] s5 _ H' D5 S5 start) (fun f s6 hsp => ?_) (fun _ _ z => False.elim z)
      cases f with
      | next =>
        obtain ⟨σ6, H6, S6, e1, e2⟩ := hsp
        subst e1 e2
        have at6 : s6.heap.get? a = some o4 := (S6.pin (a, o4) (List.mem_append_left _ List.mem_cons_self)).1
        have J6 := S6.unsuite ok
        have free6 : H6 a = none := na
        have held : Inv X ((a, o4) :: pins) ((σ'.set i (some (.ref a))).set j (some (.ref a))) H6 s6 := J6.pins_of fun p hp => by
          rcases List.mem_cons.mp hp with e | e
          · rw [e]
            exact ⟨at6, free6, nL, nF, fun v z => by rw [dat4] at z; cases z⟩
          · exact J6.pin p (List.mem_append_right _ e)
        refine gone_ok held nd hi kn fun s7 J7 => ?_
        have at7 : s7.heap.get? a = some o4 := (J7.pin (a, o4) (List.mem_append_right _ List.mem_cons_self)).1
        have J8 : Inv X pins ((((σ'.set i (some (.ref a))).set j (some (.ref a)))).set i none) H6 s7 :=
          J7.pins_of fun p hp => J7.pin p (List.mem_append_right _ (List.mem_cons_of_mem _ hp))
        have J9 := track_err J8 at7 free6 new0 z4.1 z4.2 dat4 nL pinsNe
        have es : (((σ'.set i (some (.ref a))).set j (some (.ref a)))).set i none = (σ'.set j (some (.ref a))).set i none := by
          rw [List.set_comm _ _ (Ne.symm hij), List.set_set, List.set_comm _ _ hij]
        rw [es] at J9
        exact ⟨_, _, J9, kept a na len⟩
      | brk =>
        obtain ⟨_, _, _, z⟩ := hsp
        exact z.elim
      | cont =>
        obtain ⟨_, _, _, z⟩ := hsp
        exact z.elim
      | ret u =>
        obtain ⟨_, _, _, _, _, z⟩ := hsp
        exact z.elim
  refine wpAny_mono ((hb (wKeep X.K c i j X.N.length D) (X.pn ++ pins) away taken PassesOwn.looking).run [] s σ H D (I.toTry _) h) (fun f s1 hsp => ?_) (fun e s1 he => he)
  cases f with
  | next =>
    obtain ⟨σ', H', J', q⟩ := hsp
    exact wpAny_execs_nil ⟨σ', H', J'.ofTry ok, q⟩
  | brk =>
    obtain ⟨σ', H', J', q⟩ := hsp
    exact ⟨σ', H', J'.ofTry ok, q⟩
  | cont =>
    obtain ⟨σ', H', J', q⟩ := hsp
    exact ⟨σ', H', J'.ofTry ok, q⟩
  | ret u =>
    obtain ⟨v, σ', H', J', r, q⟩ := hsp
    exact ⟨v, σ', H', J'.ofTry ok, r, q⟩
end
end SB
-- R3
namespace SB
open PySem PySem.Spec PyProof.Rows L2
/-- heard: what comes of a() is dropped; an own error that it raises is handed back as a value -/
def THeard (K : PySem.W.Frag) (CB : Addr) : (XK → Hp → VK → Prop) → Hp → VK → Prop := fun tl H Q =>
  tl (fun cls d H' => ∃ b, PySem.W.exmOne K cls (.ref CB) = some b ∧ (b = false → False) ∧
    (b = true → ∃ C dd, cls = .ref C ∧ d = some dd ∧ ∀ a, H' a = none → Q (.ref a) (upd H' a (ErrO C dd a)))) H (fun _ H' => Q .non H')
def hearScope : Scope := { kind := .function, names := [("ask", .local), ("caught", .local), ("error", .local), ("BallError", .globalImplicit)], isGenerator := false, isCoroutine := false, more := [] }
def hearBody (c1 c2 c3 c4 c5 c6 c7 c8 c9 c10 c11 c12 c13 c14 : Pos) : List Stmt :=
  [.Assign [.Name "caught" c1] (.Constant .none 0 c2) c3,
   .Try [.Expr (.Call (.Name "ask" c4) [] [] c5) c6] [.ExceptHandler (some (.Name "BallError" c7)) (some "error") [.Assign [.Name "caught" c8] (.Name "error" c9) c10] c11] [] [] c12,
   .Return (some (.Name "caught" c13)) c14]
section
variable {X : Cx}
theorem heard_gives {x q : Str} {g CB : Addr} {cdg : Value} {c1 c2 c3 c4 c5 c6 c7 c8 c9 c10 c11 c12 c13 c14 : Pos} (hmb : X.mg "BallError" = some (.ref CB)) :
    LamX.GivesTo X ["ask", "caught", "error"] x hearScope g cdg (hearBody c1 c2 c3 c4 c5 c6 c7 c8 c9 c10 c11 c12 c13 c14) "ask" q (THeard X.K CB) := by
  intro f c' s H Q tl act hc h
  have nd : (["ask", "caught", "error"] : List Str).Nodup := by decide +kernel
  refine ⟨_, pss_cons (ps_set (i := 1) nd rfl (.inl rfl) pe_non)
    (pss_cons (ps_try_keep (c := .ref CB) (i := 2) (j := 1) (tb := fun W D σ H => ∃ Ech : XK, (∀ cls d σ' H', Ech cls d H' → W cls d σ' H') ∧ σ[0]? = some (some (.ref f)) ∧ H c' = some (LamX.CodeO c' q) ∧ tl Ech H (fun _ H1 => D.nx σ H1))
      rfl rfl nd rfl rfl (by decide) rfl rfl ⟨rfl, by decide, .inl hmb⟩ rfl (fun W pn xe tk _ => ?_) (by decide) (by decide) (fun a pn => pg_name nd rfl (.inl rfl)))
    (pss_one (ps_ret (pv 1)))), ?_⟩
  · refine ⟨fun pins s' σ H' D I h' => ?_⟩
    obtain ⟨Ech, hW, h1, h2, h3⟩ := h'
    have hp := act W pn xe Ech c4 c5 tk hW
    have hq := pss_one (ps_expr (pos := c6) hp)
    exact hq.run pins s' σ H' D I ⟨h1, h2, h3⟩
  · show tAsg _ _ _ _ _
    refine ⟨fun cls d H' => ∃ b, PySem.W.exmOne X.K cls (.ref CB) = some b ∧ (b = false → False) ∧
      (b = true → ∃ C dd, cls = .ref C ∧ d = some dd ∧ ∀ a, H' a = none → Q (.ref a) (upd H' a (ErrO C dd a))), ?_, rfl, hc, ?_⟩
    · rintro cls d σ' H' ⟨b, e1, e2, e3⟩
      refine ⟨b, e1, e2, fun hb => ?_⟩
      obtain ⟨C, dd, k1, k2, k3⟩ := e3 hb
      refine ⟨C, dd, k1, k2, fun a ha hl => ?_⟩
      have hl' : σ'.length = 3 := hl
      match σ', hl' with
      | [u0, u1, u2], _ => exact ⟨.ref a, rfl, k3 a ha⟩
    · have same : (fun (_ : V) (H1 : Hp) => Q .non H1) = fun (_ : V) (H1 : Hp) => tRet (tVar 1) { nx := fun _ H' => Q .non H', rt := Q } (List.set (L2.start ["ask", "caught", "error"] [V.ref f]) 1 (some V.non)) H1 := by
        funext u H1
        refine propext ⟨fun z => ⟨.non, rfl, z⟩, ?_⟩
        rintro ⟨v, e, z⟩
        have e' : (some (some V.non) : Option (Option V)) = some (some v) := e
        cases e'
        exact z
      unfold THeard at h
      rw [same] at h
      exact h
end
end SB
-- R4
namespace SB
open PySem PySem.Spec PyProof.Rows L2
/-- what the class of a kept error must say -/
structure ErrC (K : PySem.W.Frag) (C : Addr) : Prop where
  cls : (PySem.W.clsIn K C).isSome = true
  own : PySem.W.hasDictIn K C = true
  ga : PySem.W.findIn K (.ref C) "__getattribute__" = some (some (.builtin "BaseException.__getattribute__"))
  gt : PySem.W.findIn K (.ref C) "__getattr__" = some none
  sub : PySem.W.subIn K (.ref C) (.type "BaseException") = some true
  ca : PySem.W.findIn K (.ref C) "__class__" = some (some (.builtin "object.__class__"))
  cg : PySem.W.specialIn K (.builtin "object.__class__") "__get__" = some (some (.builtin "getset_descriptor.__get__"))
  ct : PySem.W.takesIn K (.builtin "object.__class__") = some true
  mr : PySem.W.mroIn K C (.type "object") = some true
section
variable {X : Cx} {pins : List (Addr × Obj)} {σ : L2.St} {H : Hp} {s : Shared} {a C d : Addr} {fs : List (Str × V)}
theorem err_at (I : Inv X pins σ H s) (h : H a = some (ErrO C d a)) (hd : H d = some (.xd fs)) :
    ∃ oe od, PySem.W.InstAt s.heap a oe C (some od) ∧ ∃ mA : Str → Option Value, (∀ f : Str, RelO (fs.lookup f) (mA f)) ∧ ∀ f : Str, PySem.W.lookIn f od = some (mA f) := by
  obtain ⟨⟨oe, fv, e1, e2, e3, e4⟩, _⟩ := I.hok a _ h
  have hx : ObjOk X.prog X.w H s.heap d (.xd fs) := I.hok d _ hd
  obtain ⟨mA, hns, hr⟩ := hx
  obtain ⟨od, ho, hl⟩ := lookIn_ns hns
  refine ⟨oe, od, ⟨e1, e2, ?_, ?_⟩, mA, hr, hl⟩
  · unfold PySem.W.notCls
    rw [e4] <;> trivial
  · rw [e3]
    exact ho
/-- isinstance(e, D), e a kept error -/
def rIsErr (K : PySem.W.Frag) : List V → Hp → VK → Prop := fun xs H Q => ∃ (a C d D : Addr) (fs : List (Str × V)) (b : Bool),
  xs = [.ref a, .ref D] ∧ H a = some (ErrO C d a) ∧ H d = some (.xd fs) ∧ ErrC K C ∧ PySem.W.kitOne K (.ref C) (.ref D) = some b ∧ Q (.bl b) H
theorem call_isErr : CallR X (.builtin "isinstance") (rIsErr X.K) := by
  intro pins s σ H xs us Q I r h
  obtain ⟨a, C, d, D, fs, b, rfl, ea, ed, T, e, q⟩ := h
  obtain ⟨u1, u2, rfl, r1, r2⟩ := vals2 r
  cases (show u1 = Value.ref a from r1)
  cases (show u2 = Value.ref D from r2)
  obtain ⟨oe, od, J, _⟩ := err_at I ea ed
  exact PySem.W.kia_one (PySem.W.kitx_exc T.cls T.ga T.gt T.sub T.ca T.cg T.ct T.mr) I.kIn J e (fun z => nomatch z) fun tk => ⟨.bl b, H, I.tok tk, rfl, q⟩
/-- e.f, e a kept error -/
def tErrF (K : PySem.W.Frag) (te : TE) (f : Str) : TE := fun σ H Q => te σ H fun x H1 => ∃ (a C d : Addr) (fs : List (Str × V)) (v : V),
  x = .ref a ∧ H1 a = some (ErrO C d a) ∧ H1 d = some (.xd fs) ∧ ErrC K C ∧ PySem.W.findIn K (.ref C) f = some none ∧ fs.lookup f = some v ∧ Q v H1
theorem pe_errF {e : Expr} {te : TE} {pos : Pos} {f : Str} (he : PE X e te) (hb : attributeBase e f X.env (eval e X.env) = eval e X.env := by rfl) :
    PE X (.Attribute e f pos) (tErrF X.K te f) := by
  constructor
  intro pins s σ H Q I h
  refine attr_of hb (thn (he.run pins s σ H _ I h) fun u s1 hh => ?_)
  obtain ⟨x, H1, I1, rx, a, C, d, fs, v, rfl, ea, ed, T, hn, hl, q⟩ := hh
  obtain rfl : u = Value.ref a := rx
  obtain ⟨oe, od, J, mA, hr, look⟩ := err_at I1 ea ed
  obtain ⟨w, hw, rw_⟩ := RelO.some_of (v := v) (o := mA f) (by rw [← hl]; exact hr f)
  exact HandSPX.exc_get I1.kIn J T.ga T.gt T.sub (PySem.W.findObj_own T.own hn rfl (by rw [look, hw])) (handed_of rw_) ⟨v, H1, I1.tok _, rw_, q⟩
end
end SB
-- R5
namespace SB
open PySem PySem.Spec PyProof.Rows L2
/-! ### enumerate of a text -/
/-- the signs of x, each in a new pair with its place -/
def Ies (x : Str) : It :=
  ⟨fun i _ => i < x.cps.size, fun i H v H' => ∃ (T : Addr) (c : Nat), v = .ref T ∧ H T = none ∧ x.cps[i]? = some c ∧ H' = upd H T (.tup [.int (i : Nat), .str ⟨#[c]⟩]), fun i _ => i = x.cps.size⟩
theorem turn_enumS {P : Program} {w : World} {K : PySem.W.Frag} {elts : List Expr} {kk : Nat} {tpos : Pos} (x : Str) (t : Tok) (e it : Addr) (hne : e ≠ it) :
    Turn P w K (.Tuple elts kk tpos) (Ies x) [e, it] e (fun i h => (∃ old, IsEnum h e it ((i : Nat) : Int) old) ∧ h.IsStrIter it (strIterType x) x t i) where
  mem := by simp
  obj := fun i h st b hb => by
    obtain ⟨⟨old, he⟩, ⟨o, ho, hc, hd⟩⟩ := st
    have which : b = e ∨ b = it := by simpa using hb
    rcases which with z | z
    · subst z
      exact ⟨_, he, fun v q => nomatch q⟩
    · subst z
      exact ⟨o, ho, fun v q => by rw [hd] at q; cases q⟩
  keep := fun i h h' st k => by
    obtain ⟨⟨old, he⟩, o, ho, r⟩ := st
    exact ⟨⟨old, k e (by simp) _ he⟩, o, k it (by simp) o ho, r⟩
  item := by
    intro X hP hw hK hc i pins s σ H E I hf st hg
    subst hP hw hK
    obtain ⟨⟨old, he⟩, hit⟩ := st
    have hel : e < s.heap.objs.size := Heap.lt_size he
    have hil : it < s.heap.objs.size := by
      obtain ⟨o, q, _⟩ := hit
      exact Heap.lt_size q
    have D := Draws.text (prog := X.prog) (w := X.w) (A := X.A.in1) (I.ok.hd hc) it x t
    refine wpAny_pyNext_enum_itemD D he hit hg hne (by simpa using hne) fun v h' tk hv ho hit' hT hsz hk => ?_
    obtain ⟨c, u, hcx, rfl⟩ := hv
    refine ⟨_, rfl, wpAny_letOwnedTupleGo_enum (s := { s with heap := h', toks := tk + 1 }) ho fun h2 he2 sb => ?_⟩
    have hT2 : h2.get? s.heap.objs.size = some { cls := .type "tuple", data := .seq #[.int i tk, .str ⟨#[c]⟩ u] } := (sb.2 _ (Nat.ne_of_gt hel)).trans hT
    have new : ObjOk X.prog X.w (upd H s.heap.objs.size (.tup [.int (i : Nat), .str ⟨#[c]⟩])) h2 s.heap.objs.size (.tup [.int (i : Nat), .str ⟨#[c]⟩]) :=
      ⟨by show 2 ≤ sizeLine; decide, [.int i tk, .str ⟨#[c]⟩ u], .cons ⟨_, rfl⟩ (.cons ⟨_, rfl⟩ .nil), ⟨_, hT2, rfl, _, rfl⟩⟩
    have I1 : Inv X pins σ (upd H s.heap.objs.size (.tup [.int (i : Nat), .str ⟨#[c]⟩])) { s with heap := h2, toks := tk + 1 } := by
      refine I.turnedNew (ch := [e, it]) (fun b ob hb q => ?_) hf (Nat.le_refl _) new
      have n1 : b ≠ e := fun z => hb (by simp [z])
      have n2 : b ≠ it := fun z => hb (by simp [z])
      exact (sb.2 b n1).trans (hk b ob n1 n2 q)
    refine ⟨.ref s.heap.objs.size, _, I1, rfl, ⟨_, c, rfl, I.hok.fresh (Nat.le_refl _), hcx, rfl⟩, ⟨⟨.str ⟨#[c]⟩ u, ?_⟩, ?_⟩, fun b hb => ?_⟩
    · have e1 : ((i + 1 : Nat) : Int) = (i : Int) + 1 := by omega
      rw [e1]
      exact he2
    · obtain ⟨o, q, r⟩ := hit'
      exact ⟨o, (sb.2 it (Ne.symm hne)).trans q, r⟩
    · have which : b = e ∨ b = it := by simpa using hb
      have lt : b < s.heap.objs.size := by
        rcases which with z | z
        · rw [z]
          exact hel
        · rw [z]
          exact hil
      rw [upd_ne (Nat.ne_of_lt lt)]
      exact (hf b hb).1
  done := by
    intro X hP hw hK hc i pins s σ H E I hf st hg
    subst hP hw hK
    obtain ⟨⟨old, he⟩, hit⟩ := st
    obtain ⟨f0, f1, f2, f3, f4, f5⟩ := hf it (by simp)
    have D := Draws.text (prog := X.prog) (w := X.w) (A := X.A.in1) (I.ok.hd hc) it x t
    have hg' : i = x.cps.size := hg
    rw [hg'] at hit
    refine wpAny_pyNext_enum_endD D he hit fun h' eb => ⟨rfl, I.turned (t' := s.toks) (fun b o hb q => eb b o hb q) f0 f1 f3 f4 f5⟩
  self := fun A i s Q E st h => by
    obtain ⟨⟨_, he⟩, _⟩ := st
    exact wpAny_pyIter_enum he h
def iEnumS (ta : TA) : TI := fun σ H R => ta σ H fun vs H1 => ∃ x, vs = [.str x] ∧ R (Ies x) H1
theorem pi_enumS {X : Cx} {e : Expr} {ta : TA} {p pos tpos : Pos} {elts : List Expr} {kk : Nat} (hg : Gl X "enumerate") (hm : X.mg "enumerate" = none) (ha : PA X [e] ta)
    (hs : starEach [e] X.env = [(false, eval e X.env)] := by rfl) : PI X (.Tuple elts kk tpos) (.Call (.Name "enumerate" p) [e] [] pos) (iEnumS ta) := by
  constructor
  intro pins s σ H R I h
  refine Call_ (ld_blt I hg hm boot_enumerate (PyProof.Rows.callWith_type1 (thn (ha.run pos pins s σ H _ I h) fun us s1 hh => ?_) hs rfl))
  obtain ⟨vs, H1, I1, r1, x, ex, q⟩ := hh
  subst ex
  obtain ⟨u, rfl, r⟩ := vals1 r1
  obtain ⟨t, rfl⟩ := r
  refine call_enumerate_str fun h' he hit hsz hk => wpAny_pyIter_enum he ?_
  have I2 : Inv X pins σ H1 { s1 with heap := h' } := I1.kept (t' := s1.toks) hk
  refine ⟨s1.heap.objs.size + 1, [s1.heap.objs.size + 1, s1.heap.objs.size], _, _, H1, rfl, I2, turn_enumS x t _ _ (Nat.succ_ne_self _), ⟨⟨.none, he⟩, hit⟩, fun b hb => ?_, q⟩
  have which : b = s1.heap.objs.size + 1 ∨ b = s1.heap.objs.size := by simpa using hb
  have le : s1.heap.objs.size ≤ b := by
    rcases which with z | z
    · rw [z]
      exact Nat.le_succ _
    · rw [z]
      exact Nat.le_refl _
  exact I1.fpOk le (I1.hok.fresh le)
end SB
-- R6
namespace SB
open PySem PySem.Spec PyProof.Rows L2
section
variable {X : Cx}
/-- x.swapcase() -/
theorem mt_swapcase : MtR X "str.swapcase" (fun x xs H Q => ∃ a, x = .str a ∧ xs = [] ∧ a.length ≤ 5592405 ∧ Q (.str (Txt.swapcase a)) H) :=
  mt0 (C := fun a => a.length ≤ 5592405) (g := fun a => .str (Txt.swapcase a)) fun a t s Q hc h =>
    PyProof.Rows.SCL.swapcase hc fun _ => h _ (s.toks + 1) ⟨_, rfl⟩
theorem pe_swap {o : Expr} {ot : TE} {apos pos : Pos} (ho : PE X o ot) (hbase : attributeBase o "swapcase" X.env (eval o X.env) = eval o X.env := by rfl) (hline : (apos.endLine == pos.line) = true := by rfl) : True := trivial
end
/-- C.m is a staticmethod: its record at p, its def at g -/
structure Stat (K : PySem.W.Frag) (C : Addr) (m : Str) (p g : Addr) : Prop where
  rd : ∃ mc, PySem.W.readsIn K C mc = true ∧ PySem.W.findCls K (.ref C) mc m = some (.get (.builtin "staticmethod.__get__") (.ref p) .none (.ref C))
  ga : PySem.W.specialIn K (.ref C) "__getattribute__" = some (some (.builtin "type.__getattribute__"))
  rc : ∃ rest, PySem.W.recIn K p "staticmethod" = some (.ref g :: rest)
  kp : PySem.W.keepIn K (.ref g) = true
section
variable {X : Cx} {CX : CXT} {k : Nat} {C p g : Addr} {fd : FuncData} {ps : List Str} {sp : Sp} {dvs : List V} {ds : List Value} {E : XK} {o e : Expr} {es : List Expr} {m : Str} {pos apos : Pos} {ta : TE} {t : TA} {pl : Sem Bool}
theorem stat_ok {A : Around} {E : Value → Shared → Prop} {pins : List (Addr × Obj)} {σ : L2.St} {H : Hp} {s : Shared} {pl : Sem Bool} {Q : Value × List Value → Shared → Prop} (I : Inv X pins σ H s) (c : Stat X.K C m p g)
    (h : ∀ s', Inv X pins σ H s' → Q (.ref g, []) s') : wpAny (model X.prog X.w) A (getMethod (.ref C) m pl) Q E s := by
  obtain ⟨mc, hrd, hat⟩ := c.rd
  obtain ⟨rest, hp⟩ := c.rc
  refine PySem.W.method_cls I.kIn c.ga (PySem.W.cls_bind I.kIn hrd hat ?_)
  refine wpAny_call (PySem.W.sm_get (s := { s with toks := s.toks + 1 }) I.kIn hp (PySem.W.handed_on rfl ?_))
  exact h _ (I.tok _)
def tStat (C : Addr) (sp : Sp) (dvs : List V) (E : XK) (ta : TE) (t : TA) : TE := fun σ H Q => ta σ H fun x H1 => x = .ref C ∧ t σ H1 fun vs H2 => sp (vs ++ dvs) H2 Q E
/-- C.m(e, ..), m a staticmethod -/
theorem pe_stat (he : PE X o ta) (c : Stat X.K C m p g) (F : FnOk X.prog X.w X.K X.mg X.base CX k g fd ps sp) (hr : Room k X.A) (hb : Binds X.K fd ps ds) (hd : Vals dvs ds) (hx : Passes CX X E) (ha : PA X (e :: es) t)
    (hst : starEach (e :: es) X.env = (false, eval e X.env) :: starEach es X.env := by rfl) (hpl : (backTo pos (starEach es X.env)).any (·.1) = false := by rfl)
    (ht : eval (.Call (.Attribute o m apos) (e :: es) [] pos) X.env = (do
      let ov ← eval o X.env
      standAt apos.atName
      let (f, first) ← holding [ov] (getMethod ov m pl)
      callWith pos f first (backTo pos (starEach (e :: es) X.env)) (backToKw pos (keywordEach [] X.env))) := by rfl) :
    PE X (.Call (.Attribute o m apos) (e :: es) [] pos) (tStat C sp dvs E ta t) := by
  constructor
  intro pins s σ H Q I h
  refine PySem.W.methodCall_KW (pl := pl) (thn (he.run pins s σ H _ I h) fun u s1 hh => ?_) ht
  obtain ⟨x, H1, I1, rx, rfl, q⟩ := hh
  obtain rfl : u = Value.ref C := rx
  refine stat_ok I1 c fun s2 I2 => ?_
  refine PySem.W.callWith_K (first := []) (h₀ := X.base) I.ok.mod.kin c.kp (thn (ha.run pos pins s2 σ H1 _ I2 q) fun us s3 h3 => ?_) hst hpl
  obtain ⟨vs, H2, I3, r, q2⟩ := h3
  exact ⟨I3.kIn, run_fn F hr hb hd hx I3 r q2⟩
end
end SB
-- R7
namespace SB
open PySem PySem.Spec PyProof.Rows L2
section
variable {X : Cx} {CX : CXT} {k : Nat} {C p g : Addr} {fd : FuncData} {ps ks : List Str} {sp : Sp} {E : XK} {o e : Expr} {kws : List Keyword} {m : Str} {pos apos : Pos} {ta : TE} {t tk : TA} {pl : Sem Bool}
variable {gg : List Value → List Value → List Value} {gV : List V → List V → List V}
def tStatK (C : Addr) (sp : Sp) (gV : List V → List V → List V) (E : XK) (ta : TE) (tk : TA) : TE := fun σ H Q => ta σ H fun x H1 => x = .ref C ∧ tk σ H1 fun zs H2 => sp (gV [] zs) H2 Q E
/-- C.m(k = e, ..), m a staticmethod -/
theorem pe_statK (he : PE X o ta) (c : Stat X.K C m p g) (F : FnOk X.prog X.w X.K X.mg X.base CX k g fd ps sp) (hr : Room k X.A) (hb : KBinds X.K fd ps ks gg gV) (hx : Passes CX X E) (hkw : PK X kws tk)
    (hall : (backToKw pos (keywordEach kws X.env)).all (·.1.isSome) = true := by rfl) (hks : (backToKw pos (keywordEach kws X.env)).filterMap (·.1) = ks := by rfl)
    (hpl : ((backTo pos (starEach [] X.env)).any (·.1) || (backToKw pos (keywordEach kws X.env)).any (·.1.isNone)) = false := by rfl)
    (ht : eval (.Call (.Attribute o m apos) [] kws pos) X.env = (do
      let ov ← eval o X.env
      standAt apos.atName
      let (f, first) ← holding [ov] (getMethod ov m pl)
      callWith pos f first (backTo pos (starEach [] X.env)) (backToKw pos (keywordEach kws X.env))) := by rfl) :
    PE X (.Call (.Attribute o m apos) [] kws pos) (tStatK C sp gV E ta tk) := by
  constructor
  intro pins s σ H Q I h
  refine PySem.W.methodCall_KW (pl := pl) (thn (he.run pins s σ H _ I h) fun u s1 hh => ?_) ht
  obtain ⟨x, H1, I1, rx, rfl, q⟩ := hh
  obtain rfl : u = Value.ref C := rx
  refine stat_ok I1 c fun s2 I2 => ?_
  refine PySem.W.callWith_KW0 (first := []) (h₀ := X.base) I.ok.mod.kin c.kp hall ?_ hpl
  refine thn (hkw.run pos pins s2 σ H1 _ I2 q) fun ws s3 h3 => ?_
  obtain ⟨zs, H2, I3, rz, q2⟩ := h3
  refine ⟨I3.kIn, ?_⟩
  rw [hks]
  exact run_fnk (us := []) (vs := []) F hr hb hx I3 .nil rz q2
end
end SB
-- R8
namespace SB
open PySem PySem.Spec PyProof.Rows L2
/-- a class over object alone that tells __eq__ and no __ne__ -/
structure EqC (K : PySem.W.Frag) (C f : Addr) : Prop where
  obj : ∃ (nm q : Str) (N : Addr) (bs : List Value) (hdct : Bool) (sn : List Str) (sub : List Value) (ab : Bool) (col : Option Bool) (dd : Option Addr) (k0 k1 k2 k3 k5 : Option Value) (newId : String),
    K.lookup C = some (excClassObj nm q C N bs [.type "object"] hdct sn sub ab col dd k0 k1 k2 k3 k5 newId) ∧ PySem.W.nsOkIn K N = true ∧
    PySem.W.nsIn K N "__eq__" = some (some (.ref f)) ∧ PySem.W.nsIn K N "__ne__" = some none
  find : PySem.W.findIn K (.ref C) "__eq__" = some (some (.ref f))
  fn : PySem.W.isFn K (.ref f) = true
theorem ns_has {K : PySem.W.Frag} {h : Heap} {N : Addr} {mm : Str → Option Value} {x : Str} {v : Value} (KX : K.In h) (G : h.Ns N mm) (e : PySem.W.nsIn K N x = some (some v)) : mm x = some v := by
  obtain ⟨ob, es, ep, at_, dat, _, look⟩ := G
  unfold PySem.W.nsIn at e
  split at e
  · rename_i lk
    have same := KX _ _ lk
    rw [at_] at same
    cases same
    cases dat
    split at e
    · rename_i en he
      cases e
      rw [← look]
      unfold nsFind findBy
      rw [← Array.find?_toList, he]
      rfl
    · split at e <;> cases e
  · cases e
section
variable {X : Cx} {CX : CXT} {k : Nat} {C f : Addr} {fd : FuncData} {ps : List Str} {sp : Sp} {E : XK}
/-- a def called from somewhere within a builtin, around A -/
theorem run_at {A : Around} {pins : List (Addr × Obj)} {σ : L2.St} {H : Hp} {s : Shared} {Q : VK} {us : List Value} {vs : List V} (F : FnOk X.prog X.w X.K X.mg X.base CX k f fd ps sp) (hr : Room k A) (e0 : Env0 X.prog X.w X.K X.mg X.base A X.stack s H) (hb : Binds X.K fd ps []) (hx : Passes CX X E)
    (I : Inv X pins σ H s) (r : Vals vs us) (h : sp vs H Q E) : wpAny (model X.prog X.w) A (call (.ref f) us) (EP X pins σ Q) X.xe s := by
  have hl : (us ++ []).length = ps.length := by
    rw [List.append_nil, ← r.length]
    exact F.len _ _ _ _ h
  have bd := hb s us I.kIn hl
  rw [List.append_nil] at bd
  refine wpAny_call (codeAny_mono (F.run A X.stack s H ⟨us, []⟩ us vs Q E hr e0 bd r h) fun r s' hq => ?_)
  rcases r with e | fl
  · exact hx pins σ H s e s' I hq
  · rcases fl with u | _ | _ | _
    · first
        | exact I.after hq
        | exact hq.elim
    all_goals
      first
        | exact I.after hq
        | exact False.elim hq
theorem run_in1 {pins : List (Addr × Obj)} {σ : L2.St} {H : Hp} {s : Shared} {Q : VK} {us : List Value} {vs : List V} (F : FnOk X.prog X.w X.K X.mg X.base CX k f fd ps sp) (hr : Room (k + 1) X.A) (hb : Binds X.K fd ps []) (hx : Passes CX X E)
    (I : Inv X pins σ H s) (r : Vals vs us) (h : sp vs H Q E) : wpAny (model X.prog X.w) X.A.in1 (call (.ref f) us) (EP X pins σ Q) X.xe s :=
  run_at F hr.in1 I.env0.in1 hb hx I r h
theorem run_in2 {pins : List (Addr × Obj)} {σ : L2.St} {H : Hp} {s : Shared} {Q : VK} {us : List Value} {vs : List V} (F : FnOk X.prog X.w X.K X.mg X.base CX k f fd ps sp) (hr : Room (k + 2) X.A) (hb : Binds X.K fd ps []) (hx : Passes CX X E)
    (I : Inv X pins σ H s) (r : Vals vs us) (h : sp vs H Q E) : wpAny (model X.prog X.w) X.A.in1.in1 (call (.ref f) us) (EP X pins σ Q) X.xe s :=
  run_at F (Room.in1 (Room.in1 hr)) I.env0.in1.in1 hb hx I r h
def rNeOwn (C : Addr) (sp : Sp) (E : XK) : R2 := fun x y H Q => ∃ (a b dx dy : Addr) (fs gs : List (Str × V)), x = .ref a ∧ y = .ref b ∧ H a = some (.ins C dx fs) ∧ H b = some (.ins C dy gs) ∧
  sp [x, y] H (fun v H' => ∃ r, v = .bl r ∧ Q (.bl (!r)) H') E
/-- x != y by the own __eq__ of both -/
theorem op_neOwn (T : EqC X.K C f) (F : FnOk X.prog X.w X.K X.mg X.base CX k f fd ps sp) (hr : Room (k + 1) X.A) (hb : Binds X.K fd ps []) (hx : Passes CX X E) : OpR X (compareOp .NotEq) (rNeOwn C sp E) := by
  intro pins s σ H x y u v Q I rx ry h
  obtain ⟨a, b, dx, dy, fs, gs, rfl, rfl, ea, eb, q⟩ := h
  obtain rfl : u = Value.ref a := rx
  obtain rfl : v = Value.ref b := ry
  obtain ⟨nm, qn, N, bs, hdct, sn, sub, ab, col, dd, k0, k1, k2, k3, k5, newId, lk, ok, e1, e2⟩ := T.obj
  have KX := I.kIn
  obtain ⟨_, _, _, oa, _⟩ := (show ObjOk X.prog X.w H s.heap a (.ins C dx fs) from I.hok a _ ea)
  obtain ⟨_, _, _, ob, _⟩ := (show ObjOk X.prog X.w H s.heap b (.ins C dy gs) from I.hok b _ eb)
  have hns : s.heap.Ns N (s.heap.nsMap N) := .of_isNs (PySem.W.isNs_of_in KX ok)
  have m1 : s.heap.nsMap N "__eq__" = some (.ref f) := ns_has KX hns e1
  have m2 : s.heap.nsMap N "__ne__" = none := PySem.W.ns_none_of KX hns e2
  have ft : ∃ of, s.heap.get? f = some of ∧ of.cls = .type "function" := by
    obtain ⟨o, ho, hc⟩ := Option.map_eq_some_iff.mp (show (X.K.lookup f).map (·.cls) = some (.type "function") from beq_iff_eq.mp T.fn)
    exact ⟨o, KX _ _ ho, hc⟩
  obtain ⟨of, hf, hfc⟩ := ft
  have own : s.heap.OwnEqNoNe a C f "object" [.type "object"] :=
    ⟨_, of, nm, qn, N, bs, hdct, sn, sub, ab, col, dd, k0, k1, k2, k3, k5, newId, _, _, oa, rfl, KX _ _ lk, hns, m1, hf, hfc, PySem.F.mro_object, rfl, m2⟩
  have un := hr.un
  obtain ⟨hp, g, d, t, os⟩ := s
  refine compareOp_ne_ownEq PySem.F.cmp_object own ob rfl (by omega) ?_
  refine thn (run_in1 (us := [.ref a, .ref b]) (vs := [.ref a, .ref b]) F hr hb hx I (.cons rfl (.cons rfl .nil)) q) fun u s1 hh => ?_
  obtain ⟨w, H1, I1, r1, r, rfl, q1⟩ := hh
  obtain rfl : u = Value.bool r := r1
  exact ⟨r, rfl, .bl (!r), H1, I1, rfl, q1⟩
end
end SB
-- R9
namespace SB
open PySem PySem.Spec PyProof.Rows L2
section
variable {X : Cx} {CX : CXT} {k : Nat} {C f : Addr} {fd : FuncData} {ps : List Str} {sp : Sp} {E : XK} {pins : List (Addr × Obj)} {σ : L2.St} {H : Hp} {s : Shared}
theorem inst_of {a dx : Addr} {fs : List (Str × V)} (I : Inv X pins σ H s) (ea : H a = some (.ins C dx fs)) : ∃ od, PySem.W.InstAt s.heap a (PySem.W.instObj C dx) C (some od) := by
  obtain ⟨mA, O, _⟩ := ins_get I.hok ea
  obtain ⟨od, J, _⟩ := O.look
  exact ⟨od, J⟩
/-- str(x) by the own __str__ -/
def rStrOwn (C : Addr) (sp : Sp) (E : XK) : List V → Hp → VK → Prop := fun xs H Q => ∃ (a dx : Addr) (fs : List (Str × V)), xs = [.ref a] ∧ H a = some (.ins C dx fs) ∧
  sp [.ref a] H (fun v H' => ∃ z, v = .str z ∧ Q (.str z) H') E
theorem call_strOwn (hs : PySem.W.findIn X.K (.ref C) "__str__" = some (some (.ref f))) (hf : PySem.W.isFn X.K (.ref f) = true) (F : FnOk X.prog X.w X.K X.mg X.base CX k f fd ps sp) (hr : Room (k + 2) X.A) (hb : Binds X.K fd ps []) (hx : Passes CX X E) :
    CallR X (.type "str") (rStrOwn C sp E) := by
  intro pins s σ H xs us Q I r h
  obtain ⟨a, dx, fs, rfl, ea, q⟩ := h
  obtain ⟨u, rfl, ru⟩ := vals1 r
  obtain rfl : u = Value.ref a := ru
  obtain ⟨od, J⟩ := inst_of I ea
  have un := (Room.in1 (Room.in1 hr)).units0
  refine PySem.W.kso_call un I.kIn J hs hf ?_
  refine thn (run_in2 (us := [.ref a]) (vs := [.ref a]) F hr hb hx I (.cons rfl .nil) q) fun u s1 hh => ?_
  obtain ⟨w, H1, I1, r1, z, rfl, q1⟩ := hh
  obtain ⟨t, rfl⟩ := r1
  exact ⟨.str z, H1, I1, ⟨t, rfl⟩, q1⟩
/-- an int is no bool -/
theorem op_isIB : OpR X (compareOp .Is) (fun x y H Q => ∃ (i : Int) (b : Bool), x = .int i ∧ y = .bl b ∧ Q (.bl false) H) := by
  intro pins s σ H x y v u Q I rx ry h
  obtain ⟨i, b, rfl, rfl, q⟩ := h
  obtain ⟨t, rfl⟩ := rx
  obtain rfl : u = Value.bool b := ry
  exact wpAny_is_other rfl (fun z => nomatch z) ⟨.bl false, H, I, rfl, q⟩
theorem op_notIB : OpR X (compareOp .IsNot) (fun x y H Q => ∃ (i : Int) (b : Bool), x = .int i ∧ y = .bl b ∧ Q (.bl true) H) := by
  intro pins s σ H x y v u Q I rx ry h
  obtain ⟨i, b, rfl, rfl, q⟩ := h
  obtain ⟨t, rfl⟩ := rx
  obtain rfl : u = Value.bool b := ry
  exact wpAny_isNot_other rfl (fun z => nomatch z) ⟨.bl true, H, I, rfl, q⟩
end
end SB
-- R10
namespace SB
open PySem PySem.Spec PyProof.Rows L2
/-- __init__(self, f): self.f = f, of an own error class -/
def spErr1 (K : PySem.W.Frag) (g : Str) : Sp := fun vs H Q _ => ∃ (a C : Addr) (y : V), vs = [.ref a, y] ∧ OexC K C ∧ PySem.W.findIn K (.ref C) g = some none ∧ H a = some (exo a C none) ∧
  ∀ dx, H dx = none → dx ≠ a → Q .non (upd (upd H dx (exd dx [(g, y)])) a (exo a C (some dx)))
/-- what is told of an own error class x of one field g: its class at C, its __init__ at fI -/
structure Err1 (K : PySem.W.Frag) (mg : Str → Option Value) (x g : Str) (C fI : Addr) : Prop where
  ox : OexC K C
  ec : ErrC K C
  iC : PySem.W.findIn K (.ref C) "__init__" = some (some (.ref fI))
  tI : PySem.W.typeIn K (.ref fI) = some (.type "function")
  no : PySem.W.findIn K (.ref C) g = some none
  at_ : mg x = some (.ref C)
theorem heap_raised {H : Hp} {a d : Addr} {o1 o2 o3 o4 : HO} (ha : H a = none) (hd : (upd H a o1) d = none) (ne : d ≠ a) : upd (del (upd (upd (upd H a o1) d o2) a o3) a) d o4 = upd H d o4 := by
  funext b
  by_cases e1 : b = d
  · subst e1
    rw [upd_same, upd_same]
  · rw [upd_ne e1, upd_ne e1]
    by_cases e2 : b = a
    · subst e2
      rw [del_same, ha]
    · rw [del_ne e2, upd_ne e2, upd_ne e1, upd_ne e2]
section
variable {X : Cx} {x g : Str} {C fI : Addr} {k : Nat} {fd : FuncData} {ps : List Str} {W : WX} {e : Expr} {te : TE} {p pos pos2 : Pos} {CX : CXT}
/-- raise x(e) -/
theorem ps_raise1 (T : Err1 X.K X.mg x g C fI) (F : FnOk X.prog X.w X.K X.mg X.base CX k fI fd ps (spErr1 X.K g)) (hb : Binds X.K fd ps []) (hr : Room (k + 1) X.A) (hc : X.calm = true) (tk : Takes X W) (hx : Passes CX X (fun _ _ _ => False)) (he : PE X e te) (hg : Gl X x := by rfl)
    (hs : starEach (e :: []) X.env = (false, eval e X.env) :: starEach [] X.env := by rfl) (hpl : (backTo pos (starEach [] X.env)).any (·.1) = false := by rfl) (hdb : (x == ("__debug__" : Str)) = false := by decide) :
    PS X (.Raise (some (.Call (.Name x p) [e] [] pos)) none pos2) (fun _ σ H => tMkO C (spErr1 X.K g) [] (tCons te tNil) σ H fun cls d H' => W cls d σ H') :=
  ps_raise (pos := pos2) hc tk (pmk_oex (pos := pos) (p := p) T.ox T.iC T.tI F hr hb .nil hx hg T.at_ (pa_cons he pa_nil hs) hdb hs hpl)
end
/-- what such a raise asks, once its argument is there -/
theorem raised1 {K : PySem.W.Frag} {mg : Str → Option Value} {x g : Str} {C fI : Addr} {H : Hp} {y : V} {Q : XK} (T : Err1 K mg x g C fI) (h : ∀ d, H d = none → Q (.ref C) (some d) (upd H d (.xd [(g, y)]))) :
    ([y] : List V).length ≤ 1000 ∧ ∀ a, H a = none → spErr1 K g (.ref a :: ([y] ++ [])) (upd H a (exo a C none)) (fun v H2 => v = .non ∧ ∃ (d : Addr) (fs : List (Str × V)), H2 a = some (exo a C (some d)) ∧ H2 d = some (exd d fs) ∧ H d = none ∧ Q (.ref C) (some d) (upd (del H2 a) d (.xd fs))) (fun _ _ _ => False) := by
  refine ⟨by show 1 ≤ 1000; decide, fun a ha => ⟨a, C, y, rfl, T.ox, T.no, upd_same, fun dx hd ne => ⟨rfl, dx, [(g, y)], upd_same, ?_, ?_, ?_⟩⟩⟩
  · rw [upd_ne ne, upd_same]
  · rw [upd_ne ne] at hd
    exact hd
  · rw [heap_raised ha hd ne]
    refine h dx ?_
    rw [upd_ne ne] at hd
    exact hd
theorem init1_sp {K : PySem.W.Frag} {g : Str} {vs : List V} {H : Hp} {Q : VK} {E : XK} (h : spErr1 K g vs H Q E) : vs.length = 2 := by
  obtain ⟨a, C, y, rfl, _⟩ := h
  rfl
/-- the reading of self.f = f -/
theorem init1_read {K : PySem.W.Frag} {g : Str} {vs : List V} {H : Hp} {Q : VK} {E : XK} {N : List Str} (hN : N.length = 2) (h : spErr1 K g vs H Q E) : tOst K g (tVar 0) (tVar 1) { nx := fun _ H' => Q .non H', rt := Q } (L2.start N vs) H := by
  obtain ⟨a, C, y, rfl, T, hn, ha, q⟩ := h
  match N, hN with
  | [_, _], _ => exact ⟨y, rfl, .ref a, rfl, a, C, rfl, T, hn, .inl ⟨ha, fun dx h1 h2 => q dx h1 h2⟩⟩
end SB
-- M1
namespace SB
open PySem PySem.Spec PyProof.Rows L2
/-! ### letters as codes; rows of letters -/
def T (l : List Nat) : Str := ⟨l.toArray⟩
/-- the code of the letter that undoes one -/
def up (c : Nat) : Nat := if 97 ≤ c then c - 32 else c + 32
def letters8 : List Nat := [65, 66, 67, 68, 97, 98, 99, 100]
def isL (c : Nat) : Bool := decide (c ∈ letters8)
/-- the first place at which no sign can stand, from place i on, prev being ahead -/
def faultFrom (prev : Option Nat) (i : Nat) : List Nat → Option Nat
  | [] => none
  | c :: r => if isL c = false ∨ some (up c) = prev then some i else faultFrom (some c) (i + 1) r
def fault (l : List Nat) : Option Nat := faultFrom none 0 l
theorem T_cps (l : List Nat) : (T l).cps.toList = l := rfl
theorem letters_T : ("ABCDabcd" : Str) = T letters8 := by decide +kernel
theorem swap_up : ∀ c, isL c = true → Txt.swapcase ⟨#[c]⟩ = ⟨#[up c]⟩ := by
  intro c h
  have h' : c ∈ letters8 := of_decide_eq_true h
  have all : ∀ c ∈ letters8, Txt.swapcase ⟨#[c]⟩ = ⟨#[up c]⟩ := by decide +kernel
  exact all c h'
/-- one sign as a text -/
abbrev s1 (c : Nat) : Str := ⟨#[c]⟩
def prevT : Option Nat → Str
  | none => T []
  | some c => s1 c
theorem s1_inj {a b : Nat} (h : s1 a = s1 b) : a = b := by
  have := congrArg Str.cps h
  simpa using this
theorem eq_prev (c : Nat) (p : Option Nat) : decide (V.str (s1 c) = V.str (prevT p)) = decide (some c = p) := by
  cases p with
  | none =>
    refine (decide_eq_false ?_).trans (decide_eq_false (by simp)).symm
    intro z
    have := congrArg Str.cps (V.str.inj z)
    simp [prevT, T] at this
  | some d =>
    by_cases e : c = d
    · subst e
      simp [prevT]
    · refine (decide_eq_false ?_).trans (decide_eq_false (by simpa using e)).symm
      intro z
      exact e (s1_inj (V.str.inj z))
end SB
-- M2
namespace SB
open PySem PySem.Spec PyProof.Rows L2
/-- the items of a text -/
def items (z : Str) : List Str := Txt.split z " "
theorem blank_T : (" " : Str) = ⟨#[32]⟩ := by decide +kernel
theorem items_pos (z : Str) : 1 ≤ (items z).length := split_pos z " "
theorem items_one {z : Str} (h : (items z).length = 1) : items z = [z] := by
  have j : Str.join " " (items z) = z   := StrLaws.join_split z " "
  match e : items z, h with
  | [a], _ =>
    rw [e] at j
    exact congrArg (fun a => [a]) j
theorem items_free {z : Str} (h : (32 : Nat) ∉ z.cps.toList) : items z = [z] := by
  refine items_one ?_
  have l := split_len z 32
  unfold items
  rw [blank_T]
  have c0 : ∀ l : List Nat, (32 : Nat) ∉ l → cnt 32 l = 0 := by
    intro l
    induction l with
    | nil => intro _; rfl
    | cons a r ih =>
      intro hn
      rw [cnt_cons, ih fun z => hn (List.mem_cons_of_mem _ z), if_neg fun z => hn (by rw [z]; exact List.mem_cons_self)]
      rfl
  rw [c0 _ h] at l
  omega
theorem items_short {z a : Str} (h : a ∈ items z) : a.length ≤ z.length := part_short h
/-- of a row without a fault each sign is a letter -/
theorem letters_of : ∀ (l : List Nat) (p : Option Nat) (i : Nat), faultFrom p i l = none → ∀ c ∈ l, isL c = true
  | [], _, _, _, c, hc => nomatch hc
  | a :: r, p, i, h, c, hc => by
    have h' : (if isL a = false ∨ some (up a) = p then some i else faultFrom (some a) (i + 1) r) = none := h
    by_cases e : isL a = false ∨ some (up a) = p
    · rw [if_pos e] at h'
      cases h'
    · rw [if_neg e] at h'
      rcases List.mem_cons.mp hc with q | q
      · rw [q]
        cases z : isL a with
        | true => rfl
        | false => exact (e (.inl z)).elim
      · exact letters_of r _ _ h' c q
theorem letter_lt : ∀ c, isL c = true → c < 128 := by
  intro c h
  have h' : c ∈ letters8 := of_decide_eq_true h
  have all : ∀ c ∈ letters8, c < 128 := by decide +kernel
  exact all c h'
theorem ok_word {z : Str} (h : fault z.cps.toList = none) : (z.cps.all fun c => decide (c < 0x110000)) = true := by
  rw [← Array.all_toList, List.all_eq_true]
  intro c hc
  have := letter_lt c (letters_of _ _ _ h c hc)
  exact decide_eq_true (by omega)
theorem shaped_word {z : Str} (n : Int) (h : fault z.cps.toList = none) : SeqAt.shaped (.tuple [.int n, .str z]) = true := by
  have e : PyData.canLay0 (.tuple [.int n, .str z]) = true := by
    show (true && ((z.cps.all fun c => decide (c < 0x110000)) && true)) = true
    rw [ok_word h]
    rfl
  unfold SeqAt.shaped
  rw [e]
  rfl
end SB
-- M3
namespace SB
open PySem PySem.Spec PyProof.Rows L2
/-! ### the pen of a law -/
/-- what is tracked stays, but for p -/
def Kept (p : Addr) (H H' : Hp) : Prop := ∀ b o, H b = some o → b ≠ p → H' b = some o
theorem Kept.refl (p : Addr) (H : Hp) : Kept p H H := fun _ _ h _ => h
theorem Kept.trans {p : Addr} {H H1 H2 : Hp} (a : Kept p H H1) (b : Kept p H1 H2) : Kept p H H2 := fun c o h n => b c o (a c o h n) n
theorem Kept.of {p : Addr} {H H' : Hp} (s : Same H H') : Kept p H H' := fun b o h _ => s b o h
theorem Kept.write {p : Addr} {H H' : Hp} {o : HO} (k : Kept p H H') : Kept p H (upd H' p o) := fun b u h n => by
  rw [upd_ne n]
  exact k b u h n
/-- a list of three at p: the script's ints, how many cells were read, what is left of a great one -/
def PenAt (N : Int) (H : Hp) (p : Addr) : Prop := ∃ (q : Addr) (ns : List Int) (i j : Int), H p = some (.lst [.ref q, .int i, .int j]) ∧ H q = some (.lst (ns.map V.int)) ∧ 0 ≤ i ∧ i ≤ N
theorem pen_ne {H : Hp} {p q : Addr} {ns : List Int} {i j : Int} (h : H p = some (.lst [.ref q, .int i, .int j])) (h' : H q = some (.lst (ns.map V.int))) : q ≠ p := by
  rintro rfl
  rw [h] at h'
  have e := HO.lst.inj (Option.some.inj h')
  cases ns with
  | nil => cases e
  | cons a r => cases e
theorem PenAt.mono {N M : Int} {H : Hp} {p : Addr} (h : PenAt N H p) (le : N ≤ M) : PenAt M H p := by
  obtain ⟨q, ns, i, j, h1, h2, h3, h4⟩ := h
  exact ⟨q, ns, i, j, h1, h2, h3, by omega⟩
theorem PenAt.same {N : Int} {H H' : Hp} {p : Addr} (h : PenAt N H p) (s : Same H H') : PenAt N H' p := by
  obtain ⟨q, ns, i, j, h1, h2, h3, h4⟩ := h
  exact ⟨q, ns, i, j, s _ _ h1, s _ _ h2, h3, h4⟩
theorem shaped_nums (ns : List Int) : SeqAt.shaped (.list (ns.map PyData.int)) = true := by
  have lay : ∀ l : List Int, PyData.canLayAll0 (l.map PyData.int) = true := by
    intro l
    induction l with
    | nil => rfl
    | cons a r ih => exact ih
  have dep : ∀ l : List Int, PyData.depthAll (l.map PyData.int) ≤ 1 := by
    intro l
    induction l with
    | nil => exact Nat.zero_le _
    | cons a r ih =>
      show max _ _ ≤ 1
      refine Nat.max_le.mpr ⟨?_, ih⟩
      simp [PyData.depth]
  unfold SeqAt.shaped
  have e1 : PyData.canLay0 (.list (ns.map PyData.int)) = true := lay ns
  rw [e1]
  refine decide_eq_true ?_
  have := dep ns
  have e2 : PyData.depth (.list (ns.map PyData.int)) = PyData.depthAll (ns.map PyData.int) + 1 := by
    simp [PyData.depth]
  rw [e2]
  omega
theorem dp_nums {K : PySem.W.Frag} {H : Hp} : ∀ ns : List Int, DpAll K H (ns.map V.int) (ns.map PyData.int)
  | [] => .nil
  | a :: r => .cons (.int a) (dp_nums r)
theorem eqv_empty (ns : List Int) : PyData.eqv (.list (ns.map PyData.int)) (.list []) = decide (ns = []) := by
  cases ns with
  | nil => rfl
  | cons a r => rfl
theorem cut_nums (ns : List Int) (lo hi : Option Int) : ∃ ms : List Int, cutV (ns.map V.int) lo hi = ms.map V.int ∧ ms.length ≤ ns.length := by
  refine ⟨(ns.drop (HT.sIx (ns.map V.int).length 0 lo)).take (HT.sIx (ns.map V.int).length (ns.map V.int).length hi - HT.sIx (ns.map V.int).length 0 lo), ?_, ?_⟩
  · unfold cutV
    rw [← List.map_drop, ← List.map_take]
  · rw [List.length_take, List.length_drop]
    omega
theorem bound3 {u i a b c : Int} (u0 : 0 ≤ u) (u1 : u < 2147483648) (i0 : 0 ≤ i) (i1 : i ≤ 100000) (a0 : 0 ≤ a) (a1 : a ≤ 100000) (b0 : 0 ≤ b) (b1 : b ≤ 1000000) (c0 : 0 ≤ c) (c1 : c ≤ 1000000) :
    (u * (2 * i + a) + b * i * i + c).natAbs < 2 ^ 64 := by
  have h1 : u * (2 * i + a) ≤ 2147483648 * 300000 := Int.mul_le_mul (by omega) (by omega) (by omega) (by omega)
  have h2 : 0 ≤ u * (2 * i + a) := Int.mul_nonneg u0 (by omega)
  have h3 : b * i ≤ 1000000 * 100000 := Int.mul_le_mul b1 i1 i0 (by omega)
  have h4 : 0 ≤ b * i := Int.mul_nonneg b0 i0
  have h5 : b * i * i ≤ 1000000 * 100000 * 100000 := Int.mul_le_mul h3 i1 i0 (by omega)
  have h6 : 0 ≤ b * i * i := Int.mul_nonneg h4 i0
  omega
end SB
-- M4
namespace SB
open PySem PySem.Spec PyProof.Rows L2
theorem up_up : ∀ c, isL c = true → up (up c) = c := by
  intro c h
  have h' : c ∈ letters8 := of_decide_eq_true h
  have all : ∀ c ∈ letters8, up (up c) = c := by decide +kernel
  exact all c h'
theorem up_isL : ∀ c, isL c = true → isL (up c) = true := by
  intro c h
  have h' : c ∈ letters8 := of_decide_eq_true h
  have all : ∀ c ∈ letters8, isL (up c) = true := by decide +kernel
  exact all c h'
theorem faultFrom_snoc : ∀ (l : List Nat) (c : Nat) (p : Option Nat) (i : Nat), faultFrom p i l = none → isL c = true → (∀ d, (l.getLast?.or p) = some d → some (up c) ≠ some d) → faultFrom p i (l ++ [c]) = none
  | [], c, p, i, _, hc, hd => by
    show (if isL c = false ∨ some (up c) = p then some i else faultFrom (some c) (i + 1) []) = none
    rw [if_neg]
    · rfl
    · rintro (z | z)
      · rw [hc] at z
        cases z
      · exact hd (up c) z.symm rfl
  | a :: r, c, p, i, h, hc, hd => by
    have h' : (if isL a = false ∨ some (up a) = p then some i else faultFrom (some a) (i + 1) r) = none := h
    by_cases e : isL a = false ∨ some (up a) = p
    · rw [if_pos e] at h'
      cases h'
    · rw [if_neg e] at h'
      show (if isL a = false ∨ some (up a) = p then some i else faultFrom (some a) (i + 1) (r ++ [c])) = none
      rw [if_neg e]
      refine faultFrom_snoc r c (some a) (i + 1) h' hc fun d hd2 => hd d ?_
      cases r with
      | nil => simpa using hd2
      | cons b r2 =>
        have q : ((b :: r2).getLast?.or (some a)) = some d := hd2
        rw [List.getLast?_cons_cons]
        cases e2 : (b :: r2).getLast? with
        | none => simp at e2
        | some v =>
          rw [e2] at q
          simpa using q
theorem fault_snoc {l : List Nat} {c : Nat} (h : fault l = none) (hc : isL c = true) (hd : ∀ d, l.getLast? = some d → c ≠ up d) : fault (l ++ [c]) = none := by
  refine faultFrom_snoc l c none 0 h hc fun d e z => ?_
  have e' : l.getLast? = some d := by simpa using e
  have z' : up c = d := Option.some.inj z
  refine hd d e' ?_
  rw [← z', up_up c hc]
theorem last_split {l : List Nat} {d : Nat} (h : l.getLast? = some d) : ∃ r, l = r ++ [d] := by
  rw [List.getLast?_eq_some_iff] at h
  exact h
theorem str_empty {z : Str} : z = "" ↔ z.cps.toList = [] := by
  constructor
  · rintro rfl
    rfl
  · intro h
    cases z with
    | mk a =>
      have : a = #[] := by simpa using h
      subst this
      rfl
theorem app_codes (a b : Str) : (a ++ b).cps.toList = a.cps.toList ++ b.cps.toList := by
  rw [Str.cps_append, Array.toList_append]
theorem len_codes (z : Str) : z.length = z.cps.toList.length := rfl
end SB
-- M5
namespace SB
open PySem PySem.Spec PyProof.Rows L2
/-- whether each sign is a letter -/
theorem all_or (l : List Nat) : (l.filter fun c => !isL c) = [] ↔ ∀ c ∈ l, isL c = true := by
  rw [List.filter_eq_nil_iff]
  constructor
  · intro h c hc
    have := h c hc
    simpa using this
  · intro h c hc
    rw [h c hc]
    decide
/-- no letter stands behind the one that it undoes -/
def flat (l : List Nat) (n : Nat) : Prop := ∀ j c d, j + 1 < n → l[j]? = some d → l[j + 1]? = some c → c ≠ up d
theorem flat_mono {l : List Nat} {n m : Nat} (h : flat l n) (le : m ≤ n) : flat l m := fun j c d hj => h j c d (by omega)
theorem faultFrom_flat : ∀ (l : List Nat) (p : Option Nat) (i : Nat), (∀ c ∈ l, isL c = true) → (faultFrom p i l = none ↔ (∀ c, l[0]? = some c → some (up c) ≠ p) ∧ flat l l.length)
  | [], p, i, _ => by
    refine ⟨fun _ => ⟨fun c h => (nomatch h), fun j c d h => absurd h (by simp)⟩, fun _ => rfl⟩
  | a :: r, p, i, h => by
    have ha : isL a = true := h a List.mem_cons_self
    have ih := faultFrom_flat r (some a) (i + 1) fun c hc => h c (List.mem_cons_of_mem _ hc)
    have e : faultFrom p i (a :: r) = if isL a = false ∨ some (up a) = p then some i else faultFrom (some a) (i + 1) r := rfl
    rw [e]
    by_cases q : some (up a) = p
    · rw [if_pos (.inr q)]
      refine ⟨fun z => (nomatch z), fun z => (z.1 a rfl q).elim⟩
    · rw [if_neg (by rintro (z | z); rw [ha] at z; cases z; exact q z), ih]
      constructor
      · rintro ⟨h1, h2⟩
        refine ⟨fun c hc => by cases hc; exact q, fun j c d hj hd hc => ?_⟩
        cases j with
        | zero =>
          have hd' : a = d := by simpa using hd
          have hc' : r[0]? = some c := hc
          subst hd'
          intro z
          refine h1 c hc' ?_
          rw [z, up_up a ha]
        | succ j =>
          refine h2 j c d ?_ hd hc
          have : j + 1 + 1 < r.length + 1 := hj
          omega
      · rintro ⟨_, h2⟩
        refine ⟨fun c hc z => ?_, fun j c d hj hd hc => h2 (j + 1) c d (by show j + 1 + 1 < r.length + 1; omega) hd hc⟩
        have z' : up c = a := Option.some.inj z
        have cL : isL c = true := h c (List.mem_cons_of_mem _ (List.mem_of_getElem? hc))
        refine h2 0 c a ?_ rfl hc ?_
        · show 0 + 1 < r.length + 1
          have : 0 < r.length := (List.getElem?_eq_some_iff.mp hc).1
          omega
        · rw [← z', up_up c cL]
theorem fault_iff (l : List Nat) : fault l = none ↔ (∀ c ∈ l, isL c = true) ∧ flat l l.length := by
  constructor
  · intro h
    have hL := letters_of l none 0 h
    exact ⟨hL, ((faultFrom_flat l none 0 hL).mp h).2⟩
  · rintro ⟨hL, hf⟩
    exact (faultFrom_flat l none 0 hL).mpr ⟨fun c _ z => (nomatch z), hf⟩
end SB
-- R11
namespace SB
open PySem PySem.Spec PyProof.Rows L2
section
variable {X : Cx}
/-- an expression, with a word between it and what follows -/
def tMid (t : TE) : TE := fun σ H Q => ∃ R : V → Hp → Prop, t σ H R ∧ ∀ v H', R v H' → Q v H'
theorem pe_mid {e : Expr} {t : TE} (h : PE X e t) : PE X e (tMid t) := by
  refine ⟨fun pins s σ H Q I hm => ?_⟩
  obtain ⟨R, hR, hq⟩ := hm
  refine thn (h.run pins s σ H R I hR) fun u s1 hh => ?_
  obtain ⟨v, H1, I1, r1, q1⟩ := hh
  exact ⟨v, H1, I1, r1, hq v H1 q1⟩
/-- a text times an int -/
theorem op_repS : OpR X (binaryOp .Mult) (fun x y H Q => ∃ (z : Str) (n : Int), x = .str z ∧ y = .int n ∧ MulOk z n ∧ Q (.str (Txt.mul z n)) H) := by
  intro pins s σ H x y v u Q I rx ry h
  obtain ⟨z, n, rfl, rfl, ok, q⟩ := h
  obtain ⟨t, rfl⟩ := rx
  obtain ⟨t', rfl⟩ := ry
  exact PySem.SB.mul ok fun t2 tk => ⟨.str (Txt.mul z n), H, I.tok _, ⟨_, rfl⟩, q⟩
end
def longs : List Str := ["A", "dC", "aB"]
theorem long_ok : ∀ z ∈ longs, ∀ n ∈ ([4000, 4001] : List Int), MulOk z n ∧ (Txt.mul z n).length ≤ 9000 ∧ fault (cutS (Txt.mul z n) none (some n)).cps.toList = none ∧ cutS (Txt.mul z n) none (some n) ≠ "" := by
  unfold MulOk
  decide +kernel
end SB
-- R12
namespace SB
open PySem PySem.Spec PyProof.Rows L2
/-- __init__(self, f, g): self.f = f; self.g = g, of an own error class -/
def spErr2 (K : PySem.W.Frag) (f g : Str) : Sp := fun vs H Q _ => ∃ (a C : Addr) (y z : V), vs = [.ref a, y, z] ∧ OexC K C ∧ PySem.W.findIn K (.ref C) f = some none ∧ PySem.W.findIn K (.ref C) g = some none ∧ H a = some (exo a C none) ∧
  ∀ dx, H dx = none → dx ≠ a → Q .non (upd (upd (upd H dx (exd dx [(f, y)])) a (exo a C (some dx))) dx (exd dx [(g, z), (f, y)]))
structure Err2 (K : PySem.W.Frag) (mg : Str → Option Value) (x f g : Str) (C fI : Addr) : Prop where
  ox : OexC K C
  ec : ErrC K C
  iC : PySem.W.findIn K (.ref C) "__init__" = some (some (.ref fI))
  tI : PySem.W.typeIn K (.ref fI) = some (.type "function")
  nf : PySem.W.findIn K (.ref C) f = some none
  ng : PySem.W.findIn K (.ref C) g = some none
  at_ : mg x = some (.ref C)
theorem heap_raised2 {H : Hp} {a d : Addr} {o1 o2 o3 o4 o5 : HO} (ha : H a = none) (ne : d ≠ a) : upd (del (upd (upd (upd (upd H a o1) d o2) a o3) d o4) a) d o5 = upd H d o5 := by
  funext b
  by_cases e1 : b = d
  · subst e1
    rw [upd_same, upd_same]
  · rw [upd_ne e1, upd_ne e1]
    by_cases e2 : b = a
    · subst e2
      rw [del_same, ha]
    · rw [del_ne e2, upd_ne e1, upd_ne e2, upd_ne e1, upd_ne e2]
section
variable {X : Cx} {x f g : Str} {C fI : Addr} {k : Nat} {fd : FuncData} {ps : List Str} {W : WX} {e e2 : Expr} {te te2 : TE} {p pos pos2 : Pos} {CX : CXT}
/-- raise x(e, e2) -/
theorem ps_raise2 (T : Err2 X.K X.mg x f g C fI) (F : FnOk X.prog X.w X.K X.mg X.base CX k fI fd ps (spErr2 X.K f g)) (hb : Binds X.K fd ps []) (hr : Room (k + 1) X.A) (hc : X.calm = true) (tk : Takes X W) (hx : Passes CX X (fun _ _ _ => False)) (he : PE X e te) (he2 : PE X e2 te2) (hg : Gl X x := by rfl)
    (hs : starEach (e :: e2 :: []) X.env = (false, eval e X.env) :: starEach [e2] X.env := by rfl) (hs2 : starEach [e2] X.env = (false, eval e2 X.env) :: starEach [] X.env := by rfl) (hpl : (backTo pos (starEach [e2] X.env)).any (·.1) = false := by rfl) (hdb : (x == ("__debug__" : Str)) = false := by decide) :
    PS X (.Raise (some (.Call (.Name x p) [e, e2] [] pos)) none pos2) (fun _ σ H => tMkO C (spErr2 X.K f g) [] (tCons te (tCons te2 tNil)) σ H fun cls d H' => W cls d σ H') :=
  ps_raise (pos := pos2) hc tk (pmk_oex (pos := pos) (p := p) T.ox T.iC T.tI F hr hb .nil hx hg T.at_ (pa_cons he (pa_cons he2 pa_nil hs2) hs) hdb hs hpl)
end
/-- what such a raise asks, once its arguments are there -/
theorem raised2 {K : PySem.W.Frag} {mg : Str → Option Value} {x f g : Str} {C fI : Addr} {H : Hp} {y z : V} {Q : XK} (T : Err2 K mg x f g C fI) (h : ∀ d, H d = none → Q (.ref C) (some d) (upd H d (.xd [(g, z), (f, y)]))) :
    ([y, z] : List V).length ≤ 1000 ∧ ∀ a, H a = none → spErr2 K f g (.ref a :: ([y, z] ++ [])) (upd H a (exo a C none)) (fun v H2 => v = .non ∧ ∃ (d : Addr) (fs : List (Str × V)), H2 a = some (exo a C (some d)) ∧ H2 d = some (exd d fs) ∧ H d = none ∧ Q (.ref C) (some d) (upd (del H2 a) d (.xd fs))) (fun _ _ _ => False) := by
  refine ⟨by show 2 ≤ 1000; decide, fun a ha => ⟨a, C, y, z, rfl, T.ox, T.nf, T.ng, upd_same, fun dx hd ne => ⟨rfl, dx, [(g, z), (f, y)], ?_, upd_same, ?_, ?_⟩⟩⟩
  · rw [upd_ne (Ne.symm ne), upd_same]
  · rw [upd_ne ne] at hd
    exact hd
  · rw [heap_raised2 ha ne]
    refine h dx ?_
    rw [upd_ne ne] at hd
    exact hd
theorem init2_sp {K : PySem.W.Frag} {f g : Str} {vs : List V} {H : Hp} {Q : VK} {E : XK} (h : spErr2 K f g vs H Q E) : vs.length = 3 := by
  obtain ⟨a, C, y, z, rfl, _⟩ := h
  rfl
/-- the reading of self.f = f; self.g = g -/
theorem init2_read {K : PySem.W.Frag} {f g : Str} {vs : List V} {H : Hp} {Q : VK} {E : XK} {N : List Str} (hN : N.length = 3) (h : spErr2 K f g vs H Q E) : tSeq (tOst K f (tVar 0) (tVar 1)) (tOst K g (tVar 0) (tVar 2)) { nx := fun _ H' => Q .non H', rt := Q } (L2.start N vs) H := by
  obtain ⟨a, C, y, z, rfl, T, hf, hg, ha, q⟩ := h
  match N, hN with
  | [_, _, _], _ =>
    refine ⟨y, rfl, .ref a, rfl, a, C, rfl, T, hf, .inl ⟨ha, fun dx h1 h2 => ?_⟩⟩
    refine ⟨z, rfl, .ref a, rfl, a, C, rfl, T, hg, .inr ⟨dx, [(f, y)], upd_same, ?_, by show 1 ≤ 900; decide, q dx h1 h2⟩⟩
    rw [upd_ne h2, upd_same]
end SB
-- R13
namespace SB
open PySem PySem.Spec PyProof.Rows L2
section
variable {X : Cx}
/-- one rule or the other -/
theorem ix_or {r1 r2 : R2} (h1 : IxR X r1) (h2 : IxR X r2) : IxR X (fun x y H Q => r1 x y H Q ∨ r2 x y H Q) := by
  intro value slice pins s σ H x y v u Q I rx ry h hs
  rcases h with h | h
  · exact h1 value slice pins s σ H x y v u Q I rx ry h hs
  · exact h2 value slice pins s σ H x y v u Q I rx ry h hs
theorem call_or {f : Value} {r1 r2 : List V → Hp → VK → Prop} (h1 : CallR X f r1) (h2 : CallR X f r2) : CallR X f (fun xs H Q => r1 xs H Q ∨ r2 xs H Q) := by
  intro pins s σ H xs us Q I r h
  rcases h with h | h
  · exact h1 pins s σ H xs us Q I r h
  · exact h2 pins s σ H xs us Q I r h
theorem op_or {op : Value → Value → Sem Value} {r1 r2 : R2} (h1 : OpR X op r1) (h2 : OpR X op r2) : OpR X op (fun x y H Q => r1 x y H Q ∨ r2 x y H Q) := by
  intro pins s σ H x y v u Q I rx ry h
  rcases h with h | h
  · exact h1 pins s σ H x y v u Q I rx ry h
  · exact h2 pins s σ H x y v u Q I rx ry h
end
end SB
-- R14
namespace SB
open PySem PySem.Spec PyProof.Rows L2
/-! ### a class whose __iter__ hands the iterator of a text out -/
/-- at it: the iterator of the text z, none taken -/
def SItO (it : Addr) (z : Str) : HO := .ext fun h => ∃ t : Tok, h.get? it = some { cls := .type (strIterType z), data := .fields #[.str z t, .int 0 0] }
theorem sit_type (z : Str) : strIterType z = "str_ascii_iterator" ∨ strIterType z = "str_iterator" := by
  unfold strIterType
  split
  · exact .inl rfl
  · exact .inr rfl
theorem sit_ok {P : Program} {w : World} {H : Hp} {h : Heap} {it : Addr} {z : Str} {t : Tok} (e : h.get? it = some { cls := .type (strIterType z), data := .fields #[.str z t, .int 0 0] }) : ObjOk P w H h it (SItO it z) :=
  ⟨⟨t, e⟩, ⟨_, e⟩, fun h1 h2 q k => by
    obtain ⟨t2, e2⟩ := q
    exact ⟨t2, k _ e2⟩⟩
theorem sit_next {M : Model} {A : Around} {E : Value → Shared → Prop} {Q : Value → Shared → Prop} {s : Shared} {it : Addr} {z : Str} {t : Tok} (h : s.heap.get? it = some { cls := .type (strIterType z), data := .fields #[.str z t, .int 0 0] })
    (q : Q (.ref it) s) : PySem.W.OwitIt M A Q E (.ref it) s := by
  have ty : s.TypeIs (.ref it) (strIterType z) := ⟨_, h, rfl⟩
  unfold PySem.W.OwitIt
  rcases sit_type z with e | e
  · rw [e] at ty
    exact wpAny_specialOf ty F.slot_str_ascii_iterator_next.lookup q
  · rw [e] at ty
    exact wpAny_specialOf ty F.slot_str_iterator_next.lookup q
section
variable {X : Cx} {pins : List (Addr × Obj)} {σ : L2.St} {H : Hp} {s : Shared}
/-- iter(z), z a text -/
theorem call_iterS : CallR X (.builtin "iter") (fun xs H Q => ∃ z : Str, xs = [.str z] ∧ ∀ it, H it = none → X.s_0.heap.objs.size ≤ it → Q (.ref it) (upd H it (SItO it z))) := by
  intro pins s σ H xs us Q I r h
  obtain ⟨z, rfl, q⟩ := h
  obtain ⟨u, rfl, t, rfl⟩ := vals1 r
  refine Calls.call_function_entry (id := "iter") (by decide +kernel) (by decide +kernel) PySem.W.kdk_entry_iter (PySem.W.kdk_args_iter (Value.str z t)) ?_
  unfold Builtin.«iter»
  refine wpAny_bind (m := someArgs "iter" 1 2 ⟨[Value.str z t], []⟩) (wpAny_of_eq (a := [Value.str z t]) (by first | rfl | kernel_rfl!) ?_)
  show wpAny _ _ (pyIter (.str z t) >>= _) _ _ _
  refine wpAny_bind (wpAny_pyIter_strU (wpAny_pure ⟨.ref s.heap.objs.size, rfl, ?_⟩))
  have at_ : (s.heap.push { cls := .type (strIterType z), data := .fields #[.str z t, .int 0 0] }).get? s.heap.objs.size = some { cls := .type (strIterType z), data := .fields #[.str z t, .int 0 0] } := Heap.get?_push_size _ rfl
  exact ⟨.ref s.heap.objs.size, _, I.laid (t' := s.toks) (fun b u e => Heap.get?_push_of_some _ e) (Nat.le_refl _) (sit_ok at_), rfl, q _ (I.hok.fresh (Nat.le_refl _)) I.sz⟩
/-- what was laid may be forgotten -/
theorem untrack {a : Addr} {φ : Heap → Prop} (I : Inv X pins σ (upd H a (.ext φ)) s) (hn : H a = none) : Inv X pins σ H s := by
  have ne : ∀ {b : Addr} {u : HO}, H b = some u → b ≠ a := fun e => ne_of_none e hn
  have back : ∀ {b : Addr} {u : HO}, (∀ ψ, u ≠ .ext ψ) → upd H a (.ext φ) b = some u → H b = some u := fun {b u} n e => by
    by_cases hb : b = a
    · rw [hb, upd_same] at e
      exact (n φ (Option.some.inj e).symm).elim
    · rw [upd_ne hb] at e
      exact e
  have none_ : ∀ {b : Addr}, upd H a (.ext φ) b = none → H b = none := fun {b} e => by
    by_cases hb : b = a
    · rw [hb]
      exact hn
    · rw [upd_ne hb] at e
      exact e
  refine { ok := I.ok, os := I.os, bare := I.bare, base := ?_, loc := I.loc, cell := I.cell, free := none_ I.free, freeC := fun x c e => none_ (I.freeC x c e), pin := fun p hp => ?_, hok := fun b u e => ?_, len := I.len }
  · have u := I.base
    refine ⟨u.keep, u.slot, fun b o e n hx => none_ (u.free b o e n hx), u.there, fun b xs e => back (fun ψ z => ?_) (u.tups b xs e), fun b o v e => back (fun ψ z => ?_) (u.frzs b o v e), fun b ps e => ?_⟩
    · cases z
    · cases z
    · obtain ⟨m, q⟩ := u.tbls b ps e
      refine ⟨m, back (fun ψ z => ?_) q⟩
      cases z
  · obtain ⟨e1, e2, e3⟩ := I.pin p hp
    exact ⟨e1, none_ e2, e3⟩
  · have x := I.hok b u (by rw [upd_ne (ne e)]; exact e)
    refine x.stay (fun c v _ q => q) (fun c q => back (fun ψ z => ?_) q) (fun c xs q => back (fun ψ z => ?_) q)
    · cases z
    · cases z
end
/-- what is told of the class's __iter__, at f -/
structure IterOk (P : Program) (w : World) (K : PySem.W.Frag) (mg : Str → Option Value) (base : Heap) (C f : Addr) (g : Str) (k : Nat) : Prop where
  find : PySem.W.findIn K (.ref C) "__iter__" = some (some (.ref f))
  fn : PySem.W.isFn K (.ref f) = true
  run : ∀ (A : Around) (outer : List Env) (s : Shared) (H : Hp) (a dx : Addr) (z : Str), Room k A → Env0 P w K mg base A outer s H → H a = some (.ins C dx [(g, .str z)]) →
    codeAny (model P w) A (.call (.ref f) ⟨[.ref a], []⟩) (CR C8.CX0 outer P w H s (fun v H' => ∃ it, v = .ref it ∧ H it = none ∧ s.heap.objs.size ≤ it ∧ H' = upd H it (SItO it z)) C8.E0) s
def iOwnS (C : Addr) (g : Str) (te : TE) : TI := fun σ H R => te σ H fun v H1 => ∃ (a dx : Addr) (z : Str), v = .ref a ∧ H1 a = some (.ins C dx [(g, .str z)]) ∧ R (Its z) H1
/-- for x in e, e an instance of it -/
theorem pi_ownS {X : Cx} {tg e : Expr} {te : TE} {C f : Addr} {g : Str} {k : Nat} (T : IterOk X.prog X.w X.K X.mg X.base C f g k) (hr : Room k X.A) (he : PE X e te) : PI X tg e (iOwnS C g te) := by
  refine ⟨fun pins s σ H R I h => ?_⟩
  refine thn (he.run pins s σ H _ I h) fun v s1 hh => ?_
  obtain ⟨y, H1, I1, r1, a, dx, z, rfl, ha, q⟩ := hh
  obtain rfl : v = Value.ref a := r1
  obtain ⟨mA, O, _⟩ := ins_get I1.hok ha
  obtain ⟨od, J, _⟩ := O.look
  obtain ⟨m, hns, _⟩ := I1.loc
  have Fm : Fr X.base X.env.locals s1.heap m := ⟨hns, I1.bk, Nat.le_trans I1.ok.bsz I1.ok.above⟩
  refine PySem.W.owit_iter Fm I1.ok.mod.kin J T.find T.fn (wpAny_call (codeAny_mono (T.run X.A X.stack s1 H1 a dx z hr I1.env0 ha) fun r s2 hq => ?_))
  cases r with
  | error er => exact False.elim hq
  | ok fl =>
    cases fl with
    | ret u =>
      obtain ⟨y2, H2, I2, r2, it, rfl, hn, hs, rfl⟩ := I1.after hq
      obtain rfl : u = Value.ref it := r2
      have hob : ObjOk X.prog X.w (upd H1 it (SItO it z)) s2.heap it (SItO it z) := I2.hok it _ upd_same
      obtain ⟨⟨t, at_⟩, _, _⟩ := hob
      have I3 := untrack I2 hn
      refine sit_next at_ ⟨it, [it], _, _, H1, rfl, I3, turn_str it z t (strIterType z) (sit_type z), ⟨_, at_, rfl, rfl⟩, fun b hb => ?_, q⟩
      obtain rfl : b = it := by simpa using hb
      exact I1.fpOk hs hn
    | next => exact False.elim hq
    | brk => exact False.elim hq
    | cont => exact False.elim hq
end SB
-- R15
namespace SB
open PySem PySem.Spec PyProof.Rows L2
section
variable {X : Cx} {CX : CXT} {k : Nat} {C f : Addr} {fd : FuncData} {ps : List Str} {sp : Sp} {E : XK} {pins : List (Addr × Obj)} {σ : L2.St} {H : Hp} {s : Shared}
/-- the frame that the library's rules ask for -/
theorem frame_of (I : Inv X pins σ H s) : ∃ m, Fr X.base X.env.locals s.heap m := by
  obtain ⟨m, hns, _⟩ := I.loc
  exact ⟨m, hns, I.bk, Nat.le_trans I.ok.bsz I.ok.above⟩
/-- len(x) by the own __len__ -/
def rLenOwn (C : Addr) (sp : Sp) (E : XK) : List V → Hp → VK → Prop := fun xs H Q => ∃ (a dx : Addr) (fs : List (Str × V)), xs = [.ref a] ∧ H a = some (.ins C dx fs) ∧
  sp [.ref a] H (fun v H' => ∃ n : Int, v = .int n ∧ 0 ≤ n ∧ n < 2 ^ 63 ∧ Q (.int n) H') E
theorem call_lenOwn (hs : PySem.W.findIn X.K (.ref C) "__len__" = some (some (.ref f))) (hf : PySem.W.isFn X.K (.ref f) = true) (F : FnOk X.prog X.w X.K X.mg X.base CX k f fd ps sp) (hr : Room (k + 1) X.A) (hb : Binds X.K fd ps []) (hx : Passes CX X E) :
    CallR X (.builtin "len") (rLenOwn C sp E) := by
  intro pins s σ H xs us Q I r h
  obtain ⟨a, dx, fs, rfl, ea, q⟩ := h
  obtain ⟨u, rfl, ru⟩ := vals1 r
  obtain rfl : u = Value.ref a := ru
  obtain ⟨od, J⟩ := inst_of I ea
  obtain ⟨m, Fm⟩ := frame_of I
  refine PySem.W.len_K Fm I.ok.mod.kin J hs hf ?_
  refine thn (run_in1 (us := [.ref a]) (vs := [.ref a]) F hr hb hx I (.cons rfl .nil) q) fun u s1 hh => ?_
  obtain ⟨w, H1, I1, r1, n, rfl, h0, h1, q1⟩ := hh
  obtain ⟨t, rfl⟩ := r1
  exact ⟨⟨h0, h1⟩, .int n, H1, I1.tok _, ⟨_, rfl⟩, q1⟩
end
end SB
-- R16
namespace SB
open PySem PySem.Spec PyProof.Rows L2
/-! ### a text from its end -/
theorem fm_map {α β : Type} {f : α → Option β} {h : α → β} : ∀ xs : List α, (∀ x ∈ xs, f x = some (h x)) → xs.filterMap f = xs.map h
  | [], _ => rfl
  | a :: r, e => by
    rw [List.filterMap_cons, e a List.mem_cons_self, fm_map r fun x hx => e x (List.mem_cons_of_mem _ hx)]
    rfl
theorem rev_pick (l : List Nat) : ((List.range l.length).map fun (k : Nat) => (((l.length : Int) - 1) + (-1) * (k : Int)).toNat).filterMap (fun i => l[i]?) = l.reverse := by
  rw [List.filterMap_map, fm_map (h := fun k => l.getD (l.length - 1 - k) 0)]
  · refine List.ext_getElem (by simp) fun k h2 h3 => ?_
    rw [List.getElem_map, List.getElem_range, List.getElem_reverse, List.getD_eq_getElem?_getD, List.getElem?_eq_getElem (by simp at h2; omega)]
    rfl
  · intro k hk
    have hk' : k < l.length := List.mem_range.mp hk
    have e : (((l.length : Int) - 1) + (-1) * (k : Int)).toNat = l.length - 1 - k := by omega
    show l[(((l.length : Int) - 1) + (-1) * (k : Int)).toNat]? = some (l.getD (l.length - 1 - k) 0)
    rw [e, List.getD_eq_getElem?_getD, List.getElem?_eq_getElem (by omega)]
    rfl
theorem rev_indices (n : Nat) : Builtin.Str.strSliceIndices none none (-1) n = (List.range n).map fun (k : Nat) => (((n : Int) - 1) + (-1) * (k : Int)).toNat := by
  have h1 : ((-1 : Int) > 0) = False := by simp
  show sliceRange (if (-1 : Int) > 0 then 0 else (n : Int) - 1) (if (-1 : Int) > 0 then (n : Int) else -1) (-1) = _
  simp only [h1, if_false]
  unfold sliceRange
  simp only [h1, if_false]
  have e1 : (- -1 : Int) = 1 := by decide
  have hc : (if (n : Int) - 1 > -1 then ((n : Int) - 1 - -1 - -1 - 1) / - -1 else 0).toNat = n := by
    by_cases hn : n = 0
    · subst hn
      rfl
    · rw [if_pos (by omega), e1, Int.ediv_one]
      omega
  rw [hc]
def revS (z : Str) : Str := T z.cps.toList.reverse
section
variable {X : Cx}
/-- e[::st], e a text, st -1 -/
theorem pe_revS {e st : Expr} {te ts : TE} {p2 pos : Pos} (he : PE X e te) (hst : PE X st ts) :
    PE X (.Subscript e (.Slice none none (some st) p2) pos) (fun σ H Q => te σ H fun x H1 => ts σ H1 fun y H2 => ∃ z : Str, x = .str z ∧ y = .int (-1) ∧ z.length ≤ sizeLine ∧ Q (.str (revS z)) H2) := by
  refine ⟨fun pins s σ H Q I h => ?_⟩
  refine Subscript_ (thn (he.run pins s σ H _ I h) fun v s1 hh => ?_)
  obtain ⟨x, H1, I1, r1, q1⟩ := hh
  refine wpAny_Slice ?_
  rw [evalPart_none, evalPart_some]
  refine wpAny_pure (wpAny_pure (thn (hst.run pins s1 σ H1 _ I1 q1) fun u s2 hh => ?_))
  obtain ⟨y, H2, I2, r2, z, rfl, rfl, hz, q⟩ := hh
  obtain ⟨t, rfl⟩ := r1
  obtain ⟨t2, rfl⟩ := r2
  have I4 : Inv X pins σ H2 { s2 with heap := s2.heap.push { cls := .type "slice", data := .fields #[.none, .none, .int (-1) t2] } } := I2.kept (t' := s2.toks) fun b ob q => Heap.get?_push_of_some _ q
  refine tail_any (ops := [.ref s2.heap.objs.size, .str z t]) (typeIs_str _ _ _) F.slot_str_getitem.lookup (wpAny_getItem_str_slice (l := none) (u := none) (st := some (-1, t2)) ⟨_, Heap.get?_push_size _ rfl, rfl, rfl⟩ rfl ?_) (by with_unfolding_all rfl)
  have hrev : (((Builtin.Str.strSliceIndices none none (-1) z.length).filterMap (z.cps[·]?)).toArray : Array Nat) = (z.cps.toList.reverse).toArray := by
    rw [rev_indices]
    congr 1
    have := rev_pick z.cps.toList
    rw [show z.cps.toList.length = z.length from rfl] at this
    simpa using this
  show Made.post (if ((-1 : Int) == 1 && (Builtin.Str.strSliceIndices none none (-1) z.length).length == z.length) = true then Made.val (.str z t)
    else Made.str ⟨((Builtin.Str.strSliceIndices none none (-1) z.length).filterMap (z.cps[·]?)).toArray⟩) (EP X pins σ Q) _
  rw [if_neg (by simp), hrev]
  refine ⟨?_, .str (revS z), H2, I4.tok _, ⟨_, rfl⟩, q⟩
  show z.cps.toList.reverse.toArray.size ≤ sizeLine
  rw [List.size_toArray, List.length_reverse]
  exact hz
end
end SB
-- R17
namespace SB
open PySem PySem.Spec PyProof.Rows L2
section
variable {X : Cx} {CX : CXT} {k : Nat} {C f : Addr} {fd : FuncData} {ps : List Str} {sp : Sp} {E : XK} {pins : List (Addr × Obj)} {σ : L2.St} {H : Hp} {s : Shared}
/-- a def called with two values from where we stand -/
theorem run_two {Q : VK} {u v : Value} {x y : V} (F : FnOk X.prog X.w X.K X.mg X.base CX k f fd ps sp) (hr : Room k X.A) (hb : Binds X.K fd ps []) (hx : Passes CX X E) (I : Inv X pins σ H s) (rx : RelV x u) (ry : RelV y v) (h : sp [x, y] H Q E) :
    wpAny (model X.prog X.w) X.A (call (.ref f) [u, v]) (EP X pins σ Q) X.xe s := run_at F hr I.env0 hb hx I (.cons rx (.cons ry .nil)) h
/-- the class of a value, looked up -/
theorem looks_ty {x : V} {u t : Value} (I : Inv X pins σ H s) (rx : RelV x u) (ty : TyX X.K H x t) : PySem.W.Looks (model X.prog X.w) s.heap (typeOf u) t := by
  obtain ⟨P, kx, hp, _⟩ := kit_of I rx ty
  exact kx.ty _ _ I.kIn hp
/-- x == y by x's own __eq__, y any value -/
def rEqOwn (K : PySem.W.Frag) (C : Addr) (sp : Sp) (E : XK) : R2 := fun x y H Q => ∃ (a dx : Addr) (fs : List (Str × V)) (t : Value), x = .ref a ∧ H a = some (.ins C dx fs) ∧ TyX K H y t ∧ PySem.W.notFirst K C t = true ∧
  sp [x, y] H (fun v H' => ∃ r, v = .bl r ∧ Q (.bl r) H') E
theorem op_eqOwn (hs : PySem.W.findIn X.K (.ref C) "__eq__" = some (some (.ref f))) (hf : PySem.W.isFn X.K (.ref f) = true) (F : FnOk X.prog X.w X.K X.mg X.base CX k f fd ps sp) (hr : Room (k + 1) X.A) (hb : Binds X.K fd ps []) (hx : Passes CX X E) :
    OpR X (compareOp .Eq) (rEqOwn X.K C sp E) := by
  intro pins s σ H x y u v Q I rx ry h
  obtain ⟨a, dx, fs, t, rfl, ea, ty, nf, q⟩ := h
  obtain rfl : u = Value.ref a := rx
  obtain ⟨od, J⟩ := inst_of I ea
  obtain ⟨m, Fm⟩ := frame_of I
  have un := hr.un
  show wpAny _ _ (richCompare .Eq (.ref a) v) _ _ _
  refine PySem.W.cmp_K (op := .Eq) (by omega) Fm I.ok.mod.kin J (looks_ty I ry ty) nf hs hf ?_
  refine thn (run_two (x := .ref a) F (hr.mono (by omega)) hb hx I rfl ry q) fun w s1 hh => ?_
  obtain ⟨z, H1, I1, r1, r, rfl, q1⟩ := hh
  obtain rfl : w = Value.bool r := r1
  exact ⟨.bl r, H1, I1, rfl, q1⟩
/-- x * y by the own __mul__ of both -/
def rMulOwn (C : Addr) (sp : Sp) (E : XK) : R2 := fun x y H Q => ∃ (a b dx dy : Addr) (fs gs : List (Str × V)), x = .ref a ∧ y = .ref b ∧ H a = some (.ins C dx fs) ∧ H b = some (.ins C dy gs) ∧
  sp [x, y] H (fun v H' => ∃ c, v = .ref c ∧ Q (.ref c) H') E
theorem op_mulOwn (hc : PySem.W.selfFirst X.K C = true) (hs : PySem.W.findIn X.K (.ref C) "__mul__" = some (some (.ref f))) (hf : PySem.W.isFn X.K (.ref f) = true) (F : FnOk X.prog X.w X.K X.mg X.base CX k f fd ps sp) (hr : Room k X.A) (hb : Binds X.K fd ps []) (hx : Passes CX X E) :
    OpR X (binaryOp .Mult) (rMulOwn C sp E) := by
  intro pins s σ H x y u v Q I rx ry h
  obtain ⟨a, b, dx, dy, fs, gs, rfl, rfl, ea, eb, q⟩ := h
  obtain rfl : u = Value.ref a := rx
  obtain rfl : v = Value.ref b := ry
  obtain ⟨od, J⟩ := inst_of I ea
  obtain ⟨od2, J2⟩ := inst_of I eb
  obtain ⟨m, Fm⟩ := frame_of I
  refine PySem.W.binop_K (op := .Mult) Fm I.ok.mod.kin J J2.type hc hs hf ?_
  refine thn (run_two (x := .ref a) (y := .ref b) F hr hb hx I rfl rfl q) fun w s1 hh => ?_
  obtain ⟨z, H1, I1, r1, c, rfl, q1⟩ := hh
  obtain rfl : w = Value.ref c := r1
  exact ⟨.ref c, H1, I1, rfl, q1⟩
/-- ~x by the own __invert__ -/
def rInvOwn (C : Addr) (sp : Sp) (E : XK) : V → Hp → VK → Prop := fun x H Q => ∃ (a dx : Addr) (fs : List (Str × V)), x = .ref a ∧ H a = some (.ins C dx fs) ∧ sp [x] H Q E
theorem un_invOwn (hs : PySem.W.findIn X.K (.ref C) "__invert__" = some (some (.ref f))) (hf : PySem.W.isFn X.K (.ref f) = true) (F : FnOk X.prog X.w X.K X.mg X.base CX k f fd ps sp) (hr : Room k X.A) (hb : Binds X.K fd ps []) (hx : Passes CX X E) :
    UnR X (unaryOp .Invert) (rInvOwn C sp E) := by
  intro pins s σ H x v Q I rx h
  obtain ⟨a, dx, fs, rfl, ea, q⟩ := h
  obtain rfl : v = Value.ref a := rx
  obtain ⟨od, J⟩ := inst_of I ea
  obtain ⟨m, Fm⟩ := frame_of I
  exact PySem.W.ksp_inv Fm I.ok.mod.kin J hs hf (run_at (vs := [.ref a]) F hr I.env0 hb hx I (.cons rfl .nil) q)
end
end SB
-- R18
namespace SB
open PySem PySem.Spec PyProof.Rows L2
section
variable {prog : Program} {w : World} {A : Around} {E : Value → Shared → Prop} {h : Heap} {g : Array GenState} {d : Drawn} {t : Nat} {os : OsState} {C x f : Addr} {B : String} {bm : List Value} {b : Value}
/-- object.__ne__ where the class tells its own __eq__ -/
theorem ne_entry (T : h.OwnEqNoNe x C f B bm) (hu : A.units < cLine) {Q : PySem.Fin → Shared → Prop}
    (hq : wpAny (model prog w) A (call (.ref f) [.ref x, b]) (fun v s' => ∃ r, v = .bool r ∧ Q (.done (.ret (.bool (!r)))) s') E ⟨h, g, d, t, os⟩) :
    wpAny (model prog w) A (Builtin.«object.__ne__» ⟨[.ref x, b], []⟩) Q E ⟨h, g, d, t, os⟩ := by
  unfold Builtin.«object.__ne__»
  repeat (first | (with_reducible refine wpAny_cRoomFor hu ?_) | (refine wpAny_bind (m := callSpecialIfBound? (.ref x) (Str.ofString "__eq__") [b]) (wpAny_callSpecialIfBound?_own T.ownEq (wpAny_mono hq (fun v s' hv => by
    obtain ⟨c, rfl, hc⟩ := hv
    repeat (first | exact hc | exact wpAny_pure hc | exact wpAny_truthy_bool hc | (refine wpAny_bind (m := truthy (.bool _)) (wpAny_truthy_bool ?_)) | wp_step)) fun _ _ z => z))) | wp_step)
theorem ne_try (FB : CmpFacts B bm) (T : h.OwnEqNoNe x C f B bm) (hu : A.units + 1 < cLine) {Q : Option Value → Shared → Prop}
    (hq : wpAny (model prog w) A.in1 (call (.ref f) [.ref x, b]) (fun v s' => ∃ r, v = .bool r ∧ Q (some (.bool (!r))) s') E ⟨h, g, d, t, os⟩) :
    wpAny (model prog w) A (tryCompare (.ref x) "__ne__" b) Q E ⟨h, g, d, t, os⟩ := by
  have T' := T
  obtain ⟨o, of, nm, q, N, bs, hdct, sn, sub, ab, col, dd, k0, k1, k2, k3, k5, newId, mN, yv, hx, hc, hC, hn, _, _, _, _, _, hne⟩ := T'
  simp only [tryCompare]
  have entry := ne_entry (A := A.in1) T hu (b := b) (Q := fun fin s' => ∃ r : Bool, fin = .done (.ret (.bool (!r))) ∧ Q (some (.bool (!r))) s') (wpAny_mono hq (fun v s' hv => by
    obtain ⟨r, rfl, hr⟩ := hv
    exact ⟨r, rfl, r, rfl, hr⟩) fun _ _ e => e)
  refine wpAny_bind (wpAny_callSpecialIfBound?_inst hx hc hC hn hne FB.mro FB.ne (wpAny_call (codeAny_call_builtin FB.ne.plain F.cmpEntry_ne (wpAny_check_slot_inst F.cmpKind_ne F.cmpSplit_ne (F.cmpArgs_ne (.ref x) b) FB.hasObject hx hc hC (wpAny_mono entry (fun fin s' hv => ?_) fun _ _ e => e)))))
  obtain ⟨r, rfl, hr⟩ := hv
  exact wpAny_pure hr
/-- x != b by the own __eq__, b of another kind -/
theorem ne_other (FB : CmpFacts B bm) (T : h.OwnEqNoNe x C f B bm) {tb : Value} (hb : PySem.W.Looks (model prog w) h (typeOf b) tb) (hsub : PySem.W.Looks (model prog w) h (isSubtype tb (.ref C)) false) (hne : (Value.ref C != tb) = true) (hu : A.units + 1 < cLine) {Q : Value → Shared → Prop}
    (hq : wpAny (model prog w) A.in1 (call (.ref f) [.ref x, b]) (fun v s' => ∃ r, v = .bool r ∧ Q (.bool (!r)) s') E ⟨h, g, d, t, os⟩) :
    wpAny (model prog w) A (compareOp .NotEq (.ref x) b) Q E ⟨h, g, d, t, os⟩ := by
  have T' := T
  obtain ⟨o, of, nm, q, N, bs, hdct, sn, sub, ab, col, dd, k0, k1, k2, k3, k5, newId, mN, yv, hx, hc, _⟩ := T'
  show wpAny (model prog w) A (richCompare .NotEq (.ref x) b) Q E ⟨h, g, d, t, os⟩
  unfold richCompare
  simp only [oneThing_ref]
  refine wpAny_holding (wpAny_bind (wpAny_cRoomFor (by omega) ?_))
  rw [cmpInfo_NotEq]
  dsimp only
  refine wpAny_bind (wpAny_typeOf_ref hx ?_)
  rw [hc]
  refine wpAny_bind (hb.here ?_)
  rw [hne]
  simp only [if_true]
  refine wpAny_bind (hsub.here ?_)
  simp only [Bool.false_eq_true, if_false]
  refine wpAny_bind (ne_try FB T hu (wpAny_mono hq (fun v s' hv => ?_) fun _ _ e => e))
  obtain ⟨r, rfl, hr⟩ := hv
  exact ⟨r, rfl, wpAny_pure hr⟩
end
section
variable {X : Cx} {CX : CXT} {k : Nat} {C f : Addr} {fd : FuncData} {ps : List Str} {sp : Sp} {E : XK}
theorem own_eq {pins : List (Addr × Obj)} {σ : L2.St} {H : Hp} {s : Shared} {a dx : Addr} {fs : List (Str × V)} (T : EqC X.K C f) (I : Inv X pins σ H s) (ea : H a = some (.ins C dx fs)) : s.heap.OwnEqNoNe a C f "object" [.type "object"] := by
  obtain ⟨nm, qn, N, bs, hdct, sn, sub, ab, col, dd, k0, k1, k2, k3, k5, newId, lk, ok, e1, e2⟩ := T.obj
  have KX := I.kIn
  obtain ⟨_, _, _, oa, _⟩ := (show ObjOk X.prog X.w H s.heap a (.ins C dx fs) from I.hok a _ ea)
  have hns : s.heap.Ns N (s.heap.nsMap N) := .of_isNs (PySem.W.isNs_of_in KX ok)
  have m1 : s.heap.nsMap N "__eq__" = some (.ref f) := ns_has KX hns e1
  have m2 : s.heap.nsMap N "__ne__" = none := PySem.W.ns_none_of KX hns e2
  obtain ⟨o, ho, hc⟩ := Option.map_eq_some_iff.mp (show (X.K.lookup f).map (·.cls) = some (.type "function") from beq_iff_eq.mp T.fn)
  exact ⟨_, o, nm, qn, N, bs, hdct, sn, sub, ab, col, dd, k0, k1, k2, k3, k5, newId, _, _, oa, rfl, KX _ _ lk, hns, m1, KX _ _ ho, hc, PySem.F.mro_object, rfl, m2⟩
/-- x != y by x's own __eq__, y of another kind -/
def rNeOther (K : PySem.W.Frag) (C : Addr) (sp : Sp) (E : XK) : R2 := fun x y H Q => ∃ (a dx : Addr) (fs : List (Str × V)) (t : Value), x = .ref a ∧ H a = some (.ins C dx fs) ∧ TyX K H y t ∧ PySem.W.subIn K t (.ref C) = some false ∧ (Value.ref C != t) = true ∧
  sp [x, y] H (fun v H' => ∃ r, v = .bl r ∧ Q (.bl (!r)) H') E
theorem op_neOther (T : EqC X.K C f) (F : FnOk X.prog X.w X.K X.mg X.base CX k f fd ps sp) (hr : Room (k + 1) X.A) (hb : Binds X.K fd ps []) (hx : Passes CX X E) : OpR X (compareOp .NotEq) (rNeOther X.K C sp E) := by
  intro pins s σ H x y u v Q I rx ry h
  obtain ⟨a, dx, fs, t, rfl, ea, ty, hs, hn, q⟩ := h
  obtain rfl : u = Value.ref a := rx
  have own := own_eq T I ea
  have lt := looks_ty I ry ty
  have ls : PySem.W.Looks (model X.prog X.w) s.heap (isSubtype t (.ref C)) false := PySem.W.looks_subIn I.kIn hs
  have un := hr.un
  obtain ⟨hp, g, d, tk, os⟩ := s
  refine ne_other PySem.F.cmp_object own lt ls hn (by omega) ?_
  refine thn (run_in1 (us := [.ref a, v]) (vs := [.ref a, y]) F hr hb hx I (.cons rfl (.cons ry .nil)) q) fun w s1 hh => ?_
  obtain ⟨z, H1, I1, r1, r, rfl, q1⟩ := hh
  obtain rfl : w = Value.bool r := r1
  exact ⟨r, rfl, .bl (!r), H1, I1, rfl, q1⟩
/-- x * y by x's own __mul__, which raises, y of a built-in kind -/
theorem mul_type {pins : List (Addr × Obj)} {σ : L2.St} {H : Hp} {s : Shared} {a : Addr} {ox : Obj} {od : Option Obj} {b : Value} {T : String} {fo ro rc : Option Value} {Q : Value → Shared → Prop} {Er : Value → Shared → Prop} (I : Inv X pins σ H s) (J : PySem.W.InstAt s.heap a ox C od)
    (lb : PySem.W.Looks (model X.prog X.w) s.heap (typeOf b) (.type T)) (hc : PySem.W.selfFirst X.K C = true) (hs : PySem.W.findIn X.K (.ref C) "__mul__" = some (some (.ref f))) (hf : PySem.W.isFn X.K (.ref f) = true) (hr : PySem.W.findIn X.K (.ref C) "__rmul__" = some rc) (hp : rc = none ∨ ∃ g : Addr, rc = some (.ref g))
    (h1 : PySem.W.findIn X.K (.type T) "__mul__" = some fo) (h2 : PySem.W.findIn X.K (.type T) "__rmul__" = some ro) (hsub : PySem.W.subIn X.K (.type T) (.ref C) = some false)
    (hq : wpAny (model X.prog X.w) X.A (call (.ref f) [.ref a, b]) (PySem.W.CmpBack Q) Er s) : wpAny (model X.prog X.w) X.A (binaryOp .Mult (.ref a) b) Q Er s := by
  have KX := I.kIn
  obtain ⟨cd, rest, hcd, hm⟩ := PySem.W.ksp_first hc
  have one := PySem.W.ksp_try (Q := Q) KX J hs hf hq
  obtain ⟨hh, g, d, tt, os⟩ := s
  have la : PySem.W.Looks (model X.prog X.w) hh (typeOf (.ref a)) (.ref C) := J.type
  have lb' : PySem.W.Looks (model X.prog X.w) hh (typeOf b) (.type T) := lb
  have lf : PySem.W.Looks (model X.prog X.w) hh (fillsNumberSlot (.ref C) "mul") true := PySem.W.fills_K KX hcd hm hs
  have lg : PySem.W.Looks (model X.prog X.w) hh (fillsNumberSlot (.type T) "mul") ((fo.isSome && !isSeqSlot fo) || (ro.isSome && !isSeqSlot ro)) := PySem.W.ksp_fillsT KX h1 h2
  have ls : PySem.W.Looks (model X.prog X.w) hh (isSubtype (.type T) (.ref C)) false := PySem.W.looks_subIn KX hsub
  have lp : PySem.W.Looks (model X.prog X.w) hh (numberSlotInPython (.ref C) "mul") true := PySem.W.ksp_inPy KX hs hr hp
  have ln : PySem.W.Looks (model X.prog X.w) hh (numberSlotInPython (.type T) "mul") false := PySem.W.Looks.of_pure rfl
  have lr : PySem.W.Looks (model X.prog X.w) hh (typeLookup (.type T) (dunderR "mul")) ro := PySem.W.looks_findIn KX h2
  generalize ((fo.isSome && !isSeqSlot fo) || (ro.isSome && !isSeqSlot ro)) = right at lg
  have other : (Value.ref C == Value.type T) = false := Bool.eq_false_iff.mpr fun z => by cases beq_iff_eq.mp z
  have op : Operator.Mult.info = ("*", "mul") := rfl
  simp only [binaryOp, op]
  refine wpAny_holding (wpAny_bind ?_)
  unfold binaryOp1
  refine wpAny_bind (la.at (wpAny_bind (lb'.at (wpAny_bind (lf.at ?_)))))
  simp only [other, Bool.false_eq_true, if_false]
  cases right <;> (ksp_lk; refine wpAny_mono one (fun r s' z => ?_) fun _ _ e => e; obtain ⟨v, rfl, hv⟩ := z; ksp_lk; exact hv)
end
end SB
-- M6
namespace SB
open PySem PySem.Spec PyProof.Rows L2
/-! ### what is left of a row of letters, once they undo one another -/
def push (l : List Nat) (c : Nat) : List Nat := if l.getLast? = some (up c) then l.dropLast else l ++ [c]
def strike (l : List Nat) : List Nat := l.foldl push []
def allL (l : List Nat) : Prop := ∀ c ∈ l, isL c = true
theorem allL_take {l : List Nat} (h : allL l) (n : Nat) : allL (l.take n) := fun c hc => h c (List.mem_of_mem_take hc)
theorem allL_drop {l : List Nat} (h : allL l) (n : Nat) : allL (l.drop n) := fun c hc => h c (List.mem_of_mem_drop hc)
theorem allL_app {a b : List Nat} (h : allL a) (k : allL b) : allL (a ++ b) := fun c hc => (List.mem_append.mp hc).elim (h c) (k c)
theorem allL_left {a b : List Nat} (h : allL (a ++ b)) : allL a := fun c hc => h c (List.mem_append_left _ hc)
theorem allL_right {a b : List Nat} (h : allL (a ++ b)) : allL b := fun c hc => h c (List.mem_append_right _ hc)
/-- a row is whole: letters, none behind the one that it undoes -/
def Fine (l : List Nat) : Prop := allL l ∧ flat l l.length
theorem fine_iff (l : List Nat) : fault l = none ↔ Fine l := fault_iff l
theorem fine_nil : Fine [] := ⟨fun c h => (nomatch h), fun j c d h => absurd h (by simp)⟩
theorem fine_pre {a b : List Nat} (h : Fine (a ++ b)) : Fine a := by
  refine ⟨allL_left h.1, fun j c d hj e1 e2 => h.2 j c d (by rw [List.length_append]; omega) ?_ ?_⟩
  · rw [List.getElem?_append_left (by omega)]
    exact e1
  · rw [List.getElem?_append_left (by omega)]
    exact e2
theorem fine_dropLast {l : List Nat} (h : Fine l) : Fine l.dropLast := by
  cases e : l.getLast? with
  | none =>
    rw [List.getLast?_eq_none_iff] at e
    subst e
    exact h
  | some d =>
    obtain ⟨r, rfl⟩ := last_split e
    rw [List.dropLast_concat]
    exact fine_pre h
theorem fine_snoc {l : List Nat} {c : Nat} (h : Fine l) (hc : isL c = true) (n : l.getLast? ≠ some (up c)) : Fine (l ++ [c]) := by
  rw [← fine_iff] at h ⊢
  refine fault_snoc h hc fun d hd e => n ?_
  have dL : isL d = true := letters_of _ _ _ h d (List.mem_of_getLast? hd)
  rw [hd, e, up_up d dL]
theorem fine_push {l : List Nat} {c : Nat} (h : Fine l) (hc : isL c = true) : Fine (push l c) := by
  unfold push
  by_cases e : l.getLast? = some (up c)
  · rw [if_pos e]
    exact fine_dropLast h
  · rw [if_neg e]
    exact fine_snoc h hc e
theorem fine_fold : ∀ (b s : List Nat), Fine s → allL b → Fine (b.foldl push s)
  | [], _, hs, _ => hs
  | c :: r, s, hs, hb => fine_fold r (push s c) (fine_push hs (hb c List.mem_cons_self)) fun d hd => hb d (List.mem_cons_of_mem _ hd)
theorem fine_strike {l : List Nat} (h : allL l) : Fine (strike l) := fine_fold l [] fine_nil h
theorem len_fold : ∀ (b s : List Nat), (b.foldl push s).length ≤ s.length + b.length
  | [], s => Nat.le_refl _
  | c :: r, s => by
    have h := len_fold r (push s c)
    have h2 : (push s c).length ≤ s.length + 1 := by
      unfold push
      split
      · rw [List.length_dropLast]
        omega
      · rw [List.length_append]
        exact Nat.le_refl _
    show (r.foldl push (push s c)).length ≤ s.length + (r.length + 1)
    omega
theorem len_strike (l : List Nat) : (strike l).length ≤ l.length := by
  have := len_fold l []
  simpa [strike] using this
theorem strike_snoc (l : List Nat) (c : Nat) : strike (l ++ [c]) = push (strike l) c := by
  unfold strike
  rw [List.foldl_append]
  rfl
theorem push_fine {l : List Nat} {c : Nat} (h : Fine (l ++ [c])) : push l c = l ++ [c] := by
  unfold push
  rw [if_neg]
  intro e
  obtain ⟨r, rfl⟩ := last_split e
  have q := h.2 r.length c (up c) (by simp) (by simp) (by simp)
  have cL : isL c = true := h.1 c (by simp)
  exact q (up_up c cL).symm
theorem fold_fine : ∀ (b s : List Nat), Fine (s ++ b) → b.foldl push s = s ++ b
  | [], s, _ => (List.append_nil s).symm
  | c :: r, s, h => by
    have h1 : s ++ c :: r = (s ++ [c]) ++ r := by simp
    have h2 : Fine (s ++ [c]) := by
      rw [h1] at h
      exact fine_pre h
    show r.foldl push (push s c) = s ++ c :: r
    rw [push_fine h2, h1]
    rw [h1] at h
    exact fold_fine r (s ++ [c]) h
theorem strike_fine {l : List Nat} (h : Fine l) : strike l = l := by
  have := fold_fine l [] h
  simpa [strike] using this
theorem push_push {s : List Nat} {x y : Nat} (hs : Fine s) (hy : isL y = true) (e : x = up y) : push (push s x) y = s := by
  subst e
  have uy : isL (up y) = true := up_isL y hy
  by_cases c : s.getLast? = some (up (up y))
  · have e1 : push s (up y) = s.dropLast := by
      unfold push
      rw [if_pos c]
    rw [up_up y hy] at c
    obtain ⟨r, rfl⟩ := last_split c
    rw [e1, List.dropLast_concat]
    exact push_fine hs
  · have e1 : push s (up y) = s ++ [up y] := by
      unfold push
      rw [if_neg c]
    rw [e1]
    unfold push
    rw [if_pos (by simp), List.dropLast_concat]
theorem strike_pair {a b : List Nat} {x y : Nat} (h : allL (a ++ x :: y :: b)) (e : x = up y) : strike (a ++ x :: y :: b) = strike (a ++ b) := by
  unfold strike
  rw [List.foldl_append, List.foldl_append]
  show b.foldl push (push (push (a.foldl push []) x) y) = b.foldl push (a.foldl push [])
  rw [push_push (fine_fold a [] fine_nil (allL_left h)) (h y (by simp)) e]
theorem str_ext {a b : Str} (h : a.cps.toList = b.cps.toList) : a = b := by
  cases a
  cases b
  simp only [Str.mk.injEq]
  exact Array.toList_inj.mp h
theorem join_codes (e : Str) (he : e.cps.toList = []) : ∀ l : List Nat, (Str.join e (l.map s1)).cps.toList = l
  | [] => rfl
  | [c] => rfl
  | c :: d :: r => by
    have ih := join_codes e he (d :: r)
    show ((s1 c ++ e) ++ Str.join e ((d :: r).map s1)).cps.toList = _
    rw [app_codes, app_codes, ih, he]
    rfl
theorem join_one (l : List Nat) : Txt.join "" (l.map s1) = T l := by
  refine str_ext ?_
  unfold Txt.join
  rw [StrLaws.glued_eq_join, join_codes _ (by rfl)]
  rfl
theorem join_sum (l : List Nat) : ((l.map s1).map (·.length)).sum = l.length := by
  induction l with
  | nil => rfl
  | cons a r ih =>
    rw [List.map_cons, List.map_cons, List.sum_cons, ih, List.length_cons]
    show 1 + r.length = r.length + 1
    omega
/-- the first sign that is no letter -/
def strange (i : Nat) : List Nat → Option Nat
  | [] => none
  | c :: r => if isL c = false then some i else strange (i + 1) r
theorem strange_none : ∀ (l : List Nat) (i : Nat), strange i l = none ↔ allL l
  | [], i => ⟨fun _ c h => (nomatch h), fun _ => rfl⟩
  | c :: r, i => by
    show (if isL c = false then some i else strange (i + 1) r) = none ↔ _
    by_cases e : isL c = false
    · rw [if_pos e]
      refine ⟨fun z => (nomatch z), fun h => ?_⟩
      rw [h c List.mem_cons_self] at e
      cases e
    · rw [if_neg e, strange_none r (i + 1)]
      constructor
      · intro h d hd
        rcases List.mem_cons.mp hd with q | q
        · rw [q]
          simpa using e
        · exact h d q
      · intro h d hd
        exact h d (List.mem_cons_of_mem _ hd)
end SB
-- M7
namespace SB
open PySem PySem.Spec PyProof.Rows L2
/-- a pen whose script's ints stand at l -/
def PenQ (l : Addr) (N : Int) (H : Hp) (p : Addr) : Prop := ∃ (ns : List Int) (i j : Int), H p = some (.lst [.ref l, .int i, .int j]) ∧ H l = some (.lst (ns.map V.int)) ∧ 0 ≤ i ∧ i ≤ N
section
variable {N M : Int} {H H' : Hp} {p l b : Addr}
theorem PenQ.mono (h : PenQ l N H p) (le : N ≤ M) : PenQ l M H p := by
  obtain ⟨ns, i, j, h1, h2, h3, h4⟩ := h
  exact ⟨ns, i, j, h1, h2, h3, by omega⟩
theorem PenQ.same (h : PenQ l N H p) (s : Same H H') : PenQ l N H' p := by
  obtain ⟨ns, i, j, h1, h2, h3, h4⟩ := h
  exact ⟨ns, i, j, s _ _ h1, s _ _ h2, h3, h4⟩
theorem PenQ.ne_p (h : PenQ l N H p) (e : H b = none) : b ≠ p := fun q => by
  obtain ⟨_, _, _, z, _⟩ := h
  rw [q, z] at e
  cases e
theorem PenQ.ne_l (h : PenQ l N H p) (e : H b = none) : b ≠ l := fun q => by
  obtain ⟨_, _, _, _, z, _⟩ := h
  rw [q, z] at e
  cases e
theorem PenQ.lp (h : PenQ l N H p) : l ≠ p := by
  obtain ⟨ns, i, j, h1, h2, _⟩ := h
  exact pen_ne h1 h2
/-- written elsewhere -/
theorem PenQ.write {o : HO} (h : PenQ l N H p) (np : b ≠ p) (nl : b ≠ l) : PenQ l N (upd H b o) p := by
  obtain ⟨ns, i, j, h1, h2, h3, h4⟩ := h
  refine ⟨ns, i, j, ?_, ?_, h3, h4⟩
  · rw [upd_ne (Ne.symm np)]
    exact h1
  · rw [upd_ne (Ne.symm nl)]
    exact h2
/-- what isn't a list isn't the pen -/
theorem PenQ.not_p {o : HO} (h : PenQ l N H p) (e : H b = some o) (n : ∀ xs, o ≠ .lst xs) : b ≠ p := fun q => by
  obtain ⟨_, _, _, z, _⟩ := h
  rw [q, z] at e
  exact n _ (Option.some.inj e).symm
theorem Kept.new {H1 : Hp} {o : HO} (k : Kept p H H1) (n : H b = none) : Kept p H (upd H1 b o) := fun c u e m => by
  rw [upd_ne (ne_of_none e n)]
  exact k c u e m
end
end SB
-- M8
namespace SB
open PySem PySem.Spec PyProof.Rows L2
theorem cut_take (z : Str) (k : Nat) : (cutS z none (some (k : Int))).cps.toList = z.cps.toList.take k := by
  unfold cutS
  rw [HT.sIx_nat, HT.sIx_none]
  show ((z.cps.toList.drop 0).take (min k z.length - 0)) = _
  rw [List.drop_zero, Nat.sub_zero]
  by_cases h : k ≤ z.length
  · rw [Nat.min_eq_left h]
  · have h1 : z.cps.toList.length ≤ z.length := Nat.le_refl _
    rw [Nat.min_eq_right (by omega), List.take_of_length_le h1, List.take_of_length_le (by omega)]
theorem cut_drop (z : Str) (k : Nat) : (cutS z (some (k : Int)) none).cps.toList = z.cps.toList.drop k := by
  unfold cutS
  rw [HT.sIx_nat, HT.sIx_none]
  show ((z.cps.toList.drop (min k z.length)).take (z.length - min k z.length)) = _
  have hl : z.cps.toList.length = z.length := rfl
  by_cases h : k ≤ z.length
  · rw [Nat.min_eq_left h]
    exact List.take_of_length_le (by rw [List.length_drop]; omega)
  · rw [Nat.min_eq_right (by omega), Nat.sub_self, List.take_zero, List.drop_of_length_le (by omega)]
theorem at_split {l : List Nat} {a c d : Nat} (hc : l[a]? = some c) (hd : l[a + 1]? = some d) : l = l.take a ++ c :: d :: l.drop (a + 2) := by
  obtain ⟨h1, e1⟩ := List.getElem?_eq_some_iff.mp hc
  obtain ⟨h2, e2⟩ := List.getElem?_eq_some_iff.mp hd
  have s1 : l.drop a = c :: l.drop (a + 1) := by rw [List.drop_eq_getElem_cons h1, e1]
  have s2 : l.drop (a + 1) = d :: l.drop (a + 2) := by rw [List.drop_eq_getElem_cons h2, e2]
  rw [← s2, ← s1, List.take_append_drop]
theorem flat_cut {l : List Nat} {a : Nat} (h : flat l (a + 1)) (n : a ≤ l.length) : flat (l.take a ++ l.drop (a + 2)) (a - 1 + 1) := by
  intro j c d hj hd hc
  have j1 : j + 1 < a := by omega
  rw [List.getElem?_append_left (by rw [List.length_take]; omega), List.getElem?_take_of_lt (by omega)] at hd hc
  exact h j c d (by omega) hd hc
theorem flat_next {l : List Nat} {a c d : Nat} (hL : allL l) (h : flat l (a + 1)) (hc : l[a]? = some c) (hd : l[a + 1]? = some d) (n : c ≠ up d) : flat l (a + 1 + 1) := by
  intro j x y hj hy hx
  by_cases e : j = a
  · subst e
    rw [hc] at hy
    rw [hd] at hx
    cases hy
    cases hx
    intro q
    refine n ?_
    rw [q, up_up c (hL c (List.mem_of_getElem? hc))]
  · exact h j x y (by omega) hy hx
end SB
-- M9
namespace SB
open PySem PySem.Spec PyProof.Rows L2
/-! ### lists of texts as data -/
def dstrs (l : List Str) : List PyData := l.map PyData.str
def vstrs (l : List Str) : List V := l.map V.str
theorem dp_texts {K : PySem.W.Frag} {H : Hp} : ∀ l : List Str, DpAll K H (vstrs l) (dstrs l)
  | [] => .nil
  | a :: r => .cons (.str a) (dp_texts r)
/-- a text that may be laid -/
def Plain (z : Str) : Prop := (z.cps.all fun c => decide (c < 0x110000)) = true
theorem shaped_texts {l : List Str} (h : ∀ z ∈ l, Plain z) : SeqAt.shaped (.list (dstrs l)) = true := by
  have lay : ∀ l : List Str, (∀ z ∈ l, Plain z) → PyData.canLayAll0 (dstrs l) = true := by
    intro l
    induction l with
    | nil => intro _; rfl
    | cons a r ih =>
      intro h
      show ((a.cps.all fun c => decide (c < 0x110000)) && PyData.canLayAll0 (dstrs r)) = true
      rw [h a List.mem_cons_self, ih fun z hz => h z (List.mem_cons_of_mem _ hz)]
      rfl
  have dep : ∀ l : List Str, PyData.depthAll (dstrs l) ≤ 1 := by
    intro l
    induction l with
    | nil => exact Nat.zero_le _
    | cons a r ih =>
      show max _ _ ≤ 1
      refine Nat.max_le.mpr ⟨?_, ih⟩
      simp [PyData.depth]
  unfold SeqAt.shaped
  have e1 : PyData.canLay0 (.list (dstrs l)) = true := lay l h
  rw [e1]
  refine decide_eq_true ?_
  have := dep l
  have e2 : PyData.depth (.list (dstrs l)) = PyData.depthAll (dstrs l) + 1 := by
    simp [PyData.depth]
  rw [e2]
  omega
theorem eqv_texts : ∀ l : List Str, PyData.eqvAll (dstrs l) (dstrs l) = true
  | [] => rfl
  | a :: r => by
    show ((a == a) && PyData.eqvAll (dstrs r) (dstrs r)) = true
    rw [eqv_texts r]
    simp
theorem plain_one {c : Nat} (h : isL c = true) : Plain (s1 c) := by
  have := letter_lt c h
  unfold Plain
  simp
  omega
theorem plain_fine {z : Str} (h : fault z.cps.toList = none) : Plain z := ok_word h
theorem plain_ones {l : List Nat} (h : allL l) : ∀ z ∈ l.map s1, Plain z := fun z hz => by
  obtain ⟨c, hc, rfl⟩ := List.mem_map.mp hz
  exact plain_one (h c hc)
end SB
-- M10
namespace SB
open PySem PySem.Spec PyProof.Rows L2
/-! ### long rows -/
theorem foldl_codes : ∀ (ls : List (Array Nat)) (acc : Array Nat), (ls.foldl (· ++ ·) acc).toList = acc.toList ++ (ls.map (·.toList)).flatten
  | [], acc => by simp
  | a :: r, acc => by
    rw [List.foldl_cons, foldl_codes r (acc ++ a), Array.toList_append, List.map_cons, List.flatten_cons, List.append_assoc]
theorem mul_codes {z : Str} {n : Int} (h : 1 < n) (hz : 0 < z.length) : (Txt.mul z n).cps.toList = (List.replicate n.toNat z.cps.toList).flatten := by
  have e1 : ¬ n < 1 := by omega
  have e2 : (n == 1 || z.length == 0) = false := by
    have a : (n == 1) = false := by simp; omega
    have b : (z.length == 0) = false := by simp; omega
    rw [a, b]
    rfl
  unfold Txt.mul
  rw [if_neg e1, e2]
  show ((List.replicate n.toNat z.cps).foldl (· ++ ·) #[]).toList = _
  rw [foldl_codes, List.map_replicate]
  rfl
theorem mul_mem {z : Str} {n : Int} (h : 1 < n) (hz : 0 < z.length) {c : Nat} (hc : c ∈ (Txt.mul z n).cps.toList) : c ∈ z.cps.toList := by
  rw [mul_codes h hz] at hc
  obtain ⟨l, h1, h2⟩ := List.mem_flatten.mp hc
  rw [List.eq_of_mem_replicate h1] at h2
  exact h2
theorem mul_len {z : Str} {n : Int} (h : 1 < n) (hz : 0 < z.length) : (Txt.mul z n).length = n.toNat * z.length := by
  have rep : ∀ (m k : Nat), (List.replicate m k).sum = m * k := by
    intro m k
    induction m with
    | zero => simp
    | succ m ih =>
      rw [List.replicate_succ, List.sum_cons, ih, Nat.succ_mul, Nat.add_comm]
  rw [len_codes, mul_codes h hz, List.length_flatten, List.map_replicate, rep]
  rfl
def units : List Str := ["A", "d", "AB", "CdaB"]
theorem units_ok : ∀ u ∈ units, (0 < u.length ∧ u.length ≤ 4) ∧ (∀ c ∈ u.cps.toList, isL c = true) ∧ (∀ c ∈ u.cps.toList, ∀ d ∈ u.cps.toList, c ≠ up d) := by decide +kernel
theorem units_mul : ∀ u ∈ units, MulOk u 4000 ∧ MulOk u 5000 := by
  unfold MulOk
  decide +kernel
theorem fine_units {u : Str} (hu : u ∈ units) {l : List Nat} (h : ∀ c ∈ l, c ∈ u.cps.toList) : Fine l := by
  obtain ⟨_, h1, h2⟩ := units_ok u hu
  exact ⟨fun c hc => h1 c (h c hc), fun j c d _ hd hc => h2 c (h c (List.mem_of_getElem? hc)) d (h d (List.mem_of_getElem? hd))⟩
/-- the first k signs of a unit written n times -/
theorem cut_mul {u : Str} (hu : u ∈ units) {n : Int} {k : Nat} (h : 1 < n) (hk : k ≤ n.toNat) : Fine (cutS (Txt.mul u n) none (some (k : Int))).cps.toList ∧ (cutS (Txt.mul u n) none (some (k : Int))).length = k := by
  obtain ⟨⟨l0, l4⟩, _⟩ := units_ok u hu
  have ml := mul_len h l0
  have le : n.toNat ≤ n.toNat * u.length := Nat.le_mul_of_pos_right _ l0
  constructor
  · refine fine_units hu fun c hc => ?_
    rw [cut_take] at hc
    exact mul_mem h l0 (List.mem_of_mem_take hc)
  · rw [len_codes, cut_take, List.length_take]
    have : (Txt.mul u n).cps.toList.length = (Txt.mul u n).length := rfl
    omega
theorem undo_tail : ∀ (m f : List Nat), allL f → allL m → strike (f ++ m ++ (m.map up).reverse) = strike f
  | [], f, _, _ => by simp
  | c :: r, f, hf, hm => by
    have cL := hm c List.mem_cons_self
    have rL : allL r := fun d hd => hm d (List.mem_cons_of_mem _ hd)
    have e : f ++ (c :: r) ++ ((c :: r).map up).reverse = ((f ++ [c]) ++ r ++ (r.map up).reverse) ++ [up c] := by simp
    have fL : allL (f ++ [c]) := allL_app hf fun d hd => by
      rw [List.mem_singleton.mp hd]
      exact cL
    rw [e, strike_snoc, undo_tail r (f ++ [c]) fL rL, strike_snoc]
    exact push_push (fine_strike hf) (up_isL c cL) (up_up c cL).symm
end SB
-- M11
namespace SB
open PySem PySem.Spec PyProof.Rows L2
/-- all but the tables and p stay -/
def KN (p : Addr) (H H' : Hp) : Prop := ∀ b o, H b = some o → b ≠ p → (∀ ps, o ≠ .tbl ps) → H' b = some o
theorem KN.of {p : Addr} {H H' : Hp} (s : Same H H') : KN p H H' := fun b o h _ _ => s b o h
theorem KN.ext {p : Addr} {H H' : Hp} (s : LamX.ExtN H H') : KN p H H' := fun b o h _ n => s b o h n
theorem KN.kept {p : Addr} {H H' : Hp} (s : Kept p H H') : KN p H H' := fun b o h n _ => s b o h n
theorem KN.trans {p : Addr} {H H1 H2 : Hp} (a : KN p H H1) (b : KN p H1 H2) : KN p H H2 := fun c o h n m => b c o (a c o h n m) n m
theorem penQ_ext {l p : Addr} {N : Int} {H H' : Hp} (h : PenQ l N H p) (e : LamX.ExtN H H') : PenQ l N H' p := by
  obtain ⟨ns, i, j, h1, h2, h3, h4⟩ := h
  exact ⟨ns, i, j, e _ _ h1 (fun _ z => nomatch z), e _ _ h2 (fun _ z => nomatch z), h3, h4⟩
theorem tabs_keptQ {T : List (Addr × Str)} {l p : Addr} {N : Int} {H H' : Hp} (t : LamX.Tabs T H) (h : PenQ l N H p) (k : Kept p H H') : LamX.Tabs T H' := by
  obtain ⟨ns, i, j, h1, _⟩ := h
  refine fun r hr => ?_
  obtain ⟨ps, a1, a2, a3⟩ := t r hr
  refine ⟨ps, k _ _ a1 (fun e => by rw [e, h1] at a1; cases a1), a2, fun pos cv hc => ?_⟩
  obtain ⟨c, e1, e2⟩ := a3 pos cv hc
  refine ⟨c, e1, k _ _ e2 (fun e => ?_)⟩
  rw [e, h1] at e2
  unfold LamX.CodeO at e2
  cases e2
theorem fault_stop : ∀ (a b : List Nat) (x : Nat) (p : Option Nat) (i : Nat), faultFrom p i a = none → isL x = false → faultFrom p i (a ++ x :: b) = some (i + a.length)
  | [], b, x, p, i, _, hx => if_pos (.inl hx)
  | c :: r, b, x, p, i, h, hx => by
    have h' : (if isL c = false ∨ some (up c) = p then some i else faultFrom (some c) (i + 1) r) = none := h
    by_cases e : isL c = false ∨ some (up c) = p
    · rw [if_pos e] at h'
      cases h'
    · rw [if_neg e] at h'
      show (if isL c = false ∨ some (up c) = p then some i else faultFrom (some c) (i + 1) (r ++ x :: b)) = _
      rw [if_neg e, fault_stop r b x (some c) (i + 1) h' hx, List.length_cons]
      congr 1
      omega
theorem strange_stop : ∀ (a b : List Nat) (x : Nat) (i : Nat), allL a → isL x = false → strange i (a ++ x :: b) = some (i + a.length)
  | [], b, x, i, _, hx => if_pos hx
  | c :: r, b, x, i, h, hx => by
    have cL := h c List.mem_cons_self
    show (if isL c = false then some i else strange (i + 1) (r ++ x :: b)) = _
    rw [if_neg (by rw [cL]; decide), strange_stop r b x (i + 1) (fun d hd => h d (List.mem_cons_of_mem _ hd)) hx, List.length_cons]
    congr 1
    omega
end SB
-- M12
namespace SB
open PySem PySem.Spec PyProof.Rows L2
/-! ### the group of the rows -/
/-- the row that undoes one -/
def inv (l : List Nat) : List Nat := (l.map up).reverse
theorem inv_app (a b : List Nat) : inv (a ++ b) = inv b ++ inv a := by simp [inv]
theorem inv_len (l : List Nat) : (inv l).length = l.length := by simp [inv]
theorem allL_inv {l : List Nat} (h : allL l) : allL (inv l) := fun c hc => by
  obtain ⟨d, hd, rfl⟩ := List.mem_map.mp (List.mem_reverse.mp hc)
  exact up_isL d (h d hd)
theorem inv_inv {l : List Nat} (h : allL l) : inv (inv l) = l := by
  unfold inv
  rw [List.map_reverse, List.reverse_reverse, List.map_map]
  conv => rhs; rw [← List.map_id l]
  exact List.map_congr_left fun c hc => up_up c (h c hc)
theorem fold_strike : ∀ (b : List Nat) (s r : List Nat), Fine s → Fine r → allL b → (b.foldl push r).foldl push s = b.foldl push (r.foldl push s)
  | [], s, r, _, _, _ => rfl
  | c :: b, s, r, hs, hr, hb => by
    have cL := hb c List.mem_cons_self
    show (b.foldl push (push r c)).foldl push s = b.foldl push (push (r.foldl push s) c)
    rw [fold_strike b s (push r c) hs (fine_push hr cL) fun d hd => hb d (List.mem_cons_of_mem _ hd)]
    congr 1
    by_cases e : r.getLast? = some (up c)
    · have ep : push r c = r.dropLast := by
        unfold push
        rw [if_pos e]
      obtain ⟨q, rfl⟩ := last_split e
      rw [ep, List.dropLast_concat, List.foldl_append]
      show q.foldl push s = push (push (q.foldl push s) (up c)) c
      have hq : Fine q := fine_pre hr
      exact (push_push (fine_fold q s hs hq.1) cL rfl).symm
    · have ep : push r c = r ++ [c] := by
        unfold push
        rw [if_neg e]
      rw [ep, List.foldl_append]
      rfl
/-- what is left of one row behind another, once each is struck -/
theorem strike_app {a b : List Nat} (ha : allL a) (hb : allL b) : strike (strike a ++ b) = strike (a ++ b) ∧ strike (a ++ strike b) = strike (a ++ b) := by
  constructor
  · unfold strike
    rw [List.foldl_append, List.foldl_append]
    have : (a.foldl push []).foldl push [] = a.foldl push [] := strike_fine (fine_strike ha)
    rw [this]
  · unfold strike
    rw [List.foldl_append, List.foldl_append, fold_strike b (a.foldl push []) [] (fine_fold a [] fine_nil ha) fine_nil hb]
    rfl
theorem fold_inv : ∀ (m s : List Nat), Fine s → allL m → (m ++ inv m).foldl push s = s
  | [], s, _, _ => rfl
  | c :: r, s, hs, hm => by
    have cL := hm c List.mem_cons_self
    have e : (c :: r) ++ inv (c :: r) = [c] ++ (r ++ inv r) ++ [up c] := by simp [inv]
    rw [e, List.foldl_append, List.foldl_append]
    show push ((r ++ inv r).foldl push (push s c)) (up c) = s
    rw [fold_inv r (push s c) (fine_push hs cL) fun d hd => hm d (List.mem_cons_of_mem _ hd)]
    exact push_push hs (up_isL c cL) (up_up c cL).symm
theorem strike_inv_right {a b : List Nat} (ha : allL a) (hb : allL b) : strike (a ++ b ++ inv b) = strike a := by
  unfold strike
  rw [List.append_assoc, List.foldl_append, fold_inv b _ (fine_fold a [] fine_nil ha) hb]
theorem strike_inv_left {a b : List Nat} (ha : allL a) (hb : allL b) : strike (inv a ++ (a ++ b)) = strike b := by
  have h := fold_inv (inv a) [] fine_nil (allL_inv ha)
  rw [inv_inv ha] at h
  unfold strike
  rw [← List.append_assoc, List.foldl_append, h]
theorem fine_inv {l : List Nat} (h : Fine l) : Fine (inv l) := by
  refine ⟨allL_inv h.1, fun j c d hj hd hc => ?_⟩
  rw [inv_len] at hj
  unfold inv at hd hc
  have l1 : (l.map up).length = l.length := List.length_map ..
  rw [List.getElem?_reverse (by omega), l1, List.getElem?_map] at hd hc
  obtain ⟨x, hx, rfl⟩ := Option.map_eq_some_iff.mp hd
  obtain ⟨y, hy, rfl⟩ := Option.map_eq_some_iff.mp hc
  have xL := h.1 x (List.mem_of_getElem? hx)
  have yL := h.1 y (List.mem_of_getElem? hy)
  intro e
  have e2 : up y = x := e.trans (up_up x xL)
  have key := h.2 (l.length - 1 - (j + 1)) x y (by omega) (by rw [show l.length - 1 - (j + 1) = l.length - 1 - (j + 1) from rfl]; exact hy) (by rw [show l.length - 1 - (j + 1) + 1 = l.length - 1 - j by omega]; exact hx)
  exact key e2.symm
theorem strike_inv {l : List Nat} (h : allL l) : strike (inv l) = inv (strike l) := by
  have h1 : Fine (inv (strike l)) := fine_inv (fine_strike h)
  have e1 : strike (inv (strike l) ++ (strike l ++ inv l)) = strike (inv l) := strike_inv_left (fine_strike h).1 (allL_inv h)
  have e2 : strike (strike l ++ inv l) = [] := by
    rw [(strike_app h (allL_inv h)).1]
    have h0 := strike_inv_right (a := []) fine_nil.1 h
    have h1 : strike (l ++ inv l) = strike [] := by simpa using h0
    exact h1
  have e3 : strike (inv (strike l) ++ (strike l ++ inv l)) = strike (inv (strike l)) := by
    rw [← (strike_app (allL_inv (fine_strike h).1) (allL_app (fine_strike h).1 (allL_inv h))).2, e2, List.append_nil]
  rw [← e1, e3, strike_fine h1]
theorem fine_join {a b : List Nat} (ha : Fine a) (hb : Fine b) (n : ∀ x y, a.getLast? = some x → b[0]? = some y → y ≠ up x) : Fine (a ++ b) := by
  refine ⟨allL_app ha.1 hb.1, fun j c d hj hd hc => ?_⟩
  rw [List.length_append] at hj
  by_cases h1 : j + 1 < a.length
  · rw [List.getElem?_append_left (by omega)] at hd hc
    exact ha.2 j c d h1 hd hc
  · by_cases h2 : j < a.length
    · have e : j + 1 = a.length := by omega
      rw [List.getElem?_append_left h2] at hd
      rw [List.getElem?_append_right (by omega), e, Nat.sub_self] at hc
      refine n d c ?_ hc
      rw [List.getLast?_eq_getElem?, ← e]
      exact hd
    · rw [List.getElem?_append_right (by omega)] at hd hc
      have e : j + 1 - a.length = (j - a.length) + 1 := by omega
      rw [e] at hc
      exact hb.2 (j - a.length) c d (by omega) hd hc
theorem fine_take {l : List Nat} (h : Fine l) (n : Nat) : Fine (l.take n) := fine_pre (b := l.drop n) (by rw [List.take_append_drop]; exact h)
theorem fine_drop {l : List Nat} (h : Fine l) (n : Nat) : Fine (l.drop n) := by
  refine ⟨allL_drop h.1 n, fun j c d hj hd hc => ?_⟩
  rw [List.length_drop] at hj
  rw [List.getElem?_drop] at hd hc
  have e : n + (j + 1) = (n + j) + 1 := by omega
  rw [e] at hc
  exact h.2 (n + j) c d (by omega) hd hc
/-- one step of the striking out from the middle -/
theorem join_step {a b : List Nat} {g x y : Nat} (ha : Fine a) (hb : Fine b) (hg : g < a.length) (hx : a[a.length - 1 - g]? = some x) (hy : b[g]? = some y) (e : x = up y) :
    strike (a.take (a.length - g) ++ b.drop g) = strike (a.take (a.length - (g + 1)) ++ b.drop (g + 1)) := by
  have e1 : a.take (a.length - g) = a.take (a.length - (g + 1)) ++ [x] := by
    have h1 : a.length - g = (a.length - (g + 1)) + 1 := by omega
    rw [h1, List.take_add_one]
    have h2 : a.length - (g + 1) = a.length - 1 - g := by omega
    rw [h2, hx]
    rfl
  have e2 : b.drop g = y :: b.drop (g + 1) := by
    obtain ⟨h1, h2⟩ := List.getElem?_eq_some_iff.mp hy
    rw [List.drop_eq_getElem_cons h1, h2]
  rw [e1, e2, List.append_assoc]
  refine strike_pair ?_ e
  have hL : allL (a.take (a.length - (g + 1)) ++ ([x] ++ (y :: b.drop (g + 1)))) := by
    rw [← e2, ← List.append_assoc, ← e1]
    exact allL_app (allL_take ha.1 _) (allL_drop hb.1 _)
  exact hL
theorem join_end {a b : List Nat} {g : Nat} (ha : Fine a) (hb : Fine b) (n : ∀ x y, g < a.length → a[a.length - 1 - g]? = some x → b[g]? = some y → x ≠ up y) : strike (a.take (a.length - g) ++ b.drop g) = a.take (a.length - g) ++ b.drop g := by
  refine strike_fine (fine_join (fine_take ha _) (fine_drop hb _) fun x y hx hy => ?_)
  rw [List.getElem?_drop, Nat.add_zero] at hy
  rw [List.getLast?_eq_getElem?, List.length_take] at hx
  have hg : g < a.length := by
    rcases Nat.lt_or_ge g a.length with q | q
    · exact q
    · rw [show min (a.length - g) a.length - 1 = 0 by omega, show a.length - g = 0 by omega] at hx
      simp at hx
  rw [List.getElem?_take_of_lt (by omega), show min (a.length - g) a.length - 1 = a.length - 1 - g by omega] at hx
  have k := n x y hg hx hy
  intro e
  refine k ?_
  rw [e, up_up x (ha.1 x (List.mem_of_getElem? hx))]
end SB
-- K02T
namespace K02
open PySem PySem.Spec PyProof.Rows L2 SB
def topS (i : Nat) : Stmt := PySem.Challenge.pw_sevenball_k02_products_and_undoings.main.body.getD i (.Pass ⟨0, 0, 0, 0⟩)
abbrev s__wall : Stmt := topS 0
theorem sc__wall : FnScope ["k"] ["k"] (defScope s__wall) := ⟨rfl, rfl, rfl, by decide +kernel, rfl, by decide +kernel, by decide +kernel⟩
abbrev s_BadNumber_init : Stmt := inClass (topS 3) 0
theorem sc_BadNumber_init : FnScope ["self", "part"] ["self", "part"] (defScope s_BadNumber_init) := ⟨rfl, rfl, rfl, by decide +kernel, rfl, by decide +kernel, by decide +kernel⟩
abbrev s_BadWord_init : Stmt := inClass (topS 4) 0
theorem sc_BadWord_init : FnScope ["self", "at"] ["self", "at"] (defScope s_BadWord_init) := ⟨rfl, rfl, rfl, by decide +kernel, rfl, by decide +kernel, by decide +kernel⟩
abbrev s_TooMany_init : Stmt := inClass (topS 5) 0
theorem sc_TooMany_init : FnScope ["self", "what", "most"] ["self", "what", "most"] (defScope s_TooMany_init) := ⟨rfl, rfl, rfl, by decide +kernel, rfl, by decide +kernel, by decide +kernel⟩
abbrev s_BadText_init : Stmt := inClass (topS 6) 0
theorem sc_BadText_init : FnScope ["self", "item"] ["self", "item"] (defScope s_BadText_init) := ⟨rfl, rfl, rfl, by decide +kernel, rfl, by decide +kernel, by decide +kernel⟩
abbrev s_is_integer : Stmt := topS 9
theorem sc_is_integer : FnScope ["value"] ["value"] (defScope s_is_integer) := ⟨rfl, rfl, rfl, by decide +kernel, rfl, by decide +kernel, by decide +kernel⟩
abbrev s_is_within : Stmt := topS 10
theorem sc_is_within : FnScope ["value", "least", "most"] ["value", "least", "most"] (defScope s_is_within) := ⟨rfl, rfl, rfl, by decide +kernel, rfl, by decide +kernel, by decide +kernel⟩
abbrev s_first_fault : Stmt := topS 13
theorem sc_first_fault : FnScope ["letters", "before", "at", "letter"] ["letters"] (defScope s_first_fault) := ⟨rfl, rfl, rfl, by decide +kernel, rfl, by decide +kernel, by decide +kernel⟩
abbrev s_first_stranger : Stmt := topS 14
theorem sc_first_stranger : FnScope ["letters", "at", "letter"] ["letters"] (defScope s_first_stranger) := ⟨rfl, rfl, rfl, by decide +kernel, rfl, by decide +kernel, by decide +kernel⟩
abbrev s_struck : Stmt := topS 15
theorem sc_struck : FnScope ["letters", "left", "letter"] ["letters"] (defScope s_struck) := ⟨rfl, rfl, rfl, by decide +kernel, rfl, by decide +kernel, by decide +kernel⟩
abbrev s_joined : Stmt := topS 16
theorem sc_joined : FnScope ["one", "other", "size", "most", "gone"] ["one", "other"] (defScope s_joined) := ⟨rfl, rfl, rfl, by decide +kernel, rfl, by decide +kernel, by decide +kernel⟩
abbrev s_undone : Stmt := topS 17
theorem sc_undone : FnScope ["letters"] ["letters"] (defScope s_undone) := ⟨rfl, rfl, rfl, by decide +kernel, rfl, by decide +kernel, by decide +kernel⟩
abbrev s_items_of : Stmt := topS 19
theorem sc_items_of : FnScope ["text"] ["text"] (defScope s_items_of) := ⟨rfl, rfl, rfl, by decide +kernel, rfl, by decide +kernel, by decide +kernel⟩
abbrev s_Word_init : Stmt := inClass (topS 21) 0
theorem sc_Word_init : FnScope ["self", "letters", "at"] ["self", "letters"] (defScope s_Word_init) := ⟨rfl, rfl, rfl, by decide +kernel, rfl, by decide +kernel, by decide +kernel⟩
abbrev s_Word_of : Stmt := inClass (topS 21) 1
theorem sc_Word_of : FnScope ["letters", "at"] ["letters"] (defScope s_Word_of) := ⟨rfl, rfl, rfl, by decide +kernel, rfl, by decide +kernel, by decide +kernel⟩
abbrev s_Word_read : Stmt := inClass (topS 21) 2
theorem sc_Word_read : FnScope ["text", "items", "word"] ["text"] (defScope s_Word_read) := ⟨rfl, rfl, rfl, by decide +kernel, rfl, by decide +kernel, by decide +kernel⟩
abbrev s_Word_str : Stmt := inClass (topS 21) 3
theorem sc_Word_str : FnScope ["self"] ["self"] (defScope s_Word_str) := ⟨rfl, rfl, rfl, by decide +kernel, rfl, by decide +kernel, by decide +kernel⟩
abbrev s_Word_mul : Stmt := inClass (topS 21) 4
theorem sc_Word_mul : FnScope ["self", "other"] ["self", "other"] (defScope s_Word_mul) := ⟨rfl, rfl, rfl, by decide +kernel, rfl, by decide +kernel, by decide +kernel⟩
abbrev s_Word_invert : Stmt := inClass (topS 21) 5
theorem sc_Word_invert : FnScope ["self"] ["self"] (defScope s_Word_invert) := ⟨rfl, rfl, rfl, by decide +kernel, rfl, by decide +kernel, by decide +kernel⟩
abbrev s_Word_power : Stmt := inClass (topS 21) 6
theorem sc_Word_power : FnScope ["self", "many"] ["self", "many"] (defScope s_Word_power) := ⟨rfl, rfl, rfl, by decide +kernel, rfl, by decide +kernel, by decide +kernel⟩
abbrev s_Word_len : Stmt := inClass (topS 21) 7
theorem sc_Word_len : FnScope ["self"] ["self"] (defScope s_Word_len) := ⟨rfl, rfl, rfl, by decide +kernel, rfl, by decide +kernel, by decide +kernel⟩
abbrev s_Word_iter : Stmt := inClass (topS 21) 8
theorem sc_Word_iter : FnScope ["self"] ["self"] (defScope s_Word_iter) := ⟨rfl, rfl, rfl, by decide +kernel, rfl, by decide +kernel, by decide +kernel⟩
abbrev s_Word_getitem : Stmt := inClass (topS 21) 9
theorem sc_Word_getitem : FnScope ["self", "at"] ["self", "at"] (defScope s_Word_getitem) := ⟨rfl, rfl, rfl, by decide +kernel, rfl, by decide +kernel, by decide +kernel⟩
abbrev s_Word_eq : Stmt := inClass (topS 21) 10
theorem sc_Word_eq : FnScope ["self", "other"] ["self", "other"] (defScope s_Word_eq) := ⟨rfl, rfl, rfl, by decide +kernel, rfl, by decide +kernel, by decide +kernel⟩
abbrev s_Word_lt : Stmt := inClass (topS 21) 11
theorem sc_Word_lt : FnScope ["self", "other"] ["self", "other"] (defScope s_Word_lt) := ⟨rfl, rfl, rfl, by decide +kernel, rfl, by decide +kernel, by decide +kernel⟩
abbrev s_Word_le : Stmt := inClass (topS 21) 12
theorem sc_Word_le : FnScope ["self", "other"] ["self", "other"] (defScope s_Word_le) := ⟨rfl, rfl, rfl, by decide +kernel, rfl, by decide +kernel, by decide +kernel⟩
abbrev s_Word_gt : Stmt := inClass (topS 21) 13
theorem sc_Word_gt : FnScope ["self", "other"] ["self", "other"] (defScope s_Word_gt) := ⟨rfl, rfl, rfl, by decide +kernel, rfl, by decide +kernel, by decide +kernel⟩
abbrev s_Word_ge : Stmt := inClass (topS 21) 14
theorem sc_Word_ge : FnScope ["self", "other"] ["self", "other"] (defScope s_Word_ge) := ⟨rfl, rfl, rfl, by decide +kernel, rfl, by decide +kernel, by decide +kernel⟩
abbrev s_Word_begins : Stmt := inClass (topS 21) 15
theorem sc_Word_begins : FnScope ["self", "other"] ["self", "other"] (defScope s_Word_begins) := ⟨rfl, rfl, rfl, by decide +kernel, rfl, by decide +kernel, by decide +kernel⟩
abbrev s_Word_ends : Stmt := inClass (topS 21) 16
theorem sc_Word_ends : FnScope ["self", "other"] ["self", "other"] (defScope s_Word_ends) := ⟨rfl, rfl, rfl, by decide +kernel, rfl, by decide +kernel, by decide +kernel⟩
abbrev s_Word_fits : Stmt := inClass (topS 21) 17
theorem sc_Word_fits : FnScope ["self", "other"] ["self", "other"] (defScope s_Word_fits) := ⟨rfl, rfl, rfl, by decide +kernel, rfl, by decide +kernel, by decide +kernel⟩
abbrev s_Word_meet : Stmt := inClass (topS 21) 18
theorem sc_Word_meet : FnScope ["self", "other"] ["self", "other"] (defScope s_Word_meet) := ⟨rfl, rfl, rfl, by decide +kernel, rfl, by decide +kernel, by decide +kernel⟩
abbrev s_Word_root : Stmt := inClass (topS 21) 19
theorem sc_Word_root : FnScope ["self"] ["self"] (defScope s_Word_root) := ⟨rfl, rfl, rfl, by decide +kernel, rfl, by decide +kernel, by decide +kernel⟩
abbrev s_Word_core : Stmt := inClass (topS 21) 20
theorem sc_Word_core : FnScope ["self"] ["self"] (defScope s_Word_core) := ⟨rfl, rfl, rfl, by decide +kernel, rfl, by decide +kernel, by decide +kernel⟩
abbrev s_word_in : Stmt := topS 22
theorem sc_word_in : FnScope ["item"] ["item"] (defScope s_word_in) := ⟨rfl, rfl, rfl, by decide +kernel, rfl, by decide +kernel, by decide +kernel⟩
abbrev s__law_pen : Stmt := topS 24
theorem sc__law_pen : FnScope ["script"] ["script"] (defScope s__law_pen) := ⟨rfl, rfl, rfl, by decide +kernel, rfl, by decide +kernel, by decide +kernel⟩
abbrev s__law_draw : Stmt := topS 25
theorem sc__law_draw : FnScope ["pen", "many", "digit", "spot", "cell", "great", "mixed"] ["pen", "many"] (defScope s__law_draw) := ⟨rfl, rfl, rfl, by decide +kernel, rfl, by decide +kernel, by decide +kernel⟩
abbrev s__law_pick : Stmt := topS 26
theorem sc__law_pick : FnScope ["pen", "some"] ["pen", "some"] (defScope s__law_pick) := ⟨rfl, rfl, rfl, by decide +kernel, rfl, by decide +kernel, by decide +kernel⟩
abbrev s__law_heard : Stmt := topS 27
theorem sc__law_heard : FnScope ["ask", "caught", "error"] ["ask"] (defScope s__law_heard) := ⟨rfl, rfl, rfl, by decide +kernel, rfl, by decide +kernel, by decide +kernel⟩
abbrev s__law_undo : Stmt := topS 28
theorem sc__law_undo : FnScope ["letter"] ["letter"] (defScope s__law_undo) := ⟨rfl, rfl, rfl, by decide +kernel, rfl, by decide +kernel, by decide +kernel⟩
abbrev s__law_row : Stmt := topS 29
theorem sc__law_row : FnScope ["pen", "most", "found", "kind", "turn", "some", "letter"] ["pen", "most"] (defScope s__law_row) := ⟨rfl, rfl, rfl, by decide +kernel, rfl, by decide +kernel, by decide +kernel⟩
abbrev s__law_back : Stmt := topS 30
theorem sc__law_back : FnScope ["row", "found", "letter"] ["row"] (defScope s__law_back) := ⟨rfl, rfl, rfl, by decide +kernel, rfl, by decide +kernel, by decide +kernel⟩
abbrev s__law_struck : Stmt := topS 31
theorem sc__law_struck : FnScope ["row", "left", "at"] ["row"] (defScope s__law_struck) := ⟨rfl, rfl, rfl, by decide +kernel, rfl, by decide +kernel, by decide +kernel⟩
abbrev s__law_partner : Stmt := topS 32
theorem sc__law_partner : FnScope ["pen", "row", "way", "cut"] ["pen", "row"] (defScope s__law_partner) := ⟨rfl, rfl, rfl, by decide +kernel, rfl, by decide +kernel, by decide +kernel⟩
abbrev s__law_told : Stmt := topS 33
theorem sc__law_told : FnScope ["told", "due"] ["told", "due"] (defScope s__law_told) := ⟨rfl, rfl, rfl, by decide +kernel, rfl, by decide +kernel, by decide +kernel⟩
abbrev s__law_pair_right : Stmt := topS 34
theorem sc__law_pair_right : FnScope ["one", "other", "first", "then", "made", "due", "is_whole"] ["one", "other"] (defScope s__law_pair_right) := ⟨rfl, rfl, rfl, by decide +kernel, rfl, by decide +kernel, by decide +kernel⟩
abbrev s__law_refused_right : Stmt := topS 35
theorem sc__law_refused_right : FnScope ["pen", "one", "heard", "caught", "odd", "word"] ["pen", "one"] (defScope s__law_refused_right) := ⟨rfl, rfl, rfl, by decide +kernel, rfl, by decide +kernel, by decide +kernel⟩
abbrev s__law_long_right : Stmt := topS 36
theorem sc__law_long_right : FnScope ["pen", "units", "many", "one", "other", "short", "then", "caught", "first", "more"] ["pen"] (defScope s__law_long_right) := ⟨rfl, rfl, rfl, by decide +kernel, rfl, by decide +kernel, by decide +kernel⟩
abbrev s_law : Stmt := topS 37
theorem sc_law : FnScope ["script", "pen", "turn", "one", "other", "third"] ["script"] (defScope s_law) := ⟨rfl, rfl, rfl, by decide +kernel, rfl, by decide +kernel, by decide +kernel⟩
end K02
-- K02A
namespace K02
open PySem PySem.Spec PyProof.Rows L2 SB
theorem walk_enumS {z : Str} : Walk (Ies z) z.cps.size (fun _ => True) (fun i H v H' => ∃ (T : Addr) (c : Nat), v = .ref T ∧ H T = none ∧ z.cps[i]? = some c ∧ H' = upd H T (.tup [.int (i : Nat), .str ⟨#[c]⟩])) :=
  ⟨fun _ _ hi _ => hi, fun _ _ => rfl, fun _ _ _ _ _ _ y => y⟩
theorem same_new {H : Hp} {p : Addr} {o : HO} (h : H p = none) : Same H (upd H p o) := fun b x e => by
  rw [upd_ne (ne_of_none e h)]
  exact e
theorem drop_at {z : Str} {i c : Nat} (h : z.cps[i]? = some c) : z.cps.toList.drop i = c :: z.cps.toList.drop (i + 1) := by
  have h' : z.cps.toList[i]? = some c := by rw [Array.getElem?_toList]; exact h
  obtain ⟨lt, e⟩ := List.getElem?_eq_some_iff.mp h'
  rw [List.drop_eq_getElem_cons lt, e]
section
variable {P : Program} {w : World} {K : PySem.W.Frag} {mg : Str → Option Value} {base : Heap}
def vFault (l : List Nat) : V := match fault l with | none => .non | some i => .int (i : Nat)
def spFault : Sp := fun vs H Q _ => ∃ z : Str, vs = [.str z] ∧ ∀ H', Same H H' → Q (vFault z.cps.toList) H'
theorem ok_first_fault {f : Addr} {fd : FuncData} {k : Nat} (F : Fun K "first_fault" "first_fault" s_first_fault f fd) (me : mg "enumerate" = none) (mL : ∃ t, mg "LETTERS" = some (.str "ABCDabcd" t)) :
    FnOk P w K mg base CX0 (k + 1) f fd ["letters"] spFault := by
  obtain ⟨tL, mL⟩ := mL
  refine F.ok sc_first_fault (fun vs H Q E h => ?_) (fun cdv A outer s H vs Q E hr h => ?_)
  · obtain ⟨z, rfl, _⟩ := h
    rfl
  · obtain ⟨z, rfl, q⟩ := h
    refine ⟨_, pss_cons (ps_set (i := 1) sc_first_fault.nd rfl (.inl rfl) pe_str)
      (pss_cons (ps_for PassesOwn.never rfl (pi_enumS (by rfl) me (pa_cons (pv 0) pa_nil))
          (pg_tup rfl (pgs_cons (pg_name (i := 2) sc_first_fault.nd rfl (.inl rfl)) (pgs_cons (pg_name (i := 3) sc_first_fault.nd rfl (.inl rfl)) pgs_nil)))
        (pss_cons (ps_if (PW.pt (pw_or (pt_cmpR op_notIn_sign (pv 3) (pe_glob (v := .str "ABCDabcd") (by rfl) mL ⟨_, rfl⟩) rfl)
            (pw_or1 (pt_cmpR op_eq (pe_m0 PySem.F.slot_str_swapcase PySem.F.type_str_swapcase mt_swapcase (pv 3)) (pv 1) (nomark _)))))
          (pss_one (ps_ret (pv 2))) pss_nil)
        (pss_one (ps_set (i := 1) sc_first_fault.nd rfl (.inl rfl) (pv 3)))))
      (pss_one (ps_ret pe_non))), ?_⟩
    refine ⟨.str z, rfl, z, rfl, for_it walk_enumS (fun i σ H1 => ∃ p y2 y3, σ = [some (.str z), some (.str (prevT p)), y2, y3] ∧ Same H H1 ∧ faultFrom p i (z.cps.toList.drop i) = fault z.cps.toList)
      ⟨none, none, none, rfl, Same.refl H, rfl⟩ (fun _ _ _ _ _ => trivial) (fun i x σ H1 H2 hi hP hY => ?_) (fun σ H1 hP => ?_)⟩
    · obtain ⟨p, y2, y3, rfl, sm, ef⟩ := hP
      obtain ⟨T, c, rfl, nT, hc, rfl⟩ := hY
      rw [drop_at hc] at ef
      refine ⟨T, _, rfl, .inl (.inl upd_same), rfl, _, _, rfl, _, _, rfl, rfl, ?_⟩
      have sm2 : Same H (upd H1 T (.tup [.int (i : Nat), .str ⟨#[c]⟩])) := sm.trans (same_new nT)
      have mem : decide (c ∈ (Str.ofString "ABCDabcd").cps.toList) = isL c := by
        rw [letters_T]
        rfl
      refine ⟨.str ⟨#[c]⟩, rfl, c, _, rfl, rfl, _, rfl, ?_⟩
      rw [mem]
      by_cases hL : isL c = true
      · rw [hL]
        refine iteF ?_
        refine ⟨.str ⟨#[c]⟩, rfl, ⟨_, rfl⟩, _, rfl, rfl, (by show 1 ≤ 5592405; decide), .str (prevT p), rfl, rfl, _, rfl, ?_⟩
        rw [swap_up c hL, eq_prev]
        refine ite2 (fun hp => ?_) (fun hp => ?_)
        · have e : fault z.cps.toList = some i := by
            rw [← ef]
            exact if_pos (.inr (of_decide_eq_true hp))
          refine ⟨_, rfl, ?_⟩
          have r := q _ sm2
          unfold vFault at r
          rw [e] at r
          exact r
        · refine ⟨_, rfl, some c, _, _, rfl, sm2, ?_⟩
          have n : ¬ (isL c = false ∨ some (up c) = p) := by
            rintro (z1 | z2)
            · rw [hL] at z1
              cases z1
            · exact hp (decide_eq_true z2)
          rw [← ef]
          exact (if_neg n).symm
      · have hL' : isL c = false := by simpa using hL
        rw [hL']
        refine iteT (iteT ?_)
        have e : fault z.cps.toList = some i := by
          rw [← ef]
          exact if_pos (.inl hL')
        refine ⟨_, rfl, ?_⟩
        have r := q _ sm2
        unfold vFault at r
        rw [e] at r
        exact r
    · obtain ⟨p, y2, y3, rfl, sm, ef⟩ := hP
      have e : fault z.cps.toList = none := by
        rw [← ef, show z.cps.size = z.cps.toList.length from rfl, List.drop_length]
        rfl
      have r := q _ sm
      unfold vFault at r
      rw [e] at r
      exact r
theorem ok_BadWord_init {f : Addr} {fd : FuncData} {k : Nat} (F : Fun K "__init__" "BadWord.__init__" s_BadWord_init f fd) : FnOk P w K mg base CX0 (k + 1) f fd ["self", "at"] (spErr1 K "at") := by
  refine F.ok sc_BadWord_init (fun vs H Q E h => init1_sp h) (fun cdv A outer s H vs Q E hr h => ?_)
  exact ⟨_, pss_one (ps_ost (pv 0) (pv 1)), init1_read rfl h⟩
/-- any value, and whether it is a text -/
def AnyV (K : PySem.W.Frag) (H : Hp) (x : V) : Prop := (∃ z : Str, x = .str z) ∨ ∃ t, TyX K H x t ∧ PySem.W.kitOne K t (.type "str") = some false
theorem isStr_of {K : PySem.W.Frag} {H : Hp} {x : V} (h : AnyV K H x) : ∃ t b, TyX K H x t ∧ PySem.W.kitOne K t (.type "str") = some b ∧ (b = true → ∃ z : Str, x = .str z) ∧ (b = false → ∀ z : Str, x ≠ .str z) := by
  rcases h with ⟨z, rfl⟩ | ⟨t, ty, e⟩
  · exact ⟨.type "str", true, .base (.str z), kit_ty (by decide +kernel), fun _ => ⟨z, rfl⟩, fun z => nomatch z⟩
  · refine ⟨t, false, ty, e, (fun z => nomatch z), fun _ z hz => ?_⟩
    subst hz
    cases ty with
    | base b =>
      cases b
      have z : PySem.W.kitOne K (.type "str") (.type "str") = some true := kit_ty (by decide +kernel)
      rw [z] at e
      cases e
theorem ok_TooMany_init {f : Addr} {fd : FuncData} {k : Nat} (F : Fun K "__init__" "TooMany.__init__" s_TooMany_init f fd) : FnOk P w K mg base CX0 (k + 1) f fd ["self", "what", "most"] (spErr2 K "what" "most") := by
  refine F.ok sc_TooMany_init (fun vs H Q E h => init2_sp h) (fun cdv A outer s H vs Q E hr h => ?_)
  exact ⟨_, pss_cons (ps_ost (pv 0) (pv 1)) (pss_one (ps_ost (pv 0) (pv 2))), init2_read rfl h⟩
/-- a Word of the letters z at a -/
def WordAt (CW : Addr) (H : Hp) (a : Addr) (z : Str) : Prop := ∃ dx, H a = some (.ins CW dx [("letters", .str z)])
theorem same_made {H H' : Hp} {x dx C : Addr} {o : HO} (nx : H x = none) (nd : H dx = none) (s : Same (upd (upd H dx (.own x)) x (.ins C dx [])) H') : Same H (upd H' x o) := fun b u e => by
  have bx : b ≠ x := ne_of_none e nx
  have bd : b ≠ dx := ne_of_none e nd
  rw [upd_ne bx]
  refine s b u ?_
  rw [upd_ne bx, upd_ne bd]
  exact e
def spWordI (K : PySem.W.Frag) (CW CB CM : Addr) : Sp := fun vs H Q E => ∃ (a dx : Addr) (x : V), vs = [.ref a, x] ∧ H a = some (.ins CW dx []) ∧ AnyV K H x ∧
  (∀ z : Str, x = .str z → z.length ≤ 100000 ∧
    (∀ i, fault z.cps.toList = some i → ∀ H' d, Same H H' → H' d = none → E (.ref CB) (some d) (upd H' d (.xd [("at", .int (i : Nat))]))) ∧
    (fault z.cps.toList = none → 4000 < z.length → ∀ H' d, Same H H' → H' d = none → E (.ref CM) (some d) (upd H' d (.xd [("most", .int 4000), ("what", .str "letters")]))) ∧
    (fault z.cps.toList = none → z.length ≤ 4000 → ∀ H', Same H H' → Q .non (upd H' a (.ins CW dx [("letters", .str z)])))) ∧
  ((∀ z : Str, x ≠ .str z) → ∀ d, H d = none → E (.ref CB) (some d) (upd H d (.xd [("at", .int 0)])))
theorem ok_Word_init {f CW CB CM fB fF fM : Addr} {fd fdB fdF fdM : FuncData} {k : Nat} (F : FunD K "__init__" "Word.__init__" (defArgs s_Word_init) (defBody s_Word_init) (defScope s_Word_init) [.str ""] [] f fd) (T : Err1 K mg "BadWord" "at" CB fB) (FB : Fun K "__init__" "BadWord.__init__" s_BadWord_init fB fdB) (bB : Binds K fdB ["self", "at"] [])
    (TM : Err2 K mg "TooMany" "what" "most" CM fM) (FM : Fun K "__init__" "TooMany.__init__" s_TooMany_init fM fdM) (bM : Binds K fdM ["self", "what", "most"] []) (FF : Fun K "first_fault" "first_fault" s_first_fault fF fdF) (bF : Binds K fdF ["letters"] []) (gF : mg "first_fault" = some (.ref fF)) (cl : Cls K CW) (na : NoAttr K CW "letters")
    (mi : mg "isinstance" = none) (ms : mg "str" = none) (ml : mg "len" = none) (me : mg "enumerate" = none) (mL : ∃ t, mg "LETTERS" = some (.str "ABCDabcd" t)) (mM : ∃ t, mg "MOST_LETTERS" = some (.int 4000 t)) :
    FnOk P w K mg base (L2.CX P w) (k + 3) f fd ["self", "letters"] (spWordI K CW CB CM) := by
  obtain ⟨tM, mM⟩ := mM
  refine FunD.ok F sc_Word_init (fun vs H Q E h => ?_) (fun cdv A outer s H vs Q E hr h => ?_)
  · obtain ⟨a, dx, x, rfl, _⟩ := h
    rfl
  · obtain ⟨a, dx, x, rfl, ha, hx, yes, no⟩ := h
    have nd := sc_Word_init.nd
    have GF : FnOk P w K mg base CX0 (k + 2) fF fdF ["letters"] spFault := ok_first_fault (k := k + 1) FF me mL
    refine ⟨_, pss_cons (ps_if (pt_not (pt_val (pe_callB call_isi (by rfl) mi boot_isinstance (pa_cons (pv 1) (pa_cons (pe_bltn (v := .ty "str") (by rfl) ms PyProof.Rows.boot_str rfl) pa_nil)))))
        (pss_one (ps_raise1 T (ok_BadWord_init (k := k) FB) bB (hr.mono (by omega)) rfl (takes_of rfl rfl rfl rfl) pass0 pe_int)) pss_nil)
      (pss_cons (ps_set (i := 2) nd rfl (.inl rfl) (pe_call GF hr (by rfl) gF FF.kp bF .nil pass0 (pa_cons (pv 1) pa_nil)))
      (pss_cons (ps_if (pt_cmpR op_notN (pv 2) pe_non (nomark _))
        (pss_one (ps_raise1 T (ok_BadWord_init (k := k) FB) bB (hr.mono (by omega)) rfl (takes_of rfl rfl rfl rfl) pass0 (pv 2))) pss_nil)
      (pss_cons (ps_if (pt_cmpR op_gt (pe_callB call_len (by rfl) ml PySem.boot_len (pa_cons (pv 1) pa_nil)) (pe_glob (v := .int 4000) (by rfl) mM ⟨_, rfl⟩) (nomark _))
        (pss_one (ps_raise2 TM (ok_TooMany_init (k := k) FM) bM (hr.mono (by omega)) rfl (takes_of rfl rfl rfl rfl) pass0 pe_str (pe_glob (v := .int 4000) (by rfl) mM ⟨_, rfl⟩))) pss_nil)
      (pss_one (ps_fld (pv 0) (pv 1) rfl))))), ?_⟩
    obtain ⟨t, b, ty, ek, h1, h2⟩ := isStr_of hx
    refine ⟨x, rfl, x, .ty "str", t, .type "str", b, rfl, .ty "str", ty, ek, b, rfl, ?_⟩
    cases b with
    | false =>
      refine iteT ?_
      exact raised1 T fun d hd => no (h2 rfl) d hd
    | true =>
      obtain ⟨z, rfl⟩ := h1 rfl
      refine iteF ?_
      obtain ⟨hl, bad, long, good⟩ := yes z rfl
      refine ⟨.str z, rfl, z, rfl, fun H1 sm => ?_⟩
      refine ⟨_, rfl, rfl, _, rfl, ?_⟩
      cases e : fault z.cps.toList with
      | some i =>
        have ev : vFault z.cps.toList = .int (i : Nat) := by
          unfold vFault
          rw [e]
        rw [ev]
        refine iteT ?_
        refine ⟨_, rfl, ?_⟩
        exact raised1 T fun d hd => bad i e H1 d sm hd
      | none =>
        have ev : vFault z.cps.toList = .non := by
          unfold vFault
          rw [e]
        rw [ev]
        refine iteF ?_
        refine ⟨.str z, rfl, .str z, z.length, rfl, ⟨by rw [sizeLine_eq]; omega, rfl⟩, _, _, rfl, rfl, _, rfl, ?_⟩
        by_cases le : z.length ≤ 4000
        · have nb : decide ((4000 : Int) < (z.length : Int)) = false := decide_eq_false (by omega)
          rw [nb]
          refine iteF ?_
          exact ⟨.str z, rfl, .ref a, rfl, a, CW, dx, [], rfl, sm _ _ ha, cl, na, by decide, good e le H1 sm⟩
        · have nb : decide ((4000 : Int) < (z.length : Int)) = true := decide_eq_true (by omega)
          rw [nb]
          refine iteT ?_
          exact raised2 TM fun d hd => long e (by omega) H1 d sm hd
end
end K02
-- K02D1
namespace K02
open PySem PySem.Spec PyProof.Rows L2 SB
section
variable {P : Program} {w : World} {K : PySem.W.Frag} {mg : Str → Option Value} {base : Heap}
def spPen (K : PySem.W.Frag) : Sp := fun vs H Q _ => ∃ (a : Addr) (ns : List Int), vs = [.ref a] ∧ SqL K H a (ns.map V.int) ∧ ∀ p l H', H p = none → H l = none → Same H H' → PenQ l 0 H' p → Q (.ref p) H'
theorem ok_law_pen {f : Addr} {fd : FuncData} {k : Nat} (F : Fun K "_law_pen" "_law_pen" s__law_pen f fd) (ml : mg "list" = none) : FnOk P w K mg base CX0 (k + 1) f fd ["script"] (spPen K) := by
  refine F.ok sc__law_pen (fun vs H Q E h => ?_) (fun cdv A outer s H vs Q E hr h => ?_)
  · obtain ⟨a, ns, rfl, _⟩ := h
    rfl
  · obtain ⟨a, ns, rfl, hS, q⟩ := h
    refine ⟨_, pss_one (ps_ret (pe_lst (pa_cons (pe_callTy call_list_of (by rfl) ml PyProof.Rows.boot_list (pa_cons (pe_slice sl_list (pv 0) po_none (po_some pe_int)) pa_nil)) (pa_cons pe_int (pa_cons pe_int pa_nil))))), ?_⟩
    refine ⟨.ref a, rfl, 63, rfl, a, _, rfl, hS, fun c nc => ?_⟩
    obtain ⟨ms, em, lm⟩ := cut_nums ns none (some 63)
    rw [em]
    refine ⟨c, _, rfl, .inl (.inl (.inl upd_same)), fun l hl => ⟨by show 3 ≤ sizeLine; decide, fun p hp => ?_⟩⟩
    have s1 : Same H (upd H c (.lst (ms.map V.int))) := same_new nc
    have s2 := same_new (o := .lst (ms.map V.int)) hl
    have s3 := same_new (o := .lst [.ref l, .int 0, .int 0]) hp
    refine q p l _ (s1.free (s2.free hp)) (s1.free hl) (s1.trans (s2.trans s3)) ⟨ms, 0, 0, upd_same, s3 _ _ upd_same, by omega, by omega⟩
end
end K02
-- K02D2
namespace K02
open PySem PySem.Spec PyProof.Rows L2 SB
section
variable {P : Program} {w : World} {K : PySem.W.Frag} {mg : Str → Option Value} {base : Heap}
def spDraw : Sp := fun vs H Q _ => ∃ (p l : Addr) (N m : Int), vs = [.ref p, .int m] ∧ PenQ l N H p ∧ N ≤ 100000 ∧ 0 < m ∧ m ≤ 100000 ∧
  ∀ (d : Int) H', 0 ≤ d → d < m → Kept p H H' → PenQ l (N + 1) H' p → Q (.int d) H'
theorem mod_ok (i m : Int) (h : 0 < m) : 0 ≤ i % m ∧ i % m < m := ⟨Int.emod_nonneg _ (by omega), Int.emod_lt_of_pos _ h⟩
theorem ok_law_draw {f : Addr} {fd : FuncData} {k : Nat} (F : Fun K "_law_draw" "_law_draw" s__law_draw f fd) (m_int : mg "int" = none) (m_len : mg "len" = none) (m_abs : mg "abs" = none) : FnOk P w K mg base CX0 (k + 1) f fd ["pen", "many"] spDraw := by
  refine F.ok sc__law_draw (fun vs H Q E h => ?_) (fun cdv A outer s H vs Q E hr h => ?_)
  · obtain ⟨p, l, N, m, rfl, _⟩ := h
    rfl
  · obtain ⟨p, l, N, m, rfl, hP, hN, m0, m1, q⟩ := h
    have nd := sc__law_draw.nd
    refine ⟨_, (pss_cons (ps_if (pt_cmpR op_gt (pe_ix ix_list (pv 0) pe_int (fun _ _ => rfl)) pe_int (nomark _)) (pss_cons (ps_set (i := 2) nd rfl (.inl rfl) (pe_op op_mod (pe_callTy call_int1 (by rfl) m_int PyProof.Rows.boot_int (pa_cons (pe_ix ix_list (pv 0) pe_int (fun _ _ => rfl)) pa_nil)) (pv 1)))
      (pss_cons (ps_asg (pe_op op_fdiv (pe_callTy call_int1 (by rfl) m_int PyProof.Rows.boot_int (pa_cons (pe_ix ix_list (pv 0) pe_int (fun _ _ => rfl)) pa_nil)) (pv 1)) (pg_sub (pv 0) pe_int set_list))
      (pss_one (ps_ret (pv 2))))) pss_nil)
      (pss_cons (ps_set (i := 3) nd rfl (.inl rfl) (pe_ix ix_list (pv 0) pe_int (fun _ _ => rfl)))
      (pss_cons (ps_asg (pe_op op_add (pv 3) pe_int) (pg_sub (pv 0) pe_int set_list))
      (pss_cons (ps_set (i := 4) nd rfl (.inl rfl) (pe_op op_add (pe_op op_mul pe_int (pv 3)) pe_int))
      (C8.pss_cut (ps_if (pt_cmpR (op_neD hr.units) (pe_ix ix_list (pv 0) pe_int (fun _ _ => rfl)) (pe_lst pa_nil) (nomark _)) (pss_one (ps_set (i := 4) nd rfl (.inl rfl) (pe_ix ix_list (pe_ix ix_list (pv 0) pe_int (fun _ _ => rfl)) (pe_op op_mod (pe_callTy call_int1 (by rfl) m_int PyProof.Rows.boot_int (pa_cons (pv 3) pa_nil)) (pe_callB call_len_seq (by rfl) m_len PySem.boot_len (pa_cons (pe_ix ix_list (pv 0) pe_int (fun _ _ => rfl)) pa_nil))) (fun _ _ => rfl)))) pss_nil)
      (pss_cons (ps_if (PW.pt (pw_and (pt_cmpR op_lt (pv 3) (pe_callB call_len_seq (by rfl) m_len PySem.boot_len (pa_cons (pe_ix ix_list (pv 0) pe_int (fun _ _ => rfl)) pa_nil)) (nomark _)) (pw_and1 (pt_cmpR op_ge (pe_callB call_abs (by rfl) m_abs PyProof.Rows.boot_abs (pa_cons (pv 4) pa_nil)) (pe_op op_pow pe_int pe_int) (nomark _))))) (pss_cons (ps_set (i := 5) nd rfl (.inl rfl) (pe_op op_add (pe_op op_mul pe_int (pe_op op_sub (pe_callB call_abs (by rfl) m_abs PyProof.Rows.boot_abs (pa_cons (pv 4) pa_nil)) (pe_op op_pow pe_int pe_int))) (pe_callTy call_int1 (by rfl) m_int PyProof.Rows.boot_int (pa_cons (pe_cmpR op_lt (pv 4) pe_int (nomark _)) pa_nil))))
      (pss_cons (ps_asg (pe_op op_fdiv (pe_callTy call_int1 (by rfl) m_int PyProof.Rows.boot_int (pa_cons (pv 5) pa_nil)) (pv 1)) (pg_sub (pv 0) pe_int set_list))
      (pss_one (ps_ret (pe_op op_mod (pe_callTy call_int1 (by rfl) m_int PyProof.Rows.boot_int (pa_cons (pv 5) pa_nil)) (pv 1)))))) pss_nil)
      (pss_cons (ps_set (i := 6) nd rfl (.inl rfl) (pe_op op_mod (pe_callTy call_int1 (by rfl) m_int PyProof.Rows.boot_int (pa_cons (pe_op op_pow (pe_op op_add (pe_op op_add (pe_op op_mod (pe_callTy call_int1 (by rfl) m_int PyProof.Rows.boot_int (pa_cons (pv 4) pa_nil)) pe_int) (pe_op op_mul pe_int (pv 3))) pe_int) pe_int) pa_nil)) pe_int))
      (pss_cons (ps_set (i := 6) nd rfl (.inl rfl) (pe_op op_mod (pe_callTy call_int1 (by rfl) m_int PyProof.Rows.boot_int (pa_cons (pe_op op_pow (pe_op op_add (pe_op op_add (pe_op op_mul (pv 6) (pe_op op_add (pe_op op_mul pe_int (pv 3)) pe_int)) (pe_op op_mul (pe_op op_mul pe_int (pv 3)) (pv 3))) pe_int) pe_int) pa_nil)) pe_int))
      (pss_one (ps_ret (pe_op op_mod (pe_callTy call_int1 (by rfl) m_int PyProof.Rows.boot_int (pa_cons (pe_op op_fdiv (pv 6) pe_int) pa_nil)) (pv 1)))))))))))), ?_⟩
    obtain ⟨ns, i, j, hp, hl, i0, i1⟩ := hP
    have lp : l ≠ p := pen_ne hp hl
    have L0 : SqL K H p [.ref l, .int i, .int j] := .inl (.inl hp)
    have mm : (0 : Int) < m ∧ m < 1073741824 := ⟨m0, by omega⟩
    refine ⟨.ref p, rfl, p, _, 2, .int j, rfl, rfl, L0, atI_nat (j := 2) rfl, j, 0, rfl, rfl, _, rfl, ite2 (fun e => ?_) (fun e => ?_)⟩
    · -- what is left of a great cell
      refine ⟨.ref p, rfl, p, _, 2, .int j, rfl, rfl, L0, atI_nat (j := 2) rfl, .inl ⟨j, rfl, .int m, rfl, j, m, rfl, rfl, m0, ?_⟩⟩
      refine ⟨.ref p, rfl, p, _, 2, .int j, rfl, rfl, L0, atI_nat (j := 2) rfl, .inl ⟨j, rfl, .int m, rfl, j, m, rfl, rfl, mm, ?_⟩⟩
      refine ⟨.ref p, rfl, p, _, 2, 2, rfl, rfl, hp, rfl, ?_⟩
      refine ⟨.int (j % m), rfl, ?_⟩
      obtain ⟨d0, d1⟩ := mod_ok j m m0
      refine q _ _ d0 d1 (Kept.write (Kept.refl p H)) ⟨ns, i, j / m, upd_same, ?_, i0, by omega⟩
      rw [upd_ne lp]
      exact hl
    · refine ⟨.ref p, rfl, p, _, 1, .int i, rfl, rfl, L0, atI_nat (j := 1) rfl, ?_⟩
      refine ⟨.int i, rfl, i, 1, rfl, rfl, .ref p, rfl, p, _, 1, 1, rfl, rfl, hp, rfl, ?_⟩
      have hp1 : upd H p (.lst [.ref l, .int (i + 1), .int j]) p = some (.lst [.ref l, .int (i + 1), .int j]) := upd_same
      have hl1 : upd H p (.lst [.ref l, .int (i + 1), .int j]) l = some (.lst (ns.map V.int)) := by
        rw [upd_ne lp]
        exact hl
      have K1 : Kept p H (upd H p (.lst [.ref l, .int (i + 1), .int j])) := Kept.write (Kept.refl p H)
      have L1 : SqL K (upd H p (.lst [.ref l, .int (i + 1), .int j])) p [.ref l, .int (i + 1), .int j] := .inl (.inl hp1)
      have M1 : SqL K (upd H p (.lst [.ref l, .int (i + 1), .int j])) l (ns.map V.int) := .inl (.inl hl1)
      refine ⟨.int i, rfl, 82129, i, rfl, rfl, .inl ⟨by decide, by decide⟩, _, 1427, rfl, rfl, ?_⟩
      refine ⟨fun σ' H' => ∃ (c : Int), σ' = [some (.ref p), some (.int m), none, some (.int i), some (.int c), none, none] ∧ H' p = some (.lst [.ref l, .int (i + 1), .int j]) ∧ H' l = some (.lst (ns.map V.int)) ∧ Kept p H H', ?_, ?_⟩
      · -- cell
        refine ⟨.ref p, rfl, p, _, 0, .ref l, rfl, rfl, L1, atI_nat (j := 0) rfl, Nat.zero_le _, fun b hb => ?_⟩
        have sb := same_new (o := .lst []) hb
        have L2' : SqL K (upd (upd H p (.lst [.ref l, .int (i + 1), .int j])) b (.lst [])) p [.ref l, .int (i + 1), .int j] := .inl (.inl (sb _ _ hp1))
        have M2 : SqL K (upd (upd H p (.lst [.ref l, .int (i + 1), .int j])) b (.lst [])) l (ns.map V.int) := .inl (.inl (sb _ _ hl1))
        refine ⟨.list (ns.map PyData.int), .list [], .lst M2 (dp_nums ns), .lst (.inl (.inl upd_same)) .nil, shaped_nums ns, rfl, ?_⟩
        rw [eqv_empty]
        by_cases en : ns = []
        · rw [decide_eq_true en]
          refine ⟨false, rfl, iteF ?_⟩
          exact ⟨_, rfl, sb _ _ hp1, sb _ _ hl1, K1.trans (Kept.of sb)⟩
        · rw [decide_eq_false en]
          refine ⟨true, rfl, iteT ?_⟩
          have pos : 0 < ns.length := List.length_pos_iff.mpr en
          have zl : ((ns.map V.int).length : Int) = (ns.length : Int) := by rw [List.length_map]
          obtain ⟨r0, r1⟩ := mod_ok i (ns.length : Int) (by omega)
          have rt : (i % (ns.length : Int)).toNat < ns.length := by omega
          refine ⟨.ref p, rfl, p, _, 0, .ref l, rfl, rfl, L2', atI_nat (j := 0) rfl, .int i, rfl, .inl ⟨i, rfl, ?_⟩⟩
          refine ⟨.ref p, rfl, p, _, 0, .ref l, rfl, rfl, L2', atI_nat (j := 0) rfl, l, _, rfl, .inl M2, i, _, rfl, rfl, ?_, ?_⟩
          · rw [zl]
            omega
          · refine ⟨l, _, _, .int (ns[(i % (ns.length : Int)).toNat]), rfl, rfl, M2, at_of (j := (i % (ns.length : Int)).toNat) (by rw [zl]; omega) ?_, ?_⟩
            · rw [List.getElem?_map, List.getElem?_eq_getElem rt]
              rfl
            · exact ⟨_, rfl, sb _ _ hp1, sb _ _ hl1, K1.trans (Kept.of sb)⟩
      · rintro σ' H2 ⟨c, rfl, hp2, hl2, K2⟩
        have L2' : SqL K H2 p [.ref l, .int (i + 1), .int j] := .inl (.inl hp2)
        have M2 : SqL K H2 l (ns.map V.int) := .inl (.inl hl2)
        have zl : ((ns.map V.int).length : Int) = (ns.length : Int) := by rw [List.length_map]
        -- the rest behind a cell that isn't great
        refine ⟨.int i, rfl, .ref p, rfl, p, _, 0, .ref l, rfl, rfl, L2', atI_nat (j := 0) rfl, l, _, rfl, .inl M2, i, _, rfl, rfl, _, rfl, ?_⟩
        have out : ∀ r : Int, Q (.int (r % m)) H2 := fun r => by
          obtain ⟨d0, d1⟩ := mod_ok r m m0
          exact q _ _ d0 d1 K2 ⟨ns, i + 1, j, hp2, hl2, by omega, by omega⟩
        have ten : CPow 10 18 := ⟨by decide, by decide, by decide⟩
        refine ite2 (fun e1 => ⟨.int c, rfl, c, rfl, 10, 18, rfl, rfl, ten, _, _, rfl, rfl, _, rfl, ite2 (fun e2 => ?great) (fun e2 => ?t1)⟩) (fun e1 => iteF ?t2)
        case great =>
          refine ⟨.int c, rfl, c, rfl, 10, 18, rfl, rfl, ten, _, _, rfl, rfl, 2, _, rfl, rfl, .inl ⟨by decide, by decide⟩, .int c, rfl, c, 0, rfl, rfl, .inr ⟨_, rfl, _, _, rfl, rfl, ?_⟩⟩
          refine ⟨_, rfl, .inl ⟨_, rfl, .int m, rfl, _, m, rfl, rfl, mm, ?_⟩⟩
          refine ⟨.ref p, rfl, p, _, 2, 2, rfl, rfl, hp2, rfl, ?_⟩
          refine ⟨_, rfl, .inl ⟨_, rfl, .int m, rfl, _, m, rfl, rfl, m0, ?_⟩⟩
          obtain ⟨d0, d1⟩ := mod_ok ((fun i j => i + j) 0 0) m m0
          refine q _ _ (mod_ok _ m m0).1 (mod_ok _ m m0).2 (Kept.write K2) ⟨ns, i + 1, _, upd_same, ?_, by omega, by omega⟩
          rw [upd_ne lp]
          exact hl2
        all_goals
          obtain ⟨c0, c1⟩ := mod_ok c 2147483423 (by decide)
          refine ⟨.int c, rfl, .inl ⟨c, rfl, c, 2147483423, rfl, rfl, (by show (0 : Int) < 2147483423; decide), ?_⟩⟩
          refine ⟨.int i, rfl, _, i, rfl, rfl, .inl ⟨by decide, by decide⟩, _, _, rfl, rfl, _, _, rfl, rfl, _, 5, rfl, rfl, ⟨by decide, by decide, by omega⟩, ?_⟩
          obtain ⟨u0, u1⟩ := mod_ok ((c % 2147483423 + 54403 * i + 1009) ^ Int.toNat 5) 2147483579 (by decide)
          refine .inl ⟨_, rfl, _, _, rfl, rfl, (by show (0 : Int) < 2147483579; decide), ?_⟩
          refine ⟨_, rfl, .int i, rfl, _, i, rfl, rfl, .inl ⟨by decide, by decide⟩, _, _, rfl, rfl, ?_⟩
          show rI CMul (fun i j => V.int (i * j)) (.int ((c % 2147483423 + 54403 * i + 1009) ^ Int.toNat 5 % 2147483579)) (.int (2 * i + 179)) H2 _
          refine ⟨_, _, rfl, rfl, .inl ⟨by omega, by omega⟩, .int i, rfl, _, i, rfl, rfl, .inl ⟨by decide, by decide⟩, .int i, rfl, _, i, rfl, rfl, .inr ⟨by omega, by omega⟩, _, _, rfl, rfl, _, _, rfl, rfl, _, 3, rfl, rfl, ⟨by decide, by decide, bound3 u0 (by omega) i0 (by omega) (by decide) (by decide) (by decide) (by decide) (by decide) (by decide)⟩, ?_⟩
          refine .inl ⟨_, rfl, _, _, rfl, rfl, (by show (0 : Int) < 2147483629; decide), ?_⟩
          exact ⟨_, rfl, _, 32, rfl, rfl, ⟨by decide, by decide⟩, .inl ⟨_, rfl, .int m, rfl, _, m, rfl, rfl, m0, out _⟩⟩
end
end K02
-- K02D3
namespace K02
open PySem PySem.Spec PyProof.Rows L2 SB
theorem kept_seq {K : PySem.W.Frag} {H H' : Hp} {p a : Addr} {xs : List V} (k : Kept p H H') (n : a ≠ p) (h : SqL K H a xs) : SqL K H' a xs := by
  rcases h with (h | ⟨o, h⟩) | h
  · exact .inl (.inl (k _ _ h n))
  · exact .inl (.inr ⟨o, k _ _ h n⟩)
  · exact .inr h
/-- what one picks from: a list, or the signs of a text -/
def PickOf (K : PySem.W.Frag) (p : Addr) (H : Hp) (y : V) (xs : List V) : Prop := (∃ a, y = .ref a ∧ SqL K H a xs ∧ a ≠ p) ∨ ∃ z : Str, y = .str z ∧ xs = z.cps.toList.map fun c => V.str (s1 c)
section
variable {P : Program} {w : World} {K : PySem.W.Frag} {mg : Str → Option Value} {base : Heap}
def spPick (K : PySem.W.Frag) : Sp := fun vs H Q _ => ∃ (p l : Addr) (y : V) (N : Int) (xs : List V), vs = [.ref p, y] ∧ PenQ l N H p ∧ N ≤ 100000 ∧ PickOf K p H y xs ∧ 0 < xs.length ∧ xs.length ≤ 100000 ∧
  ∀ x H', x ∈ xs → Kept p H H' → PenQ l (N + 1) H' p → Q x H'
theorem ok_law_pick {f f__law_draw : Addr} {fd d__law_draw : FuncData} {k : Nat} (F : Fun K "_law_pick" "_law_pick" s__law_pick f fd)
    (G__law_draw : FnOk P w K mg base CX0 (k + 1) f__law_draw d__law_draw ["pen", "many"] spDraw) (g__law_draw : mg "_law_draw" = some (.ref f__law_draw)) (k__law_draw : PySem.W.keepIn K (.ref f__law_draw) = true) (b__law_draw : Binds K d__law_draw ["pen", "many"] [])
    (m_len : mg "len" = none) : FnOk P w K mg base CX0 (k + 2) f fd ["pen", "some"] (spPick K) := by
  refine F.ok sc__law_pick (fun vs H Q E h => ?_) (fun cdv A outer s H vs Q E hr h => ?_)
  · obtain ⟨p, l, a, N, xs, rfl, _⟩ := h
    rfl
  · obtain ⟨p, l, y, N, xs, rfl, hP, hN, hS, l0, l1, q⟩ := h
    have nd := sc__law_pick.nd
    refine ⟨_, (pss_one (ps_ret (pe_ix (ix_or ix_list ix_str) (pv 1) (pe_call G__law_draw (hr.mono (by omega)) (by rfl) g__law_draw k__law_draw b__law_draw .nil pass0 (pa_cons (pv 0) (pa_cons (pe_callB (call_or call_len_seq call_len) (by rfl) m_len PySem.boot_len (pa_cons (pv 1) pa_nil)) pa_nil))) (fun _ _ => rfl)))), ?_⟩
    rcases hS with ⟨a, rfl, hS, ne⟩ | ⟨z, rfl, rfl⟩
    · refine ⟨.ref a, rfl, .ref p, rfl, .ref a, rfl, .inl ⟨a, xs, rfl, .inl hS, p, l, N, (xs.length : Int), rfl, hP, hN, by omega, by omega, fun d H' d0 d1 kp pn => ?_⟩⟩
      have dl : d.toNat < xs.length := by omega
      refine .inl ⟨a, xs, d, xs[d.toNat], rfl, rfl, kept_seq kp ne hS, at_of (j := d.toNat) (by omega) (List.getElem?_eq_getElem dl), ?_⟩
      exact q _ H' (List.getElem_mem dl) kp pn
    · rw [List.length_map] at l0 l1
      have zs : z.length ≤ sizeLine := by
        rw [sizeLine_eq]
        show z.cps.toList.length ≤ _
        omega
      refine ⟨.str z, rfl, .ref p, rfl, .str z, rfl, .inr ⟨.str z, z.length, rfl, ⟨zs, rfl⟩, p, l, N, (z.length : Int), rfl, hP, hN, by show (0 : Int) < (z.cps.toList.length : Int); omega, by show (z.cps.toList.length : Int) ≤ 100000; omega, fun d H' d0 d1 kp pn => ?_⟩⟩
      have dl : d.toNat < z.cps.toList.length := by
        have : (z.length : Int) = (z.cps.toList.length : Int) := rfl
        omega
      have ha : atI z.cps.toList d = some z.cps.toList[d.toNat] := by
        have h := atI_nat (List.getElem?_eq_getElem dl)
        rwa [show ((d.toNat : Nat) : Int) = d by omega] at h
      refine .inr ⟨z, d, z.cps.toList[d.toNat], rfl, rfl, zs, ha, ?_⟩
      exact q _ H' (List.mem_map.mpr ⟨_, List.getElem_mem dl, rfl⟩) kp pn
end
end K02
-- K02E1
namespace K02
open PySem PySem.Spec PyProof.Rows L2 SB
theorem occ_letter : ∀ c, isL c = true → ∃ i rest, Builtin.Str.occurrences "ABCDabcd" (s1 c) 0 (Str.length "ABCDabcd") 1 = i :: rest ∧ ((("abcdABCD" : Str).cps.toList)[i]? = some (up c)) := by
  intro c h
  have h' : c ∈ letters8 := of_decide_eq_true h
  have all : ∀ c ∈ letters8, Builtin.Str.occurrences "ABCDabcd" (s1 c) 0 (Str.length "ABCDabcd") 1 = [letters8.idxOf c] ∧ ((("abcdABCD" : Str).cps.toList)[letters8.idxOf c]? = some (up c)) := by decide +kernel
  exact ⟨_, [], (all c h').1, (all c h').2⟩
section
variable {P : Program} {w : World} {K : PySem.W.Frag} {mg : Str → Option Value} {base : Heap}
def spUndo : Sp := fun vs H Q _ => ∃ c, vs = [.str (s1 c)] ∧ isL c = true ∧ Q (.str (s1 (up c))) H
theorem ok_law_undo {f : Addr} {fd : FuncData} {k : Nat} (F : Fun K "_law_undo" "_law_undo" s__law_undo f fd) : FnOk P w K mg base CX0 (k + 1) f fd ["letter"] spUndo := by
  refine F.ok sc__law_undo (fun vs H Q E h => ?_) (fun cdv A outer s H vs Q E hr h => ?_)
  · obtain ⟨c, rfl, _⟩ := h
    rfl
  · obtain ⟨c, rfl, hL, q⟩ := h
    refine ⟨_, (pss_one (ps_ret (pe_ix ix_str pe_str (pe_m1 PySem.F.slot_str_index PySem.F.type_str_index mt_sindex pe_str (pv 0)) (fun _ _ => rfl)))), ?_⟩
    obtain ⟨i, rest, e1, e2⟩ := occ_letter c hL
    refine ⟨⟨_, rfl⟩, .str (s1 c), rfl, _, _, i, rest, rfl, rfl, e1, ?_⟩
    exact ⟨_, _, up c, rfl, rfl, by decide +kernel, atI_nat e2, q⟩
end
end K02
-- K02E2
namespace K02
open PySem PySem.Spec PyProof.Rows L2 SB
def kinds : List Str := ["ABCDabcd", "Aab", "ABab", "CcdB", "AD"]
theorem kinds_in {x : V} (h : x ∈ [V.str "ABCDabcd", .str "Aab", .str "ABab", .str "CcdB", .str "AD"]) : ∃ kz : Str, x = .str kz ∧ kz ∈ kinds := by
  have e : [V.str "ABCDabcd", .str "Aab", .str "ABab", .str "CcdB", .str "AD"] = kinds.map V.str := rfl
  rw [e] at h
  obtain ⟨kz, h1, h2⟩ := List.mem_map.mp h
  exact ⟨kz, h2.symm, h1⟩
theorem kinds_ok : ∀ kz ∈ kinds, (∀ c ∈ kz.cps.toList, isL c = true) ∧ kz.length ≤ 8 ∧ (kz.cps.toList.headD 0 ∈ kz.cps.toList ∧ kz.cps.toList.getLastD 0 ∈ kz.cps.toList ∧ kz.cps.toList.headD 0 ≠ kz.cps.toList.getLastD 0) := by decide +kernel
/-- whether a letter may stand behind a row -/
def may (z : Str) (c : Nat) : Bool := match z.cps.toList.getLast? with | none => true | some d => decide (c ≠ up d)
theorem some_may {kz : Str} (h : kz ∈ kinds) (z : Str) : ∃ c ∈ kz.cps.toList, may z c = true := by
  obtain ⟨_, _, h1, h2, h3⟩ := kinds_ok kz h
  unfold may
  cases z.cps.toList.getLast? with
  | none => exact ⟨_, h1, rfl⟩
  | some d =>
    by_cases e : kz.cps.toList.headD 0 = up d
    · exact ⟨_, h2, decide_eq_true fun q => h3 (e.trans q.symm)⟩
    · exact ⟨_, h1, decide_eq_true e⟩
theorem take_filter {l : List Nat} {i c : Nat} (f : Nat → Bool) (h : l[i]? = some c) : (l.take (i + 1)).filter f = (l.take i).filter f ++ (if f c = true then [c] else []) := by
  rw [List.take_add_one, h, List.filter_append]
  congr 1
  show List.filter f [c] = _
  by_cases e : f c = true
  · rw [if_pos e, List.filter_cons_of_pos e]
    rfl
  · rw [if_neg e, List.filter_cons_of_neg e]
    rfl
def vs1 (l : List Nat) : List V := l.map fun c => V.str (s1 c)
section
variable {P : Program} {w : World} {K : PySem.W.Frag} {mg : Str → Option Value} {base : Heap}
/-- a row of letters without a fault, of at most m -/
def RowOk (m : Nat) (z : Str) : Prop := fault z.cps.toList = none ∧ z.length ≤ m
def spRow : Sp := fun vs H Q _ => ∃ (p l : Addr) (N m : Int), vs = [.ref p, .int m] ∧ PenQ l N H p ∧ 0 ≤ m ∧ m ≤ 100 ∧ N + m + 10 ≤ 100000 ∧
  ∀ z H', RowOk m.toNat z → Kept p H H' → PenQ l (N + m + 2) H' p → Q (.str z) H'
theorem ok_law_row {f f__law_draw f__law_pick f__law_undo : Addr} {fd d__law_draw d__law_pick d__law_undo : FuncData} {k : Nat} (F : Fun K "_law_row" "_law_row" s__law_row f fd)
    (G__law_draw : FnOk P w K mg base CX0 (k + 2) f__law_draw d__law_draw ["pen", "many"] spDraw) (g__law_draw : mg "_law_draw" = some (.ref f__law_draw)) (k__law_draw : PySem.W.keepIn K (.ref f__law_draw) = true) (b__law_draw : Binds K d__law_draw ["pen", "many"] [])
    (G__law_pick : FnOk P w K mg base CX0 (k + 2) f__law_pick d__law_pick ["pen", "some"] (spPick K)) (g__law_pick : mg "_law_pick" = some (.ref f__law_pick)) (k__law_pick : PySem.W.keepIn K (.ref f__law_pick) = true) (b__law_pick : Binds K d__law_pick ["pen", "some"] [])
    (G__law_undo : FnOk P w K mg base CX0 (k + 2) f__law_undo d__law_undo ["letter"] spUndo) (g__law_undo : mg "_law_undo" = some (.ref f__law_undo)) (k__law_undo : PySem.W.keepIn K (.ref f__law_undo) = true) (b__law_undo : Binds K d__law_undo ["letter"] [])
    (m_range : mg "range" = none) : FnOk P w K mg base CX0 (k + 3) f fd ["pen", "most"] spRow := by
  refine F.ok sc__law_row (fun vs H Q E h => ?_) (fun cdv A outer s H vs Q E hr h => ?_)
  · obtain ⟨p, l, N, m, rfl, _⟩ := h
    rfl
  · obtain ⟨p, l, N, m, rfl, hP, m0, m1, hN, q⟩ := h
    have nd := sc__law_row.nd
    refine ⟨_, (pss_cons (ps_asg (pe_tup (pa_cons pe_str (pa_cons (pe_call G__law_pick (hr.mono (by omega)) (by rfl) g__law_pick k__law_pick b__law_pick .nil pass0 (pa_cons (pv 0) (pa_cons (pe_lst (pa_cons pe_str (pa_cons pe_str (pa_cons pe_str (pa_cons pe_str (pa_cons pe_str pa_nil)))))) pa_nil))) pa_nil))) (pg_tup rfl (pgs_cons (pg_name (i := 2) nd rfl (.inr rfl)) (pgs_cons (pg_name (i := 3) nd rfl (.inl rfl)) pgs_nil))))
      (pss_cons (ps_for PassesOwn.never rfl (pi_range1 (by rfl) m_range (pa_cons (pe_call G__law_draw (hr.mono (by omega)) (by rfl) g__law_draw k__law_draw b__law_draw .nil pass0 (pa_cons (pv 0) (pa_cons (pe_op op_add (pv 1) pe_int) pa_nil))) pa_nil)) (pg_name (i := 4) nd rfl (.inl rfl)) (pss_cons (ps_setLc (i := 5) (own := [("letter", 6)]) (g := gName 6) (by rfl) nd rfl rfl (sw_true rfl rfl rfl (by decide +kernel)) (pi_str (pv 3)) (blkOk_by (own := [("letter", 6)]) (N := ["pen", "most", "found", "kind", "turn", "some", "letter"]) (sc := defScope s__law_row) (by decide +kernel)) (fun _ _ _ _ _ => pg_name (i := 6) nd rfl (Or.inl rfl)) (fun _ _ _ _ _ => (pts_one (PW.pt (pw_or (pt_cmpR op_eq (pv 2) pe_str (nomark _)) (pw_or1 (pt_cmpR op_ne (pv 6) (pe_call G__law_undo (hr.mono (by omega)) (by rfl) g__law_undo k__law_undo b__law_undo .nil pass0 (pa_cons (pe_ix ix_str (pv 2) (pe_un un_neg pe_int) (fun _ _ => rfl)) pa_nil)) (nomark _))))))) (fun _ _ _ _ _ => (pv 6)))
      (pss_one (ps_set (i := 2) nd rfl (.inr rfl) (pe_op op_add_str (pv 2) (pe_call G__law_pick (hr.mono (by omega)) (by rfl) g__law_pick k__law_pick b__law_pick .nil pass0 (pa_cons (pv 0) (pa_cons (pv 5) pa_nil))))))))
      (pss_one (ps_ret (pv 2))))), ?_⟩
    -- kind
    refine ⟨.ref p, rfl, by show 5 ≤ sizeLine; decide, fun a ha => ?_⟩
    have s0 := same_new (o := .lst [.str "ABCDabcd", .str "Aab", .str "ABab", .str "CcdB", .str "AD"]) ha
    have pa : a ≠ p := hP.ne_p ha
    refine ⟨p, l, .ref a, N, _, rfl, hP.same s0, by omega, .inl ⟨a, rfl, .inl (.inl upd_same), pa⟩, by decide, by decide, fun x H1 hx k1 p1 => ?_⟩
    have hk := kinds_in hx
    obtain ⟨kz, rfl, hkz⟩ := hk
    refine ⟨by show 2 ≤ sizeLine; decide, fun t ht => ?_⟩
    have s1' := same_new (o := .tup [.str "", .str kz]) ht
    refine ⟨t, _, rfl, .inl (.inl upd_same), rfl, _, _, rfl, _, _, rfl, rfl, ?_⟩
    have kk0 : Kept p H (upd H1 t (.tup [.str "", .str kz])) := (Kept.of s0).trans (k1.trans (Kept.of s1'))
    obtain ⟨kL, kS, _⟩ := kinds_ok kz hkz
    refine ⟨.ref p, rfl, .int m, rfl, m, 1, rfl, rfl, p, l, N + 1, m + 1, rfl, p1.same s1', by omega, by omega, by omega, fun d H3 d0 d1 k3 p3 => ?_⟩
    refine ⟨d, rfl, by omega, by omega, for_range (lo := 0) (n := d.toNat) (fun i σ H' => ∃ z y4 y5 y6, σ = [some (.ref p), some (.int m), some (.str z), some (.str kz), y4, y5, y6] ∧ fault z.cps.toList = none ∧ z.length = i ∧ Kept p H H' ∧ PenQ l (N + 2 + i) H' p)
      ⟨"", none, none, none, rfl, by decide +kernel, rfl, kk0.trans k3, p3.mono (by omega)⟩ (fun i σ H4 hi hPv => ?_) (fun σ H4 hPv => ?_)⟩
    · obtain ⟨z, y4, y5, y6, rfl, fz, lz, k4, p4⟩ := hPv
      refine ⟨.str kz, rfl, kz, rfl, fun D hD => lc_it walk_str (fun i' H' => Same H4 H' ∧ H' D = some (.lst (vs1 ((kz.cps.toList.take i').filter (may z))))) ⟨same_new hD, upd_same⟩ (fun _ _ _ _ => trivial) (fun i' x Ha Hb hi' hPc hY => ?_) (fun H5 hPc => ?_)⟩
      · obtain ⟨sa, ha'⟩ := hPc
        obtain ⟨rfl, c, hc, rfl⟩ := hY
        have hc' : kz.cps.toList[i']? = some c := by
          rw [Array.getElem?_toList]
          exact hc
        have tf := take_filter (may z) hc'
        have small : (vs1 ((kz.cps.toList.take i').filter (may z))).length < sizeLine := by
          unfold vs1
          rw [List.length_map, sizeLine_eq]
          have q1 := List.length_filter_le (may z) (kz.cps.toList.take i')
          have q2 : (kz.cps.toList.take i').length ≤ kz.cps.toList.length := by
            rw [List.length_take]
            omega
          have q3 := kS
          rw [len_codes] at q3
          omega
        have more : may z c = true → ∀ Hc, Same H4 Hc → Hc D = some (.lst (vs1 ((kz.cps.toList.take i').filter (may z)))) → Same H4 (upd Hc D (.lst (vs1 ((kz.cps.toList.take i').filter (may z)) ++ [.str (s1 c)]))) ∧
            (upd Hc D (.lst (vs1 ((kz.cps.toList.take i').filter (may z)) ++ [.str (s1 c)]))) D = some (.lst (vs1 ((kz.cps.toList.take (i' + 1)).filter (may z)))) := fun em Hc sc hDc => by
          refine ⟨fun b u e => ?_, ?_⟩
          · rw [upd_ne (ne_of_none e hD)]
            exact sc b u e
          · rw [upd_same, tf, if_pos em]
            unfold vs1
            rw [List.map_append]
            rfl
        refine ⟨rfl, .str z, rfl, rfl, _, rfl, ite2 (fun e => ?_) (fun e => ?_)⟩
        · have ez : z = "" := V.str.inj (of_decide_eq_true e)
          have em : may z c = true := by
            rw [ez]
            rfl
          refine iteT ?_
          exact ⟨.str (s1 c), rfl, _, ha', small, more em _ sa ha'⟩
        · have nz : z ≠ "" := fun q => e (decide_eq_true (congrArg V.str q))
          have nl : z.cps.toList ≠ [] := fun q => nz (str_empty.mpr q)
          obtain ⟨dl, hdl⟩ : ∃ dl, z.cps.toList.getLast? = some dl := ⟨_, List.getLast?_eq_getLast nl⟩
          obtain ⟨r, er⟩ := last_split hdl
          have dL : isL dl = true := letters_of _ _ _ fz dl (by rw [er]; exact List.mem_append_right _ List.mem_cons_self)
          have emay : may z c = decide (c ≠ up dl) := by
            unfold may
            rw [hdl]
          have at1 : atI z.cps.toList (-1) = some dl := by
            rw [er]
            exact atI_last _ _
          have zs : z.length ≤ sizeLine := by
            rw [sizeLine_eq]
            omega
          refine ⟨.str (s1 c), rfl, .str z, rfl, 1, rfl, z, -1, dl, rfl, rfl, zs, at1, dl, rfl, dL, rfl, _, rfl, ?_⟩
          by_cases ec : c = up dl
          · have e1 : (!decide (V.str (s1 c) = V.str (s1 (up dl)))) = false := by
              rw [ec]
              simp
            rw [e1]
            refine iteF ⟨sa, ?_⟩
            rw [ha', tf, if_neg]
            · rw [List.append_nil]
            · rw [emay]
              simpa using ec
          · have e1 : (!decide (V.str (s1 c) = V.str (s1 (up dl)))) = true := by
              rw [decide_eq_false fun q => ec (s1_inj (V.str.inj q))]
              rfl
            rw [e1]
            refine iteT ?_
            exact ⟨.str (s1 c), rfl, _, ha', small, more (emay.trans (decide_eq_true ec)) _ sa ha'⟩
      · obtain ⟨s5, h5⟩ := hPc
        have full : kz.cps.toList.take kz.cps.size = kz.cps.toList := List.take_of_length_le (by simp)
        rw [full] at h5
        obtain ⟨c1, c2, c3⟩ := some_may hkz z
        have mem1 : c1 ∈ kz.cps.toList.filter (may z) := List.mem_filter.mpr ⟨c2, c3⟩
        have pD : D ≠ p := p4.ne_p hD
        have lp1 : 0 < (vs1 (kz.cps.toList.filter (may z))).length := by
          unfold vs1
          rw [List.length_map]
          exact List.length_pos_of_mem mem1
        have lp2 : (vs1 (kz.cps.toList.filter (may z))).length ≤ 100000 := by
          unfold vs1
          rw [List.length_map]
          have q1 := List.length_filter_le (may z) kz.cps.toList
          have q3 := kS
          rw [len_codes] at q3
          omega
        refine ⟨.str z, rfl, .ref p, rfl, .ref D, rfl, p, l, .ref D, N + 2 + i, _, rfl, p4.same s5, by omega, .inl ⟨D, rfl, .inl (.inl h5), pD⟩, lp1, lp2, fun x H6 hx6 k6 p6 => ?_⟩
        obtain ⟨c, hc, rfl⟩ := List.mem_map.mp hx6
        obtain ⟨hcm, hcy⟩ := List.mem_filter.mp hc
        refine ⟨z, s1 c, rfl, rfl, by show z.length + 1 ≤ sizeLine; rw [sizeLine_eq]; omega, ?_⟩
        refine ⟨z ++ s1 c, _, _, _, rfl, ?_, ?_, k4.trans ((Kept.of s5).trans k6), p6.mono (by omega)⟩
        · rw [app_codes]
          refine fault_snoc fz (kL c hcm) fun d hd => ?_
          unfold may at hcy
          rw [hd] at hcy
          exact of_decide_eq_true hcy
        · rw [Str.length_append, lz]
          rfl
    · obtain ⟨z, y4, y5, y6, rfl, fz, lz, k4, p4⟩ := hPv
      refine ⟨.str z, rfl, ?_⟩
      exact q z _ ⟨fz, by omega⟩ k4 (p4.mono (by omega))
end
end K02
-- K02F1
namespace K02
open PySem PySem.Spec PyProof.Rows L2 SB
/-- a def whose code object is at c -/
structure FunT (K : PySem.W.Frag) (x qual : Str) (st : Stmt) (f c : Addr) (fd : FuncData) : Prop where
  ex : ∃ (oc : Value) (od : Option Addr) (kV doc pm : Value) (an : Option Addr) (ct : Value) (osl : Array (Option Value)),
    fd = PySem.W.fnOf x qual (defArgs st) (defBody st) (defScope st) .none kV doc pm an (.ref c) ct ∧ K.lookup f = some ⟨oc, od, .func fd, osl⟩ ∧ PySem.W.codeIn K (.ref c) qual = true
  kp : PySem.W.keepIn K (.ref f) = true
section
variable {P : Program} {w : World} {K : PySem.W.Frag} {mg : Str → Option Value} {base : Heap}
theorem FunT.fn {x qual : Str} {st : Stmt} {f c : Addr} {fd : FuncData} (F : FunT K x qual st f c fd) : Fun K x qual st f fd := by
  obtain ⟨oc, od, kV, doc, pm, an, ct, osl, e, lk, hcd⟩ := F.ex
  exact ⟨⟨oc, od, kV, doc, pm, an, .ref c, ct, osl, e, lk, hcd⟩, F.kp⟩
theorem FunT.ok {x qual : Str} {st : Stmt} {f c : Addr} {fd : FuncData} {N ps : List Str} {k : Nat} {sp : Sp} (F : FunT K x qual st f c fd) (S : FnScope N ps (defScope st)) (len : ∀ vs H Q E, sp vs H Q E → vs.length = ps.length)
    (hbody : ∀ (A : Around) (outer : List Env) (s : Shared) (H : Hp) (vs : List V) (Q : VK) (E : XK), Room k (A.deeper (envOfC qual (defScope st) s.heap.objs.size f (.ref c))) → sp vs H Q E →
      ∃ t, PSs (cxOf CX0 P w K mg base N qual (defScope st) f (.ref c) A outer s H E).nox (defBody st) t ∧ t { nx := fun _ H' => Q .non H', rt := Q } (L2.start N vs) H) : FnOk P w K mg base CX0 (k + 1) f fd ps sp := by
  obtain ⟨oc, od, kV, doc, pm, an, ct, osl, rfl, lk, hcd⟩ := F.ex
  refine fn_of lk hcd S len fun A outer s H vs Q E hr hsp => ?_
  obtain ⟨t, h, q⟩ := hbody A outer s H vs Q E hr hsp
  exact ⟨t, h.nox, q⟩
theorem funT_mk {x qual : Str} {st : Stmt} {f c : Addr} {oc : Value} {od an : Option Addr} {osl : Array (Option Value)} {kV doc pm ct : Value} (l : K.lookup f = some ⟨oc, od, .func (PySem.W.fnOf x qual (defArgs st) (defBody st) (defScope st) .none kV doc pm an (.ref c) ct), osl⟩)
    (e : PySem.W.codeIn K (.ref c) qual = true) (k : PySem.W.keepIn K (.ref f) = true) : FunT K x qual st f c (PySem.W.fnOf x qual (defArgs st) (defBody st) (defScope st) .none kV doc pm an (.ref c) ct) :=
  ⟨⟨oc, od, kV, doc, pm, an, ct, osl, rfl, l, e⟩, k⟩
/-- what is told of _law_heard -/
structure Heard (K : PySem.W.Frag) (mg : Str → Option Value) (CB : Addr) : Prop where
  ex : ∃ g fd, Fun K "_law_heard" "_law_heard" s__law_heard g fd ∧ Binds K fd ["ask"] [] ∧ mg "_law_heard" = some (.ref g)
  be : mg "BallError" = some (.ref CB)
/-- _law_heard(lambda: body) -/
theorem pe_heard {X : Cx} {T : List (Addr × Str)} {CB c P : Addr} {k : Nat} {params : Arguments} {body : Expr} {scope : Scope} {t : XK → TE} {p lpos pos : Pos} (Hd : Heard X.K X.mg CB) (hg : Gl X "_law_heard")
    (TB : LamX.TabB X.base X.mg c P) (hcode : X.env.code = .ref c) (hmT : (P, X.env.qual ++ "<lambda>") ∈ T) (hu : ∀ p ∈ T, p.1 = P → p.2 = X.env.qual ++ "<lambda>") (hr : Room (k + 2) X.A) (L : LamX.LamS X.env.scope scope) (hdef : defaultsOf params X.env = ([], []))
    (hbind : ∀ (q : Str) (cl : List (Str × Addr)) (pm cv ctv : Value), bindArgs (PySem.W.kla_fn "<lambda>" q params body scope cl pm cv ctv) ⟨[], []⟩ = pure [])
    (hbody : ∀ (A : Around) (outer : List Env) (s : Shared) (H : Hp) (E : XK) (f c' : Addr), Room k (A.deeper (LamX.lamEnv X scope s.heap.objs.size f c')) → PE (LamX.lamCx X A outer s H E scope f c') body (t E)) :
    PE X (.Call (.Name "_law_heard" p) [.Lambda params body scope lpos] [] pos) (LamX.tLam T (THeard X.K CB) t) := by
  obtain ⟨g, fd, F, bF, hm⟩ := Hd.ex
  have kp := F.kp
  obtain ⟨oc, od, kV, doc, pm, an, cdv, ct, osl, rfl, lk, hcd⟩ := F.ex
  exact LamX.pe_lamcall (Ng := ["ask", "caught", "error"]) (a := "ask") hg hm kp lk hcd bF sc__law_heard rfl (.inl rfl) (heard_gives (x := "_law_heard") (g := g) (cdg := cdv) Hd.be) TB hcode hmT hu hr L hdef hbind hbody
end
end K02
-- K02F2
namespace K02
open PySem PySem.Spec PyProof.Rows L2 SB
section
variable {P : Program} {w : World} {K : PySem.W.Frag} {mg : Str → Option Value} {base : Heap}
def spJoined : Sp := fun vs H Q _ => ∃ a b : Str, vs = [.str a, .str b] ∧ a.length ≤ 100000 ∧ b.length ≤ 100000 ∧ Fine a.cps.toList ∧ Fine b.cps.toList ∧ Q (.str (T (strike (a.cps.toList ++ b.cps.toList)))) H
theorem ok_joined {f : Addr} {fd : FuncData} {k : Nat} (F : Fun K "joined" "joined" s_joined f fd) (m_len : mg "len" = none) (m_min : mg "min" = none) : FnOk P w K mg base CX0 (k + 1) f fd ["one", "other"] spJoined := by
  refine F.ok sc_joined (fun vs H Q E h => ?_) (fun cdv A outer s H vs Q E hr h => ?_)
  · obtain ⟨a, b, rfl, _⟩ := h
    rfl
  · obtain ⟨a, b, rfl, la, lb, fa, fb, q⟩ := h
    have nd := sc_joined.nd
    refine ⟨_, (pss_cons (ps_set (i := 2) nd rfl (.inl rfl) (pe_callB call_len (by rfl) m_len PySem.boot_len (pa_cons (pv 0) pa_nil)))
      (pss_cons (ps_set (i := 3) nd rfl (.inl rfl) (pe_callB (call_min2 rfl) (by rfl) m_min (by decide +kernel) (pa_cons (pe_callB call_len (by rfl) m_len PySem.boot_len (pa_cons (pv 0) pa_nil)) (pa_cons (pe_callB call_len (by rfl) m_len PySem.boot_len (pa_cons (pv 1) pa_nil)) pa_nil))))
      (pss_cons (ps_set (i := 4) nd rfl (.inl rfl) pe_int)
      (pss_cons (ps_while PassesOwn.never (PW.pt (pw_and (pt_cmpR op_lt (pv 4) (pv 3) (nomark _)) (pw_and1 (pt_cmpR op_eq (pe_ix ix_str (pv 0) (pe_op op_sub (pe_op op_sub (pv 2) pe_int) (pv 4)) (fun _ _ => rfl)) (pe_m0 PySem.F.slot_str_swapcase PySem.F.type_str_swapcase mt_swapcase (pe_ix ix_str (pv 1) (pv 4) (fun _ _ => rfl))) (nomark _))))) (pss_one (ps_aug (i := 4) nd rfl (.inl rfl) pe_int ip_add)))
      (pss_one (ps_ret (pe_op op_add_str (pe_slice sl_str (pv 0) po_none (po_some (pe_op op_sub (pv 2) (pv 4)))) (pe_slice sl_str (pv 1) (po_some (pv 4)) po_none)))))))), ?_⟩
    have as_ : a.length ≤ sizeLine := by
      rw [sizeLine_eq]
      omega
    have bs_ : b.length ≤ sizeLine := by
      rw [sizeLine_eq]
      omega
    have hla : a.cps.toList.length = a.length := rfl
    have hlb : b.cps.toList.length = b.length := rfl
    refine ⟨.str a, rfl, .str a, a.length, rfl, ⟨as_, rfl⟩, .str a, rfl, .str a, a.length, rfl, ⟨as_, rfl⟩, .str b, rfl, .str b, b.length, rfl, ⟨bs_, rfl⟩, _, _, rfl, ?_⟩
    have em : (if ((b.length : Nat) : Int) < ((a.length : Nat) : Int) then ((b.length : Nat) : Int) else ((a.length : Nat) : Int)) = ((min a.length b.length : Nat) : Int) := by
      split <;> omega
    rw [em]
    refine ⟨fun m σ H' => ∃ g : Nat, σ = [some (.str a), some (.str b), some (.int (a.length : Nat)), some (.int (min a.length b.length : Nat)), some (.int (g : Nat))] ∧ H' = H ∧ g ≤ min a.length b.length ∧ m + g = min a.length b.length ∧ strike (a.cps.toList.take (a.cps.toList.length - g) ++ b.cps.toList.drop g) = strike (a.cps.toList ++ b.cps.toList),
      ⟨min a.length b.length, 0, rfl, rfl, Nat.zero_le _, rfl, ?_⟩, ?_⟩
    · rw [Nat.sub_zero, List.take_length, List.drop_zero]
    rintro m σ H' ⟨g, rfl, rfl, gl, em2, es⟩
    have out : (∀ x y, g < a.cps.toList.length → a.cps.toList[a.cps.toList.length - 1 - g]? = some x → b.cps.toList[g]? = some y → x ≠ up y) → Q (.str (cutS a none (some ((a.length : Nat) - (g : Nat) : Int)) ++ cutS b (some ((g : Nat) : Int)) none)) H' := fun n => by
      have e1 := join_end (g := g) fa fb n
      have e2 : cutS a none (some ((a.length : Nat) - (g : Nat) : Int)) ++ cutS b (some ((g : Nat) : Int)) none = SB.T (strike (a.cps.toList ++ b.cps.toList)) := by
        refine str_ext ?_
        rw [app_codes, show ((a.length : Nat) : Int) - ((g : Nat) : Int) = ((a.length - g : Nat) : Int) by omega, cut_take, cut_drop, ← es, e1, hla]
        rfl
      rw [e2]
      exact q
    refine ⟨.int g, rfl, .int (min a.length b.length : Nat), rfl, _, _, rfl, rfl, _, rfl, ite2 (fun e => ?_) (fun e => ?_)⟩
    · have lt : g < min a.length b.length := by
        have := of_decide_eq_true e
        omega
      obtain ⟨x, hx⟩ : ∃ x, a.cps.toList[a.cps.toList.length - 1 - g]? = some x := ⟨_, List.getElem?_eq_getElem (by omega)⟩
      obtain ⟨y, hy⟩ : ∃ y, b.cps.toList[g]? = some y := ⟨_, List.getElem?_eq_getElem (by omega)⟩
      have yL : isL y = true := fb.1 y (List.mem_of_getElem? hy)
      have ax : atI a.cps.toList (((a.length : Nat) : Int) - 1 - ((g : Nat) : Int)) = some x := by
        rw [show ((a.length : Nat) : Int) - 1 - ((g : Nat) : Int) = ((a.cps.toList.length - 1 - g : Nat) : Int) by omega]
        exact atI_nat hx
      refine ⟨.str a, rfl, .int (a.length : Nat), rfl, _, 1, rfl, rfl, .int g, rfl, _, _, rfl, rfl, a, _, x, rfl, rfl, as_, ax, .str b, rfl, .int g, rfl, b, _, y, rfl, rfl, bs_, atI_nat hy, ⟨_, rfl⟩, s1 y, rfl, rfl, (by show 1 ≤ 5592405; decide), rfl, _, rfl, ?_⟩
      rw [swap_up y yL]
      by_cases ec : x = up y
      · rw [decide_eq_true (congrArg (fun c => V.str (s1 c)) ec)]
        refine ⟨fun σ' H'' => ∃ m', m' < m ∧ _, fun σ' H'' h => h, ?_⟩
        refine ⟨.int g, rfl, _, _, rfl, rfl, m - 1, by omega, g + 1, rfl, rfl, by omega, by omega, ?_⟩
        rw [← es]
        exact (join_step fa fb (by omega) hx hy ec).symm
      · rw [decide_eq_false fun q => ec (s1_inj (V.str.inj q))]
        refine ⟨.str a, rfl, .int (a.length : Nat), rfl, .int g, rfl, _, _, rfl, rfl, _, rfl, a, rfl, as_, .str b, rfl, .int g, rfl, _, rfl, b, rfl, bs_, _, _, rfl, rfl, by rw [sizeLine_eq]; have c1 := cutS_length a none (some ((a.length : Nat) - (g : Nat) : Int)); have c2 := cutS_length b (some ((g : Nat) : Int)) none; omega, out ?_⟩
        intro x' y' _ hx' hy'
        rw [hx] at hx'
        rw [hy] at hy'
        cases hx'
        cases hy'
        exact ec
    · have ge : ¬ g < min a.length b.length := fun h => e (decide_eq_true (by omega))
      refine ⟨.str a, rfl, .int (a.length : Nat), rfl, .int g, rfl, _, _, rfl, rfl, _, rfl, a, rfl, as_, .str b, rfl, .int g, rfl, _, rfl, b, rfl, bs_, _, _, rfl, rfl, by rw [sizeLine_eq]; have c1 := cutS_length a none (some ((a.length : Nat) - (g : Nat) : Int)); have c2 := cutS_length b (some ((g : Nat) : Int)) none; omega, out ?_⟩
      intro x' y' hg _ hy'
      have := (List.getElem?_eq_some_iff.mp hy').1
      omega
end
end K02
-- M13
namespace SB
open PySem PySem.Spec PyProof.Rows L2
theorem case_of : ∀ c, isL c = true → (if Unicode.isUpper c then Unicode.lowerOf c else if Unicode.isLower c then Unicode.upperOf c else [c]) = [up c] ∧ (c == 0x3A3) = false := by
  intro c h
  have h' : c ∈ letters8 := of_decide_eq_true h
  have all : ∀ c ∈ letters8, (if Unicode.isUpper c then Unicode.lowerOf c else if Unicode.isLower c then Unicode.upperOf c else [c]) = [up c] ∧ (c == 0x3A3) = false := by decide +kernel
  exact all c h'
theorem case_at {a : Array Nat} {i c : Nat} (h : a[i]? = some c) (hc : isL c = true) : (if Unicode.isUpper c then Unicode.lowerAt a i else if Unicode.isLower c then Unicode.upperOf c else [c]) = [up c] := by
  obtain ⟨h1, h2⟩ := case_of c hc
  have e : Unicode.lowerAt a i = Unicode.lowerOf c := by
    unfold Unicode.lowerAt
    rw [h]
    show (if (c == 0x3A3 && Unicode.endsWord a i) = true then [0x3C2] else Unicode.lowerOf c) = _
    rw [h2]
    rfl
  rw [e]
  exact h1
theorem swap_text {z : Str} (h : allL z.cps.toList) : Txt.swapcase z = T (z.cps.toList.map up) := by
  refine str_ext ?_
  show ((z.cps.mapIdx fun i c => (if Unicode.isUpper c then Unicode.lowerAt z.cps i else if Unicode.isLower c then Unicode.upperOf c else [c]).toArray).flatten).toList = z.cps.toList.map up
  have e : (z.cps.mapIdx fun i c => (if Unicode.isUpper c then Unicode.lowerAt z.cps i else if Unicode.isLower c then Unicode.upperOf c else [c]).toArray) = z.cps.map fun c => #[up c] := by
    refine Array.ext (by simp) fun i h1 h2 => ?_
    have hi : i < z.cps.size := by simpa using h2
    rw [Array.getElem_mapIdx, Array.getElem_map]
    have hc : z.cps[i]? = some z.cps[i] := Array.getElem?_eq_getElem hi
    rw [case_at hc (h _ (by simp))]
  rw [e, Array.toList_flatten, Array.toList_map, List.map_map]
  have f : ∀ l : List Nat, (l.map (Array.toList ∘ fun c => #[up c])).flatten = l.map up := by
    intro l
    induction l with
    | nil => rfl
    | cons a r ih =>
      rw [List.map_cons, List.flatten_cons, ih]
      rfl
  exact f _
end SB
-- K02F3
namespace K02
open PySem PySem.Spec PyProof.Rows L2 SB
/-- what isinstance asks of an own class -/
structure IsC (K : PySem.W.Frag) (C : Addr) : Prop where
  ca : PySem.W.findIn K (.ref C) "__class__" = some (some (.builtin "object.__class__"))
  cg : PySem.W.specialIn K (.builtin "object.__class__") "__get__" = some (some (.builtin "getset_descriptor.__get__"))
  ct : PySem.W.takesIn K (.builtin "object.__class__") = some true
  mr : PySem.W.mroIn K C (.type "object") = some true
  ns : PySem.W.kitOne K (.ref C) (.type "str") = some false
theorem isC_ty {K : PySem.W.Frag} {CW a : Addr} {H : Hp} {z : Str} (c : Cls K CW) (i : IsC K CW) (h : WordAt CW H a z) : TyX K H (.ref a) (.ref CW) := by
  obtain ⟨dx, h⟩ := h
  exact .base (.ins h c i.ca i.cg i.ct i.mr)
theorem kit_self {K : PySem.W.Frag} {C : Addr} : PySem.W.kitOne K (.ref C) (.ref C) = some true := by
  unfold PySem.W.kitOne
  rw [if_pos (beq_self_eq_true _)]
theorem made_word {H H1 : Hp} {x dx CW : Addr} {z : Str} (nx : H x = none) (nd : H dx = none) (s : Same (upd (upd H dx (.own x)) x (.ins CW dx [])) H1) :
    Same H (upd H1 x (.ins CW dx [("letters", .str z)])) ∧ WordAt CW (upd H1 x (.ins CW dx [("letters", .str z)])) x z := ⟨same_made nx nd s, dx, upd_same⟩
theorem same_make {H H1 : Hp} {x dx CW : Addr} (nx : H x = none) (nd : H dx = none) (ne : dx ≠ x) (s : Same (upd (upd H dx (.own x)) x (.ins CW dx [])) H1) : Same H H1 :=
  (same_new nd).trans ((same_new (by rw [upd_ne (Ne.symm ne)]; exact nx)).trans s)
theorem fine_word {z : Str} (h : Fine z.cps.toList) : fault z.cps.toList = none := (fine_iff _).mpr h
section
variable {P : Program} {w : World} {K : PySem.W.Frag} {mg : Str → Option Value} {base : Heap}
def spUndone : Sp := fun vs H Q _ => ∃ a : Str, vs = [.str a] ∧ a.length ≤ 100000 ∧ allL a.cps.toList ∧ Q (.str (T (inv a.cps.toList))) H
theorem ok_undone {f : Addr} {fd : FuncData} {k : Nat} (F : Fun K "undone" "undone" s_undone f fd) : FnOk P w K mg base CX0 (k + 1) f fd ["letters"] spUndone := by
  refine F.ok sc_undone (fun vs H Q E h => ?_) (fun cdv A outer s H vs Q E hr h => ?_)
  · obtain ⟨a, rfl, _⟩ := h
    rfl
  · obtain ⟨a, rfl, la, aL, q⟩ := h
    have nd := sc_undone.nd
    refine ⟨_, (pss_one (ps_ret (pe_m0 PySem.F.slot_str_swapcase PySem.F.type_str_swapcase mt_swapcase (pe_revS (pv 0) (pe_un un_neg pe_int))))), ?_⟩
    have lr : (revS a).length = a.length := by
      show (a.cps.toList.reverse).length = a.cps.toList.length
      rw [List.length_reverse]
    have rL : allL (revS a).cps.toList := fun c hc => aL c (List.mem_reverse.mp hc)
    refine ⟨.str a, rfl, 1, rfl, a, rfl, rfl, by rw [sizeLine_eq]; omega, ⟨_, rfl⟩, revS a, rfl, rfl, by omega, ?_⟩
    rw [swap_text rL]
    have e : ((revS a).cps.toList.map up) = inv a.cps.toList := by
      show (a.cps.toList.reverse).map up = (a.cps.toList.map up).reverse
      rw [List.map_reverse]
    rw [e]
    exact q
/-- what is told of the making of Words -/
structure MakeOk (P : Program) (w : World) (K : PySem.W.Frag) (mg : Str → Option Value) (base : Heap) (CW CB2 CM : Addr) (k : Nat) : Prop where
  word : ∃ f fd tE, Mk K CW f ∧ FnOk P w K mg base (L2.CX P w) (k + 3) f fd ["self", "letters"] (spWordI K CW CB2 CM) ∧ Binds K fd ["self", "letters"] [] ∧ Binds K fd ["self", "letters"] [tE] ∧ RelV (.str "") tE
  gW : mg "Word" = some (.ref CW)
  cl : Cls K CW
  ic : IsC K CW
  na : NoAttr K CW "letters"
def spMul (K : PySem.W.Frag) (CW CB2 CM : Addr) : Sp := fun vs H Q E => ∃ (a : Addr) (z : Str) (y : V), vs = [.ref a, y] ∧ WordAt CW H a z ∧ Fine z.cps.toList ∧ z.length ≤ 4000 ∧
  ((∃ (b : Addr) (v : Str), y = .ref b ∧ WordAt CW H b v ∧ Fine v.cps.toList ∧ v.length ≤ 4000 ∧
    ((strike (z.cps.toList ++ v.cps.toList)).length ≤ 4000 → ∀ c H', H c = none → Same H H' → WordAt CW H' c (T (strike (z.cps.toList ++ v.cps.toList))) → Q (.ref c) H') ∧
    (4000 < (strike (z.cps.toList ++ v.cps.toList)).length → ∀ H' d, Same H H' → H' d = none → E (.ref CM) (some d) (upd H' d (.xd [("most", .int 4000), ("what", .str "letters")])))) ∨
   (∃ t, TyX K H y t ∧ PySem.W.kitOne K t (.ref CW) = some false ∧ ∀ d, H d = none → E (.ref CB2) (some d) (upd H d (.xd [("at", .int 0)]))))
theorem ok_Word_mul {f CW CB2 CM fB fJ : Addr} {fd fdB fdJ : FuncData} {k : Nat} (F : Fun K "__mul__" "Word.__mul__" s_Word_mul f fd) (MO : MakeOk P w K mg base CW CB2 CM k) (E2 : Err1 K mg "BadWord" "at" CB2 fB) (FB : Fun K "__init__" "BadWord.__init__" s_BadWord_init fB fdB) (bB : Binds K fdB ["self", "at"] [])
    (GJ : FnOk P w K mg base CX0 (k + 1) fJ fdJ ["one", "other"] spJoined) (gJ : mg "joined" = some (.ref fJ)) (kJ : PySem.W.keepIn K (.ref fJ) = true) (bJ : Binds K fdJ ["one", "other"] []) (mi : mg "isinstance" = none) :
    FnOk P w K mg base (L2.CX P w) (k + 5) f fd ["self", "other"] (spMul K CW CB2 CM) := by
  obtain ⟨fW, fdW, tE, M, GW, bW, bW0, rE⟩ := MO.word
  have gW := MO.gW
  refine F.okX sc_Word_mul (fun vs H Q E h => ?_) (fun cdv A outer s H vs Q E hr h => ?_)
  · obtain ⟨a, z, y, rfl, _⟩ := h
    rfl
  · obtain ⟨a, z, y, rfl, ⟨dx, ha⟩, fz, lz, h⟩ := h
    have nd := sc_Word_mul.nd
    refine ⟨_, pss_cons (ps_if (pt_not (pt_val (pe_callB call_isi (by rfl) mi boot_isinstance (pa_cons (pv 1) (pa_cons (pe_glob (v := .ref CW) (by rfl) gW rfl) pa_nil)))))
        (pss_one (ps_raise1 E2 (ok_BadWord_init (k := k) FB) bB (hr.mono (by omega)) rfl (takes_of rfl rfl rfl rfl) pass0 pe_int)) pss_nil)
      (pss_one (ps_ret (pe_make M GW (hr.mono (by omega)) (by rfl) gW bW .nil (E := E) (passes_call (takes_of rfl rfl rfl rfl) fun _ _ _ _ q => q) (pa_cons (pe_call GJ (hr.mono (by omega)) (by rfl) gJ kJ bJ .nil pass0 (pa_cons (pe_fld (pv 0) rfl) (pa_cons (pe_fld (pv 1) rfl) pa_nil))) pa_nil)))), ?_⟩
    rcases h with ⟨b, v, rfl, wb, fv, lv, good, long⟩ | ⟨t, ty, ek, bad⟩
    · refine ⟨.ref b, rfl, .ref b, .ref CW, .ref CW, .ref CW, true, rfl, .own CW, isC_ty MO.cl MO.ic wb, kit_self, true, rfl, iteF ?_⟩
      obtain ⟨dy, hb⟩ := wb
      refine ⟨.ref a, rfl, a, CW, dx, _, .str z, rfl, ha, MO.cl, MO.na, rfl, .ref b, rfl, b, CW, dy, _, .str v, rfl, hb, MO.cl, MO.na, rfl, z, v, rfl, by omega, by omega, fz, fv, ?_⟩
      have fS : Fine (SB.T (strike (z.cps.toList ++ v.cps.toList))).cps.toList := fine_strike (allL_app fz.1 fv.1)
      have eS := fine_word fS
      have ls := len_strike (z.cps.toList ++ v.cps.toList)
      rw [List.length_append] at ls
      have lz' : z.cps.toList.length ≤ 4000 := lz
      have lv' : v.cps.toList.length ≤ 4000 := lv
      have lS : (SB.T (strike (z.cps.toList ++ v.cps.toList))).length = (strike (z.cps.toList ++ v.cps.toList)).length := rfl
      refine fun x dx2 nx nd' ne => ⟨x, dx2, .str (SB.T (strike (z.cps.toList ++ v.cps.toList))), rfl, upd_same, .inl ⟨_, rfl⟩, fun z' hz' => ?_, fun nz => (nz _ rfl).elim⟩
      cases hz'
      refine ⟨by omega, (fun j hj => by rw [eS] at hj; cases hj), fun _ l4 H2 d s2 hd => long (by omega) H2 d (same_make nx nd' ne s2) hd, fun _ l4 H2 s2 => ⟨rfl, ?_⟩⟩
      obtain ⟨s3, w3⟩ := made_word (z := SB.T (strike (z.cps.toList ++ v.cps.toList))) nx nd' s2
      exact good (by omega) x _ nx s3 w3
    · refine ⟨y, rfl, y, .ref CW, t, .ref CW, false, rfl, .own CW, ty, ek, false, rfl, iteT ?_⟩
      exact raised1 E2 fun d hd => bad d hd
def spInvert (CW : Addr) : Sp := fun vs H Q _ => ∃ (a : Addr) (z : Str), vs = [.ref a] ∧ WordAt CW H a z ∧ Fine z.cps.toList ∧ z.length ≤ 4000 ∧ ∀ c H', H c = none → Same H H' → WordAt CW H' c (T (inv z.cps.toList)) → Q (.ref c) H'
theorem ok_Word_invert {f CW CB2 CM fU : Addr} {fd fdU : FuncData} {k : Nat} (F : Fun K "__invert__" "Word.__invert__" s_Word_invert f fd) (MO : MakeOk P w K mg base CW CB2 CM k)
    (GU : FnOk P w K mg base CX0 (k + 1) fU fdU ["letters"] spUndone) (gU : mg "undone" = some (.ref fU)) (kU : PySem.W.keepIn K (.ref fU) = true) (bU : Binds K fdU ["letters"] []) :
    FnOk P w K mg base CX0 (k + 5) f fd ["self"] (spInvert CW) := by
  obtain ⟨fW, fdW, tE, M, GW, bW, bW0, rE⟩ := MO.word
  have gW := MO.gW
  refine F.ok sc_Word_invert (fun vs H Q E h => ?_) (fun cdv A outer s H vs Q E hr h => ?_)
  · obtain ⟨a, z, rfl, _⟩ := h
    rfl
  · obtain ⟨a, z, rfl, ⟨dx, ha⟩, fz, lz, q⟩ := h
    refine ⟨_, pss_one (ps_ret (pe_make M GW (hr.mono (by omega)) (by rfl) gW bW .nil passL (pa_cons (pe_call GU (hr.mono (by omega)) (by rfl) gU kU bU .nil pass0 (pa_cons (pe_fld (pv 0) rfl) pa_nil)) pa_nil))), ?_⟩
    refine ⟨.ref a, rfl, a, CW, dx, _, .str z, rfl, ha, MO.cl, MO.na, rfl, z, rfl, by omega, fz.1, ?_⟩
    have eS : fault (SB.T (inv z.cps.toList)).cps.toList = none := fine_word (fine_inv fz)
    have lS : (SB.T (inv z.cps.toList)).length = z.length := inv_len _
    refine fun x dx2 nx nd' ne => ⟨x, dx2, .str (SB.T (inv z.cps.toList)), rfl, upd_same, .inl ⟨_, rfl⟩, fun z' hz' => ?_, fun nz => (nz _ rfl).elim⟩
    cases hz'
    refine ⟨by omega, (fun j hj => by rw [eS] at hj; cases hj), (fun _ l4 => absurd l4 (by omega)), fun _ _ H2 s2 => ⟨rfl, ?_⟩⟩
    obtain ⟨s3, w3⟩ := made_word (z := SB.T (inv z.cps.toList)) nx nd' s2
    exact q x _ nx s3 w3
theorem eqv_word (z y : Str) : PyData.eqv (.tuple [.int (z.length : Nat), .str z]) (.tuple [.int (y.length : Nat), .str y]) = decide (z = y) := by
  show ((((z.length : Nat) : Int) == ((y.length : Nat) : Int)) && ((z == y) && true)) = decide (z = y)
  by_cases e : z = y
  · subst e
    simp
  · have : (z == y) = false := by simpa using e
    rw [this, decide_eq_false e]
    simp
def spEq (K : PySem.W.Frag) (CW : Addr) : Sp := fun vs H Q _ => ∃ (a : Addr) (z : Str) (y : V), vs = [.ref a, y] ∧ WordAt CW H a z ∧ Fine z.cps.toList ∧ z.length ≤ 4000 ∧
  ((∃ (b : Addr) (v : Str), y = .ref b ∧ WordAt CW H b v ∧ Fine v.cps.toList ∧ v.length ≤ 4000 ∧ ∀ H', Same H H' → Q (.bl (decide (z = v))) H') ∨ (∃ t, TyX K H y t ∧ PySem.W.kitOne K t (.ref CW) = some false ∧ Q (.bl false) H))
theorem ok_Word_eq {f CW CB2 CM : Addr} {fd : FuncData} {k : Nat} (F : Fun K "__eq__" "Word.__eq__" s_Word_eq f fd) (MO : MakeOk P w K mg base CW CB2 CM k) (mi : mg "isinstance" = none) (ml : mg "len" = none) :
    FnOk P w K mg base CX0 (k + 1) f fd ["self", "other"] (spEq K CW) := by
  have gW := MO.gW
  have cl := MO.cl
  have na := MO.na
  refine F.ok sc_Word_eq (fun vs H Q E h => ?_) (fun cdv A outer s H vs Q E hr h => ?_)
  · obtain ⟨a, z, y, rfl, _⟩ := h
    rfl
  · obtain ⟨a, z, y, rfl, ⟨dx, ha⟩, fz, lz, h⟩ := h
    refine ⟨_, pss_cons (ps_if (pt_not (pt_val (pe_callB call_isi (by rfl) mi boot_isinstance (pa_cons (pv 1) (pa_cons (pe_glob (v := .ref CW) (by rfl) gW rfl) pa_nil)))))
        (pss_one (ps_ret pe_bl)) pss_nil)
      (pss_one (ps_ret (pe_cmpR (op_eqD hr.units) (pe_tup (pa_cons (pe_callB call_len (by rfl) ml PySem.boot_len (pa_cons (pe_fld (pv 0) rfl) pa_nil)) (pa_cons (pe_fld (pv 0) rfl) pa_nil)))
        (pe_tup (pa_cons (pe_callB call_len (by rfl) ml PySem.boot_len (pa_cons (pe_fld (pv 1) rfl) pa_nil)) (pa_cons (pe_fld (pv 1) rfl) pa_nil))) (nomark _)))), ?_⟩
    rcases h with ⟨b, y, rfl, wb, fy, ly, q⟩ | ⟨t, ty, ek, q⟩
    · refine ⟨.ref b, rfl, .ref b, .ref CW, .ref CW, .ref CW, true, rfl, .own CW, isC_ty MO.cl MO.ic wb, kit_self, true, rfl, iteF ?_⟩
      obtain ⟨dy, hb⟩ := wb
      have lz' : z.length ≤ sizeLine := by
        rw [sizeLine_eq]
        omega
      have ly' : y.length ≤ sizeLine := by
        rw [sizeLine_eq]
        omega
      refine ⟨.ref a, rfl, a, CW, dx, _, .str z, rfl, ha, cl, na, rfl, .str z, z.length, rfl, ⟨lz', rfl⟩, .ref a, rfl, a, CW, dx, _, .str z, rfl, ha, cl, na, rfl, by show 2 ≤ sizeLine; decide, fun p hp => ?_⟩
      have s1 : Same H (upd H p (.tup [.int (z.length : Nat), .str z])) := same_new hp
      have hb1 := s1 _ _ hb
      refine ⟨.ref b, rfl, b, CW, dy, _, .str y, rfl, hb1, cl, na, rfl, .str y, y.length, rfl, ⟨ly', rfl⟩, .ref b, rfl, b, CW, dy, _, .str y, rfl, hb1, cl, na, rfl, by show 2 ≤ sizeLine; decide, fun r hr2 => ?_⟩
      have s2 := same_new (o := .tup [.int (y.length : Nat), .str y]) hr2
      refine ⟨.tuple [.int (z.length : Nat), .str z], .tuple [.int (y.length : Nat), .str y], .tup (.inl (.inl (s2 _ _ upd_same))) (.cons (.int _) (.cons (.str _) .nil)), .tup (.inl (.inl upd_same)) (.cons (.int _) (.cons (.str _) .nil)), shaped_word _ (fine_word fz), shaped_word _ (fine_word fy), ?_⟩
      rw [eqv_word]
      exact q _ (s1.trans s2)
    · exact ⟨y, rfl, y, .ref CW, t, .ref CW, false, rfl, .own CW, ty, ek, false, rfl, iteT q⟩
end
end K02
-- R19
namespace SB
open PySem PySem.Spec PyProof.Rows L2
section
variable {X : Cx} {CX : CXT} {k : Nat} {C f : Addr} {fd : FuncData} {ps ks : List Str} {sp : Sp} {E : XK} {o : Expr} {kws : List Keyword} {m : Str} {pos apos : Pos} {ta : TE} {tk : TA} {pl : Sem Bool}
variable {gg : List Value → List Value → List Value} {gV : List V → List V → List V}
def tMethK (C : Addr) (m : Str) (sp : Sp) (gV : List V → List V → List V) (E : XK) (n : Nat) (ta : TE) (tk : TA) : TE := fun σ H Q => ta σ H fun x H1 => ∃ (a dx : Addr) (fs : List (Str × V)), x = .ref a ∧ H1 a = some (.ins C dx fs) ∧ fs.lookup m = none ∧
  tk σ H1 fun zs H2 => zs.length = n ∧ sp (gV [.ref a] zs) H2 Q E
/-- o.m(k = e), m a method -/
theorem pe_methK (he : PE X o ta) (c : Cls X.K C) (hm : Meth X.K C m f) (F : FnOk X.prog X.w X.K X.mg X.base CX k f fd ps sp) (hr : Room k X.A) (hb : KBn X.K fd ps 1 ks gg gV) (hx : Passes CX X E) (hkw : PK X kws tk)
    (hall : (backToKw pos (keywordEach kws X.env)).all (·.1.isSome) = true := by rfl) (hks : (backToKw pos (keywordEach kws X.env)).filterMap (·.1) = ks := by rfl)
    (hpl : ((backTo pos (starEach [] X.env)).any (·.1) || (backToKw pos (keywordEach kws X.env)).any (·.1.isNone)) = false := by rfl)
    (ht : eval (.Call (.Attribute o m apos) [] kws pos) X.env = (do
      let ov ← eval o X.env
      standAt apos.atName
      let (f, first) ← holding [ov] (getMethod ov m pl)
      callWith pos f first (backTo pos (starEach [] X.env)) (backToKw pos (keywordEach kws X.env))) := by rfl) :
    PE X (.Call (.Attribute o m apos) [] kws pos) (tMethK C m sp gV E ks.length ta tk) := by
  constructor
  intro pins s σ H Q I h
  refine PySem.W.methodCall_KW (pl := pl) (thn (he.run pins s σ H _ I h) fun u s1 hh => ?_) ht
  obtain ⟨x, H1, I1, rx, a, dx, fs, rfl, ea, l, q⟩ := hh
  obtain rfl : u = Value.ref a := rx
  refine getmeth_ok I1 ea c hm l ?_
  refine PySem.W.callWith_KW0 (first := [.ref a]) (h₀ := X.base) I1.ok.mod.kin hm.kp hall ?_ hpl
  refine thn (hkw.run pos pins s1 σ H1 _ I1 q) fun ws s3 h3 => ?_
  obtain ⟨zs, H2, I3, rz, l2, q2⟩ := h3
  refine ⟨I3.kIn, ?_⟩
  rw [hks]
  exact run_fnN (us := [.ref a]) (vs := [.ref a]) F hr hb hx I3 (.cons rfl .nil) rz rfl l2 q2
end
end SB
-- K02G1
namespace K02
open PySem PySem.Spec PyProof.Rows L2 SB
/-- whether nothing is struck out between two rows -/
def fitsB (z v : List Nat) : Bool := match z.getLast? with | none => true | some x => !decide (v[0]? = some (up x))
theorem fits_fine {z v : List Nat} (hz : Fine z) (hv : Fine v) : (fitsB z v = true → strike (z ++ v) = z ++ v) ∧ (fitsB z v = false → (strike (z ++ v)).length < z.length + v.length) := by
  unfold fitsB
  cases e : z.getLast? with
  | none =>
    have ez := List.getLast?_eq_none_iff.mp e
    subst ez
    exact ⟨fun _ => strike_fine hv, fun h => nomatch h⟩
  | some x =>
    refine ⟨fun h => strike_fine (fine_join hz hv fun x' y hx hy he => ?_), fun h => ?_⟩
    · rw [e] at hx
      cases hx
      rw [hy, he] at h
      simp at h
    · have hx : v[0]? = some (up x) := by simpa using h
      cases v with
      | nil => cases hx
      | cons y r =>
        cases hx
        obtain ⟨a, rfl⟩ := last_split e
        have xL : isL x = true := hz.1 x (by simp)
        have hL : allL (a ++ x :: up x :: r) := by
          have := allL_app hz.1 hv.1
          simpa using this
        have e2 : a ++ [x] ++ up x :: r = a ++ x :: up x :: r := by simp
        rw [e2, strike_pair hL (up_up x xL).symm]
        have := len_strike (a ++ r)
        rw [List.length_append] at this
        simp only [List.length_append, List.length_cons, List.length_nil]
        omega
section
variable {P : Program} {w : World} {K : PySem.W.Frag} {mg : Str → Option Value} {base : Heap}
def spFits (K : PySem.W.Frag) (CW CB2 : Addr) : Sp := fun vs H Q E => ∃ (a : Addr) (z : Str) (y : V), vs = [.ref a, y] ∧ WordAt CW H a z ∧ Fine z.cps.toList ∧ z.length ≤ 4000 ∧
  ((∃ (b : Addr) (v : Str), y = .ref b ∧ WordAt CW H b v ∧ Fine v.cps.toList ∧ v.length ≤ 4000 ∧ Q (.bl (fitsB z.cps.toList v.cps.toList)) H) ∨
   (∃ t, TyX K H y t ∧ PySem.W.kitOne K t (.ref CW) = some false ∧ ∀ d, H d = none → E (.ref CB2) (some d) (upd H d (.xd [("at", .int 0)]))))
theorem ok_Word_fits {f CW CB2 CM fB : Addr} {fd fdB : FuncData} {k : Nat} (F : Fun K "fits" "Word.fits" s_Word_fits f fd) (MO : MakeOk P w K mg base CW CB2 CM k) (E2 : Err1 K mg "BadWord" "at" CB2 fB) (FB : Fun K "__init__" "BadWord.__init__" s_BadWord_init fB fdB) (bB : Binds K fdB ["self", "at"] []) (mi : mg "isinstance" = none) :
    FnOk P w K mg base (L2.CX P w) (k + 3) f fd ["self", "other"] (spFits K CW CB2) := by
  have gW := MO.gW
  refine F.okX sc_Word_fits (fun vs H Q E h => ?_) (fun cdv A outer s H vs Q E hr h => ?_)
  · obtain ⟨a, z, y, rfl, _⟩ := h
    rfl
  · obtain ⟨a, z, y, rfl, ⟨dx, ha⟩, fz, lz, h⟩ := h
    have nd := sc_Word_fits.nd
    refine ⟨_, pss_cons (ps_if (pt_not (pt_val (pe_callB call_isi (by rfl) mi boot_isinstance (pa_cons (pv 1) (pa_cons (pe_glob (v := .ref CW) (by rfl) gW rfl) pa_nil)))))
        (pss_one (ps_raise1 E2 (ok_BadWord_init (k := k) FB) bB (hr.mono (by omega)) rfl (takes_of rfl rfl rfl rfl) pass0 pe_int)) pss_nil)
      (pss_one (ps_ret (pe_or (pe_cmpR op_eq (pe_fld (pv 0) rfl) pe_str (nomark _)) (pe_one (pe_cmpR op_ne (pe_m0 PySem.F.slot_str_swapcase PySem.F.type_str_swapcase mt_swapcase (pe_ix ix_str (pe_fld (pv 0) rfl) (pe_un un_neg pe_int) (fun _ _ => rfl)))
        (pe_slice sl_str (pe_fld (pv 1) rfl) po_none (po_some pe_int)) (nomark _)))))), ?_⟩
    rcases h with ⟨b, v, rfl, wb, fv, lv, q⟩ | ⟨t, ty, ek, bad⟩
    · refine ⟨.ref b, rfl, .ref b, .ref CW, .ref CW, .ref CW, true, rfl, .own CW, isC_ty MO.cl MO.ic wb, kit_self, true, rfl, iteF ?_⟩
      obtain ⟨dy, hb⟩ := wb
      have zs : z.length ≤ sizeLine := by
        rw [sizeLine_eq]
        omega
      have vs_ : v.length ≤ sizeLine := by
        rw [sizeLine_eq]
        omega
      refine ⟨.ref a, rfl, a, CW, dx, _, .str z, rfl, ha, MO.cl, MO.na, rfl, rfl, _, rfl, ite2 (fun e => ?_) (fun e => ?_)⟩
      · have ez : z = "" := V.str.inj (of_decide_eq_true e)
        have ef : fitsB z.cps.toList v.cps.toList = true := by
          rw [ez]
          rfl
        rw [ef] at q
        exact q
      · have nz : z ≠ "" := fun q => e (decide_eq_true (congrArg V.str q))
        have nl : z.cps.toList ≠ [] := fun q => nz (str_empty.mpr q)
        obtain ⟨x, hx⟩ : ∃ x, z.cps.toList.getLast? = some x := ⟨_, List.getLast?_eq_getLast nl⟩
        obtain ⟨r, er⟩ := last_split hx
        have xL : isL x = true := fz.1 x (List.mem_of_getLast? hx)
        have at1 : atI z.cps.toList (-1) = some x := by
          rw [er]
          exact atI_last _ _
        refine ⟨.ref a, rfl, a, CW, dx, _, .str z, rfl, ha, MO.cl, MO.na, rfl, 1, rfl, z, -1, x, rfl, rfl, zs, at1, ⟨_, rfl⟩, s1 x, rfl, rfl, (by show 1 ≤ 5592405; decide), .ref b, rfl, b, CW, dy, _, .str v, rfl, hb, MO.cl, MO.na, rfl, 1, rfl, v, rfl, vs_, rfl, ?_⟩
        rw [swap_up x xL]
        have ef : fitsB z.cps.toList v.cps.toList = !decide (v.cps.toList[0]? = some (up x)) := by
          unfold fitsB
          rw [hx]
        have eq_ : decide (V.str (s1 (up x)) = V.str (cutS v none (some 1))) = decide (v.cps.toList[0]? = some (up x)) := by
          have ct : (cutS v none (some 1)).cps.toList = v.cps.toList.take 1 := cut_take v 1
          cases hv : v.cps.toList with
          | nil =>
            refine (decide_eq_false fun z1 => ?_).trans (decide_eq_false (by simp)).symm
            have h1 : (s1 (up x)).cps.toList = (cutS v none (some 1)).cps.toList := congrArg (fun s : Str => s.cps.toList) (V.str.inj z1)
            rw [ct, hv] at h1
            cases h1
          | cons y r2 =>
            by_cases ey : y = up x
            · refine (decide_eq_true ?_).trans (decide_eq_true (by simp [ey])).symm
              refine congrArg V.str (str_ext ?_)
              rw [ct, hv, ey]
              rfl
            · refine (decide_eq_false fun z1 => ?_).trans (decide_eq_false (by simpa using ey)).symm
              have h1 : (s1 (up x)).cps.toList = (cutS v none (some 1)).cps.toList := congrArg (fun s : Str => s.cps.toList) (V.str.inj z1)
              rw [ct, hv] at h1
              have h2 : [up x] = [y] := h1
              exact ey (List.head_eq_of_cons_eq h2).symm
        rw [eq_, ← ef]
        exact q
    · refine ⟨y, rfl, y, .ref CW, t, .ref CW, false, rfl, .own CW, ty, ek, false, rfl, iteT ?_⟩
      exact raised1 E2 fun d hd => bad d hd
def spTold : Sp := fun vs H Q _ => ∃ b : Bool, vs = [.bl b, .bl b] ∧ Q (.bl true) H
theorem ok_law_told {f : Addr} {fd : FuncData} {k : Nat} (F : Fun K "_law_told" "_law_told" s__law_told f fd) : FnOk P w K mg base CX0 (k + 1) f fd ["told", "due"] spTold := by
  refine F.ok sc__law_told (fun vs H Q E h => ?_) (fun cdv A outer s H vs Q E hr h => ?_)
  · obtain ⟨b, rfl, _⟩ := h
    rfl
  · obtain ⟨b, rfl, q⟩ := h
    have nd := sc__law_told.nd
    refine ⟨_, (pss_one (ps_ret (pe_ifExp (pt_val (pv 1)) (pe_cmpR op_isBl (pv 0) pe_bl (nomark _)) (pe_cmpR op_isBl (pv 0) pe_bl (nomark _))))), ?_⟩
    cases b with
    | true => exact ⟨.bl true, rfl, true, rfl, iteT ⟨.bl true, rfl, true, true, rfl, rfl, q⟩⟩
    | false => exact ⟨.bl false, rfl, false, rfl, iteF ⟨.bl false, rfl, false, false, rfl, rfl, q⟩⟩
def spBack : Sp := fun vs H Q _ => ∃ z : Str, vs = [.str z] ∧ z.length ≤ 100000 ∧ allL z.cps.toList ∧ Q (.str (T (inv z.cps.toList))) H
theorem ok_law_back {f f__law_undo : Addr} {fd d__law_undo : FuncData} {k : Nat} (F : Fun K "_law_back" "_law_back" s__law_back f fd)
    (G__law_undo : FnOk P w K mg base CX0 (k + 1) f__law_undo d__law_undo ["letter"] spUndo) (g__law_undo : mg "_law_undo" = some (.ref f__law_undo)) (k__law_undo : PySem.W.keepIn K (.ref f__law_undo) = true) (b__law_undo : Binds K d__law_undo ["letter"] []) :
    FnOk P w K mg base CX0 (k + 2) f fd ["row"] spBack := by
  refine F.ok sc__law_back (fun vs H Q E h => ?_) (fun cdv A outer s H vs Q E hr h => ?_)
  · obtain ⟨z, rfl, _⟩ := h
    rfl
  · obtain ⟨z, rfl, hl, zL, q⟩ := h
    have nd := sc__law_back.nd
    refine ⟨_, (pss_cons (ps_set (i := 1) nd rfl (.inl rfl) pe_str)
      (pss_cons (ps_for PassesOwn.never rfl (pi_str (pv 0)) (pg_name (i := 2) nd rfl (.inl rfl)) (pss_one (ps_set (i := 1) nd rfl (.inl rfl) (pe_op op_add_str (pe_call G__law_undo (hr.mono (by omega)) (by rfl) g__law_undo k__law_undo b__law_undo .nil pass0 (pa_cons (pv 2) pa_nil)) (pv 1)))))
      (pss_one (ps_ret (pv 1))))), ?_⟩
    refine ⟨.str z, rfl, z, rfl, for_it walk_str (fun i σ H' => ∃ (y : Str) (y2 : Option V), σ = [some (.str z), some (.str y), y2] ∧ H' = H ∧ y.cps.toList = inv (z.cps.toList.take i)) ⟨"", none, rfl, rfl, rfl⟩ (fun _ _ _ _ _ => trivial) (fun i x σ Ha Hb hi hP hY => ?_) (fun σ H1 hP => ?_)⟩
    · obtain ⟨y, y2, rfl, rfl, ey⟩ := hP
      obtain ⟨rfl, c, hc, rfl⟩ := hY
      have hc' : z.cps.toList[i]? = some c := by
        rw [Array.getElem?_toList]
        exact hc
      have cL := zL c (List.mem_of_getElem? hc')
      have ly : y.length ≤ z.length := by
        rw [len_codes, len_codes, ey, inv_len, List.length_take]
        omega
      refine ⟨.str (s1 c), rfl, c, rfl, cL, .str y, rfl, _, _, rfl, rfl, by rw [sizeLine_eq]; show 1 + y.length ≤ _; omega, ?_⟩
      refine ⟨_, _, rfl, rfl, ?_⟩
      rw [app_codes, ey, List.take_add_one, hc', inv_app]
      rfl
    · obtain ⟨y, y2, rfl, rfl, ey⟩ := hP
      have full : z.cps.toList.take z.cps.size = z.cps.toList := List.take_of_length_le (by simp)
      rw [full] at ey
      have e : y = SB.T (inv z.cps.toList) := str_ext ey
      refine ⟨.str y, rfl, ?_⟩
      rw [e]
      exact q
end
end K02
-- K02G2
namespace K02
open PySem PySem.Spec PyProof.Rows L2 SB
section
variable {P : Program} {w : World} {K : PySem.W.Frag} {mg : Str → Option Value} {base : Heap}
def spStruck : Sp := fun vs H Q _ => ∃ z : Str, vs = [.str z] ∧ z.length ≤ 100000 ∧ allL z.cps.toList ∧ Q (.str (T (strike z.cps.toList))) H
theorem ok_law_struck {f f__law_undo : Addr} {fd d__law_undo : FuncData} {k : Nat} (F : Fun K "_law_struck" "_law_struck" s__law_struck f fd)
    (G__law_undo : FnOk P w K mg base CX0 (k + 1) f__law_undo d__law_undo ["letter"] spUndo) (g__law_undo : mg "_law_undo" = some (.ref f__law_undo)) (k__law_undo : PySem.W.keepIn K (.ref f__law_undo) = true) (b__law_undo : Binds K d__law_undo ["letter"] [])
    (m_max : mg "max" = none) (m_len : mg "len" = none) : FnOk P w K mg base CX0 (k + 2) f fd ["row"] spStruck := by
  refine F.ok sc__law_struck (fun vs H Q E h => ?_) (fun cdv A outer s H vs Q E hr h => ?_)
  · obtain ⟨z, rfl, _⟩ := h
    rfl
  · obtain ⟨z, rfl, hl, hL, q⟩ := h
    have nd := sc__law_struck.nd
    refine ⟨_, (pss_cons (ps_par (i := 1) (j := 2) (by rfl) nd rfl rfl (by decide) rfl rfl (pa_cons (pv 0) (pa_cons pe_int pa_nil)) (by rfl))
      (pss_cons (ps_while PassesOwn.never (pt_cmpR op_lt (pe_op op_add (pv 2) pe_int) (pe_callB call_len (by rfl) m_len PySem.boot_len (pa_cons (pv 1) pa_nil)) (nomark _)) (pss_one (ps_if (pt_cmpR op_eq (pe_ix ix_str (pv 1) (pv 2) (fun _ _ => rfl)) (pe_call G__law_undo (hr.mono (by omega)) (by rfl) g__law_undo k__law_undo b__law_undo .nil pass0 (pa_cons (pe_ix ix_str (pv 1) (pe_op op_add (pv 2) pe_int) (fun _ _ => rfl)) pa_nil)) (nomark _)) (pss_one (ps_par (i := 1) (j := 2) (by rfl) nd rfl rfl (by decide) rfl rfl (pa_cons (pe_op op_add_str (pe_slice sl_str (pv 1) po_none (po_some (pv 2))) (pe_slice sl_str (pv 1) (po_some (pe_op op_add (pv 2) pe_int)) po_none)) (pa_cons (pe_callB (call_max2 rfl) (by rfl) m_max (by decide +kernel) (pa_cons pe_int (pa_cons (pe_op op_sub (pv 2) pe_int) pa_nil))) pa_nil)) (by rfl))) (pss_one (ps_set (i := 2) nd rfl (.inl rfl) (pe_op op_add (pv 2) pe_int))))))
      (pss_one (ps_ret (pv 1))))), ?_⟩
    refine ⟨.str z, rfl, _, _, rfl, ?_⟩
    refine ⟨fun m σ H' => ∃ (y : Str) (a : Nat), σ = [some (.str z), some (.str y), some (.int (a : Nat))] ∧ H' = H ∧ allL y.cps.toList ∧ strike y.cps.toList = strike z.cps.toList ∧ flat y.cps.toList (a + 1) ∧ y.length ≤ z.length ∧ m + a = 2 * y.length + 2,
      ⟨2 * z.length + 2, z, 0, rfl, rfl, hL, rfl, fun j c d hj => absurd hj (by omega), Nat.le_refl _, rfl⟩, ?_⟩
    rintro m σ H' ⟨y, a, rfl, rfl, yL, ys, yf, yl, em⟩
    have zs : y.length ≤ sizeLine := by
      rw [sizeLine_eq]
      omega
    have hlen : y.cps.toList.length = y.length := rfl
    refine ⟨.int (a : Nat), rfl, _, _, rfl, rfl, .str y, rfl, .str y, y.length, rfl, ⟨zs, rfl⟩, _, _, rfl, rfl, _, rfl, ite2 (fun e => ?_) (fun e => ?_)⟩
    · have lt : a + 1 < y.length := by
        have := of_decide_eq_true e
        omega
      obtain ⟨c, hc⟩ : ∃ c, y.cps.toList[a]? = some c := ⟨_, List.getElem?_eq_getElem (by omega)⟩
      obtain ⟨d, hd⟩ : ∃ d, y.cps.toList[a + 1]? = some d := ⟨_, List.getElem?_eq_getElem (by omega)⟩
      have dL : isL d = true := yL d (List.mem_of_getElem? hd)
      have ad : atI y.cps.toList (((a : Nat) : Int) + 1) = some d := by
        rw [show (((a : Nat) : Int) + 1) = ((a + 1 : Nat) : Int) by omega]
        exact atI_nat hd
      refine ⟨fun σ' H'' => ∃ m', m' < m ∧ _, fun σ' H'' h => h, ?_⟩
      refine ⟨.str y, rfl, .int (a : Nat), rfl, y, _, c, rfl, rfl, zs, atI_nat hc, .str y, rfl, .int (a : Nat), rfl, _, _, rfl, rfl, y, _, d, rfl, rfl, zs, ad, d, rfl, dL, rfl, _, rfl, ?_⟩
      by_cases ec : c = up d
      · rw [decide_eq_true (congrArg (fun c => V.str (s1 c)) ec)]
        have sp := at_split hc hd
        have cl := cutS_length y none (some ((a : Nat) : Int))
        have cr := cutS_length y (some ((a : Nat) + 2 : Int)) none
        have a2 : ((a : Nat) : Int) + 2 = ((a + 2 : Nat) : Int) := by omega
        have sm : (cutS y none (some ((a : Nat) : Int))).length + (cutS y (some ((a : Nat) + 2 : Int)) none).length ≤ sizeLine := by
          rw [sizeLine_eq]
          omega
        refine iteT ⟨.str y, rfl, .int (a : Nat), rfl, _, rfl, y, rfl, zs, .str y, rfl, .int (a : Nat), rfl, _, _, rfl, rfl, _, rfl, y, rfl, zs, _, _, rfl, rfl, sm, .int (a : Nat), rfl, _, _, rfl, rfl, _, _, rfl, _, _, rfl, ?_⟩
        have ecodes : (cutS y none (some ((a : Nat) : Int)) ++ cutS y (some ((a : Nat) + 2 : Int)) none).cps.toList = y.cps.toList.take a ++ y.cps.toList.drop (a + 2) := by
          rw [app_codes, a2, cut_take, cut_drop]
        have emax : (if ((a : Nat) : Int) - 1 > 0 then ((a : Nat) : Int) - 1 else 0) = ((a - 1 : Nat) : Int) := by
          split <;> omega
        have lcodes : (cutS y none (some ((a : Nat) : Int)) ++ cutS y (some ((a : Nat) + 2 : Int)) none).length = y.length - 2 := by
          rw [len_codes, ecodes, List.length_append, List.length_take, List.length_drop]
          omega
        have yL2 : allL (y.cps.toList.take a ++ c :: d :: y.cps.toList.drop (a + 2)) := by
          rw [← sp]
          exact yL
        refine ⟨2 * (y.length - 2) + 2 - (a - 1), by omega, cutS y none (some ((a : Nat) : Int)) ++ cutS y (some ((a : Nat) + 2 : Int)) none, a - 1, ?_, rfl, ?_, ?_, ?_, ?_, ?_⟩
        · show [some (V.str z), some (V.str _), some (V.int (if ((a : Nat) : Int) - 1 > 0 then ((a : Nat) : Int) - 1 else 0))] = _
          rw [emax]
        · rw [ecodes]
          exact allL_app (allL_take yL a) (allL_drop yL (a + 2))
        · rw [ecodes, ← ys]
          conv => rhs; rw [sp]
          exact (strike_pair yL2 ec).symm
        · rw [ecodes]
          exact flat_cut yf (by omega)
        · omega
        · omega
      · rw [decide_eq_false fun q => ec (s1_inj (V.str.inj q))]
        refine iteF ⟨.int (a : Nat), rfl, _, _, rfl, rfl, m - 1, by omega, y, a + 1, rfl, rfl, yL, ys, flat_next yL yf hc hd ec, yl, by omega⟩
    · have ge : ¬ a + 1 < y.length := fun h => e (decide_eq_true (by omega))
      have fy : Fine y.cps.toList := ⟨yL, flat_mono yf (by omega)⟩
      have ey : y = SB.T (strike z.cps.toList) := str_ext (by rw [← ys, strike_fine fy]; rfl)
      refine ⟨.str y, rfl, ?_⟩
      rw [ey]
      exact q
end
end K02
-- K02G3
namespace K02
open PySem PySem.Spec PyProof.Rows L2 SB
section
variable {P : Program} {w : World} {K : PySem.W.Frag} {mg : Str → Option Value} {base : Heap}
def spPartner : Sp := fun vs H Q _ => ∃ (p l : Addr) (N : Int) (z : Str), vs = [.ref p, .str z] ∧ PenQ l N H p ∧ N ≤ 50000 ∧ Fine z.cps.toList ∧ z.length ≤ 100 ∧
  ∀ t H', Fine t.cps.toList → t.length ≤ z.length + 12 → Kept p H H' → PenQ l (N + 20) H' p → Q (.str t) H'
theorem ok_law_partner {f f__law_draw f__law_row f__law_back f__law_struck : Addr} {fd d__law_draw d__law_row d__law_back d__law_struck : FuncData} {k : Nat} (F : Fun K "_law_partner" "_law_partner" s__law_partner f fd)
    (G__law_draw : FnOk P w K mg base CX0 (k + 2) f__law_draw d__law_draw ["pen", "many"] spDraw) (g__law_draw : mg "_law_draw" = some (.ref f__law_draw)) (k__law_draw : PySem.W.keepIn K (.ref f__law_draw) = true) (b__law_draw : Binds K d__law_draw ["pen", "many"] [])
    (G__law_row : FnOk P w K mg base CX0 (k + 3) f__law_row d__law_row ["pen", "most"] spRow) (g__law_row : mg "_law_row" = some (.ref f__law_row)) (k__law_row : PySem.W.keepIn K (.ref f__law_row) = true) (b__law_row : Binds K d__law_row ["pen", "most"] [])
    (G__law_back : FnOk P w K mg base CX0 (k + 3) f__law_back d__law_back ["row"] spBack) (g__law_back : mg "_law_back" = some (.ref f__law_back)) (k__law_back : PySem.W.keepIn K (.ref f__law_back) = true) (b__law_back : Binds K d__law_back ["row"] [])
    (G__law_struck : FnOk P w K mg base CX0 (k + 3) f__law_struck d__law_struck ["row"] spStruck) (g__law_struck : mg "_law_struck" = some (.ref f__law_struck)) (k__law_struck : PySem.W.keepIn K (.ref f__law_struck) = true) (b__law_struck : Binds K d__law_struck ["row"] [])
    (m_len : mg "len" = none) : FnOk P w K mg base CX0 (k + 4) f fd ["pen", "row"] spPartner := by
  refine F.ok sc__law_partner (fun vs H Q E h => ?_) (fun cdv A outer s H vs Q E hr h => ?_)
  · obtain ⟨p, l, N, z, rfl, _⟩ := h
    rfl
  · obtain ⟨p, l, N, z, rfl, hP, hN, fz, lz, q⟩ := h
    have nd := sc__law_partner.nd
    refine ⟨_, (pss_cons (ps_par (i := 2) (j := 3) (by rfl) nd rfl rfl (by decide) rfl rfl (pa_cons (pe_call G__law_draw (hr.mono (by omega)) (by rfl) g__law_draw k__law_draw b__law_draw .nil pass0 (pa_cons (pv 0) (pa_cons pe_int pa_nil))) (pa_cons (pe_call G__law_draw (hr.mono (by omega)) (by rfl) g__law_draw k__law_draw b__law_draw .nil pass0 (pa_cons (pv 0) (pa_cons (pe_op op_add (pe_callB call_len (by rfl) m_len PySem.boot_len (pa_cons (pv 1) pa_nil)) pe_int) pa_nil))) pa_nil)) (by rfl))
      (pss_cons (ps_if (pt_cmpR op_eq (pv 2) pe_int (nomark _)) (pss_one (ps_ret (pe_call G__law_row (hr.mono (by omega)) (by rfl) g__law_row k__law_row b__law_row .nil pass0 (pa_cons (pv 0) (pa_cons pe_int pa_nil))))) pss_nil)
      (pss_cons (ps_if (pt_cmpR op_eq (pv 2) pe_int (nomark _)) (pss_one (ps_ret (pe_call G__law_struck (hr.mono (by omega)) (by rfl) g__law_struck k__law_struck b__law_struck .nil pass0 (pa_cons (pe_op op_add_str (pe_call G__law_back (hr.mono (by omega)) (by rfl) g__law_back k__law_back b__law_back .nil pass0 (pa_cons (pe_slice sl_str (pv 1) (po_some (pv 3)) po_none) pa_nil)) (pe_call G__law_row (hr.mono (by omega)) (by rfl) g__law_row k__law_row b__law_row .nil pass0 (pa_cons (pv 0) (pa_cons pe_int pa_nil)))) pa_nil)))) pss_nil)
      (pss_one (ps_ret (pe_ifExp (pt_cmpR op_eq (pv 2) pe_int (nomark _)) (pe_call G__law_back (hr.mono (by omega)) (by rfl) g__law_back k__law_back b__law_back .nil pass0 (pa_cons (pv 1) pa_nil)) (pe_call G__law_struck (hr.mono (by omega)) (by rfl) g__law_struck k__law_struck b__law_struck .nil pass0 (pa_cons (pe_op op_add_str (pe_call G__law_row (hr.mono (by omega)) (by rfl) g__law_row k__law_row b__law_row .nil pass0 (pa_cons (pv 0) (pa_cons pe_int pa_nil))) (pe_call G__law_back (hr.mono (by omega)) (by rfl) g__law_back k__law_back b__law_back .nil pass0 (pa_cons (pe_slice sl_str (pv 1) po_none (po_some (pv 3))) pa_nil))) pa_nil)))))))), ?_⟩
    have zs : z.length ≤ sizeLine := by
      rw [sizeLine_eq]
      omega
    have sm : ∀ n, n ≤ 1000 → n ≤ sizeLine := fun n h => by
      rw [sizeLine_eq]
      omega
    refine ⟨.ref p, rfl, p, l, N, 4, rfl, hP, by omega, by decide, by decide, fun way H1 w0 w1 k1 p1 => ?_⟩
    refine ⟨.ref p, rfl, .str z, rfl, .str z, z.length, rfl, ⟨zs, rfl⟩, _, 1, rfl, rfl, p, l, _, _, rfl, p1, by omega, by omega, by omega, fun cut H2 c0 c1 k2 p2 => ?_⟩
    have k12 := k1.trans k2
    obtain ⟨n, en⟩ : ∃ n : Nat, cut = (n : Int) := ⟨cut.toNat, by omega⟩
    subst en
    refine ⟨_, _, rfl, ?_⟩
    have cd := cut_drop z n
    have ct := cut_take z n
    have ld := cutS_length z (some ((n : Nat) : Int)) none
    have lt := cutS_length z none (some ((n : Nat) : Int))
    refine ⟨.int way, rfl, rfl, _, rfl, ite2 (fun e => ?_) (fun e => ?_)⟩
    · refine ⟨.ref p, rfl, p, l, _, 12, rfl, p2, by decide, by decide, by omega, fun t H3 rt k3 p3 => ?_⟩
      have r12 : t.length ≤ 12 := rt.2
      exact q t H3 ((fine_iff _).mp rt.1) (by omega) (k12.trans k3) (p3.mono (by omega))
    refine ⟨.int way, rfl, rfl, _, rfl, ite2 (fun e => ?_) (fun e => ?_)⟩
    · have fD : Fine (cutS z (some ((n : Nat) : Int)) none).cps.toList := by
        rw [cd]
        exact fine_drop fz n
      refine ⟨.str z, rfl, .int n, rfl, _, rfl, z, rfl, zs, _, rfl, by omega, fD.1, .ref p, rfl, p, l, _, 5, rfl, p2, by decide, by decide, by omega, fun t H3 rt k3 p3 => ?_⟩
      have r5 : t.length ≤ 5 := rt.2
      have lI : (SB.T (inv (cutS z (some ((n : Nat) : Int)) none).cps.toList)).length = (cutS z (some ((n : Nat) : Int)) none).length := inv_len _
      have aL : allL (SB.T (inv (cutS z (some ((n : Nat) : Int)) none).cps.toList) ++ t).cps.toList := by
        rw [app_codes]
        exact allL_app (allL_inv fD.1) ((fine_iff _).mp rt.1).1
      have lA : (SB.T (inv (cutS z (some ((n : Nat) : Int)) none).cps.toList) ++ t).length = (cutS z (some ((n : Nat) : Int)) none).length + t.length := by
        rw [Str.length_append, lI]
      refine ⟨_, _, rfl, rfl, sm _ (by omega), _, rfl, by omega, aL, ?_⟩
      have ls := len_strike (SB.T (inv (cutS z (some ((n : Nat) : Int)) none).cps.toList) ++ t).cps.toList
      have lA' : (SB.T (inv (cutS z (some ((n : Nat) : Int)) none).cps.toList) ++ t).cps.toList.length = (cutS z (some ((n : Nat) : Int)) none).length + t.length := lA
      refine q _ H3 (fine_strike aL) ?_ (k12.trans k3) (p3.mono (by omega))
      show (strike _).length ≤ _
      omega
    refine ⟨.int way, rfl, rfl, _, rfl, ite2 (fun e => ?_) (fun e => ?_)⟩
    · refine ⟨.str z, rfl, z, rfl, by omega, fz.1, ?_⟩
      refine q _ H2 (fine_inv fz) ?_ k12 (p2.mono (by omega))
      show (inv _).length ≤ _
      rw [inv_len]
      show z.length ≤ _
      omega
    · have fT : Fine (cutS z none (some ((n : Nat) : Int))).cps.toList := by
        rw [ct]
        exact fine_take fz n
      refine ⟨.ref p, rfl, p, l, _, 5, rfl, p2, by decide, by decide, by omega, fun t H3 rt k3 p3 => ?_⟩
      have r5 : t.length ≤ 5 := rt.2
      refine ⟨.str z, rfl, .int n, rfl, _, rfl, z, rfl, zs, _, rfl, by omega, fT.1, ?_⟩
      have lI : (SB.T (inv (cutS z none (some ((n : Nat) : Int))).cps.toList)).length = (cutS z none (some ((n : Nat) : Int))).length := inv_len _
      have aL : allL (t ++ SB.T (inv (cutS z none (some ((n : Nat) : Int))).cps.toList)).cps.toList := by
        rw [app_codes]
        exact allL_app ((fine_iff _).mp rt.1).1 (allL_inv fT.1)
      have lA : (t ++ SB.T (inv (cutS z none (some ((n : Nat) : Int))).cps.toList)).length = t.length + (cutS z none (some ((n : Nat) : Int))).length := by
        rw [Str.length_append, lI]
      refine ⟨_, _, rfl, rfl, sm _ (by omega), _, rfl, by omega, aL, ?_⟩
      have ls := len_strike (t ++ SB.T (inv (cutS z none (some ((n : Nat) : Int))).cps.toList)).cps.toList
      have lA' : (t ++ SB.T (inv (cutS z none (some ((n : Nat) : Int))).cps.toList)).cps.toList.length = t.length + (cutS z none (some ((n : Nat) : Int))).length := lA
      refine q _ H3 (fine_strike aL) ?_ (k12.trans k3) (p3.mono (by omega))
      show (strike _).length ≤ _
      omega
end
end K02
-- K02H1
namespace K02
open PySem PySem.Spec PyProof.Rows L2 SB
theorem xd_no (f g : Str) (v : V) (h : f ≠ g) : ([(g, v)] : List (Str × V)).lookup f = none := by
  have e : (f == g) = false := by simpa using h
  simp [List.lookup, e]
theorem T_self (z : Str) : SB.T z.cps.toList = z := str_ext rfl
section
variable {K : PySem.W.Frag} {CW CB2 CM : Addr}
theorem mul_q {H : Hp} {Q : VK} {E : XK} {a b : Addr} {z v : Str} (wa : WordAt CW H a z) (wb : WordAt CW H b v) (fz : Fine z.cps.toList) (fv : Fine v.cps.toList) (lz : z.length ≤ 1000) (lv : v.length ≤ 1000)
    (q : ∀ c H', H c = none → Same H H' → WordAt CW H' c (SB.T (strike (z.cps.toList ++ v.cps.toList))) → Q (.ref c) H') : rMulOwn CW (spMul K CW CB2 CM) E (.ref a) (.ref b) H Q := by
  have wa' := wa
  have wb' := wb
  obtain ⟨dx, ha⟩ := wa
  obtain ⟨dy, hb⟩ := wb
  have ls := len_strike (z.cps.toList ++ v.cps.toList)
  rw [List.length_append] at ls
  have lz' : z.cps.toList.length ≤ 1000 := lz
  have lv' : v.cps.toList.length ≤ 1000 := lv
  exact ⟨a, b, dx, dy, _, _, rfl, rfl, ha, hb, a, z, .ref b, rfl, wa', fz, by omega, .inl ⟨b, v, rfl, wb', fv, by omega, fun _ c H' nc s wc => ⟨c, rfl, q c H' nc s wc⟩, fun l4 => absurd l4 (by omega)⟩⟩
theorem inv_q {H : Hp} {Q : VK} {E : XK} {a : Addr} {z : Str} (wa : WordAt CW H a z) (fz : Fine z.cps.toList) (lz : z.length ≤ 1000)
    (q : ∀ c H', H c = none → Same H H' → WordAt CW H' c (SB.T (inv z.cps.toList)) → Q (.ref c) H') : rInvOwn CW (spInvert CW) E (.ref a) H Q := by
  have wa' := wa
  obtain ⟨dx, ha⟩ := wa
  exact ⟨a, dx, _, rfl, ha, a, z, rfl, wa', fz, by omega, q⟩
theorem ne_q {H : Hp} {Q : VK} {E : XK} {a b : Addr} {z v : Str} (wa : WordAt CW H a z) (wb : WordAt CW H b v) (fz : Fine z.cps.toList) (fv : Fine v.cps.toList) (lz : z.length ≤ 1000) (lv : v.length ≤ 1000) (e : z = v)
    (q : ∀ H', Same H H' → Q (.bl false) H') : rNeOwn CW (spEq K CW) E (.ref a) (.ref b) H Q := by
  have wa' := wa
  have wb' := wb
  obtain ⟨dx, ha⟩ := wa
  obtain ⟨dy, hb⟩ := wb
  refine ⟨a, b, dx, dy, _, _, rfl, rfl, ha, hb, a, z, .ref b, rfl, wa', fz, by omega, .inl ⟨b, v, rfl, wb', fv, by omega, fun H' s => ⟨_, rfl, ?_⟩⟩⟩
  rw [decide_eq_true e]
  exact q H' s
theorem make_q {H : Hp} {Qx : VK} {E : XK} {z : Str} {x dx : Addr} (nx : H x = none) (nd' : H dx = none) (ne : dx ≠ x) (fz : Fine z.cps.toList) (lz : z.length ≤ 4000) (q : ∀ H', Same H H' → WordAt CW H' x z → Qx .non H') :
    spWordI K CW CB2 CM (.ref x :: ([.str z] ++ [])) (upd (upd H dx (.own x)) x (.ins CW dx [])) Qx E := by
  have ef := fine_word fz
  refine ⟨x, dx, .str z, rfl, upd_same, .inl ⟨_, rfl⟩, fun z' hz' => ?_, fun nz => (nz _ rfl).elim⟩
  cases hz'
  refine ⟨by omega, (fun j hj => by rw [ef] at hj; cases hj), (fun _ l4 => absurd l4 (by omega)), fun _ _ H2 s2 => ?_⟩
  obtain ⟨s3, w3⟩ := made_word (z := z) nx nd' s2
  exact q _ s3 w3
theorem WordAt.same {H H' : Hp} {a : Addr} {z : Str} (w : WordAt CW H a z) (s : Same H H') : WordAt CW H' a z := by
  obtain ⟨dx, h⟩ := w
  exact ⟨dx, s _ _ h⟩
end
section
variable {P : Program} {w : World} {K : PySem.W.Frag} {mg : Str → Option Value} {base : Heap}
/-- what is told of Words under operators -/
structure OpsOk (P : Program) (w : World) (K : PySem.W.Frag) (mg : Str → Option Value) (base : Heap) (CW CB2 CM : Addr) (k : Nat) : Prop where
  sf : PySem.W.selfFirst K CW = true
  mul_ : ∃ f fd, PySem.W.findIn K (.ref CW) "__mul__" = some (some (.ref f)) ∧ PySem.W.isFn K (.ref f) = true ∧ FnOk P w K mg base (L2.CX P w) (k + 5) f fd ["self", "other"] (spMul K CW CB2 CM) ∧ Binds K fd ["self", "other"] []
  inv_ : ∃ f fd, PySem.W.findIn K (.ref CW) "__invert__" = some (some (.ref f)) ∧ PySem.W.isFn K (.ref f) = true ∧ FnOk P w K mg base CX0 (k + 5) f fd ["self"] (spInvert CW) ∧ Binds K fd ["self"] []
  eq_ : ∃ f fd, EqC K CW f ∧ FnOk P w K mg base CX0 (k + 1) f fd ["self", "other"] (spEq K CW) ∧ Binds K fd ["self", "other"] []
  fits_ : ∃ f fd, Meth K CW "fits" f ∧ FnOk P w K mg base (L2.CX P w) (k + 3) f fd ["self", "other"] (spFits K CW CB2) ∧ Binds K fd ["self", "other"] [] ∧ KBn K fd ["self", "other"] 1 ["other"] (fun us ws => us ++ ws) (fun vs zs => vs ++ zs)
  nf : PySem.W.notFirst K CW (.ref CW) = true
def spPair : Sp := fun vs H Q _ => ∃ a b : Str, vs = [.str a, .str b] ∧ Fine a.cps.toList ∧ Fine b.cps.toList ∧ a.length ≤ 200 ∧ b.length ≤ 200 ∧ ∀ H', Same H H' → Q (.bl true) H'
theorem ok_law_pair_right {f CB2 CM CW f__law_struck f__law_back f__law_told : Addr} {fd d__law_struck d__law_back d__law_told : FuncData} {k : Nat} (F : Fun K "_law_pair_right" "_law_pair_right" s__law_pair_right f fd)
    (MO : MakeOk P w K mg base CW CB2 CM k) (OO : OpsOk P w K mg base CW CB2 CM k)
    (G__law_struck : FnOk P w K mg base CX0 (k + 3) f__law_struck d__law_struck ["row"] spStruck) (g__law_struck : mg "_law_struck" = some (.ref f__law_struck)) (k__law_struck : PySem.W.keepIn K (.ref f__law_struck) = true) (b__law_struck : Binds K d__law_struck ["row"] [])
    (G__law_back : FnOk P w K mg base CX0 (k + 3) f__law_back d__law_back ["row"] spBack) (g__law_back : mg "_law_back" = some (.ref f__law_back)) (k__law_back : PySem.W.keepIn K (.ref f__law_back) = true) (b__law_back : Binds K d__law_back ["row"] [])
    (G__law_told : FnOk P w K mg base CX0 (k + 1) f__law_told d__law_told ["told", "due"] spTold) (g__law_told : mg "_law_told" = some (.ref f__law_told)) (k__law_told : PySem.W.keepIn K (.ref f__law_told) = true) (b__law_told : Binds K d__law_told ["told", "due"] [])
    (m_isinstance : mg "isinstance" = none) (m_len : mg "len" = none) : FnOk P w K mg base CX0 (k + 6) f fd ["one", "other"] spPair := by
  obtain ⟨fW, fdW, tE, M, GW, bW, bW0, rE⟩ := MO.word
  obtain ⟨fM, fdM, wm, wmf, GM, bM⟩ := OO.mul_
  obtain ⟨fI, fdI, wi, wif, GI, bI⟩ := OO.inv_
  obtain ⟨fE, fdE, EqW, GE, bE⟩ := OO.eq_
  obtain ⟨fF, fdF, mF, GF, bF, kF⟩ := OO.fits_
  have sf := OO.sf
  have gW := MO.gW
  have cl := MO.cl
  have na := MO.na
  refine F.ok sc__law_pair_right (fun vs H Q E h => ?_) (fun cdv A outer s H vs Q E hr h => ?_)
  · obtain ⟨a, b, rfl, _⟩ := h
    rfl
  · obtain ⟨a, b, rfl, fa, fb, la, lb, q⟩ := h
    have nd := sc__law_pair_right.nd
    refine ⟨_, (pss_cons (ps_par (i := 2) (j := 3) (by rfl) nd rfl rfl (by decide) rfl rfl (pa_cons (pe_make M GW (hr.mono (by omega)) (by rfl) gW bW .nil passL (pa_cons (pv 0) pa_nil)) (pa_cons (pe_make M GW (hr.mono (by omega)) (by rfl) gW bW .nil passL (pa_cons (pv 1) pa_nil)) pa_nil)) (by rfl))
      (pss_cons (ps_par (i := 4) (j := 5) (by rfl) nd rfl rfl (by decide) rfl rfl (pa_cons (pe_op (op_mulOwn sf wm wmf GM (hr.mono (by omega)) bM passL) (pv 2) (pv 3)) (pa_cons (pe_call G__law_struck (hr.mono (by omega)) (by rfl) g__law_struck k__law_struck b__law_struck .nil pass0 (pa_cons (pe_op op_add_str (pv 0) (pv 1)) pa_nil)) pa_nil)) (by rfl))
      (pss_cons (ps_if (PW.pt (pw_or (pt_not (pt_val (pe_callB call_isi (by rfl) m_isinstance boot_isinstance (pa_cons (pv 4) (pa_cons (pe_glob (v := .ref CW) (by rfl) gW rfl) pa_nil))))) (pw_or (pt_cmpR op_ne (pe_fld (pv 4) rfl) (pv 5) (nomark _)) (pw_or1 (pt_cmpR op_ne (pe_fld (pe_un (un_invOwn wi wif GI (hr.mono (by omega)) bI pass0) (pv 4)) rfl) (pe_call G__law_back (hr.mono (by omega)) (by rfl) g__law_back k__law_back b__law_back .nil pass0 (pa_cons (pv 5) pa_nil)) (nomark _)))))) (pss_one (ps_ret pe_bl)) pss_nil)
      (pss_cons (ps_set (i := 6) nd rfl (.inl rfl) (pe_cmpR op_eq (pe_callB call_len (by rfl) m_len PySem.boot_len (pa_cons (pv 5) pa_nil)) (pe_op op_add (pe_callB call_len (by rfl) m_len PySem.boot_len (pa_cons (pv 0) pa_nil)) (pe_callB call_len (by rfl) m_len PySem.boot_len (pa_cons (pv 1) pa_nil))) (nomark _)))
      (pss_cons (ps_if (PW.pt (pw_or (pt_not (pt_val (pe_call G__law_told (hr.mono (by omega)) (by rfl) g__law_told k__law_told b__law_told .nil pass0 (pa_cons (pe_meth (pv 2) cl mF GF (hr.mono (by omega)) bF .nil passL (pa_cons (pv 3) pa_nil)) (pa_cons (pv 6) pa_nil))))) (pw_or1 (pt_not (pt_val (pe_call G__law_told (hr.mono (by omega)) (by rfl) g__law_told k__law_told b__law_told .nil pass0 (pa_cons (pe_methK (pv 2) cl mF GF (hr.mono (by omega)) kF passL (pk_cons (pv 3) pk_nil)) (pa_cons (pv 6) pa_nil)))))))) (pss_one (ps_ret pe_bl)) pss_nil)
      (pss_cons (ps_if (PW.pt (pw_or (pt_cmpR op_ne (pe_fld (pe_op (op_mulOwn sf wm wmf GM (hr.mono (by omega)) bM passL) (pe_un (un_invOwn wi wif GI (hr.mono (by omega)) bI pass0) (pv 2)) (pv 2)) rfl) pe_str (nomark _)) (pw_or (pt_cmpR (op_neOwn EqW GE (hr.mono (by omega)) bE pass0) (pe_un (un_invOwn wi wif GI (hr.mono (by omega)) bI pass0) (pe_un (un_invOwn wi wif GI (hr.mono (by omega)) bI pass0) (pv 2))) (pv 2) (nomark _)) (pw_or (pt_cmpR (op_neOwn EqW GE (hr.mono (by omega)) bE pass0) (pe_op (op_mulOwn sf wm wmf GM (hr.mono (by omega)) bM passL) (pv 4) (pe_un (un_invOwn wi wif GI (hr.mono (by omega)) bI pass0) (pv 3))) (pv 2) (nomark _)) (pw_or1 (pt_cmpR (op_neOwn EqW GE (hr.mono (by omega)) bE pass0) (pe_op (op_mulOwn sf wm wmf GM (hr.mono (by omega)) bM passL) (pe_un (un_invOwn wi wif GI (hr.mono (by omega)) bI pass0) (pv 2)) (pv 4)) (pv 3) (nomark _))))))) (pss_one (ps_ret pe_bl)) pss_nil)
      (pss_cons (ps_if (PW.pt (pw_or (pt_cmpR (op_neOwn EqW GE (hr.mono (by omega)) bE pass0) (pe_op (op_mulOwn sf wm wmf GM (hr.mono (by omega)) bM passL) (pe_un (un_invOwn wi wif GI (hr.mono (by omega)) bI pass0) (pv 3)) (pe_un (un_invOwn wi wif GI (hr.mono (by omega)) bI pass0) (pv 2))) (pe_un (un_invOwn wi wif GI (hr.mono (by omega)) bI pass0) (pv 4)) (nomark _)) (pw_or (pt_cmpR (op_neOwn EqW GE (hr.mono (by omega)) bE pass0) (pe_op (op_mulOwn sf wm wmf GM (hr.mono (by omega)) bM passL) (pv 2) (pe_make0 M GW (hr.mono (by omega)) (by rfl) gW bW0 (.cons rE .nil) passL)) (pv 2) (nomark _)) (pw_or1 (pt_cmpR (op_neOwn EqW GE (hr.mono (by omega)) bE pass0) (pe_op (op_mulOwn sf wm wmf GM (hr.mono (by omega)) bM passL) (pe_make0 M GW (hr.mono (by omega)) (by rfl) gW bW0 (.cons rE .nil) passL) (pv 3)) (pv 3) (nomark _)))))) (pss_one (ps_ret pe_bl)) pss_nil)
      (pss_one (ps_ret (pe_and (pe_cmpR op_eq (pe_fld (pv 2) rfl) (pv 0) (nomark _)) (pe_and (pe_cmpR op_eq (pe_fld (pv 3) rfl) (pv 1) (nomark _)) (pe_one (pe_call G__law_told (hr.mono (by omega)) (by rfl) g__law_told k__law_told b__law_told .nil pass0 (pa_cons (pe_cmpR (op_eqOwn EqW.find EqW.fn GE (hr.mono (by omega)) bE pass0) (pv 4) (pv 2) (nomark _)) (pa_cons (pe_cmpR op_eq (pv 1) pe_str (nomark _)) pa_nil))))))))))))))), ?_⟩
    have sm : ∀ n, n ≤ 10000 → n ≤ sizeLine := fun n h => by
      rw [sizeLine_eq]
      omega
    have hla : a.cps.toList.length = a.length := rfl
    have hlb : b.cps.toList.length = b.length := rfl
    have abL := allL_app fa.1 fb.1
    have fs := fine_strike abL
    have ls := len_strike (a.cps.toList ++ b.cps.toList)
    rw [List.length_append] at ls
    refine ⟨.str a, rfl, fun x1 dx1 n1 d1 e1 => make_q n1 d1 e1 fa (by omega) fun H1 s1' w1 => ⟨rfl, .str b, rfl, fun x2 dx2 n2 d2 e2 => make_q n2 d2 e2 fb (by omega) fun H2 s2 w2 => ⟨rfl, _, _, rfl, ?_⟩⟩⟩
    have w1 := w1.same s2
    refine ⟨.ref x1, rfl, .ref x2, rfl, mul_q w1 w2 fa fb (by omega) (by omega) fun x3 H3 n3 s3 w3 => ?_⟩
    have w1 := w1.same s3
    have w2 := w2.same s3
    have lab : (a ++ b).length = a.length + b.length := Str.length_append _ _
    have cab : (a ++ b).cps.toList = a.cps.toList ++ b.cps.toList := app_codes _ _
    refine ⟨.str a, rfl, .str b, rfl, _, _, rfl, rfl, sm _ (by omega), a ++ b, rfl, by omega, by rw [cab]; exact abL, _, _, rfl, ?_⟩
    rw [cab]
    have eS : SB.T (strike (a.cps.toList ++ b.cps.toList)) = SB.T (strike (a.cps.toList ++ b.cps.toList)) := rfl
    obtain ⟨S, hS⟩ : ∃ S : Str, S = SB.T (strike (a.cps.toList ++ b.cps.toList)) := ⟨_, rfl⟩
    have cS : S.cps.toList = strike (a.cps.toList ++ b.cps.toList) := by
      rw [hS]
      rfl
    rw [← hS] at w3 ⊢
    have fS : Fine S.cps.toList := by
      rw [cS]
      exact fs
    have lS : S.length ≤ a.length + b.length := by
      show S.cps.toList.length ≤ _
      rw [cS]
      omega
    have sT : Same H H3 := s1'.trans (s2.trans s3)
    refine ⟨.ref x3, rfl, .ref x3, .ref CW, .ref CW, .ref CW, true, rfl, .own CW, isC_ty cl MO.ic w3, kit_self, true, rfl, iteF ?_⟩
    obtain ⟨d3, h3⟩ := w3
    have w3 : WordAt CW H3 x3 S := ⟨d3, h3⟩
    refine ⟨.ref x3, rfl, x3, CW, d3, _, .str S, rfl, h3, cl, na, rfl, .str S, rfl, rfl, _, rfl, ?_⟩
    rw [decide_eq_true rfl]
    refine iteF ⟨.ref x3, rfl, inv_q w3 fS (by omega) fun x4 H4 n4 s4 w4 => ?_⟩
    obtain ⟨d4, h4⟩ := w4
    refine ⟨x4, CW, d4, _, .str (SB.T (inv S.cps.toList)), rfl, h4, cl, na, rfl, .str S, rfl, S, rfl, by omega, fS.1, rfl, _, rfl, ?_⟩
    rw [decide_eq_true rfl]
    refine iteF ?_
    have w1 := w1.same s4
    have w2 := w2.same s4
    have w3 := w3.same s4
    have sT := sT.trans s4
    clear h3 h4
    -- is_whole
    have ew : decide (V.int ((S.length : Nat) : Int) = V.int (((a.length : Nat) : Int) + ((b.length : Nat) : Int))) = fitsB a.cps.toList b.cps.toList := by
      have hS' : S.length = (strike (a.cps.toList ++ b.cps.toList)).length := by
        show S.cps.toList.length = _
        rw [cS]
      obtain ⟨g1, g2⟩ := fits_fine fa fb
      cases ef : fitsB a.cps.toList b.cps.toList with
      | true =>
        refine decide_eq_true (congrArg V.int ?_)
        rw [hS', g1 ef, List.length_append]
        omega
      | false =>
        refine decide_eq_false fun z => ?_
        have := V.int.inj z
        have := g2 ef
        omega
    refine ⟨.str S, rfl, .str S, S.length, rfl, ⟨sm _ (by omega), rfl⟩, .str a, rfl, .str a, a.length, rfl, ⟨sm _ (by omega), rfl⟩, .str b, rfl, .str b, b.length, rfl, ⟨sm _ (by omega), rfl⟩, _, _, rfl, rfl, rfl, ?_⟩
    rw [ew]
    obtain ⟨d1, h1⟩ := w1
    have w1 : WordAt CW H4 x1 a := ⟨d1, h1⟩
    refine ⟨.ref x1, rfl, x1, d1, _, rfl, h1, xd_no _ _ _ (by decide +kernel), .ref x2, rfl, x1, a, .ref x2, rfl, w1, fa, by omega, .inl ⟨x2, b, rfl, w2, fb, by omega, .bl _, rfl, _, rfl, true, rfl, iteF ?_⟩⟩
    refine ⟨.ref x1, rfl, x1, d1, _, rfl, h1, xd_no _ _ _ (by decide +kernel), .ref x2, rfl, rfl, x1, a, .ref x2, rfl, w1, fa, by omega, .inl ⟨x2, b, rfl, w2, fb, by omega, .bl _, rfl, _, rfl, true, rfl, iteF ?_⟩⟩
    have li : ∀ z : Str, (SB.T (inv z.cps.toList)).length = z.length := fun z => inv_len _
    have ci : ∀ l : List Nat, (SB.T l).cps.toList = l := fun l => rfl
    have lst : ∀ l : List Nat, (SB.T l).length = l.length := fun l => rfl
    -- the undoing before
    refine ⟨.ref x1, rfl, inv_q w1 fa (by omega) fun y1 K1 m1 r1 v1 => ⟨.ref x1, rfl, mul_q v1 (w1.same r1) (fine_inv fa) fa (by rw [li]; omega) (by omega) fun y2 K2 m2 r2 v2 => ?_⟩⟩
    obtain ⟨dy2, hy2⟩ := v2
    have eA : strike ((SB.T (inv a.cps.toList)).cps.toList ++ a.cps.toList) = [] := by
      have := strike_inv_left (b := []) fa.1 fine_nil.1
      rw [List.append_nil] at this
      exact this
    rw [eA] at hy2
    refine ⟨y2, CW, dy2, _, .str (SB.T []), rfl, hy2, cl, na, rfl, rfl, _, rfl, ?_⟩
    have eA2 : (!decide (V.str (SB.T []) = V.str "")) = false := by decide +kernel
    rw [eA2]
    have rA := r1.trans r2
    have w1 := WordAt.same ⟨d1, h1⟩ rA
    have w2 := w2.same rA
    have w3 := w3.same rA
    have sT := sT.trans rA
    clear hy2 v1 r1 r2 rA h1
    -- twice undone
    refine iteF ⟨.ref x1, rfl, inv_q w1 fa (by omega) fun y3 K3 m3 r3 v3 => inv_q v3 (fine_inv fa) (by rw [li]; omega) fun y4 K4 m4 r4 v4 => ⟨.ref x1, rfl, ne_q v4 (w1.same (r3.trans r4)) (fine_inv (fine_inv fa)) fa (by rw [li, li]; omega) (by omega) ?_ fun K5 r5 => ⟨_, rfl, iteF ?_⟩⟩⟩
    · rw [ci, inv_inv fa.1]
      exact T_self a
    have rB := r3.trans (r4.trans r5)
    have w1 := w1.same rB
    have w2 := w2.same rB
    have w3 := w3.same rB
    have sT := sT.trans rB
    clear v3 v4 r3 r4 r5 rB
    -- made * ~then
    refine ⟨.ref x3, rfl, .ref x2, rfl, inv_q w2 fb (by omega) fun y6 K6 m6 r6 v6 => mul_q (w3.same r6) v6 fS (fine_inv fb) (by omega) (by rw [li]; omega) fun y7 K7 m7 r7 v7 => ⟨.ref x1, rfl, ne_q v7 (w1.same (r6.trans r7)) (fine_strike (allL_app fS.1 (fine_inv fb).1)) fa ?_ (by omega) ?_ fun K8 r8 => ⟨_, rfl, iteF ?_⟩⟩⟩
    · have := len_strike (S.cps.toList ++ (SB.T (inv b.cps.toList)).cps.toList)
      rw [List.length_append, ci, inv_len] at this
      have lS' : S.cps.toList.length ≤ a.length + b.length := lS
      rw [lst]
      rw [ci]
      omega
    · rw [ci, cS, (strike_app abL (fine_inv fb).1).1, strike_inv_right fa.1 fb.1, strike_fine fa]
      exact T_self a
    have rC := r6.trans (r7.trans r8)
    have w1 := w1.same rC
    have w2 := w2.same rC
    have w3 := w3.same rC
    have sT := sT.trans rC
    clear v6 v7 r6 r7 r8 rC
    -- ~first * made
    refine ⟨.ref x1, rfl, inv_q w1 fa (by omega) fun y6 K9 m6 r6 v6 => ⟨.ref x3, rfl, mul_q v6 (w3.same r6) (fine_inv fa) fS (by rw [li]; omega) (by omega) fun y7 K10 m7 r7 v7 => ⟨.ref x2, rfl, ne_q v7 (w2.same (r6.trans r7)) (fine_strike (allL_app (fine_inv fa).1 fS.1)) fb ?_ (by omega) ?_ fun K11 r8 => ⟨_, rfl, iteF ?_⟩⟩⟩⟩
    · have := len_strike ((SB.T (inv a.cps.toList)).cps.toList ++ S.cps.toList)
      rw [List.length_append, ci, inv_len] at this
      have lS' : S.cps.toList.length ≤ a.length + b.length := lS
      rw [lst]
      rw [ci]
      omega
    · rw [ci, cS, (strike_app (fine_inv fa).1 abL).2, strike_inv_left fa.1 fb.1, strike_fine fb]
      exact T_self b
    have rC := r6.trans (r7.trans r8)
    have w1 := w1.same rC
    have w2 := w2.same rC
    have w3 := w3.same rC
    have sT := sT.trans rC
    clear v6 v7 r6 r7 r8 rC
    -- ~then * ~first, ~made
    refine ⟨.ref x2, rfl, inv_q w2 fb (by omega) fun y6 K12 m6 r6 v6 => ⟨.ref x1, rfl, inv_q (w1.same r6) fa (by omega) fun y7 K13 m7 r7 v7 => mul_q (v6.same r7) v7 (fine_inv fb) (fine_inv fa) (by rw [li]; omega) (by rw [li]; omega) fun y8 K14 m8 r8 v8 => ⟨.ref x3, rfl, inv_q (w3.same (r6.trans (r7.trans r8))) fS (by omega) fun y9 K15 m9 r9 v9 =>
      ne_q (v8.same r9) v9 (fine_strike (allL_app (fine_inv fb).1 (fine_inv fa).1)) (fine_inv fS) ?_ (by rw [li]; omega) ?_ fun K16 r10 => ⟨_, rfl, iteF ?_⟩⟩⟩⟩
    · have := len_strike ((SB.T (inv b.cps.toList)).cps.toList ++ (SB.T (inv a.cps.toList)).cps.toList)
      rw [List.length_append, ci, ci, inv_len, inv_len] at this
      rw [lst]
      rw [ci, ci]
      omega
    · rw [ci, ci, cS, ← strike_inv abL, inv_app]
    have rC := r6.trans (r7.trans (r8.trans (r9.trans r10)))
    have w1 := w1.same rC
    have w2 := w2.same rC
    have w3 := w3.same rC
    have sT := sT.trans rC
    clear v6 v7 v8 v9 r6 r7 r8 r9 r10 rC
    -- the empty word
    have f0 : Fine ("" : Str).cps.toList := fine_nil
    have l0 : ("" : Str).length = 0 := rfl
    have c0 : ("" : Str).cps.toList = [] := rfl
    refine ⟨.ref x1, rfl, fun x5 dx5 n5 d5 e5 => make_q (z := "") n5 d5 e5 f0 (by rw [l0]; omega) fun K17 r6 v6 => ⟨rfl, mul_q (w1.same r6) v6 fa f0 (by omega) (by rw [l0]; omega) fun y7 K18 m7 r7 v7 => ⟨.ref x1, rfl, ne_q v7 (w1.same (r6.trans r7)) ?_ fa ?_ (by omega) ?_ fun K19 r8 => ⟨_, rfl, iteF ?_⟩⟩⟩⟩
    · rw [ci, c0, List.append_nil, strike_fine fa]
      exact fa
    · rw [c0, List.append_nil, strike_fine fa, T_self]
      omega
    · rw [c0, List.append_nil, strike_fine fa]
      exact T_self a
    have rC := r6.trans (r7.trans r8)
    have w1 := w1.same rC
    have w2 := w2.same rC
    have w3 := w3.same rC
    have sT := sT.trans rC
    clear v6 v7 r6 r7 r8 rC
    refine fun x5 dx5 n5 d5 e5 => make_q (z := "") n5 d5 e5 f0 (by rw [l0]; omega) fun K20 r6 v6 => ⟨rfl, .ref x2, rfl, mul_q v6 (w2.same r6) f0 fb (by rw [l0]; omega) (by omega) fun y7 K21 m7 r7 v7 => ⟨.ref x2, rfl, ne_q v7 (w2.same (r6.trans r7)) ?_ fb ?_ (by omega) ?_ fun K22 r8 => ⟨_, rfl, iteF ?_⟩⟩⟩
    · rw [ci, c0, List.nil_append, strike_fine fb]
      exact fb
    · rw [c0, List.nil_append, strike_fine fb, T_self]
      omega
    · rw [c0, List.nil_append, strike_fine fb]
      exact T_self b
    have rC := r6.trans (r7.trans r8)
    have w1 := w1.same rC
    have w2 := w2.same rC
    have w3 := w3.same rC
    have sT := sT.trans rC
    clear v6 v7 r6 r7 r8 rC
    -- the answer
    have w1' := w1
    have w3' := w3
    obtain ⟨g1, h1⟩ := w1
    obtain ⟨g2, h2⟩ := w2
    obtain ⟨g3, h3⟩ := w3
    refine ⟨.ref x1, rfl, x1, CW, g1, _, .str a, rfl, h1, cl, na, rfl, .str a, rfl, rfl, true, ?_, iteT ?_⟩
    · rw [decide_eq_true rfl]
    refine ⟨.ref x2, rfl, x2, CW, g2, _, .str b, rfl, h2, cl, na, rfl, .str b, rfl, rfl, true, ?_, iteT ?_⟩
    · rw [decide_eq_true rfl]
    have same : decide (S = a) = decide (V.str b = V.str "") := by
      by_cases e : b = ""
      · have eb : b.cps.toList = [] := str_empty.mp e
        refine (decide_eq_true ?_).trans (decide_eq_true (congrArg V.str e)).symm
        refine str_ext ?_
        rw [cS, eb, List.append_nil, strike_fine fa]
      · refine (decide_eq_false fun z => e ?_).trans (decide_eq_false fun z => e (V.str.inj z)).symm
        have h5 : strike (inv a.cps.toList ++ strike (a.cps.toList ++ b.cps.toList)) = strike b.cps.toList := by
          rw [(strike_app (fine_inv fa).1 abL).2, strike_inv_left fa.1 fb.1]
        rw [← cS, z, strike_fine fb] at h5
        have h6 := strike_inv_left (b := []) fa.1 fine_nil.1
        rw [List.append_nil, h5] at h6
        exact str_empty.mpr h6
    refine ⟨.ref x3, rfl, .ref x1, rfl, x3, g3, _, .ref CW, rfl, h3, isC_ty cl MO.ic w1', OO.nf, x3, S, .ref x1, rfl, w3', fS, by omega, .inl ⟨x1, a, rfl, w1', fa, by omega, fun K23 r9 => ⟨_, rfl, .str b, rfl, rfl, decide (S = a), ?_, q _ (sT.trans r9)⟩⟩⟩
    rw [same]
    rfl
end
end K02
-- R20
namespace SB
open PySem PySem.Spec PyProof.Rows L2
/-- what * asks of an own class whose other operand is of a built-in kind -/
structure MulC (K : PySem.W.Frag) (C : Addr) : Prop where
  ex : ∃ rc : Option Value, PySem.W.findIn K (.ref C) "__rmul__" = some rc ∧ (rc = none ∨ ∃ g : Addr, rc = some (.ref g))
/-- what it asks of the built-in kind -/
structure MulT (K : PySem.W.Frag) (C : Addr) (T : String) : Prop where
  ex : ∃ fo ro : Option Value, PySem.W.findIn K (.type T) "__mul__" = some fo ∧ PySem.W.findIn K (.type T) "__rmul__" = some ro
  sub : PySem.W.subIn K (.type T) (.ref C) = some false
section
variable {X : Cx} {CX : CXT} {k : Nat} {C f : Addr} {fd : FuncData} {ps : List Str} {sp : Sp} {E : XK}
/-- x * y by x's own __mul__, y of a built-in kind: it raises -/
def rMulOther (K : PySem.W.Frag) (C : Addr) (sp : Sp) (E : XK) : R2 := fun x y H Q => ∃ (a dx : Addr) (fs : List (Str × V)) (T : String), x = .ref a ∧ H a = some (.ins C dx fs) ∧ TyX K H y (.type T) ∧ MulT K C T ∧
  sp [x, y] H (fun _ _ => False) E
theorem op_mulOther {K : PySem.W.Frag} (mC : MulC K C) (hK : X.K = K) (hc : PySem.W.selfFirst K C = true) (hs : PySem.W.findIn K (.ref C) "__mul__" = some (some (.ref f))) (hf : PySem.W.isFn K (.ref f) = true) (F : FnOk X.prog X.w X.K X.mg X.base CX k f fd ps sp) (hr : Room k X.A) (hb : Binds X.K fd ps []) (hx : Passes CX X E) :
    OpR X (binaryOp .Mult) (rMulOther K C sp E) := by
  subst hK
  intro pins s σ H x y u v Q I rx ry h
  obtain ⟨a, dx, fs, T, rfl, ea, ty, MT, q⟩ := h
  obtain rfl : u = Value.ref a := rx
  obtain ⟨od, J⟩ := inst_of I ea
  obtain ⟨rc, hrc, hp⟩ := mC.ex
  obtain ⟨fo, ro, h1, h2⟩ := MT.ex
  refine mul_type I J (looks_ty I ry ty) hc hs hf hrc hp h1 h2 MT.sub ?_
  refine thn (run_two (x := .ref a) F hr hb hx I rfl ry q) fun w s1 hh => ?_
  obtain ⟨z, H1, I1, r1, q1⟩ := hh
  exact q1.elim
end
end SB
-- M14
namespace SB
open PySem PySem.Spec PyProof.Rows L2
theorem errO_ne {C d a : Addr} (ps : Array Value) : ErrO C d a ≠ .tbl ps := fun z => by
  unfold ErrO at z
  cases z
theorem errO_lst {C d a : Addr} (xs : List V) : ErrO C d a ≠ .lst xs := fun z => by
  unfold ErrO at z
  cases z
theorem tabs_put {T : List (Addr × Str)} {H : Hp} {a : Addr} {xs : List V} {o : HO} (t : LamX.Tabs T H) (h : H a = some (.lst xs)) : LamX.Tabs T (upd H a o) := by
  refine fun r hr => ?_
  obtain ⟨ps, a1, a2, a3⟩ := t r hr
  refine ⟨ps, ?_, a2, fun pos cv hc => ?_⟩
  · rw [upd_ne (fun e => by rw [e, h] at a1; cases a1)]
    exact a1
  · obtain ⟨c, e1, e2⟩ := a3 pos cv hc
    refine ⟨c, e1, ?_⟩
    rw [upd_ne (fun e => ?_)]
    · exact e2
    · rw [e, h] at e2
      unfold LamX.CodeO at e2
      cases e2
theorem err_put {H2 : Hp} {C d a : Addr} {fs : List (Str × V)} (hd : H2 d = none) (ha : upd H2 d (.xd fs) a = none) : upd (upd H2 d (.xd fs)) a (ErrO C d a) a = some (ErrO C d a) ∧ upd (upd H2 d (.xd fs)) a (ErrO C d a) d = some (.xd fs) ∧ Same H2 (upd (upd H2 d (.xd fs)) a (ErrO C d a)) := by
  have ne : a ≠ d := fun q => by
    rw [q, upd_same] at ha
    cases ha
  have nw : ∀ {H : Hp} {p : Addr} {o : HO}, H p = none → Same H (upd H p o) := fun h b x e => by
    rw [upd_ne (ne_of_none e h)]
    exact e
  refine ⟨upd_same, ?_, (nw hd).trans (nw ha)⟩
  rw [upd_ne (Ne.symm ne), upd_same]
end SB
-- K02H2
namespace K02
open PySem PySem.Spec PyProof.Rows L2 SB
/-- the name of the lambda in a def -/
def lq (x : Str) : Str := (envOfC x (defScope s__law_heard) 0 0 .none).qual ++ "<lambda>"
theorem extN_same {H H' : Hp} (s : Same H H') : LamX.ExtN H H' := LamX.ExtN.of s
theorem tabs_same {T : List (Addr × Str)} {H H' : Hp} (t : LamX.Tabs T H) (s : Same H H') : LamX.Tabs T H' := t.ext s
/-- what is told of the values that are no Words -/
structure OddOk (K : PySem.W.Frag) (C : Addr) : Prop where
  mC : MulC K C
  all : ∀ T ∈ (["NoneType", "int", "str", "list", "tuple", "bool"] : List String), MulT K C T ∧ PySem.W.kitOne K (.type T) (.ref C) = some false ∧ PySem.W.notFirst K C (.type T) = true
def Odd (K : PySem.W.Frag) (H : Hp) (C : Addr) (x : V) : Prop := ∃ T : String, TyX K H x (.type T) ∧ MulT K C T ∧ PySem.W.kitOne K (.type T) (.ref C) = some false ∧ PySem.W.notFirst K C (.type T) = true
theorem odd_of {K : PySem.W.Frag} {C : Addr} {H : Hp} {l u : Addr} {x : V} (O : OddOk K C) (h1 : H l = some (.lst [.str "A"])) (h2 : H u = some (.tup [.str "A"])) (hx : x ∈ [V.non, .int 0, .str "A", .str "", .ref l, .ref u, .bl true, .int 2]) : Odd K H C x := by
  simp only [List.mem_cons, List.not_mem_nil, or_false] at hx
  rcases hx with rfl | rfl | rfl | rfl | rfl | rfl | rfl | rfl
  · exact ⟨_, .base .non, O.all "NoneType" (by simp)⟩
  · exact ⟨_, .base (.int _), O.all "int" (by simp)⟩
  · exact ⟨_, .base (.str _), O.all "str" (by simp)⟩
  · exact ⟨_, .base (.str _), O.all "str" (by simp)⟩
  · exact ⟨_, .base (.lst h1), O.all "list" (by simp)⟩
  · exact ⟨_, .base (.tup h2), O.all "tuple" (by simp)⟩
  · exact ⟨_, .base (.bl _), O.all "bool" (by simp)⟩
  · exact ⟨_, .base (.int _), O.all "int" (by simp)⟩
theorem xd_fld (g : Str) (v : V) : ([(g, v)] : List (Str × V)).lookup g = some v := by simp [List.lookup]
section
variable {P : Program} {w : World} {K : PySem.W.Frag} {mg : Str → Option Value} {base : Heap}
def spRefused (K : PySem.W.Frag) (T : List (Addr × Str)) : Sp := fun vs H Q _ => ∃ (p l : Addr) (N : Int) (z : Str), vs = [.ref p, .str z] ∧ PenQ l N H p ∧ N ≤ 100000 ∧ LamX.Tabs T H ∧ Fine z.cps.toList ∧ z.length ≤ 200 ∧
  ∀ H', KN p H H' → LamX.Tabs T H' → PenQ l (N + 1) H' p → Q (.bl true) H'
theorem ok_law_refused_right {T : List (Addr × Str)} {f c Pt CB CB2 CM CW fB2 f__law_pick : Addr} {fd d__law_pick : FuncData} {k : Nat} (F : FunT K "_law_refused_right" "_law_refused_right" s__law_refused_right f c fd) (Hd : Heard K mg CB)
    (TB : LamX.TabB base mg c Pt) (hmT : (Pt, lq "_law_refused_right") ∈ T) (hu : ∀ p ∈ T, p.1 = Pt → p.2 = lq "_law_refused_right")
    (MO : MakeOk P w K mg base CW CB2 CM k) (OO : OpsOk P w K mg base CW CB2 CM k) (OD : OddOk K CW) (E2 : Err1 K mg "BadWord" "at" CB2 fB2) (xm2 : PySem.W.exmOne K (.ref CB2) (.ref CB) = some true)
    (G__law_pick : FnOk P w K mg base CX0 (k + 2) f__law_pick d__law_pick ["pen", "some"] (spPick K)) (g__law_pick : mg "_law_pick" = some (.ref f__law_pick)) (k__law_pick : PySem.W.keepIn K (.ref f__law_pick) = true) (b__law_pick : Binds K d__law_pick ["pen", "some"] [])
    (m_isinstance : mg "isinstance" = none) : FnOk P w K mg base CX0 (k + 9) f fd ["pen", "one"] (spRefused K T) := by
  obtain ⟨fW, fdW, tE, M, GW, bW, bW0, rE⟩ := MO.word
  obtain ⟨fM, fdM, wm, wmf, GM, bM⟩ := OO.mul_
  obtain ⟨fE, fdE, EqW, GE, bE⟩ := OO.eq_
  obtain ⟨fF, fdF, mF, GF, bF, kF⟩ := OO.fits_
  have sf := OO.sf
  have mC := OD.mC
  have gW := MO.gW
  have cl := MO.cl
  have na := MO.na
  have g_BadWord := E2.at_
  refine F.ok sc__law_refused_right (fun vs H Q E h => ?_) (fun A outer s H vs Q E hr h => ?_)
  · obtain ⟨p, l, N, z, rfl, _⟩ := h
    rfl
  · obtain ⟨p, l, N, z, rfl, p0, hN, t0, fz, lz, q⟩ := h
    have nd := sc__law_refused_right.nd
    refine ⟨_, (pss_cons (ps_asg (pe_tup (pa_cons (pe_make M GW (hr.mono (by omega)) (by rfl) gW bW .nil passL (pa_cons (pv 1) pa_nil)) (pa_cons (pe_call G__law_pick (hr.mono (by omega)) (by rfl) g__law_pick k__law_pick b__law_pick .nil pass0 (pa_cons (pv 0) (pa_cons (pe_lst (pa_cons pe_non (pa_cons pe_int (pa_cons pe_str (pa_cons pe_str (pa_cons (pe_lst (pa_cons pe_str pa_nil)) (pa_cons (pe_tup (pa_cons pe_str pa_nil)) (pa_cons pe_bl (pa_cons pe_int pa_nil))))))))) pa_nil))) pa_nil))) (pg_tup rfl (pgs_cons (pg_name (i := 5) nd rfl (.inr rfl)) (pgs_cons (pg_name (i := 4) nd rfl (.inr rfl)) pgs_nil))))
      (pss_cons (ps_set (i := 2) nd rfl (.inl rfl) (pe_lst (pa_cons (pe_heard Hd (by rfl) TB (by rfl) hmT hu (k := k + 6) (hr.mono (by omega)) (LamX.lamS_by (sc := defScope s__law_refused_right) (by decide +kernel)) (by rfl) (fun _ _ _ _ _ => rfl) (fun _ _ _ _ E' _ _ hr' => (pe_op (op_mulOther mC rfl sf wm wmf GM (hr'.mono (by omega)) bM (E := E') (passes_call (takes_of rfl rfl rfl rfl) fun _ _ _ _ q => q)) (pv 5) (pv 4)))) pa_nil)))
      (pss_cons (ps_expr (pe_bm PySem.F.plainAttrs_list PySem.F.slot_list_append PySem.F.type_list_append mt_append (pv 2) (pa_cons (pe_heard Hd (by rfl) TB (by rfl) hmT hu (k := k + 6) (hr.mono (by omega)) (LamX.lamS_by (sc := defScope s__law_refused_right) (by decide +kernel)) (by rfl) (fun _ _ _ _ _ => rfl) (fun _ _ _ _ E' _ _ hr' => (pe_meth (pv 5) cl mF GF (hr'.mono (by omega)) bF .nil (E := E') (passes_call (takes_of rfl rfl rfl rfl) fun _ _ _ _ q => q) (pa_cons (pv 4) pa_nil)))) pa_nil)))
      (pss_cons (ps_for PassesOwn.never rfl (pi_list (pv 2)) (pg_name (i := 3) nd rfl (.inl rfl)) (pss_one (ps_if (PW.pt (pw_or (pt_not (pt_val (pe_callB call_isErr (by rfl) m_isinstance boot_isinstance (pa_cons (pv 3) (pa_cons (pe_glob (v := .ref CB2) (by rfl) g_BadWord rfl) pa_nil))))) (pw_or (pt_cmpR op_ne (pe_errF (pv 3)) pe_int (nomark _)) (pw_or1 (pt_cmpR op_isIB (pe_errF (pv 3)) pe_bl (nomark _)))))) (pss_one (ps_ret pe_bl)) pss_nil)))
      (pss_one (ps_ret (pe_and (pe_cmpR op_isBl (pe_cmpR (op_eqOwn EqW.find EqW.fn GE (hr.mono (by omega)) bE pass0) (pv 5) (pv 4) (nomark _)) pe_bl (nomark _)) (pe_one (pe_cmpR op_isBl (pe_cmpR (op_neOther EqW GE (hr.mono (by omega)) bE pass0) (pv 5) (pv 4) (nomark _)) pe_bl (nomark _)))))))))), ?_⟩
    refine ⟨.str z, rfl, fun x dx nx nd' ne => make_q nx nd' ne fz (by omega) fun H1 s1 wx => ⟨rfl, .ref p, rfl, by show 1 ≤ sizeLine; decide, fun l1 hl1 => ⟨by show 1 ≤ sizeLine; decide, fun u1 hu1 => ⟨by show 8 ≤ sizeLine; decide, fun L hL => ?_⟩⟩⟩⟩
    have sl := same_new (o := .lst [.str "A"]) hl1
    have su := same_new (o := .tup [.str "A"]) hu1
    have sL := same_new (o := .lst [.non, .int 0, .str "A", .str "", .ref l1, .ref u1, .bl true, .int 2]) hL
    have sA := s1.trans (sl.trans (su.trans sL))
    have np1 := ((p0.same s1).ne_p hl1)
    have np2 := ((p0.same (s1.trans sl)).ne_p hu1)
    have np3 := ((p0.same (s1.trans (sl.trans su))).ne_p hL)
    have a1 := sL _ _ (su _ _ (upd_same (H := H1) (a := l1) (o := .lst [.str "A"])))
    have a2 := sL _ _ (upd_same (H := upd H1 l1 (.lst [.str "A"])) (a := u1) (o := .tup [.str "A"]))
    have wx := wx.same (sl.trans (su.trans sL))
    have pA := p0.same sA
    have tA := tabs_same t0 sA
    have aL : upd (upd (upd H1 l1 (.lst [.str "A"])) u1 (.tup [.str "A"])) L (.lst [.non, .int 0, .str "A", .str "", .ref l1, .ref u1, .bl true, .int 2]) L = some (.lst [.non, .int 0, .str "A", .str "", .ref l1, .ref u1, .bl true, .int 2]) := upd_same
    generalize upd (upd (upd H1 l1 (.lst [.str "A"])) u1 (.tup [.str "A"])) L (.lst [.non, .int 0, .str "A", .str "", .ref l1, .ref u1, .bl true, .int 2]) = H2 at a1 a2 aL wx pA tA sA ⊢
    refine ⟨p, l, .ref L, _, _, rfl, pA, hN, .inl ⟨L, rfl, .inl (.inl aL), np3⟩, by show 0 < 8; decide, by show 8 ≤ 100000; decide, fun y H3 hy k3 p3 => ?_⟩
    have n1 := k3 _ _ a1 np1
    have n2 := k3 _ _ a2 np2
    obtain ⟨dxw, hxw⟩ := wx
    have w3 : WordAt CW H3 x z := ⟨dxw, k3 _ _ hxw (pA.not_p hxw fun xs z => nomatch z)⟩
    have t3 := tabs_keptQ tA pA k3
    have kn3 : KN p H H3 := ((KN.ext (extN_same sA)).trans (KN.kept k3))
    have oa := fun {Hx : Hp} (ex : LamX.ExtN H3 Hx) => odd_of OD (ex _ _ n1 (fun _ z => nomatch z)) (ex _ _ n2 (fun _ z => nomatch z)) hy
    refine ⟨by show 2 ≤ sizeLine; decide, fun t ht => ?_⟩
    have sT := same_new (o := .tup [.ref x, y]) ht
    refine ⟨t, _, rfl, .inl (.inl upd_same), rfl, _, _, rfl, _, _, rfl, rfl, ?_⟩
    have n1 := sT _ _ n1
    have n2 := sT _ _ n2
    have w4 := w3.same sT
    have t4 := tabs_same t3 sT
    have p4 := p3.same sT
    have kn4 := kn3.trans (KN.of sT)
    have oa := fun {Hx : Hp} (ex : LamX.ExtN (upd H3 t (.tup [.ref x, y])) Hx) => odd_of OD (ex _ _ n1 (fun _ z => nomatch z)) (ex _ _ n2 (fun _ z => nomatch z)) hy
    generalize upd H3 t (.tup [.ref x, y]) = H4 at n1 n2 w4 t4 p4 kn4 oa ⊢
    refine ⟨t4, fun H5 e5 t5 => ?_⟩
    have p5 := penQ_ext p4 e5
    have kn5 := kn4.trans (KN.ext e5)
    have w5 : WordAt CW H5 x z := by
      obtain ⟨d, h⟩ := w4
      exact ⟨d, e5 _ _ h (fun _ z => nomatch z)⟩
    obtain ⟨T5, ty5, MT5, ek5, _⟩ := oa e5
    have w5' := w5
    obtain ⟨dx5, hx5⟩ := w5
    refine ⟨.ref x, rfl, y, rfl, x, dx5, _, T5, rfl, hx5, ty5, MT5, x, z, y, rfl, w5', fz, by omega, .inr ⟨_, ty5, ek5, fun d8 hd8 => ⟨true, xm2, (fun z => nomatch z), fun _ => ⟨CB2, d8, rfl, rfl, fun a8 ha8 => ?_⟩⟩⟩⟩
    obtain ⟨hA8, hD8, se8⟩ := err_put (C := CB2) hd8 ha8
    have p8 := p5.same se8
    have t8 := tabs_same t5 se8
    have kn8 := kn5.trans (KN.of se8)
    have w8 := w5'.same se8
    have e8 := e5.trans (extN_same se8)
    generalize upd (upd H5 d8 (.xd [("at", .int 0)])) a8 (ErrO CB2 d8 a8) = H8 at hA8 hD8 p8 t8 kn8 w8 e8 ⊢
    refine ⟨by show 1 ≤ sizeLine; decide, fun G hG => ?_⟩
    have sG := same_new (o := .lst [.ref a8]) hG
    have hA9 := sG _ _ hA8
    have hD9 := sG _ _ hD8
    have hG9 : upd H8 G (.lst [.ref a8]) G = some (.lst [.ref a8]) := upd_same
    have nGp := p8.ne_p hG
    have nGl := p8.ne_l hG
    have p9 := p8.same sG
    have t9 := tabs_same t8 sG
    have kn9 := kn8.trans (KN.of sG)
    have w9 := w8.same sG
    have e9 := e8.trans (extN_same sG)
    generalize upd H8 G (.lst [.ref a8]) = H9 at hA9 hD9 hG9 p9 t9 kn9 w9 e9 ⊢
    refine ⟨.ref G, rfl, .inl ⟨rfl, _, .inl (.inl hG9)⟩, t9, fun H11 e11 t11 => ?_⟩
    have p11 := penQ_ext p9 e11
    have kn11 := kn9.trans (KN.ext e11)
    have hA11 := e11 _ _ hA9 errO_ne
    have hD11 := e11 _ _ hD9 (fun _ z => nomatch z)
    have hG11 := e11 _ _ hG9 (fun _ z => nomatch z)
    have w11 : WordAt CW H11 x z := by
      obtain ⟨d, h⟩ := w9
      exact ⟨d, e11 _ _ h (fun _ z => nomatch z)⟩
    obtain ⟨T11, ty11, MT11, ek11, _⟩ := oa (e9.trans e11)
    have w11' := w11
    obtain ⟨dx11, hx11⟩ := w11
    refine ⟨.ref x, rfl, x, dx11, _, rfl, hx11, xd_no _ _ _ (by decide +kernel), y, rfl, x, z, y, rfl, w11', fz, by omega, .inr ⟨_, ty11, ek11, fun d12 hd12 => ⟨true, xm2, (fun z => nomatch z), fun _ => ⟨CB2, d12, rfl, rfl, fun a12 ha12 => ?_⟩⟩⟩⟩
    obtain ⟨hA12, hD12, s12⟩ := err_put (C := CB2) hd12 ha12
    have hA13 := s12 _ _ hA11
    have hD13 := s12 _ _ hD11
    have hG13 := s12 _ _ hG11
    have p13 := p11.same s12
    have t13 := tabs_same t11 s12
    have kn13 := kn11.trans (KN.of s12)
    have w13 := w11'.same s12
    have e13 := e9.trans (e11.trans (extN_same s12))
    have n1 := e13 _ _ n1 (fun _ z => nomatch z)
    have n2 := e13 _ _ n2 (fun _ z => nomatch z)
    generalize upd (upd H11 d12 (.xd [("at", .int 0)])) a12 (ErrO CB2 d12 a12) = H13 at hA12 hD12 hA13 hD13 hG13 p13 t13 kn13 w13 n1 n2 ⊢
    have w1 : a8 ≠ G := fun z => by
      rw [z, hG13] at hA13
      exact errO_lst _ (Option.some.inj hA13).symm
    have w2 : d8 ≠ G := fun z => by
      rw [z, hG13] at hD13
      cases hD13
    have w3' : a12 ≠ G := fun z => by
      rw [z, hG13] at hA12
      exact errO_lst _ (Option.some.inj hA12).symm
    have w4' : d12 ≠ G := fun z => by
      rw [z, hG13] at hD12
      cases hD12
    have w5 : l1 ≠ G := fun z => by
      rw [z, hG13] at n1
      cases n1
    have w6 : u1 ≠ G := fun z => by
      rw [z, hG13] at n2
      cases n2
    have w7 : x ≠ G := fun z => by
      obtain ⟨d, h⟩ := w13
      rw [z, hG13] at h
      cases h
    refine ⟨G, _, _, rfl, rfl, hG13, by show 1 < sizeLine; decide, ?_⟩
    have t14 : LamX.Tabs T (upd H13 G (.lst ([.ref a8] ++ [.ref a12]))) := tabs_put t13 hG13
    have p14 := p13.write (o := .lst ([.ref a8] ++ [.ref a12])) nGp nGl
    have kn14 : KN p H (upd H13 G (.lst ([.ref a8] ++ [.ref a12]))) := fun b o h np nt => by
      rw [upd_ne (fun e => by have := kn8 b o h np nt; rw [e, hG] at this; cases this)]
      exact kn13 b o h np nt
    have gA8 : upd H13 G (.lst ([.ref a8] ++ [.ref a12])) a8 = some (ErrO CB2 d8 a8) := by rw [upd_ne w1]; exact hA13
    have gD8 : upd H13 G (.lst ([.ref a8] ++ [.ref a12])) d8 = some (.xd [("at", .int 0)]) := by rw [upd_ne w2]; exact hD13
    have gA12 : upd H13 G (.lst ([.ref a8] ++ [.ref a12])) a12 = some (ErrO CB2 d12 a12) := by rw [upd_ne w3']; exact hA12
    have gD12 : upd H13 G (.lst ([.ref a8] ++ [.ref a12])) d12 = some (.xd [("at", .int 0)]) := by rw [upd_ne w4']; exact hD12
    have n1 : upd H13 G (.lst ([.ref a8] ++ [.ref a12])) l1 = some (.lst [.str "A"]) := by rw [upd_ne w5]; exact n1
    have n2 : upd H13 G (.lst ([.ref a8] ++ [.ref a12])) u1 = some (.tup [.str "A"]) := by rw [upd_ne w6]; exact n2
    have w14 : WordAt CW (upd H13 G (.lst ([.ref a8] ++ [.ref a12]))) x z := by
      obtain ⟨d, h⟩ := w13
      exact ⟨d, by rw [upd_ne w7]; exact h⟩
    have hG14 : upd H13 G (.lst ([.ref a8] ++ [.ref a12])) G = some (.lst [.ref a8, .ref a12]) := upd_same
    generalize upd H13 G (.lst ([.ref a8] ++ [.ref a12])) = H14 at t14 p14 kn14 hG14 gA8 gD8 gA12 gD12 n1 n2 w14 ⊢
    refine ⟨.ref G, rfl, G, rfl, ⟨_, .inl (.inl hG14)⟩, for_it (walk_list (xs := [.ref a8, .ref a12])) (fun i σ H' => ∃ y3, σ = [some (.ref p), some (.str z), some (.ref G), y3, some y, some (.ref x)] ∧ H' = H14)
      ⟨none, rfl, rfl⟩ (fun i σ H' _ hPv => ?_) (fun i v σ Ha Hb hi hPv hY => ?_) (fun σ H' hPv => ?_)⟩
    · obtain ⟨y3, rfl, rfl⟩ := hPv
      exact .inl (.inl hG14)
    · obtain ⟨y3, rfl, rfl⟩ := hPv
      obtain ⟨rfl, hx⟩ := hY
      obtain ⟨ea, ed, rfl, gA, gD⟩ : ∃ ea ed, v = .ref ea ∧ Hb ea = some (ErrO CB2 ed ea) ∧ Hb ed = some (.xd [("at", .int 0)]) := by
        match i, hi, hx with
        | 0, _, hx =>
          cases hx
          exact ⟨a8, d8, rfl, gA8, gD8⟩
        | 1, _, hx =>
          cases hx
          exact ⟨a12, d12, rfl, gA12, gD12⟩
      have fld := xd_fld "at" (V.int 0)
      refine ⟨.ref ea, rfl, ea, CB2, ed, CB2, _, true, rfl, gA, gD, E2.ec, kit_self, true, rfl, iteF ?_⟩
      refine ⟨.ref ea, rfl, ea, CB2, ed, _, .int 0, rfl, gA, gD, E2.ec, E2.no, fld, rfl, _, rfl, ?_⟩
      rw [decide_eq_true rfl]
      refine iteF ?_
      exact ⟨.ref ea, rfl, ea, CB2, ed, _, .int 0, rfl, gA, gD, E2.ec, E2.no, fld, 0, false, rfl, rfl, _, rfl, iteF ⟨_, rfl, rfl⟩⟩
    · obtain ⟨y3, rfl, rfl⟩ := hPv
      obtain ⟨T14, ty14, MT14, ek14, nf14⟩ := odd_of OD n1 n2 hy
      have w14' := w14
      obtain ⟨dx14, hx14⟩ := w14
      refine ⟨.ref x, rfl, y, rfl, x, dx14, _, _, rfl, hx14, ty14, nf14, x, z, y, rfl, w14', fz, by omega, .inr ⟨_, ty14, ek14, false, rfl, _, _, rfl, rfl, true, ?_, iteT ?_⟩⟩
      · rw [decide_eq_true rfl]
      refine ⟨.ref x, rfl, y, rfl, x, dx14, _, _, rfl, hx14, ty14, MT14.sub, (by rfl), x, z, y, rfl, w14', fz, by omega, .inr ⟨_, ty14, ek14, false, rfl, _, _, rfl, rfl, ?_⟩⟩
      exact q _ kn14 t14 p14
end
end K02
-- M15
namespace SB
open PySem PySem.Spec PyProof.Rows L2
theorem mulOk_small {z : Str} {n : Int} (h1 : 1 < n) (h2 : n ≤ 4000) (hz : z.length ≤ 4) : MulOk z n := by
  refine ⟨?_, fun _ _ => ?_, fun _ _ => ?_⟩
  · have a : decide (n < -(2 ^ 63 : Int)) = false := decide_eq_false (by omega)
    have b : decide (n ≥ (2 ^ 63 : Int)) = false := decide_eq_false (by omega)
    rw [a, b]
    rfl
  · have : (4 : Int) ≤ (2 ^ 63 - 1) / n := Int.le_ediv_of_mul_le (by omega) (by omega)
    omega
  · have : z.length * n.toNat ≤ 4 * 4000 := Nat.mul_le_mul hz (by omega)
    refine decide_eq_false (p := z.length * n.toNat > sizeLine) ?_
    rw [sizeLine_eq]
    omega
/-- pairs of units that nothing is struck out of -/
def pairs : List (Str × Str) := [("AB", "CD"), ("dA", "cb"), ("a", "B")]
theorem pairs_ok : ∀ u ∈ pairs, (u.1.length = u.2.length ∧ (u.1.length = 1 ∨ u.1.length = 2)) ∧ (∀ c ∈ u.1.cps.toList ++ u.2.cps.toList, isL c = true) ∧ (∀ c ∈ u.1.cps.toList ++ u.2.cps.toList, ∀ d ∈ u.1.cps.toList ++ u.2.cps.toList, c ≠ up d) ∧ (∀ c ∈ u.1.cps.toList, ∀ d ∈ u.2.cps.toList, d ≠ c) := by decide +kernel
theorem fine_pair {u : Str × Str} (hu : u ∈ pairs) {l : List Nat} (h : ∀ c ∈ l, c ∈ u.1.cps.toList ++ u.2.cps.toList) : Fine l := by
  obtain ⟨_, h1, h2, _⟩ := pairs_ok u hu
  exact ⟨fun c hc => h1 c (h c hc), fun j c d _ hd hc => h2 c (h c (List.mem_of_getElem? hc)) d (h d (List.mem_of_getElem? hd))⟩
/-- one long row and another: what is told of them -/
theorem long_pair {u : Str × Str} (hu : u ∈ pairs) {m n : Int} (hm : 1 < m) (hn : 1 < n) : Fine (Txt.mul u.1 m).cps.toList ∧ Fine (Txt.mul u.2 n).cps.toList ∧ Fine ((Txt.mul u.1 m).cps.toList ++ (Txt.mul u.2 n).cps.toList) ∧ (Txt.mul u.1 m).length = m.toNat * u.1.length ∧ (Txt.mul u.2 n).length = n.toNat * u.1.length ∧ (∀ c ∈ (Txt.mul u.1 m).cps.toList, ∀ d ∈ (Txt.mul u.2 n).cps.toList, d ≠ c) := by
  obtain ⟨⟨e, l⟩, _, _, nc⟩ := pairs_ok u hu
  have f1 : ∀ c ∈ (Txt.mul u.1 m).cps.toList, c ∈ u.1.cps.toList ++ u.2.cps.toList := fun c hc => List.mem_append_left _ (mul_mem hm (by omega) hc)
  have f2 : ∀ c ∈ (Txt.mul u.2 n).cps.toList, c ∈ u.1.cps.toList ++ u.2.cps.toList := fun c hc => List.mem_append_right _ (mul_mem hn (by omega) hc)
  refine ⟨fine_pair hu f1, fine_pair hu f2, fine_pair hu fun c hc => ?_, mul_len hm (by omega), by rw [mul_len hn (by omega), e], fun c hc d hd => nc c (mul_mem hm (by omega) hc) d (mul_mem hn (by omega) hd)⟩
  rcases List.mem_append.mp hc with h | h
  · exact f1 c h
  · exact f2 c h
/-- a row, and its undoing with something after it -/
theorem strike_back {a b : List Nat} (ha : allL a) (hb : Fine b) : strike (a ++ (inv a ++ b)) = b := by
  have h := strike_inv_left (a := inv a) (b := b) (allL_inv ha) hb.1
  rw [inv_inv ha, strike_fine hb] at h
  exact h
theorem fine_back {a c : List Nat} (ha : Fine a) (hc : Fine c) (n : ∀ x ∈ a, ∀ y ∈ c, y ≠ x) : Fine (inv a ++ c) := by
  refine fine_join (fine_inv ha) hc fun x y hx hy e => ?_
  unfold inv at hx
  rw [List.getLast?_reverse, List.head?_map] at hx
  obtain ⟨z, hz, rfl⟩ := Option.map_eq_some_iff.mp hx
  have mz : z ∈ a := List.mem_of_mem_head? hz
  rw [up_up z (ha.1 z mz)] at e
  exact n z mz y (List.mem_of_getElem? hy) e
end SB
-- K02H3
namespace K02
open PySem PySem.Spec PyProof.Rows L2 SB
theorem xd2_a (f g : Str) (y z : V) : ([(f, y), (g, z)] : List (Str × V)).lookup f = some y := by simp [List.lookup]
theorem xd2_b (f g : Str) (y z : V) (h : g ≠ f) : ([(f, y), (g, z)] : List (Str × V)).lookup g = some z := by
  have e : (g == f) = false := by simpa using h
  simp [List.lookup, e]
section
variable {K : PySem.W.Frag} {CW CB2 CM : Addr}
theorem mul_qL {H : Hp} {Q : VK} {E : XK} {a b : Addr} {z v : Str} (wa : WordAt CW H a z) (wb : WordAt CW H b v) (fz : Fine z.cps.toList) (fv : Fine v.cps.toList) (lz : z.length ≤ 4000) (lv : v.length ≤ 4000) (ls : (strike (z.cps.toList ++ v.cps.toList)).length ≤ 4000)
    (q : ∀ c H', H c = none → Same H H' → WordAt CW H' c (SB.T (strike (z.cps.toList ++ v.cps.toList))) → Q (.ref c) H') : rMulOwn CW (spMul K CW CB2 CM) E (.ref a) (.ref b) H Q := by
  have wa' := wa
  have wb' := wb
  obtain ⟨dx, ha⟩ := wa
  obtain ⟨dy, hb⟩ := wb
  exact ⟨a, b, dx, dy, _, _, rfl, rfl, ha, hb, a, z, .ref b, rfl, wa', fz, lz, .inl ⟨b, v, rfl, wb', fv, lv, fun _ c H' nc s wc => ⟨c, rfl, q c H' nc s wc⟩, fun l4 => absurd l4 (by omega)⟩⟩
theorem inv_qL {H : Hp} {Q : VK} {E : XK} {a : Addr} {z : Str} (wa : WordAt CW H a z) (fz : Fine z.cps.toList) (lz : z.length ≤ 4000)
    (q : ∀ c H', H c = none → Same H H' → WordAt CW H' c (SB.T (inv z.cps.toList)) → Q (.ref c) H') : rInvOwn CW (spInvert CW) E (.ref a) H Q := by
  have wa' := wa
  obtain ⟨dx, ha⟩ := wa
  exact ⟨a, dx, _, rfl, ha, a, z, rfl, wa', fz, lz, q⟩
end
section
variable {P : Program} {w : World} {K : PySem.W.Frag} {mg : Str → Option Value} {base : Heap}
def spLong (T : List (Addr × Str)) : Sp := fun vs H Q _ => ∃ (p l : Addr) (N : Int), vs = [.ref p] ∧ PenQ l N H p ∧ N ≤ 90000 ∧ LamX.Tabs T H ∧ ∀ H', Q (.bl true) H'
theorem ok_law_long_right {T : List (Addr × Str)} {f c Pt CB CB2 CM CW fM2 f__law_pick f__law_draw f__law_back : Addr} {fd d__law_pick d__law_draw d__law_back : FuncData} {k : Nat} (F : FunT K "_law_long_right" "_law_long_right" s__law_long_right f c fd) (Hd : Heard K mg CB)
    (TB : LamX.TabB base mg c Pt) (hmT : (Pt, lq "_law_long_right") ∈ T) (hu : ∀ p ∈ T, p.1 = Pt → p.2 = lq "_law_long_right")
    (MO : MakeOk P w K mg base CW CB2 CM k) (OO : OpsOk P w K mg base CW CB2 CM k) (E3 : Err2 K mg "TooMany" "what" "most" CM fM2) (xm3 : PySem.W.exmOne K (.ref CM) (.ref CB) = some true)
    (G__law_pick : FnOk P w K mg base CX0 (k + 2) f__law_pick d__law_pick ["pen", "some"] (spPick K)) (g__law_pick : mg "_law_pick" = some (.ref f__law_pick)) (k__law_pick : PySem.W.keepIn K (.ref f__law_pick) = true) (b__law_pick : Binds K d__law_pick ["pen", "some"] [])
    (G__law_draw : FnOk P w K mg base CX0 (k + 1) f__law_draw d__law_draw ["pen", "many"] spDraw) (g__law_draw : mg "_law_draw" = some (.ref f__law_draw)) (k__law_draw : PySem.W.keepIn K (.ref f__law_draw) = true) (b__law_draw : Binds K d__law_draw ["pen", "many"] [])
    (G__law_back : FnOk P w K mg base CX0 (k + 3) f__law_back d__law_back ["row"] spBack) (g__law_back : mg "_law_back" = some (.ref f__law_back)) (k__law_back : PySem.W.keepIn K (.ref f__law_back) = true) (b__law_back : Binds K d__law_back ["row"] [])
    (m_isinstance : mg "isinstance" = none) (m_len : mg "len" = none) : FnOk P w K mg base CX0 (k + 9) f fd ["pen"] (spLong T) := by
  obtain ⟨fW, fdW, tE, M, GW, bW, bW0, rE⟩ := MO.word
  obtain ⟨fM, fdM, wm, wmf, GM, bM⟩ := OO.mul_
  obtain ⟨fI, fdI, wi, wif, GI, bI⟩ := OO.inv_
  have sf := OO.sf
  have gW := MO.gW
  have cl := MO.cl
  have na := MO.na
  have g_TooMany := E3.at_
  refine F.ok sc__law_long_right (fun vs H Q E h => ?_) (fun A outer s H vs Q E hr h => ?_)
  · obtain ⟨p, l, N, rfl, _⟩ := h
    rfl
  · obtain ⟨p, l, N, rfl, p0, hN, t0, q⟩ := h
    have nd := sc__law_long_right.nd
    refine ⟨_, (pss_cons (ps_par (i := 1) (j := 2) (by rfl) nd rfl rfl (by decide) rfl rfl (pa_cons (pe_call G__law_pick (hr.mono (by omega)) (by rfl) g__law_pick k__law_pick b__law_pick .nil pass0 (pa_cons (pv 0) (pa_cons (pe_lst (pa_cons (pe_lst (pa_cons pe_str (pa_cons pe_str pa_nil))) (pa_cons (pe_lst (pa_cons pe_str (pa_cons pe_str pa_nil))) (pa_cons (pe_lst (pa_cons pe_str (pa_cons pe_str pa_nil))) pa_nil)))) pa_nil))) (pa_cons (pe_op op_add pe_int (pe_call G__law_draw (hr.mono (by omega)) (by rfl) g__law_draw k__law_draw b__law_draw .nil pass0 (pa_cons (pv 0) (pa_cons pe_int pa_nil)))) pa_nil)) (by rfl))
      (pss_cons (ps_par (i := 3) (j := 4) (by rfl) nd rfl rfl (by decide) rfl rfl (pa_cons (pe_op op_repS (pe_ix ix_list (pv 1) pe_int (fun _ _ => rfl)) (pv 2)) (pa_cons (pe_op op_repS (pe_ix ix_list (pv 1) pe_int (fun _ _ => rfl)) (pe_op op_sub (pe_op op_add (pe_op op_sub (pe_op op_fdiv pe_int (pe_callB call_len (by rfl) m_len PySem.boot_len (pa_cons (pe_ix ix_list (pv 1) pe_int (fun _ _ => rfl)) pa_nil))) (pv 2)) (pe_call G__law_draw (hr.mono (by omega)) (by rfl) g__law_draw k__law_draw b__law_draw .nil pass0 (pa_cons (pv 0) (pa_cons pe_int pa_nil)))) pe_int)) pa_nil)) (by rfl))
      (pss_cons (ps_set (i := 5) nd rfl (.inl rfl) (pe_slice sl_str (pv 4) po_none (po_some (pe_op op_sub (pe_callB call_len (by rfl) m_len PySem.boot_len (pa_cons (pv 4) pa_nil)) pe_int))))
      (pss_cons (ps_asg (pe_tup (pa_cons (pe_make M GW (hr.mono (by omega)) (by rfl) gW bW .nil passL (pa_cons (pv 3) pa_nil)) (pa_cons (pe_make M GW (hr.mono (by omega)) (by rfl) gW bW .nil passL (pa_cons (pe_op op_add_str (pe_call G__law_back (hr.mono (by omega)) (by rfl) g__law_back k__law_back b__law_back .nil pass0 (pa_cons (pv 3) pa_nil)) (pv 5)) pa_nil)) pa_nil))) (pg_tup rfl (pgs_cons (pg_name (i := 8) nd rfl (.inr rfl)) (pgs_cons (pg_name (i := 6) nd rfl (.inl rfl)) pgs_nil))))
      (pss_cons (ps_if (PW.pt (pw_or (pt_cmpR op_ne (pe_fld (pe_op (op_mulOwn sf wm wmf GM (hr.mono (by omega)) bM passL) (pv 8) (pv 6)) rfl) (pv 5) (nomark _)) (pw_or1 (pt_cmpR op_ne (pe_fld (pe_op (op_mulOwn sf wm wmf GM (hr.mono (by omega)) bM passL) (pe_un (un_invOwn wi wif GI (hr.mono (by omega)) bI pass0) (pv 6)) (pe_un (un_invOwn wi wif GI (hr.mono (by omega)) bI pass0) (pv 8))) rfl) (pe_call G__law_back (hr.mono (by omega)) (by rfl) g__law_back k__law_back b__law_back .nil pass0 (pa_cons (pv 5) pa_nil)) (nomark _))))) (pss_one (ps_ret pe_bl)) pss_nil)
      (pss_cons (ps_set (i := 9) nd rfl (.inr rfl) (pe_make M GW (hr.mono (by omega)) (by rfl) gW bW .nil passL (pa_cons (pv 4) pa_nil)))
      (pss_cons (ps_if (pt_cmpR op_le (pe_op op_add (pe_callB call_len (by rfl) m_len PySem.boot_len (pa_cons (pv 3) pa_nil)) (pe_callB call_len (by rfl) m_len PySem.boot_len (pa_cons (pv 4) pa_nil))) pe_int (nomark _)) (pss_one (ps_ret (pe_cmpR op_eq (pe_fld (pe_op (op_mulOwn sf wm wmf GM (hr.mono (by omega)) bM passL) (pv 8) (pv 9)) rfl) (pe_op op_add_str (pv 3) (pv 4)) (nomark _)))) pss_nil)
      (pss_cons (ps_set (i := 7) nd rfl (.inl rfl) (pe_heard Hd (by rfl) TB (by rfl) hmT hu (k := k + 6) (hr.mono (by omega)) (LamX.lamS_by (sc := defScope s__law_long_right) (by decide +kernel)) (by rfl) (fun _ _ _ _ _ => rfl) (fun _ _ _ _ E' _ _ hr' => (pe_op (op_mulOwn sf wm wmf GM (hr'.mono (by omega)) bM (E := E') (passes_call (takes_of rfl rfl rfl rfl) fun _ _ _ _ q => q)) (pv 8) (pv 9)))))
      (pss_one (ps_ret (pe_and (pe_callB call_isErr (by rfl) m_isinstance boot_isinstance (pa_cons (pv 7) (pa_cons (pe_glob (v := .ref CM) (by rfl) g_TooMany rfl) pa_nil))) (pe_and (pe_cmpR op_eq (pe_errF (pv 7)) pe_str (nomark _)) (pe_one (pe_cmpR op_eq (pe_errF (pv 7)) pe_int (nomark _))))))))))))))), ?_⟩
    refine ⟨.ref p, rfl, by show 2 ≤ sizeLine; decide, fun a1 h1 => ⟨by show 2 ≤ sizeLine; decide, fun a2 h2 => ⟨by show 2 ≤ sizeLine; decide, fun a3 h3 => ⟨by show 3 ≤ sizeLine; decide, fun L hL => ?_⟩⟩⟩⟩
    have s1 := same_new (o := .lst [.str "AB", .str "CD"]) h1
    have s2 := same_new (o := .lst [.str "dA", .str "cb"]) h2
    have s3 := same_new (o := .lst [.str "a", .str "B"]) h3
    have sL := same_new (o := .lst [.ref a1, .ref a2, .ref a3]) hL
    have sA := s1.trans (s2.trans (s3.trans sL))
    have np1 := p0.ne_p h1
    have np2 := (p0.same s1).ne_p h2
    have np3 := (p0.same (s1.trans s2)).ne_p h3
    have np4 := (p0.same (s1.trans (s2.trans s3))).ne_p hL
    have f1 := sL _ _ (s3 _ _ (s2 _ _ (upd_same (H := H) (a := a1) (o := .lst [.str "AB", .str "CD"]))))
    have f2 := sL _ _ (s3 _ _ (upd_same (H := upd H a1 (.lst [.str "AB", .str "CD"])) (a := a2) (o := .lst [.str "dA", .str "cb"])))
    have f3 := sL _ _ (upd_same (H := upd (upd H a1 (.lst [.str "AB", .str "CD"])) a2 (.lst [.str "dA", .str "cb"])) (a := a3) (o := .lst [.str "a", .str "B"]))
    have f4 : upd (upd (upd (upd H a1 (.lst [.str "AB", .str "CD"])) a2 (.lst [.str "dA", .str "cb"])) a3 (.lst [.str "a", .str "B"])) L (.lst [.ref a1, .ref a2, .ref a3]) L = some (.lst [.ref a1, .ref a2, .ref a3]) := upd_same
    have pA := p0.same sA
    have tA := tabs_same t0 sA
    generalize upd (upd (upd (upd H a1 (.lst [.str "AB", .str "CD"])) a2 (.lst [.str "dA", .str "cb"])) a3 (.lst [.str "a", .str "B"])) L (.lst [.ref a1, .ref a2, .ref a3]) = H1 at f1 f2 f3 f4 pA tA ⊢
    refine ⟨p, l, .ref L, _, _, rfl, pA, by omega, .inl ⟨L, rfl, .inl (.inl f4), np4⟩, by show 0 < 3; decide, by show 3 ≤ 100000; decide, fun y H2 hy k2 p2 => ?_⟩
    obtain ⟨U, u, rfl, hu', hU, nU⟩ : ∃ (U : Addr) (u : Str × Str), y = .ref U ∧ u ∈ pairs ∧ H2 U = some (.lst [.str u.1, .str u.2]) ∧ U ≠ p := by
      simp only [List.mem_cons, List.not_mem_nil, or_false] at hy
      rcases hy with rfl | rfl | rfl
      · exact ⟨a1, ("AB", "CD"), rfl, by simp [pairs], k2 _ _ f1 np1, np1⟩
      · exact ⟨a2, ("dA", "cb"), rfl, by simp [pairs], k2 _ _ f2 np2, np2⟩
      · exact ⟨a3, ("a", "B"), rfl, by simp [pairs], k2 _ _ f3 np3, np3⟩
    have t2 := tabs_keptQ tA pA k2
    clear f1 f2 f3 f4 np1 np2 np3 np4 h1 h2 h3 hL s1 s2 s3 sL sA hy
    refine ⟨.ref p, rfl, p, l, _, 900, rfl, p2, by omega, by decide, by decide, fun d H3 d0 d1 k3 p3 => ?_⟩
    have hU := k3 _ _ hU nU
    have t3 := tabs_keptQ t2 p2 k3
    refine ⟨_, _, rfl, rfl, _, _, rfl, ?_⟩
    obtain ⟨⟨ue, ul⟩, _⟩ := pairs_ok u hu'
    have su : u.2.length ≤ sizeLine := by
      rw [sizeLine_eq]
      omega
    refine ⟨.ref U, rfl, U, [.str u.1, .str u.2], 0, .str u.1, rfl, rfl, .inl (.inl hU), rfl, .int (1001 + d), rfl, u.1, 1001 + d, rfl, rfl, mulOk_small (by omega) (by omega) (by omega), ?_⟩
    refine ⟨.ref U, rfl, U, [.str u.1, .str u.2], 1, .str u.2, rfl, rfl, .inl (.inl hU), rfl, .ref U, rfl, U, [.str u.1, .str u.2], 1, .str u.2, rfl, rfl, .inl (.inl hU), rfl, .str u.2, u.2.length, rfl, ⟨su, rfl⟩, 4000, (u.2.length : Int), rfl, rfl, ⟨by omega, by omega⟩, ?_⟩
    refine ⟨.int (1001 + d), rfl, _, _, rfl, rfl, .ref p, rfl, p, l, _, 3, rfl, p3, by omega, by decide, by decide, fun e H4 e0 e1 k4 p4 => ?_⟩
    have t4 := tabs_keptQ t3 p3 k4
    obtain ⟨n, en, nl⟩ : ∃ n : Int, n = 4000 / (u.2.length : Int) - (1001 + d) + e - 1 ∧ (u.1.length = 1 ∧ n = 2998 - d + e ∨ u.1.length = 2 ∧ n = 998 - d + e) := by
      refine ⟨_, rfl, ?_⟩
      rcases ul with h | h
      · refine .inl ⟨h, ?_⟩
        rw [← ue, h]
        omega
      · refine .inr ⟨h, ?_⟩
        rw [← ue, h]
        omega
    refine ⟨_, _, rfl, rfl, _, _, rfl, rfl, u.2, n, rfl, congrArg V.int en.symm, mulOk_small (by omega) (by omega) (by omega), _, _, rfl, ?_⟩
    obtain ⟨fo, ft, fb, lo, lt, nc⟩ := long_pair hu' (m := 1001 + d) (n := n) (by omega) (by omega)
    generalize Txt.mul u.1 (1001 + d) = a at fo fb lo nc ⊢
    generalize Txt.mul u.2 n = b at ft fb lt nc ⊢
    have lo' : (u.1.length = 1 ∧ (a.length : Int) = 1001 + d ∧ (b.length : Int) = 2998 - d + e) ∨ (u.1.length = 2 ∧ (a.length : Int) = 2002 + 2 * d ∧ (b.length : Int) = 1996 - 2 * d + 2 * e) := by
      rcases nl with ⟨h1, h2⟩ | ⟨h1, h2⟩
      · refine .inl ⟨h1, ?_, ?_⟩ <;> rw [h1] at lo lt <;> omega
      · refine .inr ⟨h1, ?_, ?_⟩ <;> rw [h1] at lo lt <;> omega
    clear nl en lo lt ul ue su
    have sa : a.length ≤ sizeLine := by
      rw [sizeLine_eq]
      omega
    have sb : b.length ≤ sizeLine := by
      rw [sizeLine_eq]
      omega
    refine ⟨.str b, rfl, .str b, rfl, .str b, b.length, rfl, ⟨sb, rfl⟩, _, _, rfl, rfl, _, rfl, b, rfl, sb, ?_⟩
    have e4 : ((b.length : Nat) : Int) - 4 = ((b.length - 4 : Nat) : Int) := by omega
    rw [e4]
    have ec : (cutS b none (some ((b.length - 4 : Nat) : Int))).cps.toList = b.cps.toList.take (b.length - 4) := cut_take b _
    have hlb : b.cps.toList.length = b.length := rfl
    have hla : a.cps.toList.length = a.length := rfl
    have lc : (cutS b none (some ((b.length - 4 : Nat) : Int))).length = b.length - 4 := by
      rw [len_codes, ec, List.length_take]
      omega
    show tSeq _ _ _ [some (.ref p), some (.ref U), some (.int (1001 + d)), some (.str a), some (.str b), some (.str (cutS b none (some ((b.length - 4 : Nat) : Int)))), none, none, none, none] H4
    generalize cutS b none (some ((b.length - 4 : Nat) : Int)) = c' at ec lc ⊢
    have fc : Fine c'.cps.toList := by
      rw [ec]
      exact fine_take ft _
    have ncc : ∀ x ∈ a.cps.toList, ∀ y ∈ c'.cps.toList, y ≠ x := fun x hx y hy => by
      rw [ec] at hy
      exact nc x hx y (List.mem_of_mem_take hy)
    have hlc : c'.cps.toList.length = c'.length := rfl
    clear ec nc e4
    have li : (SB.T (inv a.cps.toList)).length = a.length := inv_len _
    refine ⟨.str a, rfl, fun x dx nx nd' ne => make_q nx nd' ne fo (by omega) fun H5 s5 wx => ⟨rfl, .str a, rfl, a, rfl, by omega, fo.1, .str c', rfl, _, _, rfl, rfl, by rw [li, sizeLine_eq]; omega, ?_⟩⟩
    have ez : (SB.T (inv a.cps.toList) ++ c').cps.toList = inv a.cps.toList ++ c'.cps.toList := app_codes _ _
    have lz : (SB.T (inv a.cps.toList) ++ c').length = a.length + c'.length := by rw [Str.length_append, li]
    generalize SB.T (inv a.cps.toList) ++ c' = z at ez lz ⊢
    have fz : Fine z.cps.toList := by
      rw [ez]
      exact fine_back fo fc ncc
    refine fun y dy ny nd2 ne2 => make_q ny nd2 ne2 fz (by omega) fun H6 s6 wy => ⟨rfl, by show 2 ≤ sizeLine; decide, fun t ht => ?_⟩
    have sT := same_new (o := .tup [.ref x, .ref y]) ht
    refine ⟨t, _, rfl, .inl (.inl upd_same), rfl, _, _, rfl, _, _, rfl, rfl, ?_⟩
    have wx := wx.same (s6.trans sT)
    have wy := wy.same sT
    have t7 := tabs_same t4 (s5.trans (s6.trans sT))
    generalize upd H6 t (.tup [.ref x, .ref y]) = H7 at wx wy t7 ⊢
    clear s5 s6 sT ht ny nd2 ne2 nx nd' ne
    have e1 : strike (a.cps.toList ++ z.cps.toList) = c'.cps.toList := by
      rw [ez]
      exact strike_back fo.1 fc
    have e2 : strike ((SB.T (inv z.cps.toList)).cps.toList ++ (SB.T (inv a.cps.toList)).cps.toList) = inv c'.cps.toList := by
      show strike (inv z.cps.toList ++ inv a.cps.toList) = _
      rw [← inv_app, strike_inv (allL_app fo.1 fz.1), e1]
    have lz' : (SB.T (inv z.cps.toList)).length = z.length := inv_len _
    refine ⟨.ref x, rfl, .ref y, rfl, mul_qL wx wy fo fz (by omega) (by omega) (by rw [e1]; omega) fun y2 K2 m2 r2 v2 => ?_⟩
    obtain ⟨d2, hy2⟩ := v2
    rw [e1] at hy2
    have eT : SB.T c'.cps.toList = c' := T_self c'
    rw [eT] at hy2
    refine ⟨y2, CW, d2, _, .str c', rfl, hy2, cl, na, rfl, .str c', rfl, rfl, _, rfl, ?_⟩
    have b1 : (!decide (V.str c' = V.str c')) = false := by rw [decide_eq_true rfl]; rfl
    rw [b1]
    have wx := wx.same r2
    have wy := wy.same r2
    have t8 := tabs_same t7 r2
    clear hy2 m2 r2
    refine iteF ⟨.ref y, rfl, inv_qL wy fz (by omega) fun y3 K3 m3 r3 v3 => ⟨.ref x, rfl, inv_qL (wx.same r3) fo (by omega) fun y4 K4 m4 r4 v4 => mul_qL (v3.same r4) v4 (fine_inv fz) (fine_inv fo) (by rw [lz']; omega) (by rw [li]; omega) (by rw [e2, inv_len]; omega) fun y5 K5 m5 r5 v5 => ?_⟩⟩
    obtain ⟨d5, hy5⟩ := v5
    rw [e2] at hy5
    refine ⟨y5, CW, d5, _, .str (SB.T (inv c'.cps.toList)), rfl, hy5, cl, na, rfl, .str c', rfl, c', rfl, by omega, fc.1, rfl, _, rfl, ?_⟩
    have b2 : (!decide (V.str (SB.T (inv c'.cps.toList)) = V.str (SB.T (inv c'.cps.toList)))) = false := by rw [decide_eq_true rfl]; rfl
    rw [b2]
    have rA := r3.trans (r4.trans r5)
    have wx := wx.same rA
    have wy := wy.same rA
    have t9 := tabs_same t8 rA
    clear hy5 rA r3 r4 r5 v3 v4
    refine iteF ⟨.str b, rfl, fun m dm nm nd3 ne3 => make_q nm nd3 ne3 ft (by omega) fun H10 s10 wm' => ⟨rfl, ?_⟩⟩
    have wx := wx.same s10
    have t10 := tabs_same t9 s10
    clear s10 nm nd3 ne3
    refine ⟨.str a, rfl, .str a, a.length, rfl, ⟨sa, rfl⟩, .str b, rfl, .str b, b.length, rfl, ⟨sb, rfl⟩, _, _, rfl, rfl, _, _, rfl, rfl, _, rfl, ite2 (fun le => ?_) (fun le => ?_)⟩
    · have le' : a.length + b.length ≤ 4000 := by
        have := of_decide_eq_true le
        omega
      have eS : strike (a.cps.toList ++ b.cps.toList) = a.cps.toList ++ b.cps.toList := strike_fine fb
      refine ⟨.ref x, rfl, .ref m, rfl, mul_qL wx wm' fo ft (by omega) (by omega) (by rw [eS, List.length_append]; omega) fun y6 K6 m6 r6 v6 => ?_⟩
      obtain ⟨d6, hy6⟩ := v6
      have eT2 : SB.T (strike (a.cps.toList ++ b.cps.toList)) = a ++ b := by
        rw [eS]
        exact str_ext (app_codes a b).symm
      rw [eT2] at hy6
      refine ⟨y6, CW, d6, _, .str (a ++ b), rfl, hy6, cl, na, rfl, .str a, rfl, .str b, rfl, _, _, rfl, rfl, by rw [sizeLine_eq]; omega, rfl, ?_⟩
      rw [decide_eq_true rfl]
      exact q _
    · have gt : 4000 < a.length + b.length := by
        have : ¬ ((a.length : Int) + (b.length : Int) ≤ 4000) := fun z => le (decide_eq_true z)
        omega
      have eS : strike (a.cps.toList ++ b.cps.toList) = a.cps.toList ++ b.cps.toList := strike_fine fb
      refine ⟨t10, fun H11 e11 t11 => ?_⟩
      have wx : WordAt CW H11 x a := by
        obtain ⟨d, h⟩ := wx
        exact ⟨d, e11 _ _ h (fun _ z => nomatch z)⟩
      have wm' : WordAt CW H11 m b := by
        obtain ⟨d, h⟩ := wm'
        exact ⟨d, e11 _ _ h (fun _ z => nomatch z)⟩
      have wx' := wx
      have wm2 := wm'
      obtain ⟨dx1, hx1⟩ := wx
      obtain ⟨dm1, hm1⟩ := wm'
      refine ⟨.ref x, rfl, .ref m, rfl, x, m, dx1, dm1, _, _, rfl, rfl, hx1, hm1, x, a, .ref m, rfl, wx', fo, by omega, .inl ⟨m, b, rfl, wm2, ft, by omega, fun l4 => absurd l4 (by rw [eS, List.length_append]; omega), fun _ H8 d8 s8 hd8 => ⟨true, xm3, (fun z => nomatch z), fun _ => ⟨CM, d8, rfl, rfl, fun a8 ha8 => ?_⟩⟩⟩⟩
      obtain ⟨hA8, hD8, se8⟩ := err_put (C := CM) hd8 ha8
      generalize upd (upd H8 d8 (.xd [("most", .int 4000), ("what", .str "letters")])) a8 (ErrO CM d8 a8) = H9 at hA8 hD8 ⊢
      refine ⟨.ref a8, rfl, a8, CM, d8, CM, _, true, rfl, hA8, hD8, E3.ec, kit_self, true, rfl, iteT ?_⟩
      refine ⟨.ref a8, rfl, a8, CM, d8, _, .str "letters", rfl, hA8, hD8, E3.ec, E3.nf, xd2_b _ _ _ _ (by decide +kernel), rfl, true, ?_, iteT ?_⟩
      · rw [decide_eq_true rfl]
      refine ⟨.ref a8, rfl, a8, CM, d8, _, .int 4000, rfl, hA8, hD8, E3.ec, E3.ng, xd2_a _ _ _ _, rfl, ?_⟩
      rw [decide_eq_true rfl]
      exact q _
end
end K02
-- K02I
namespace K02
open PySem PySem.Spec PyProof.Rows L2 SB
section
variable {P : Program} {w : World} {K : PySem.W.Frag} {mg : Str → Option Value} {base : Heap}
def spLaw (K : PySem.W.Frag) (T : List (Addr × Str)) : Sp := fun vs H Q _ => ∃ (a : Addr) (ns : List Int), vs = [.ref a] ∧ SqL K H a (ns.map V.int) ∧ LamX.Tabs T H ∧ ∀ H', Q (.bl true) H'
theorem ok_law {T : List (Addr × Str)} {f CB2 CM CW f__law_pen f__law_draw f__law_row f__law_partner f__law_told f__law_pair_right f__law_refused_right f__law_long_right : Addr} {fd d__law_pen d__law_draw d__law_row d__law_partner d__law_told d__law_pair_right d__law_refused_right d__law_long_right : FuncData} {k : Nat} (F : Fun K "law" "law" s_law f fd)
    (MO : MakeOk P w K mg base CW CB2 CM k) (OO : OpsOk P w K mg base CW CB2 CM k)
    (G__law_pen : FnOk P w K mg base CX0 (k + 1) f__law_pen d__law_pen ["script"] (spPen K)) (g__law_pen : mg "_law_pen" = some (.ref f__law_pen)) (k__law_pen : PySem.W.keepIn K (.ref f__law_pen) = true) (b__law_pen : Binds K d__law_pen ["script"] [])
    (G__law_draw : FnOk P w K mg base CX0 (k + 1) f__law_draw d__law_draw ["pen", "many"] spDraw) (g__law_draw : mg "_law_draw" = some (.ref f__law_draw)) (k__law_draw : PySem.W.keepIn K (.ref f__law_draw) = true) (b__law_draw : Binds K d__law_draw ["pen", "many"] [])
    (G__law_row : FnOk P w K mg base CX0 (k + 3) f__law_row d__law_row ["pen", "most"] spRow) (g__law_row : mg "_law_row" = some (.ref f__law_row)) (k__law_row : PySem.W.keepIn K (.ref f__law_row) = true) (b__law_row : Binds K d__law_row ["pen", "most"] [])
    (G__law_partner : FnOk P w K mg base CX0 (k + 4) f__law_partner d__law_partner ["pen", "row"] spPartner) (g__law_partner : mg "_law_partner" = some (.ref f__law_partner)) (k__law_partner : PySem.W.keepIn K (.ref f__law_partner) = true) (b__law_partner : Binds K d__law_partner ["pen", "row"] [])
    (G__law_told : FnOk P w K mg base CX0 (k + 1) f__law_told d__law_told ["told", "due"] spTold) (g__law_told : mg "_law_told" = some (.ref f__law_told)) (k__law_told : PySem.W.keepIn K (.ref f__law_told) = true) (b__law_told : Binds K d__law_told ["told", "due"] [])
    (G__law_pair_right : FnOk P w K mg base CX0 (k + 6) f__law_pair_right d__law_pair_right ["one", "other"] spPair) (g__law_pair_right : mg "_law_pair_right" = some (.ref f__law_pair_right)) (k__law_pair_right : PySem.W.keepIn K (.ref f__law_pair_right) = true) (b__law_pair_right : Binds K d__law_pair_right ["one", "other"] [])
    (G__law_refused_right : FnOk P w K mg base CX0 (k + 9) f__law_refused_right d__law_refused_right ["pen", "one"] (spRefused K T)) (g__law_refused_right : mg "_law_refused_right" = some (.ref f__law_refused_right)) (k__law_refused_right : PySem.W.keepIn K (.ref f__law_refused_right) = true) (b__law_refused_right : Binds K d__law_refused_right ["pen", "one"] [])
    (G__law_long_right : FnOk P w K mg base CX0 (k + 9) f__law_long_right d__law_long_right ["pen"] (spLong T)) (g__law_long_right : mg "_law_long_right" = some (.ref f__law_long_right)) (k__law_long_right : PySem.W.keepIn K (.ref f__law_long_right) = true) (b__law_long_right : Binds K d__law_long_right ["pen"] [])
    (m_range : mg "range" = none) : FnOk P w K mg base CX0 (k + 10) f fd ["script"] (spLaw K T) := by
  obtain ⟨fW, fdW, tE, M, GW, bW, bW0, rE⟩ := MO.word
  obtain ⟨fM, fdM, wm, wmf, GM, bM⟩ := OO.mul_
  obtain ⟨fE, fdE, EqW, GE, bE⟩ := OO.eq_
  have sf := OO.sf
  have gW := MO.gW
  have cl := MO.cl
  have na := MO.na
  refine F.ok sc_law (fun vs H Q E h => ?_) (fun cdv A outer s H vs Q E hr h => ?_)
  · obtain ⟨a, ns, rfl, _⟩ := h
    rfl
  · obtain ⟨a, ns, rfl, hS, tabs, q⟩ := h
    have nd := sc_law.nd
    refine ⟨_, (pss_cons (ps_set (i := 1) nd rfl (.inl rfl) (pe_call G__law_pen (hr.mono (by omega)) (by rfl) g__law_pen k__law_pen b__law_pen .nil pass0 (pa_cons (pv 0) pa_nil)))
      (pss_cons (ps_for PassesOwn.never rfl (pi_range1 (by rfl) m_range (pa_cons pe_int pa_nil)) (pg_name (i := 2) nd rfl (.inl rfl)) (pss_cons (ps_set (i := 3) nd rfl (.inl rfl) (pe_call G__law_row (hr.mono (by omega)) (by rfl) g__law_row k__law_row b__law_row .nil pass0 (pa_cons (pv 1) (pa_cons pe_int pa_nil))))
      (pss_cons (ps_set (i := 4) nd rfl (.inl rfl) (pe_call G__law_partner (hr.mono (by omega)) (by rfl) g__law_partner k__law_partner b__law_partner .nil pass0 (pa_cons (pv 1) (pa_cons (pv 3) pa_nil))))
      (pss_cons (ps_if (PW.pt (pw_or (pt_not (pt_val (pe_call G__law_pair_right (hr.mono (by omega)) (by rfl) g__law_pair_right k__law_pair_right b__law_pair_right .nil pass0 (pa_cons (pv 3) (pa_cons (pv 4) pa_nil))))) (pw_or (pt_not (pt_val (pe_call G__law_pair_right (hr.mono (by omega)) (by rfl) g__law_pair_right k__law_pair_right b__law_pair_right .nil pass0 (pa_cons (pv 4) (pa_cons (pv 3) pa_nil))))) (pw_or1 (pt_not (pt_val (pe_call G__law_refused_right (hr.mono (by omega)) (by rfl) g__law_refused_right k__law_refused_right b__law_refused_right .nil pass0 (pa_cons (pv 1) (pa_cons (pv 3) pa_nil))))))))) (pss_one (ps_ret pe_bl)) pss_nil)
      (pss_cons (ps_set (i := 5) nd rfl (.inl rfl) (pe_make M GW (hr.mono (by omega)) (by rfl) gW bW .nil passL (pa_cons (pe_call G__law_row (hr.mono (by omega)) (by rfl) g__law_row k__law_row b__law_row .nil pass0 (pa_cons (pv 1) (pa_cons pe_int pa_nil))) pa_nil)))
      (pss_cons (ps_if (pt_cmpR (op_neOwn EqW GE (hr.mono (by omega)) bE pass0) (pe_op (op_mulOwn sf wm wmf GM (hr.mono (by omega)) bM passL) (pe_op (op_mulOwn sf wm wmf GM (hr.mono (by omega)) bM passL) (pe_make M GW (hr.mono (by omega)) (by rfl) gW bW .nil passL (pa_cons (pv 3) pa_nil)) (pe_make M GW (hr.mono (by omega)) (by rfl) gW bW .nil passL (pa_cons (pv 4) pa_nil))) (pv 5)) (pe_op (op_mulOwn sf wm wmf GM (hr.mono (by omega)) bM passL) (pe_make M GW (hr.mono (by omega)) (by rfl) gW bW .nil passL (pa_cons (pv 3) pa_nil)) (pe_op (op_mulOwn sf wm wmf GM (hr.mono (by omega)) bM passL) (pe_make M GW (hr.mono (by omega)) (by rfl) gW bW .nil passL (pa_cons (pv 4) pa_nil)) (pv 5))) (nomark _)) (pss_one (ps_ret pe_bl)) pss_nil)
      (pss_one (ps_if (pt_not (pt_val (pe_call G__law_told (hr.mono (by omega)) (by rfl) g__law_told k__law_told b__law_told .nil pass0 (pa_cons (pe_cmpR (op_eqOwn EqW.find EqW.fn GE (hr.mono (by omega)) bE pass0) (pe_make M GW (hr.mono (by omega)) (by rfl) gW bW .nil passL (pa_cons (pv 3) pa_nil)) (pe_make M GW (hr.mono (by omega)) (by rfl) gW bW .nil passL (pa_cons (pv 4) pa_nil)) (nomark _)) (pa_cons (pe_cmpR op_eq (pv 3) (pv 4) (nomark _)) pa_nil))))) (pss_one (ps_ret pe_bl)) pss_nil))))))))
      (pss_one (ps_ret (pe_or (pe_cmpR op_gt (pe_call G__law_draw (hr.mono (by omega)) (by rfl) g__law_draw k__law_draw b__law_draw .nil pass0 (pa_cons (pv 1) (pa_cons pe_int pa_nil))) pe_int (nomark _)) (pe_one (pe_call G__law_long_right (hr.mono (by omega)) (by rfl) g__law_long_right k__law_long_right b__law_long_right .nil pass0 (pa_cons (pv 1) pa_nil)))))))), ?_⟩
    refine ⟨.ref a, rfl, a, ns, rfl, hS, fun p l H1 np nl s1 p1 => ?_⟩
    have t1 := tabs_same tabs s1
    refine ⟨9, rfl, by decide, by decide, for_range (lo := 0) (n := 9) (fun i σ H' => ∃ y2 y3 y4 y5, σ = [some (.ref a), some (.ref p), y2, y3, y4, y5] ∧ PenQ l (43 * (i : Int)) H' p ∧ LamX.Tabs T H')
      ⟨none, none, none, none, rfl, p1.mono (by decide), t1⟩ (fun i σ H2 hi hPv => ?_) (fun σ H2 hPv => ?_)⟩
    · obtain ⟨y2, y3, y4, y5, rfl, p2, t2⟩ := hPv
      refine ⟨.ref p, rfl, p, l, _, 12, rfl, p2, by decide, by decide, by omega, fun z H3 rz k3 p3 => ?_⟩
      obtain ⟨fz, lz⟩ := rz
      have fz : Fine z.cps.toList := (fine_iff _).mp fz
      have lz : z.length ≤ 12 := lz
      have t3 := tabs_keptQ t2 p2 k3
      refine ⟨.ref p, rfl, .str z, rfl, p, l, _, z, rfl, p3, by omega, fz, by omega, fun t H4 ft lt k4 p4 => ?_⟩
      have t4 := tabs_keptQ t3 p3 k4
      refine ⟨.str z, rfl, .str t, rfl, z, t, rfl, fz, ft, by omega, by omega, fun H5 s5 => ⟨true, rfl, iteF ?_⟩⟩
      refine ⟨.str t, rfl, .str z, rfl, t, z, rfl, ft, fz, by omega, by omega, fun H6 s6 => ⟨true, rfl, iteF ?_⟩⟩
      have p6 := p4.same (s5.trans s6)
      have t6 := tabs_same t4 (s5.trans s6)
      refine ⟨.ref p, rfl, .str z, rfl, p, l, _, z, rfl, p6, by omega, t6, fz, by omega, fun H7 k7 t7 p7 => ⟨true, rfl, iteF ?_⟩⟩
      refine ⟨.ref p, rfl, p, l, _, 6, rfl, p7, by decide, by decide, by omega, fun v H8 rv k8 p8 => ?_⟩
      obtain ⟨fv, lv⟩ := rv
      have fv : Fine v.cps.toList := (fine_iff _).mp fv
      have lv : v.length ≤ 6 := lv
      have t8 := tabs_keptQ t7 p7 k8
      refine fun x3 dx3 nx3 nd3 ne3 => make_q nx3 nd3 ne3 fv (by omega) fun H9 s9 w3 => ⟨rfl, ?_⟩
      have lS : ∀ {l1 l2 : List Nat} {m n : Nat}, l1.length ≤ m → l2.length ≤ n → (SB.T (strike (l1 ++ l2))).length ≤ m + n := fun {l1 l2 m n} h1 h2 => by
        have := len_strike (l1 ++ l2)
        rw [List.length_append] at this
        show (strike (l1 ++ l2)).length ≤ m + n
        omega
      have lz' : z.cps.toList.length ≤ 12 := lz
      have lt' : t.cps.toList.length ≤ 24 := by
        show t.length ≤ 24
        omega
      have lv' : v.cps.toList.length ≤ 6 := lv
      have l1 := lS lz' lt'
      have l2 := lS lt' lv'
      have f1 : Fine (SB.T (strike (z.cps.toList ++ t.cps.toList))).cps.toList := fine_strike (allL_app fz.1 ft.1)
      have f2 : Fine (SB.T (strike (t.cps.toList ++ v.cps.toList))).cps.toList := fine_strike (allL_app ft.1 fv.1)
      have l3 := lS l1 lv'
      have l4 := lS lz' l2
      refine ⟨.str z, rfl, fun x1 d1 n1 nd1 ne1 => make_q n1 nd1 ne1 fz (by omega) fun H10 s10 w1 => ⟨rfl, .str t, rfl, fun x2 d2 n2 nd2 ne2 => make_q n2 nd2 ne2 ft (by omega) fun H11 s11 w2 => ⟨rfl, mul_q (w1.same s11) w2 fz ft (by omega) (by omega) fun y1 H12 m12 s12 v1 => ?_⟩⟩⟩
      have w3 := w3.same (s10.trans (s11.trans s12))
      refine ⟨.ref x3, rfl, mul_q v1 w3 f1 fv (by omega) (by omega) fun y6 H13 m13 s13 v2 => ⟨.str z, rfl, fun x4 d4 n4 nd4 ne4 => make_q n4 nd4 ne4 fz (by omega) fun H14 s14 w4 => ⟨rfl, .str t, rfl, fun x5 d5 n5 nd5 ne5 => make_q n5 nd5 ne5 ft (by omega) fun H15 s15 w5 => ⟨rfl, .ref x3, rfl, ?_⟩⟩⟩⟩
      have w3 := w3.same (s13.trans (s14.trans s15))
      refine mul_q w5 w3 ft fv (by omega) (by omega) fun y7 H16 m16 s16 v3 => mul_q (w4.same (s15.trans s16)) v3 fz f2 (by omega) (by omega) fun y8 H17 m17 s17 v4 => ne_q (v2.same (s14.trans (s15.trans (s16.trans s17)))) v4 (fine_strike (allL_app f1.1 fv.1)) (fine_strike (allL_app fz.1 f2.1)) (by omega) (by omega) ?_ fun H18 s18 => ⟨_, rfl, iteF ?_⟩
      · refine congrArg SB.T ?_
        show strike (strike (z.cps.toList ++ t.cps.toList) ++ v.cps.toList) = strike (z.cps.toList ++ strike (t.cps.toList ++ v.cps.toList))
        rw [(strike_app (allL_app fz.1 ft.1) fv.1).1, (strike_app fz.1 (allL_app ft.1 fv.1)).2, List.append_assoc]
      have sE := s9.trans (s10.trans (s11.trans (s12.trans (s13.trans (s14.trans (s15.trans (s16.trans (s17.trans s18))))))))
      have p18 := p8.same sE
      have t18 := tabs_same t8 sE
      clear v1 v2 v3 v4 w1 w2 w3 w4 w5 s9 s10 s11 s12 s13 s14 s15 s16 s17 s18 sE
      refine ⟨.str z, rfl, fun x6 d6 n6 nd6 ne6 => make_q n6 nd6 ne6 fz (by omega) fun H19 s19 w6 => ⟨rfl, .str t, rfl, fun x7 d7 n7 nd7 ne7 => make_q n7 nd7 ne7 ft (by omega) fun H20 s20 w7 => ⟨rfl, ?_⟩⟩⟩
      have w6 := w6.same s20
      have w6' := w6
      obtain ⟨g6, h6⟩ := w6
      refine ⟨x6, g6, _, .ref CW, rfl, h6, isC_ty cl MO.ic w7, OO.nf, x6, z, .ref x7, rfl, w6', fz, by omega, .inl ⟨x7, t, rfl, w7, ft, by omega, fun H21 s21 => ⟨_, rfl, .str z, rfl, .str t, rfl, rfl, decide (z = t), ?_, true, rfl, iteF ?_⟩⟩⟩
      · have e : decide (V.str z = V.str t) = decide (z = t) := by
          by_cases h : z = t
          · rw [decide_eq_true h, decide_eq_true (congrArg V.str h)]
          · rw [decide_eq_false h, decide_eq_false fun q => h (V.str.inj q)]
        rw [e]
        rfl
      have sF := s19.trans (s20.trans s21)
      exact ⟨_, _, _, _, rfl, (p18.same sF).mono (by omega), tabs_same t18 sF⟩
    · obtain ⟨y2, y3, y4, y5, rfl, p2, t2⟩ := hPv
      refine ⟨.ref p, rfl, p, l, _, 9, rfl, p2, by decide, by decide, by decide, fun d H3 d0 d1 k3 p3 => ?_⟩
      have t3 := tabs_keptQ t2 p2 k3
      refine ⟨_, _, rfl, rfl, _, rfl, ite2 (fun e => ?_) (fun e => ?_)⟩
      · exact q _
      · exact ⟨.ref p, rfl, p, l, _, rfl, p3, by omega, t3, q⟩
end
end K02
-- K02Z
namespace K02
open PySem PySem.Spec PyProof.Rows L2 SB
theorem fits_kw {K : PySem.W.Frag} {f : Addr} {fd : FuncData} (F : Fun K "fits" "Word.fits" s_Word_fits f fd) : KBn K fd ["self", "other"] 1 ["other"] (fun us ws => us ++ ws) (fun vs zs => vs ++ zs) := by
  obtain ⟨oc, od, kV, doc, pm, an, cdv, ct, osl, rfl, lk, hcd⟩ := F.ex
  exact ⟨fun s us ws hX l1 l2 => match us, ws, l1, l2 with | [_], [_], _, _ => .of_eq rfl, fun r1 r2 => r1.append r2⟩
theorem all_mk {w : World} {K : PySem.W.Frag} {h : Heap} {mg : Str → Option Value} {fa : Addr} (X : K.In h) (G : h.Ns mainGlobals mg) (hfa : mg "law" = some (.ref fa))
    {CB CW : Addr} {tL tM : Tok} {f_first_fault : Addr} {od_first_fault an_first_fault : Option Addr} {sl_first_fault : Array (Option Value)} {oc_first_fault kV_first_fault dc_first_fault pm_first_fault ct_first_fault cd_first_fault : Value} {f_joined : Addr} {od_joined an_joined : Option Addr} {sl_joined : Array (Option Value)} {oc_joined kV_joined dc_joined pm_joined ct_joined cd_joined : Value} {f_undone : Addr} {od_undone an_undone : Option Addr} {sl_undone : Array (Option Value)} {oc_undone kV_undone dc_undone pm_undone ct_undone cd_undone : Value} {f__law_pen : Addr} {od__law_pen an__law_pen : Option Addr} {sl__law_pen : Array (Option Value)} {oc__law_pen kV__law_pen dc__law_pen pm__law_pen ct__law_pen cd__law_pen : Value} {f__law_draw : Addr} {od__law_draw an__law_draw : Option Addr} {sl__law_draw : Array (Option Value)} {oc__law_draw kV__law_draw dc__law_draw pm__law_draw ct__law_draw cd__law_draw : Value} {f__law_pick : Addr} {od__law_pick an__law_pick : Option Addr} {sl__law_pick : Array (Option Value)} {oc__law_pick kV__law_pick dc__law_pick pm__law_pick ct__law_pick cd__law_pick : Value} {f__law_heard : Addr} {od__law_heard an__law_heard : Option Addr} {sl__law_heard : Array (Option Value)} {oc__law_heard kV__law_heard dc__law_heard pm__law_heard ct__law_heard cd__law_heard : Value} {f__law_undo : Addr} {od__law_undo an__law_undo : Option Addr} {sl__law_undo : Array (Option Value)} {oc__law_undo kV__law_undo dc__law_undo pm__law_undo ct__law_undo cd__law_undo : Value} {f__law_row : Addr} {od__law_row an__law_row : Option Addr} {sl__law_row : Array (Option Value)} {oc__law_row kV__law_row dc__law_row pm__law_row ct__law_row cd__law_row : Value} {f__law_back : Addr} {od__law_back an__law_back : Option Addr} {sl__law_back : Array (Option Value)} {oc__law_back kV__law_back dc__law_back pm__law_back ct__law_back cd__law_back : Value} {f__law_struck : Addr} {od__law_struck an__law_struck : Option Addr} {sl__law_struck : Array (Option Value)} {oc__law_struck kV__law_struck dc__law_struck pm__law_struck ct__law_struck cd__law_struck : Value} {f__law_partner : Addr} {od__law_partner an__law_partner : Option Addr} {sl__law_partner : Array (Option Value)} {oc__law_partner kV__law_partner dc__law_partner pm__law_partner ct__law_partner cd__law_partner : Value} {f__law_told : Addr} {od__law_told an__law_told : Option Addr} {sl__law_told : Array (Option Value)} {oc__law_told kV__law_told dc__law_told pm__law_told ct__law_told cd__law_told : Value} {f__law_pair_right : Addr} {od__law_pair_right an__law_pair_right : Option Addr} {sl__law_pair_right : Array (Option Value)} {oc__law_pair_right kV__law_pair_right dc__law_pair_right pm__law_pair_right ct__law_pair_right cd__law_pair_right : Value} {f_law : Addr} {od_law an_law : Option Addr} {sl_law : Array (Option Value)} {oc_law kV_law dc_law pm_law ct_law cd_law : Value} {f__law_refused_right : Addr} {od__law_refused_right an__law_refused_right : Option Addr} {sl__law_refused_right : Array (Option Value)} {oc__law_refused_right kV__law_refused_right dc__law_refused_right pm__law_refused_right ct__law_refused_right : Value} {u__law_refused_right P__law_refused_right : Addr} {qc__law_refused_right : Value} {qd__law_refused_right : Option Addr} {qv__law_refused_right : Array Value} {qs__law_refused_right : Array (Option Value)} {f__law_long_right : Addr} {od__law_long_right an__law_long_right : Option Addr} {sl__law_long_right : Array (Option Value)} {oc__law_long_right kV__law_long_right dc__law_long_right pm__law_long_right ct__law_long_right : Value} {u__law_long_right P__law_long_right : Addr} {qc__law_long_right : Value} {qd__law_long_right : Option Addr} {qv__law_long_right : Array Value} {qs__law_long_right : Array (Option Value)} {f_TM f_BW f_WI f_WM f_WV f_WE f_WF : Addr} {CM : Addr} {nm_CM q_CM : Str} {N_CM : Addr} {bs_CM : List Value} {sn_CM : List Str} {sub_CM : List Value} {ab_CM : Bool} {col_CM : Option Bool} {dd_CM : Option Addr} {m0_CM m1_CM m2_CM m3_CM m5_CM : Option Value} {bm_CM : List Value} {C2 : Addr} {nm_C2 q_C2 : Str} {N_C2 : Addr} {bs_C2 : List Value} {sn_C2 : List Str} {sub_C2 : List Value} {ab_C2 : Bool} {col_C2 : Option Bool} {dd_C2 : Option Addr} {m0_C2 m1_C2 m2_C2 m3_C2 m5_C2 : Option Value} {bm_C2 : List Value} {nmW qW : Str} {NW : Addr} {bsW : List Value} {hdW : Bool} {snW : List Str} {subW : List Value} {abW : Bool} {colW : Option Bool} {ddW : Option Addr} {w0 w1 w2 w3 w5 : Option Value} {newW : String} {fo_NoneType ro_NoneType : Option Value} {fo_int ro_int : Option Value} {fo_str ro_str : Option Value} {fo_list ro_list : Option Value} {fo_tuple ro_tuple : Option Value} {fo_bool ro_bool : Option Value}  {od_TM an_TM : Option Addr} {sl_TM : Array (Option Value)} {oc_TM kV_TM dc_TM pm_TM ct_TM cd_TM : Value}  {od_BW an_BW : Option Addr} {sl_BW : Array (Option Value)} {oc_BW kV_BW dc_BW pm_BW ct_BW cd_BW : Value}  {od_WI an_WI : Option Addr} {sl_WI : Array (Option Value)} {oc_WI kV_WI dc_WI pm_WI ct_WI cd_WI : Value} {T_WI : Addr} {nT_WI : Nat} {cT_WI : Value} {dT_WI : Option Addr} {sT_WI : Array (Option Value)} {tt_WI : Tok}  {od_WM an_WM : Option Addr} {sl_WM : Array (Option Value)} {oc_WM kV_WM dc_WM pm_WM ct_WM cd_WM : Value}  {od_WV an_WV : Option Addr} {sl_WV : Array (Option Value)} {oc_WV kV_WV dc_WV pm_WV ct_WV cd_WV : Value}  {od_WE an_WE : Option Addr} {sl_WE : Array (Option Value)} {oc_WE kV_WE dc_WE pm_WE ct_WE cd_WE : Value}  {od_WF an_WF : Option Addr} {sl_WF : Array (Option Value)} {oc_WF kV_WF dc_WF pm_WF ct_WF cd_WF : Value}
    (g_CB : PySem.W.nsIn K mainGlobals "BallError" = some (some (.ref CB)))
    (g_CW : PySem.W.nsIn K mainGlobals "Word" = some (some (.ref CW)))
    (g_L : PySem.W.nsIn K mainGlobals "LETTERS" = some (some (.str "ABCDabcd" tL)))
    (g_M : PySem.W.nsIn K mainGlobals "MOST_LETTERS" = some (some (.int 4000 tM)))
    (z_len : PySem.W.nsIn K mainGlobals "len" = some none)
    (z_isinstance : PySem.W.nsIn K mainGlobals "isinstance" = some none)
    (z_str : PySem.W.nsIn K mainGlobals "str" = some none)
    (z_int : PySem.W.nsIn K mainGlobals "int" = some none)
    (z_range : PySem.W.nsIn K mainGlobals "range" = some none)
    (z_abs : PySem.W.nsIn K mainGlobals "abs" = some none)
    (z_list : PySem.W.nsIn K mainGlobals "list" = some none)
    (z_enumerate : PySem.W.nsIn K mainGlobals "enumerate" = some none)
    (z_max : PySem.W.nsIn K mainGlobals "max" = some none)
    (z_min : PySem.W.nsIn K mainGlobals "min" = some none)
    (cg : PySem.W.specialIn K (.builtin "object.__class__") "__get__" = some (some (.builtin "getset_descriptor.__get__")))
    (ct : PySem.W.takesIn K (.builtin "object.__class__") = some true)
    (a_first_fault : PySem.W.nsIn K mainGlobals "first_fault" = some (some (.ref f_first_fault)))
    (l_first_fault : K.lookup f_first_fault = some ⟨oc_first_fault, od_first_fault, .func (PySem.W.fnOf "first_fault" "first_fault" (defArgs s_first_fault) (defBody s_first_fault) (defScope s_first_fault) .none kV_first_fault dc_first_fault pm_first_fault an_first_fault cd_first_fault ct_first_fault), sl_first_fault⟩)
    (c_first_fault : PySem.W.codeIn K cd_first_fault "first_fault" = true)
    (k_first_fault : PySem.W.keepIn K (.ref f_first_fault) = true)
    (a_joined : PySem.W.nsIn K mainGlobals "joined" = some (some (.ref f_joined)))
    (l_joined : K.lookup f_joined = some ⟨oc_joined, od_joined, .func (PySem.W.fnOf "joined" "joined" (defArgs s_joined) (defBody s_joined) (defScope s_joined) .none kV_joined dc_joined pm_joined an_joined cd_joined ct_joined), sl_joined⟩)
    (c_joined : PySem.W.codeIn K cd_joined "joined" = true)
    (k_joined : PySem.W.keepIn K (.ref f_joined) = true)
    (a_undone : PySem.W.nsIn K mainGlobals "undone" = some (some (.ref f_undone)))
    (l_undone : K.lookup f_undone = some ⟨oc_undone, od_undone, .func (PySem.W.fnOf "undone" "undone" (defArgs s_undone) (defBody s_undone) (defScope s_undone) .none kV_undone dc_undone pm_undone an_undone cd_undone ct_undone), sl_undone⟩)
    (c_undone : PySem.W.codeIn K cd_undone "undone" = true)
    (k_undone : PySem.W.keepIn K (.ref f_undone) = true)
    (a__law_pen : PySem.W.nsIn K mainGlobals "_law_pen" = some (some (.ref f__law_pen)))
    (l__law_pen : K.lookup f__law_pen = some ⟨oc__law_pen, od__law_pen, .func (PySem.W.fnOf "_law_pen" "_law_pen" (defArgs s__law_pen) (defBody s__law_pen) (defScope s__law_pen) .none kV__law_pen dc__law_pen pm__law_pen an__law_pen cd__law_pen ct__law_pen), sl__law_pen⟩)
    (c__law_pen : PySem.W.codeIn K cd__law_pen "_law_pen" = true)
    (k__law_pen : PySem.W.keepIn K (.ref f__law_pen) = true)
    (a__law_draw : PySem.W.nsIn K mainGlobals "_law_draw" = some (some (.ref f__law_draw)))
    (l__law_draw : K.lookup f__law_draw = some ⟨oc__law_draw, od__law_draw, .func (PySem.W.fnOf "_law_draw" "_law_draw" (defArgs s__law_draw) (defBody s__law_draw) (defScope s__law_draw) .none kV__law_draw dc__law_draw pm__law_draw an__law_draw cd__law_draw ct__law_draw), sl__law_draw⟩)
    (c__law_draw : PySem.W.codeIn K cd__law_draw "_law_draw" = true)
    (k__law_draw : PySem.W.keepIn K (.ref f__law_draw) = true)
    (a__law_pick : PySem.W.nsIn K mainGlobals "_law_pick" = some (some (.ref f__law_pick)))
    (l__law_pick : K.lookup f__law_pick = some ⟨oc__law_pick, od__law_pick, .func (PySem.W.fnOf "_law_pick" "_law_pick" (defArgs s__law_pick) (defBody s__law_pick) (defScope s__law_pick) .none kV__law_pick dc__law_pick pm__law_pick an__law_pick cd__law_pick ct__law_pick), sl__law_pick⟩)
    (c__law_pick : PySem.W.codeIn K cd__law_pick "_law_pick" = true)
    (k__law_pick : PySem.W.keepIn K (.ref f__law_pick) = true)
    (a__law_heard : PySem.W.nsIn K mainGlobals "_law_heard" = some (some (.ref f__law_heard)))
    (l__law_heard : K.lookup f__law_heard = some ⟨oc__law_heard, od__law_heard, .func (PySem.W.fnOf "_law_heard" "_law_heard" (defArgs s__law_heard) (defBody s__law_heard) (defScope s__law_heard) .none kV__law_heard dc__law_heard pm__law_heard an__law_heard cd__law_heard ct__law_heard), sl__law_heard⟩)
    (c__law_heard : PySem.W.codeIn K cd__law_heard "_law_heard" = true)
    (k__law_heard : PySem.W.keepIn K (.ref f__law_heard) = true)
    (a__law_undo : PySem.W.nsIn K mainGlobals "_law_undo" = some (some (.ref f__law_undo)))
    (l__law_undo : K.lookup f__law_undo = some ⟨oc__law_undo, od__law_undo, .func (PySem.W.fnOf "_law_undo" "_law_undo" (defArgs s__law_undo) (defBody s__law_undo) (defScope s__law_undo) .none kV__law_undo dc__law_undo pm__law_undo an__law_undo cd__law_undo ct__law_undo), sl__law_undo⟩)
    (c__law_undo : PySem.W.codeIn K cd__law_undo "_law_undo" = true)
    (k__law_undo : PySem.W.keepIn K (.ref f__law_undo) = true)
    (a__law_row : PySem.W.nsIn K mainGlobals "_law_row" = some (some (.ref f__law_row)))
    (l__law_row : K.lookup f__law_row = some ⟨oc__law_row, od__law_row, .func (PySem.W.fnOf "_law_row" "_law_row" (defArgs s__law_row) (defBody s__law_row) (defScope s__law_row) .none kV__law_row dc__law_row pm__law_row an__law_row cd__law_row ct__law_row), sl__law_row⟩)
    (c__law_row : PySem.W.codeIn K cd__law_row "_law_row" = true)
    (k__law_row : PySem.W.keepIn K (.ref f__law_row) = true)
    (a__law_back : PySem.W.nsIn K mainGlobals "_law_back" = some (some (.ref f__law_back)))
    (l__law_back : K.lookup f__law_back = some ⟨oc__law_back, od__law_back, .func (PySem.W.fnOf "_law_back" "_law_back" (defArgs s__law_back) (defBody s__law_back) (defScope s__law_back) .none kV__law_back dc__law_back pm__law_back an__law_back cd__law_back ct__law_back), sl__law_back⟩)
    (c__law_back : PySem.W.codeIn K cd__law_back "_law_back" = true)
    (k__law_back : PySem.W.keepIn K (.ref f__law_back) = true)
    (a__law_struck : PySem.W.nsIn K mainGlobals "_law_struck" = some (some (.ref f__law_struck)))
    (l__law_struck : K.lookup f__law_struck = some ⟨oc__law_struck, od__law_struck, .func (PySem.W.fnOf "_law_struck" "_law_struck" (defArgs s__law_struck) (defBody s__law_struck) (defScope s__law_struck) .none kV__law_struck dc__law_struck pm__law_struck an__law_struck cd__law_struck ct__law_struck), sl__law_struck⟩)
    (c__law_struck : PySem.W.codeIn K cd__law_struck "_law_struck" = true)
    (k__law_struck : PySem.W.keepIn K (.ref f__law_struck) = true)
    (a__law_partner : PySem.W.nsIn K mainGlobals "_law_partner" = some (some (.ref f__law_partner)))
    (l__law_partner : K.lookup f__law_partner = some ⟨oc__law_partner, od__law_partner, .func (PySem.W.fnOf "_law_partner" "_law_partner" (defArgs s__law_partner) (defBody s__law_partner) (defScope s__law_partner) .none kV__law_partner dc__law_partner pm__law_partner an__law_partner cd__law_partner ct__law_partner), sl__law_partner⟩)
    (c__law_partner : PySem.W.codeIn K cd__law_partner "_law_partner" = true)
    (k__law_partner : PySem.W.keepIn K (.ref f__law_partner) = true)
    (a__law_told : PySem.W.nsIn K mainGlobals "_law_told" = some (some (.ref f__law_told)))
    (l__law_told : K.lookup f__law_told = some ⟨oc__law_told, od__law_told, .func (PySem.W.fnOf "_law_told" "_law_told" (defArgs s__law_told) (defBody s__law_told) (defScope s__law_told) .none kV__law_told dc__law_told pm__law_told an__law_told cd__law_told ct__law_told), sl__law_told⟩)
    (c__law_told : PySem.W.codeIn K cd__law_told "_law_told" = true)
    (k__law_told : PySem.W.keepIn K (.ref f__law_told) = true)
    (a__law_pair_right : PySem.W.nsIn K mainGlobals "_law_pair_right" = some (some (.ref f__law_pair_right)))
    (l__law_pair_right : K.lookup f__law_pair_right = some ⟨oc__law_pair_right, od__law_pair_right, .func (PySem.W.fnOf "_law_pair_right" "_law_pair_right" (defArgs s__law_pair_right) (defBody s__law_pair_right) (defScope s__law_pair_right) .none kV__law_pair_right dc__law_pair_right pm__law_pair_right an__law_pair_right cd__law_pair_right ct__law_pair_right), sl__law_pair_right⟩)
    (c__law_pair_right : PySem.W.codeIn K cd__law_pair_right "_law_pair_right" = true)
    (k__law_pair_right : PySem.W.keepIn K (.ref f__law_pair_right) = true)
    (a_law : PySem.W.nsIn K mainGlobals "law" = some (some (.ref f_law)))
    (l_law : K.lookup f_law = some ⟨oc_law, od_law, .func (PySem.W.fnOf "law" "law" (defArgs s_law) (defBody s_law) (defScope s_law) .none kV_law dc_law pm_law an_law cd_law ct_law), sl_law⟩)
    (c_law : PySem.W.codeIn K cd_law "law" = true)
    (k_law : PySem.W.keepIn K (.ref f_law) = true)
    (a__law_refused_right : PySem.W.nsIn K mainGlobals "_law_refused_right" = some (some (.ref f__law_refused_right)))
    (l__law_refused_right : K.lookup f__law_refused_right = some ⟨oc__law_refused_right, od__law_refused_right, .func (PySem.W.fnOf "_law_refused_right" "_law_refused_right" (defArgs s__law_refused_right) (defBody s__law_refused_right) (defScope s__law_refused_right) .none kV__law_refused_right dc__law_refused_right pm__law_refused_right an__law_refused_right (.ref u__law_refused_right) ct__law_refused_right), sl__law_refused_right⟩)
    (c__law_refused_right : PySem.W.codeIn K (.ref u__law_refused_right) "_law_refused_right" = true)
    (k__law_refused_right : PySem.W.keepIn K (.ref f__law_refused_right) = true)
    (q__law_refused_right : K.lookup u__law_refused_right = some ⟨qc__law_refused_right, qd__law_refused_right, .fields qv__law_refused_right, qs__law_refused_right⟩)
    (p__law_refused_right : (qv__law_refused_right[11]? : Option Value) = some (.ref P__law_refused_right))
    (h__law_refused_right : PySem.W.codeHdIn K u__law_refused_right P__law_refused_right = true)
    (n__law_refused_right : K.lookup P__law_refused_right = none)
    (t__law_refused_right : h.get? P__law_refused_right = some { cls := .none, data := .fields #[] })
    (a__law_long_right : PySem.W.nsIn K mainGlobals "_law_long_right" = some (some (.ref f__law_long_right)))
    (l__law_long_right : K.lookup f__law_long_right = some ⟨oc__law_long_right, od__law_long_right, .func (PySem.W.fnOf "_law_long_right" "_law_long_right" (defArgs s__law_long_right) (defBody s__law_long_right) (defScope s__law_long_right) .none kV__law_long_right dc__law_long_right pm__law_long_right an__law_long_right (.ref u__law_long_right) ct__law_long_right), sl__law_long_right⟩)
    (c__law_long_right : PySem.W.codeIn K (.ref u__law_long_right) "_law_long_right" = true)
    (k__law_long_right : PySem.W.keepIn K (.ref f__law_long_right) = true)
    (q__law_long_right : K.lookup u__law_long_right = some ⟨qc__law_long_right, qd__law_long_right, .fields qv__law_long_right, qs__law_long_right⟩)
    (p__law_long_right : (qv__law_long_right[11]? : Option Value) = some (.ref P__law_long_right))
    (h__law_long_right : PySem.W.codeHdIn K u__law_long_right P__law_long_right = true)
    (n__law_long_right : K.lookup P__law_long_right = none)
    (t__law_long_right : h.get? P__law_long_right = some { cls := .none, data := .fields #[] })
    (g_CM : PySem.W.nsIn K mainGlobals "TooMany" = some (some (.ref CM)))
    (x_CM : K.lookup CM = some (excClassObj nm_CM q_CM CM N_CM bs_CM bm_CM true sn_CM sub_CM ab_CM col_CM dd_CM m0_CM m1_CM m2_CM m3_CM m5_CM "ValueError.__new__"))
    (bm1_CM : PySem.HandSPX.refsVE bm_CM = true)
    (sa_CM : PySem.W.findIn K (.ref CM) "__setattr__" = some (some (.builtin "object.__setattr__")))
    (ex_CM : PySem.W.subIn K (.ref CM) (.type "BaseException") = some true)
    (ty_CM : PySem.W.typeIn K (.ref CM) = some (.type "type"))
    (kC_CM : PySem.W.keepIn K (.ref CM) = true)
    (cs_CM : (PySem.W.clsIn K CM).isSome = true)
    (ow_CM : PySem.W.hasDictIn K CM = true)
    (ga_CM : PySem.W.findIn K (.ref CM) "__getattribute__" = some (some (.builtin "BaseException.__getattribute__")))
    (gt_CM : PySem.W.findIn K (.ref CM) "__getattr__" = some none)
    (ca_CM : PySem.W.findIn K (.ref CM) "__class__" = some (some (.builtin "object.__class__")))
    (mr_CM : PySem.W.mroIn K CM (.type "object") = some true)
    (ii_CM : PySem.W.findIn K (.ref CM) "__init__" = some (some (.ref f_TM)))
    (no_CM : PySem.W.findIn K (.ref CM) "what" = some none)
    (xm_CM : PySem.W.exmOne K (.ref CM) (.ref CB) = some true)
    (ti_CM : PySem.W.typeIn K (.ref f_TM) = some (.type "function"))
    (ng_CM : PySem.W.findIn K (.ref CM) "most" = some none)
    (g_C2 : PySem.W.nsIn K mainGlobals "BadWord" = some (some (.ref C2)))
    (x_C2 : K.lookup C2 = some (excClassObj nm_C2 q_C2 C2 N_C2 bs_C2 bm_C2 true sn_C2 sub_C2 ab_C2 col_C2 dd_C2 m0_C2 m1_C2 m2_C2 m3_C2 m5_C2 "ValueError.__new__"))
    (bm1_C2 : PySem.HandSPX.refsVE bm_C2 = true)
    (sa_C2 : PySem.W.findIn K (.ref C2) "__setattr__" = some (some (.builtin "object.__setattr__")))
    (ex_C2 : PySem.W.subIn K (.ref C2) (.type "BaseException") = some true)
    (ty_C2 : PySem.W.typeIn K (.ref C2) = some (.type "type"))
    (kC_C2 : PySem.W.keepIn K (.ref C2) = true)
    (cs_C2 : (PySem.W.clsIn K C2).isSome = true)
    (ow_C2 : PySem.W.hasDictIn K C2 = true)
    (ga_C2 : PySem.W.findIn K (.ref C2) "__getattribute__" = some (some (.builtin "BaseException.__getattribute__")))
    (gt_C2 : PySem.W.findIn K (.ref C2) "__getattr__" = some none)
    (ca_C2 : PySem.W.findIn K (.ref C2) "__class__" = some (some (.builtin "object.__class__")))
    (mr_C2 : PySem.W.mroIn K C2 (.type "object") = some true)
    (ii_C2 : PySem.W.findIn K (.ref C2) "__init__" = some (some (.ref f_BW)))
    (no_C2 : PySem.W.findIn K (.ref C2) "at" = some none)
    (xm_C2 : PySem.W.exmOne K (.ref C2) (.ref CB) = some true)
    (ti_C2 : PySem.W.typeIn K (.ref f_BW) = some (.type "function"))
    (w_pg : PySem.W.plainGet K CW Str.empty = true)
    (w_hd : PySem.W.hasDictIn K CW = true)
    (w_po : PySem.W.plainOver K CW = true)
    (w_sa : PySem.W.findIn K (.ref CW) "__setattr__" = some (some (.builtin "object.__setattr__")))
    (w_ca : PySem.W.findIn K (.ref CW) "__class__" = some (some (.builtin "object.__class__")))
    (w_mr : PySem.W.mroIn K CW (.type "object") = some true)
    (w_ns : PySem.W.kitOne K (.ref CW) (.type "str") = some false)
    (w_na : PySem.W.findIn K (.ref CW) "letters" = some none)
    (w_mk : PySem.W.makesIn K CW = true)
    (w_ii : PySem.W.findIn K (.ref CW) "__init__" = some (some (.ref f_WI)))
    (w_if : PySem.W.isFn K (.ref f_WI) = true)
    (w_kp : PySem.W.keepIn K (.ref CW) = true)
    (w_ob : K.lookup CW = some (excClassObj nmW qW CW NW bsW [.type "object"] hdW snW subW abW colW ddW w0 w1 w2 w3 w5 newW))
    (w_nk : PySem.W.nsOkIn K NW = true)
    (w_e1 : PySem.W.nsIn K NW "__eq__" = some (some (.ref f_WE)))
    (w_e2 : PySem.W.nsIn K NW "__ne__" = some none)
    (w_ef : PySem.W.findIn K (.ref CW) "__eq__" = some (some (.ref f_WE)))
    (w_en : PySem.W.isFn K (.ref f_WE) = true)
    (w_mf : PySem.W.findIn K (.ref CW) "__mul__" = some (some (.ref f_WM)))
    (w_mn : PySem.W.isFn K (.ref f_WM) = true)
    (w_vf : PySem.W.findIn K (.ref CW) "__invert__" = some (some (.ref f_WV)))
    (w_vn : PySem.W.isFn K (.ref f_WV) = true)
    (w_ff : PySem.W.findIn K (.ref CW) "fits" = some (some (.ref f_WF)))
    (w_fn : PySem.W.isFn K (.ref f_WF) = true)
    (w_rm : PySem.W.findIn K (.ref CW) "__rmul__" = some none)
    (w_fi : PySem.W.selfFirst K CW = true)
    (w_nf : PySem.W.notFirst K CW (.ref CW) = true)
    (o1_NoneType : PySem.W.findIn K (.type "NoneType") "__mul__" = some fo_NoneType)
    (o2_NoneType : PySem.W.findIn K (.type "NoneType") "__rmul__" = some ro_NoneType)
    (o3_NoneType : PySem.W.subIn K (.type "NoneType") (.ref CW) = some false)
    (o4_NoneType : PySem.W.kitOne K (.type "NoneType") (.ref CW) = some false)
    (o5_NoneType : PySem.W.notFirst K CW (.type "NoneType") = true)
    (o1_int : PySem.W.findIn K (.type "int") "__mul__" = some fo_int)
    (o2_int : PySem.W.findIn K (.type "int") "__rmul__" = some ro_int)
    (o3_int : PySem.W.subIn K (.type "int") (.ref CW) = some false)
    (o4_int : PySem.W.kitOne K (.type "int") (.ref CW) = some false)
    (o5_int : PySem.W.notFirst K CW (.type "int") = true)
    (o1_str : PySem.W.findIn K (.type "str") "__mul__" = some fo_str)
    (o2_str : PySem.W.findIn K (.type "str") "__rmul__" = some ro_str)
    (o3_str : PySem.W.subIn K (.type "str") (.ref CW) = some false)
    (o4_str : PySem.W.kitOne K (.type "str") (.ref CW) = some false)
    (o5_str : PySem.W.notFirst K CW (.type "str") = true)
    (o1_list : PySem.W.findIn K (.type "list") "__mul__" = some fo_list)
    (o2_list : PySem.W.findIn K (.type "list") "__rmul__" = some ro_list)
    (o3_list : PySem.W.subIn K (.type "list") (.ref CW) = some false)
    (o4_list : PySem.W.kitOne K (.type "list") (.ref CW) = some false)
    (o5_list : PySem.W.notFirst K CW (.type "list") = true)
    (o1_tuple : PySem.W.findIn K (.type "tuple") "__mul__" = some fo_tuple)
    (o2_tuple : PySem.W.findIn K (.type "tuple") "__rmul__" = some ro_tuple)
    (o3_tuple : PySem.W.subIn K (.type "tuple") (.ref CW) = some false)
    (o4_tuple : PySem.W.kitOne K (.type "tuple") (.ref CW) = some false)
    (o5_tuple : PySem.W.notFirst K CW (.type "tuple") = true)
    (o1_bool : PySem.W.findIn K (.type "bool") "__mul__" = some fo_bool)
    (o2_bool : PySem.W.findIn K (.type "bool") "__rmul__" = some ro_bool)
    (o3_bool : PySem.W.subIn K (.type "bool") (.ref CW) = some false)
    (o4_bool : PySem.W.kitOne K (.type "bool") (.ref CW) = some false)
    (o5_bool : PySem.W.notFirst K CW (.type "bool") = true)
    (l_TM : K.lookup f_TM = some ⟨oc_TM, od_TM, .func (PySem.W.fnOf "__init__" "TooMany.__init__" (defArgs s_TooMany_init) (defBody s_TooMany_init) (defScope s_TooMany_init) .none kV_TM dc_TM pm_TM an_TM cd_TM ct_TM), sl_TM⟩)
    (c_TM : PySem.W.codeIn K cd_TM "TooMany.__init__" = true)
    (k_TM : PySem.W.keepIn K (.ref f_TM) = true)
    (l_BW : K.lookup f_BW = some ⟨oc_BW, od_BW, .func (PySem.W.fnOf "__init__" "BadWord.__init__" (defArgs s_BadWord_init) (defBody s_BadWord_init) (defScope s_BadWord_init) .none kV_BW dc_BW pm_BW an_BW cd_BW ct_BW), sl_BW⟩)
    (c_BW : PySem.W.codeIn K cd_BW "BadWord.__init__" = true)
    (k_BW : PySem.W.keepIn K (.ref f_BW) = true)
    (l_WI : K.lookup f_WI = some ⟨oc_WI, od_WI, .func (PySem.W.fnOf "__init__" "Word.__init__" (defArgs s_Word_init) (defBody s_Word_init) (defScope s_Word_init) (.ref T_WI) kV_WI dc_WI pm_WI an_WI cd_WI ct_WI), sl_WI⟩)
    (d_WI : K.lookup T_WI = some ⟨cT_WI, dT_WI, .seq [.str "" tt_WI].toArray nT_WI, sT_WI⟩)
    (c_WI : PySem.W.codeIn K cd_WI "Word.__init__" = true)
    (k_WI : PySem.W.keepIn K (.ref f_WI) = true)
    (l_WM : K.lookup f_WM = some ⟨oc_WM, od_WM, .func (PySem.W.fnOf "__mul__" "Word.__mul__" (defArgs s_Word_mul) (defBody s_Word_mul) (defScope s_Word_mul) .none kV_WM dc_WM pm_WM an_WM cd_WM ct_WM), sl_WM⟩)
    (c_WM : PySem.W.codeIn K cd_WM "Word.__mul__" = true)
    (k_WM : PySem.W.keepIn K (.ref f_WM) = true)
    (l_WV : K.lookup f_WV = some ⟨oc_WV, od_WV, .func (PySem.W.fnOf "__invert__" "Word.__invert__" (defArgs s_Word_invert) (defBody s_Word_invert) (defScope s_Word_invert) .none kV_WV dc_WV pm_WV an_WV cd_WV ct_WV), sl_WV⟩)
    (c_WV : PySem.W.codeIn K cd_WV "Word.__invert__" = true)
    (k_WV : PySem.W.keepIn K (.ref f_WV) = true)
    (l_WE : K.lookup f_WE = some ⟨oc_WE, od_WE, .func (PySem.W.fnOf "__eq__" "Word.__eq__" (defArgs s_Word_eq) (defBody s_Word_eq) (defScope s_Word_eq) .none kV_WE dc_WE pm_WE an_WE cd_WE ct_WE), sl_WE⟩)
    (c_WE : PySem.W.codeIn K cd_WE "Word.__eq__" = true)
    (k_WE : PySem.W.keepIn K (.ref f_WE) = true)
    (l_WF : K.lookup f_WF = some ⟨oc_WF, od_WF, .func (PySem.W.fnOf "fits" "Word.fits" (defArgs s_Word_fits) (defBody s_Word_fits) (defScope s_Word_fits) .none kV_WF dc_WF pm_WF an_WF cd_WF ct_WF), sl_WF⟩)
    (c_WF : PySem.W.codeIn K cd_WF "Word.fits" = true)
    (k_WF : PySem.W.keepIn K (.ref f_WF) = true)
    (ne1 : P__law_refused_right ≠ P__law_long_right) :
    LamX.LawAtS PySem.Challenge.rw_sevenball_k02_products_and_undoings w K CX0 10 63 "script" mg fa h := by
  have e := hfa.symm.trans (PySem.W.mg_of X G a_law)
  cases e
  have F_first_fault := fun_mk (st := s_first_fault) l_first_fault c_first_fault k_first_fault
  have F_joined := fun_mk (st := s_joined) l_joined c_joined k_joined
  have F_undone := fun_mk (st := s_undone) l_undone c_undone k_undone
  have F__law_pen := fun_mk (st := s__law_pen) l__law_pen c__law_pen k__law_pen
  have F__law_draw := fun_mk (st := s__law_draw) l__law_draw c__law_draw k__law_draw
  have F__law_pick := fun_mk (st := s__law_pick) l__law_pick c__law_pick k__law_pick
  have F__law_heard := fun_mk (st := s__law_heard) l__law_heard c__law_heard k__law_heard
  have F__law_undo := fun_mk (st := s__law_undo) l__law_undo c__law_undo k__law_undo
  have F__law_row := fun_mk (st := s__law_row) l__law_row c__law_row k__law_row
  have F__law_back := fun_mk (st := s__law_back) l__law_back c__law_back k__law_back
  have F__law_struck := fun_mk (st := s__law_struck) l__law_struck c__law_struck k__law_struck
  have F__law_partner := fun_mk (st := s__law_partner) l__law_partner c__law_partner k__law_partner
  have F__law_told := fun_mk (st := s__law_told) l__law_told c__law_told k__law_told
  have F__law_pair_right := fun_mk (st := s__law_pair_right) l__law_pair_right c__law_pair_right k__law_pair_right
  have F_law := fun_mk (st := s_law) l_law c_law k_law
  have F_BW := fun_mk (st := s_BadWord_init) l_BW c_BW k_BW
  have F_TM := fun_mk (st := s_TooMany_init) l_TM c_TM k_TM
  have F_WM := fun_mk (st := s_Word_mul) l_WM c_WM k_WM
  have F_WV := fun_mk (st := s_Word_invert) l_WV c_WV k_WV
  have F_WE := fun_mk (st := s_Word_eq) l_WE c_WE k_WE
  have F_WF := fun_mk (st := s_Word_fits) l_WF c_WF k_WF
  have T__law_refused_right := funT_mk (st := s__law_refused_right) l__law_refused_right c__law_refused_right k__law_refused_right
  have T__law_long_right := funT_mk (st := s__law_long_right) l__law_long_right c__law_long_right k__law_long_right
  have F_WI : FunD K "__init__" "Word.__init__" (defArgs s_Word_init) (defBody s_Word_init) (defScope s_Word_init) [.str ""] [] f_WI _ :=
    ⟨⟨_, _, _, _, _, _, _, _, _, _, rfl, l_WI, c_WI, .inr ⟨fun z => (nomatch z), T_WI, _, _, _, rfl, d_WI, rfl, .cons ⟨_, rfl⟩ .nil⟩, .inl rfl⟩, k_WI⟩
  have E3 : Err2 K mg "TooMany" "what" "most" CM f_TM := { ox := ⟨⟨_, _, _, _, _, _, _, _, _, _, _, _, _, _, _, x_CM, bm1_CM⟩, sa_CM, ex_CM, ty_CM, kC_CM⟩, ec := ⟨cs_CM, ow_CM, ga_CM, gt_CM, ex_CM, ca_CM, cg, ct, mr_CM⟩, iC := ii_CM, tI := ti_CM, nf := no_CM, ng := ng_CM, at_ := PySem.W.mg_of X G g_CM }
  have E2 : Err1 K mg "BadWord" "at" C2 f_BW := { ox := ⟨⟨_, _, _, _, _, _, _, _, _, _, _, _, _, _, _, x_C2, bm1_C2⟩, sa_C2, ex_C2, ty_C2, kC_C2⟩, ec := ⟨cs_C2, ow_C2, ga_C2, gt_C2, ex_C2, ca_C2, cg, ct, mr_C2⟩, iC := ii_C2, tI := ti_C2, no := no_C2, at_ := PySem.W.mg_of X G g_C2 }
  have cl : Cls K CW := ⟨w_pg, w_hd, w_po, w_sa⟩
  have ic : IsC K CW := ⟨w_ca, cg, ct, w_mr, w_ns⟩
  have M : Mk K CW f_WI := ⟨w_mk, w_ii, w_if, w_kp⟩
  have EqW : EqC K CW f_WE := ⟨⟨_, _, _, _, _, _, _, _, _, _, _, _, _, _, _, _, w_ob, w_nk, w_e1, w_e2⟩, w_ef, w_en⟩
  have mF : Meth K CW "fits" f_WF := ⟨w_ff, w_fn, k_WF⟩
  have gW := PySem.W.mg_of X G g_CW
  have none := fun {x : Str} (z : PySem.W.nsIn K mainGlobals x = some Option.none) => PySem.W.mg_none_of X G z
  have m_len := none z_len
  have m_isinstance := none z_isinstance
  have m_str := none z_str
  have m_int := none z_int
  have m_range := none z_range
  have m_abs := none z_abs
  have m_list := none z_list
  have m_enumerate := none z_enumerate
  have m_max := none z_max
  have m_min := none z_min
  have mL : ∃ t, mg "LETTERS" = some (.str "ABCDabcd" t) := ⟨_, PySem.W.mg_of X G g_L⟩
  have mM : ∃ t, mg "MOST_LETTERS" = some (.int 4000 t) := ⟨_, PySem.W.mg_of X G g_M⟩
  have b_first_fault := F_first_fault.binds (ps := ["letters"]) fun _ _ _ _ _ _ us hl => match us, hl with | [_], _ => rfl
  have b_joined := F_joined.binds (ps := ["one", "other"]) fun _ _ _ _ _ _ us hl => match us, hl with | [_, _], _ => rfl
  have b_undone := F_undone.binds (ps := ["letters"]) fun _ _ _ _ _ _ us hl => match us, hl with | [_], _ => rfl
  have b__law_pen := F__law_pen.binds (ps := ["script"]) fun _ _ _ _ _ _ us hl => match us, hl with | [_], _ => rfl
  have b__law_draw := F__law_draw.binds (ps := ["pen", "many"]) fun _ _ _ _ _ _ us hl => match us, hl with | [_, _], _ => rfl
  have b__law_pick := F__law_pick.binds (ps := ["pen", "some"]) fun _ _ _ _ _ _ us hl => match us, hl with | [_, _], _ => rfl
  have b__law_heard := F__law_heard.binds (ps := ["ask"]) fun _ _ _ _ _ _ us hl => match us, hl with | [_], _ => rfl
  have b__law_undo := F__law_undo.binds (ps := ["letter"]) fun _ _ _ _ _ _ us hl => match us, hl with | [_], _ => rfl
  have b__law_row := F__law_row.binds (ps := ["pen", "most"]) fun _ _ _ _ _ _ us hl => match us, hl with | [_, _], _ => rfl
  have b__law_back := F__law_back.binds (ps := ["row"]) fun _ _ _ _ _ _ us hl => match us, hl with | [_], _ => rfl
  have b__law_struck := F__law_struck.binds (ps := ["row"]) fun _ _ _ _ _ _ us hl => match us, hl with | [_], _ => rfl
  have b__law_partner := F__law_partner.binds (ps := ["pen", "row"]) fun _ _ _ _ _ _ us hl => match us, hl with | [_, _], _ => rfl
  have b__law_told := F__law_told.binds (ps := ["told", "due"]) fun _ _ _ _ _ _ us hl => match us, hl with | [_, _], _ => rfl
  have b__law_pair_right := F__law_pair_right.binds (ps := ["one", "other"]) fun _ _ _ _ _ _ us hl => match us, hl with | [_, _], _ => rfl
  have b_law := F_law.binds (ps := ["script"]) fun _ _ _ _ _ _ us hl => match us, hl with | [_], _ => rfl
  have b__law_refused_right := T__law_refused_right.fn.binds (ps := ["pen", "one"]) fun _ _ _ _ _ _ us hl => match us, hl with | [_, _], _ => rfl
  have b__law_long_right := T__law_long_right.fn.binds (ps := ["pen"]) fun _ _ _ _ _ _ us hl => match us, hl with | [_], _ => rfl
  have b_BW := F_BW.binds (ps := ["self", "at"]) fun _ _ _ _ _ _ us hl => match us, hl with | [_, _], _ => rfl
  have b_TM := F_TM.binds (ps := ["self", "what", "most"]) fun _ _ _ _ _ _ us hl => match us, hl with | [_, _, _], _ => rfl
  have b_WM := F_WM.binds (ps := ["self", "other"]) fun _ _ _ _ _ _ us hl => match us, hl with | [_, _], _ => rfl
  have b_WV := F_WV.binds (ps := ["self"]) fun _ _ _ _ _ _ us hl => match us, hl with | [_], _ => rfl
  have b_WE := F_WE.binds (ps := ["self", "other"]) fun _ _ _ _ _ _ us hl => match us, hl with | [_, _], _ => rfl
  have b_WF := F_WF.binds (ps := ["self", "other"]) fun _ _ _ _ _ _ us hl => match us, hl with | [_, _], _ => rfl
  have kw_F := fits_kw F_WF
  obtain ⟨ds1, v1, b_WI⟩ := F_WI.binds1 (ps := ["self", "letters"]) 2 1 (fun z => (nomatch z)) rfl fun _ _ _ _ _ _ _ us its h1 h2 => match us, its, h1, h2 with | [_, _], [_], _, _ => ⟨_, rfl, rfl⟩
  obtain ⟨ds2, v2, b_WI0⟩ := F_WI.binds1 (ps := ["self", "letters"]) 1 0 (fun z => (nomatch z)) rfl fun _ _ _ _ _ _ _ us its h1 h2 => match us, its, h1, h2 with | [_], [_], _, _ => ⟨_, rfl, rfl⟩
  have n1 : ds1 = [] := by
    cases v1
    rfl
  subst n1
  obtain ⟨tE, rfl, rE⟩ : ∃ tE, ds2 = [tE] ∧ RelV (.str "") tE := by
    cases v2 with
    | cons r q =>
      cases q
      exact ⟨_, rfl, r⟩
  have xm2 := xm_C2
  have xm3 := xm_CM
  have OD : OddOk K CW := ⟨⟨⟨_, w_rm, .inl rfl⟩⟩, fun T hT => by
    simp only [List.mem_cons, List.not_mem_nil, or_false] at hT
    rcases hT with rfl | rfl | rfl | rfl | rfl | rfl
    · exact ⟨⟨⟨_, _, o1_NoneType, o2_NoneType⟩, o3_NoneType⟩, o4_NoneType, o5_NoneType⟩
    · exact ⟨⟨⟨_, _, o1_int, o2_int⟩, o3_int⟩, o4_int, o5_int⟩
    · exact ⟨⟨⟨_, _, o1_str, o2_str⟩, o3_str⟩, o4_str, o5_str⟩
    · exact ⟨⟨⟨_, _, o1_list, o2_list⟩, o3_list⟩, o4_list, o5_list⟩
    · exact ⟨⟨⟨_, _, o1_tuple, o2_tuple⟩, o3_tuple⟩, o4_tuple, o5_tuple⟩
    · exact ⟨⟨⟨_, _, o1_bool, o2_bool⟩, o3_bool⟩, o4_bool, o5_bool⟩⟩
  refine ⟨PySem.W.fnOf "law" "law" (defArgs s_law) (defBody s_law) (defScope s_law) .none kV_law dc_law pm_law an_law cd_law ct_law, [(u__law_refused_right, P__law_refused_right), (u__law_long_right, P__law_long_right)], spLaw K [(P__law_refused_right, lq "_law_refused_right"), (P__law_long_right, lq "_law_long_right")], ?_, ?_, ?_, fun s u => ?_, ?_, fun base kb nb tb => ?_⟩
  · intro p hp
    simp only [List.mem_cons, List.not_mem_nil, or_false] at hp
    rcases hp with rfl | rfl
    · exact t__law_refused_right
    · exact t__law_long_right
  · intro p hp
    simp only [List.mem_cons, List.not_mem_nil, or_false] at hp
    rcases hp with rfl | rfl
    · exact n__law_refused_right
    · exact n__law_long_right
  · intro p hp
    simp only [List.mem_cons, List.not_mem_nil, or_false] at hp
    rcases hp with rfl | rfl
    · exact PySem.W.codeHd_of_K X h__law_refused_right
    · exact PySem.W.codeHd_of_K X h__law_long_right
  · exact .of_eq rfl
  · intro H a ns _ _ hT hS
    refine ⟨a, ns, rfl, hS, ?_, fun _ => rfl⟩
    have one := fun p hp => hT p hp
    intro p hp
    simp only [List.mem_cons, List.not_mem_nil, or_false] at hp
    rcases hp with rfl | rfl
    · exact .nil (one (u__law_refused_right, P__law_refused_right) (by simp))
    · exact .nil (one (u__law_long_right, P__law_long_right) (by simp))
  · have in1 : (P__law_refused_right, lq "_law_refused_right") ∈ [(P__law_refused_right, lq "_law_refused_right"), (P__law_long_right, lq "_law_long_right")] := by simp
    have in2 : (P__law_long_right, lq "_law_long_right") ∈ [(P__law_refused_right, lq "_law_refused_right"), (P__law_long_right, lq "_law_long_right")] := by simp
    have un : ∀ q ∈ [(P__law_refused_right, lq "_law_refused_right"), (P__law_long_right, lq "_law_long_right")], (q.1 = P__law_refused_right → q.2 = lq "_law_refused_right") ∧ (q.1 = P__law_long_right → q.2 = lq "_law_long_right") := by
      intro q hq
      simp only [List.mem_cons, List.not_mem_nil, or_false] at hq
      rcases hq with rfl | rfl
      · exact ⟨fun _ => rfl, fun z => absurd z ne1⟩
      · exact ⟨fun z => absurd z.symm ne1, fun _ => rfl⟩
    have Hd : Heard K mg CB := ⟨⟨_, _, F__law_heard, b__law_heard, PySem.W.mg_of X G a__law_heard⟩, PySem.W.mg_of X G g_CB⟩
    have GW := ok_Word_init (P := PySem.Challenge.rw_sevenball_k02_products_and_undoings.prog) (w := w) (base := base) (k := 0) F_WI E2 F_BW b_BW E3 F_TM b_TM F_first_fault b_first_fault (PySem.W.mg_of X G a_first_fault) cl w_na m_isinstance m_str m_len m_enumerate mL mM
    have MO : MakeOk PySem.Challenge.rw_sevenball_k02_products_and_undoings.prog w K mg base CW C2 CM 0 := ⟨⟨_, _, _, M, GW, b_WI, b_WI0, rE⟩, gW, cl, ic, w_na⟩
    have GJ := ok_joined (P := PySem.Challenge.rw_sevenball_k02_products_and_undoings.prog) (w := w) (base := base) (k := 0) F_joined m_len m_min
    have GU := ok_undone (P := PySem.Challenge.rw_sevenball_k02_products_and_undoings.prog) (w := w) (base := base) (mg := mg) (k := 0) F_undone
    have GM := ok_Word_mul (P := PySem.Challenge.rw_sevenball_k02_products_and_undoings.prog) (w := w) (base := base) (k := 0) F_WM MO E2 F_BW b_BW GJ (PySem.W.mg_of X G a_joined) k_joined b_joined m_isinstance
    have GI := ok_Word_invert (P := PySem.Challenge.rw_sevenball_k02_products_and_undoings.prog) (w := w) (base := base) (k := 0) F_WV MO GU (PySem.W.mg_of X G a_undone) k_undone b_undone
    have GE := ok_Word_eq (P := PySem.Challenge.rw_sevenball_k02_products_and_undoings.prog) (w := w) (base := base) (k := 0) F_WE MO m_isinstance m_len
    have GF := ok_Word_fits (P := PySem.Challenge.rw_sevenball_k02_products_and_undoings.prog) (w := w) (base := base) (k := 0) F_WF MO E2 F_BW b_BW m_isinstance
    have OO : OpsOk PySem.Challenge.rw_sevenball_k02_products_and_undoings.prog w K mg base CW C2 CM 0 := ⟨w_fi, ⟨_, _, w_mf, w_mn, GM, b_WM⟩, ⟨_, _, w_vf, w_vn, GI, b_WV⟩, ⟨_, _, EqW, GE, b_WE⟩, ⟨_, _, mF, GF, b_WF, kw_F⟩, w_nf⟩
    have Gpen := ok_law_pen (P := PySem.Challenge.rw_sevenball_k02_products_and_undoings.prog) (w := w) (base := base) (k := 0) F__law_pen m_list
    have Gdraw1 := ok_law_draw (P := PySem.Challenge.rw_sevenball_k02_products_and_undoings.prog) (w := w) (base := base) (k := 0) F__law_draw m_int m_len m_abs
    have Gdraw2 := ok_law_draw (P := PySem.Challenge.rw_sevenball_k02_products_and_undoings.prog) (w := w) (base := base) (k := 1) F__law_draw m_int m_len m_abs
    have Gpick := ok_law_pick (P := PySem.Challenge.rw_sevenball_k02_products_and_undoings.prog) (w := w) (base := base) (k := 0) F__law_pick Gdraw1 (PySem.W.mg_of X G a__law_draw) k__law_draw b__law_draw m_len
    have Gundo := ok_law_undo (P := PySem.Challenge.rw_sevenball_k02_products_and_undoings.prog) (w := w) (base := base) (mg := mg) (k := 1) F__law_undo
    have Grow := ok_law_row (P := PySem.Challenge.rw_sevenball_k02_products_and_undoings.prog) (w := w) (base := base) (k := 0) F__law_row Gdraw2 (PySem.W.mg_of X G a__law_draw) k__law_draw b__law_draw Gpick (PySem.W.mg_of X G a__law_pick) k__law_pick b__law_pick Gundo (PySem.W.mg_of X G a__law_undo) k__law_undo b__law_undo m_range
    have Gback := ok_law_back (P := PySem.Challenge.rw_sevenball_k02_products_and_undoings.prog) (w := w) (base := base) (k := 1) F__law_back Gundo (PySem.W.mg_of X G a__law_undo) k__law_undo b__law_undo
    have Gstruck := ok_law_struck (P := PySem.Challenge.rw_sevenball_k02_products_and_undoings.prog) (w := w) (base := base) (k := 1) F__law_struck Gundo (PySem.W.mg_of X G a__law_undo) k__law_undo b__law_undo m_max m_len
    have Gpartner := ok_law_partner (P := PySem.Challenge.rw_sevenball_k02_products_and_undoings.prog) (w := w) (base := base) (k := 0) F__law_partner Gdraw2 (PySem.W.mg_of X G a__law_draw) k__law_draw b__law_draw Grow (PySem.W.mg_of X G a__law_row) k__law_row b__law_row Gback (PySem.W.mg_of X G a__law_back) k__law_back b__law_back Gstruck (PySem.W.mg_of X G a__law_struck) k__law_struck b__law_struck m_len
    have Gtold := ok_law_told (P := PySem.Challenge.rw_sevenball_k02_products_and_undoings.prog) (w := w) (base := base) (mg := mg) (k := 0) F__law_told
    have Gpair := ok_law_pair_right (k := 0) F__law_pair_right MO OO Gstruck (PySem.W.mg_of X G a__law_struck) k__law_struck b__law_struck Gback (PySem.W.mg_of X G a__law_back) k__law_back b__law_back Gtold (PySem.W.mg_of X G a__law_told) k__law_told b__law_told m_isinstance m_len
    have Gref := ok_law_refused_right (k := 0) T__law_refused_right Hd (tb (u__law_refused_right, P__law_refused_right) (by simp)) in1 (fun q hq => (un q hq).1) MO OO OD E2 xm2 Gpick (PySem.W.mg_of X G a__law_pick) k__law_pick b__law_pick m_isinstance
    have Glong := ok_law_long_right (k := 0) T__law_long_right Hd (tb (u__law_long_right, P__law_long_right) (by simp)) in2 (fun q hq => (un q hq).2) MO OO E3 xm3 Gpick (PySem.W.mg_of X G a__law_pick) k__law_pick b__law_pick Gdraw1 (PySem.W.mg_of X G a__law_draw) k__law_draw b__law_draw Gback (PySem.W.mg_of X G a__law_back) k__law_back b__law_back m_isinstance m_len
    exact ok_law (k := 0) F_law MO OO Gpen (PySem.W.mg_of X G a__law_pen) k__law_pen b__law_pen Gdraw1 (PySem.W.mg_of X G a__law_draw) k__law_draw b__law_draw Grow (PySem.W.mg_of X G a__law_row) k__law_row b__law_row Gpartner (PySem.W.mg_of X G a__law_partner) k__law_partner b__law_partner Gtold (PySem.W.mg_of X G a__law_told) k__law_told b__law_told Gpair (PySem.W.mg_of X G a__law_pair_right) k__law_pair_right b__law_pair_right Gref (PySem.W.mg_of X G a__law_refused_right) k__law_refused_right b__law_refused_right Glong (PySem.W.mg_of X G a__law_long_right) k__law_long_right b__law_long_right m_range
end K02
-- E02
open PySem PySem.W PyProof.Rows
set_option maxHeartbeats 0 in
theorem PySem.Challenge.cw_sevenball_k02_products_and_undoings_holds : PySem.Challenge.rw_sevenball_k02_products_and_undoings.Holds := by
  w_on; o_law; k_head; (case hw => w_witness2)
  k_fill
  refine LamX.walk_ofTs (l := PySem.Challenge.rw_sevenball_k02_products_and_undoings) (n := 63) (k := 10) (x := "script") (CX := fun _ => L2.CX0) rfl (by decide) rfl ⟨rfl, by decide, by decide⟩ (fun w h Y => PySem.W.km_in_of Y) ?F (fun _ _ _ _ _ h => h)
  case F =>
    intro w mg fa h Y KX G hmg
    refine' K02.all_mk KX G hmg ?g_CB ?g_CW ?g_L ?g_M ?z_len ?z_isinstance ?z_str ?z_int ?z_range ?z_abs ?z_list ?z_enumerate ?z_max ?z_min ?cg ?ct ?a_first_fault ?l_first_fault ?c_first_fault ?k_first_fault ?a_joined ?l_joined ?c_joined ?k_joined ?a_undone ?l_undone ?c_undone ?k_undone ?a__law_pen ?l__law_pen ?c__law_pen ?k__law_pen ?a__law_draw ?l__law_draw ?c__law_draw ?k__law_draw ?a__law_pick ?l__law_pick ?c__law_pick ?k__law_pick ?a__law_heard ?l__law_heard ?c__law_heard ?k__law_heard ?a__law_undo ?l__law_undo ?c__law_undo ?k__law_undo ?a__law_row ?l__law_row ?c__law_row ?k__law_row ?a__law_back ?l__law_back ?c__law_back ?k__law_back ?a__law_struck ?l__law_struck ?c__law_struck ?k__law_struck ?a__law_partner ?l__law_partner ?c__law_partner ?k__law_partner ?a__law_told ?l__law_told ?c__law_told ?k__law_told ?a__law_pair_right ?l__law_pair_right ?c__law_pair_right ?k__law_pair_right ?a_law ?l_law ?c_law ?k_law ?a__law_refused_right ?l__law_refused_right ?c__law_refused_right ?k__law_refused_right ?q__law_refused_right ?p__law_refused_right ?h__law_refused_right ?n__law_refused_right ?t__law_refused_right ?a__law_long_right ?l__law_long_right ?c__law_long_right ?k__law_long_right ?q__law_long_right ?p__law_long_right ?h__law_long_right ?n__law_long_right ?t__law_long_right ?g_CM ?x_CM ?bm1_CM ?sa_CM ?ex_CM ?ty_CM ?kC_CM ?cs_CM ?ow_CM ?ga_CM ?gt_CM ?ca_CM ?mr_CM ?ii_CM ?no_CM ?xm_CM ?ti_CM ?ng_CM ?g_C2 ?x_C2 ?bm1_C2 ?sa_C2 ?ex_C2 ?ty_C2 ?kC_C2 ?cs_C2 ?ow_C2 ?ga_C2 ?gt_C2 ?ca_C2 ?mr_C2 ?ii_C2 ?no_C2 ?xm_C2 ?ti_C2 ?w_pg ?w_hd ?w_po ?w_sa ?w_ca ?w_mr ?w_ns ?w_na ?w_mk ?w_ii ?w_if ?w_kp ?w_ob ?w_nk ?w_e1 ?w_e2 ?w_ef ?w_en ?w_mf ?w_mn ?w_vf ?w_vn ?w_ff ?w_fn ?w_rm ?w_fi ?w_nf ?o1_NoneType ?o2_NoneType ?o3_NoneType ?o4_NoneType ?o5_NoneType ?o1_int ?o2_int ?o3_int ?o4_int ?o5_int ?o1_str ?o2_str ?o3_str ?o4_str ?o5_str ?o1_list ?o2_list ?o3_list ?o4_list ?o5_list ?o1_tuple ?o2_tuple ?o3_tuple ?o4_tuple ?o5_tuple ?o1_bool ?o2_bool ?o3_bool ?o4_bool ?o5_bool ?l_TM ?c_TM ?k_TM ?l_BW ?c_BW ?k_BW ?l_WI ?d_WI ?c_WI ?k_WI ?l_WM ?c_WM ?k_WM ?l_WV ?c_WV ?k_WV ?l_WE ?c_WE ?k_WE ?l_WF ?c_WF ?k_WF ?ne1
    (case g_CB => first | k_is | kernel_rfl)
    (case g_CW => first | k_is | kernel_rfl)
    (case g_L => first | k_is | kernel_rfl)
    (case g_M => first | k_is | kernel_rfl)
    (case z_len => first | k_is | kernel_rfl)
    (case z_isinstance => first | k_is | kernel_rfl)
    (case z_str => first | k_is | kernel_rfl)
    (case z_int => first | k_is | kernel_rfl)
    (case z_range => first | k_is | kernel_rfl)
    (case z_abs => first | k_is | kernel_rfl)
    (case z_list => first | k_is | kernel_rfl)
    (case z_enumerate => first | k_is | kernel_rfl)
    (case z_max => first | k_is | kernel_rfl)
    (case z_min => first | k_is | kernel_rfl)
    (case cg => first | k_is | kernel_rfl)
    (case ct => first | k_is | kernel_rfl)
    (case a_first_fault => first | k_is | kernel_rfl)
    (case l_first_fault => first | k_is | kernel_rfl)
    (case c_first_fault => first | k_is | kernel_rfl)
    (case k_first_fault => first | k_is | kernel_rfl)
    (case a_joined => first | k_is | kernel_rfl)
    (case l_joined => first | k_is | kernel_rfl)
    (case c_joined => first | k_is | kernel_rfl)
    (case k_joined => first | k_is | kernel_rfl)
    (case a_undone => first | k_is | kernel_rfl)
    (case l_undone => first | k_is | kernel_rfl)
    (case c_undone => first | k_is | kernel_rfl)
    (case k_undone => first | k_is | kernel_rfl)
    (case a__law_pen => first | k_is | kernel_rfl)
    (case l__law_pen => first | k_is | kernel_rfl)
    (case c__law_pen => first | k_is | kernel_rfl)
    (case k__law_pen => first | k_is | kernel_rfl)
    (case a__law_draw => first | k_is | kernel_rfl)
    (case l__law_draw => first | k_is | kernel_rfl)
    (case c__law_draw => first | k_is | kernel_rfl)
    (case k__law_draw => first | k_is | kernel_rfl)
    (case a__law_pick => first | k_is | kernel_rfl)
    (case l__law_pick => first | k_is | kernel_rfl)
    (case c__law_pick => first | k_is | kernel_rfl)
    (case k__law_pick => first | k_is | kernel_rfl)
    (case a__law_heard => first | k_is | kernel_rfl)
    (case l__law_heard => first | k_is | kernel_rfl)
    (case c__law_heard => first | k_is | kernel_rfl)
    (case k__law_heard => first | k_is | kernel_rfl)
    (case a__law_undo => first | k_is | kernel_rfl)
    (case l__law_undo => first | k_is | kernel_rfl)
    (case c__law_undo => first | k_is | kernel_rfl)
    (case k__law_undo => first | k_is | kernel_rfl)
    (case a__law_row => first | k_is | kernel_rfl)
    (case l__law_row => first | k_is | kernel_rfl)
    (case c__law_row => first | k_is | kernel_rfl)
    (case k__law_row => first | k_is | kernel_rfl)
    (case a__law_back => first | k_is | kernel_rfl)
    (case l__law_back => first | k_is | kernel_rfl)
    (case c__law_back => first | k_is | kernel_rfl)
    (case k__law_back => first | k_is | kernel_rfl)
    (case a__law_struck => first | k_is | kernel_rfl)
    (case l__law_struck => first | k_is | kernel_rfl)
    (case c__law_struck => first | k_is | kernel_rfl)
    (case k__law_struck => first | k_is | kernel_rfl)
    (case a__law_partner => first | k_is | kernel_rfl)
    (case l__law_partner => first | k_is | kernel_rfl)
    (case c__law_partner => first | k_is | kernel_rfl)
    (case k__law_partner => first | k_is | kernel_rfl)
    (case a__law_told => first | k_is | kernel_rfl)
    (case l__law_told => first | k_is | kernel_rfl)
    (case c__law_told => first | k_is | kernel_rfl)
    (case k__law_told => first | k_is | kernel_rfl)
    (case a__law_pair_right => first | k_is | kernel_rfl)
    (case l__law_pair_right => first | k_is | kernel_rfl)
    (case c__law_pair_right => first | k_is | kernel_rfl)
    (case k__law_pair_right => first | k_is | kernel_rfl)
    (case a_law => first | k_is | kernel_rfl)
    (case l_law => first | k_is | kernel_rfl)
    (case c_law => first | k_is | kernel_rfl)
    (case k_law => first | k_is | kernel_rfl)
    (case a__law_refused_right => first | k_is | kernel_rfl)
    (case l__law_refused_right => first | k_is | kernel_rfl)
    (case c__law_refused_right => first | k_is | kernel_rfl)
    (case k__law_refused_right => first | k_is | kernel_rfl)
    (case q__law_refused_right => first | k_is | kernel_rfl)
    (case p__law_refused_right => rfl)
    (case h__law_refused_right => first | k_is | kernel_rfl)
    (case n__law_refused_right => first | k_is | kernel_rfl)
    (case t__law_refused_right => exact PySem.W.km_tabs_of Y _ (by k_mem))
    (case a__law_long_right => first | k_is | kernel_rfl)
    (case l__law_long_right => first | k_is | kernel_rfl)
    (case c__law_long_right => first | k_is | kernel_rfl)
    (case k__law_long_right => first | k_is | kernel_rfl)
    (case q__law_long_right => first | k_is | kernel_rfl)
    (case p__law_long_right => rfl)
    (case h__law_long_right => first | k_is | kernel_rfl)
    (case n__law_long_right => first | k_is | kernel_rfl)
    (case t__law_long_right => exact PySem.W.km_tabs_of Y _ (by k_mem))
    (case g_CM => first | k_is | kernel_rfl)
    (case x_CM => first | k_is | kernel_rfl)
    (case bm1_CM => decide +kernel)
    (case sa_CM => first | k_is | kernel_rfl)
    (case ex_CM => first | k_is | kernel_rfl)
    (case ty_CM => first | k_is | kernel_rfl)
    (case kC_CM => first | k_is | kernel_rfl)
    (case cs_CM => first | k_is | kernel_rfl)
    (case ow_CM => first | k_is | kernel_rfl)
    (case ga_CM => first | k_is | kernel_rfl)
    (case gt_CM => first | k_is | kernel_rfl)
    (case ca_CM => first | k_is | kernel_rfl)
    (case mr_CM => first | k_is | kernel_rfl)
    (case ii_CM => first | k_is | kernel_rfl)
    (case no_CM => first | k_is | kernel_rfl)
    (case xm_CM => first | k_is | kernel_rfl)
    (case ti_CM => first | k_is | kernel_rfl)
    (case ng_CM => first | k_is | kernel_rfl)
    (case g_C2 => first | k_is | kernel_rfl)
    (case x_C2 => first | k_is | kernel_rfl)
    (case bm1_C2 => decide +kernel)
    (case sa_C2 => first | k_is | kernel_rfl)
    (case ex_C2 => first | k_is | kernel_rfl)
    (case ty_C2 => first | k_is | kernel_rfl)
    (case kC_C2 => first | k_is | kernel_rfl)
    (case cs_C2 => first | k_is | kernel_rfl)
    (case ow_C2 => first | k_is | kernel_rfl)
    (case ga_C2 => first | k_is | kernel_rfl)
    (case gt_C2 => first | k_is | kernel_rfl)
    (case ca_C2 => first | k_is | kernel_rfl)
    (case mr_C2 => first | k_is | kernel_rfl)
    (case ii_C2 => first | k_is | kernel_rfl)
    (case no_C2 => first | k_is | kernel_rfl)
    (case xm_C2 => first | k_is | kernel_rfl)
    (case ti_C2 => first | k_is | kernel_rfl)
    (case w_pg => first | k_is | kernel_rfl)
    (case w_hd => first | k_is | kernel_rfl)
    (case w_po => first | k_is | kernel_rfl)
    (case w_sa => first | k_is | kernel_rfl)
    (case w_ca => first | k_is | kernel_rfl)
    (case w_mr => first | k_is | kernel_rfl)
    (case w_ns => first | k_is | kernel_rfl)
    (case w_na => first | k_is | kernel_rfl)
    (case w_mk => first | k_is | kernel_rfl)
    (case w_ii => first | k_is | kernel_rfl)
    (case w_if => first | k_is | kernel_rfl)
    (case w_kp => first | k_is | kernel_rfl)
    (case w_ob => first | k_is | kernel_rfl)
    (case w_nk => first | k_is | kernel_rfl)
    (case w_e1 => first | k_is | kernel_rfl)
    (case w_e2 => first | k_is | kernel_rfl)
    (case w_ef => first | k_is | kernel_rfl)
    (case w_en => first | k_is | kernel_rfl)
    (case w_mf => first | k_is | kernel_rfl)
    (case w_mn => first | k_is | kernel_rfl)
    (case w_vf => first | k_is | kernel_rfl)
    (case w_vn => first | k_is | kernel_rfl)
    (case w_ff => first | k_is | kernel_rfl)
    (case w_fn => first | k_is | kernel_rfl)
    (case w_rm => first | k_is | kernel_rfl)
    (case w_fi => first | k_is | kernel_rfl)
    (case w_nf => first | k_is | kernel_rfl)
    (case o1_NoneType => first | k_is | kernel_rfl)
    (case o2_NoneType => first | k_is | kernel_rfl)
    (case o3_NoneType => first | k_is | kernel_rfl)
    (case o4_NoneType => first | k_is | kernel_rfl)
    (case o5_NoneType => first | k_is | kernel_rfl)
    (case o1_int => first | k_is | kernel_rfl)
    (case o2_int => first | k_is | kernel_rfl)
    (case o3_int => first | k_is | kernel_rfl)
    (case o4_int => first | k_is | kernel_rfl)
    (case o5_int => first | k_is | kernel_rfl)
    (case o1_str => first | k_is | kernel_rfl)
    (case o2_str => first | k_is | kernel_rfl)
    (case o3_str => first | k_is | kernel_rfl)
    (case o4_str => first | k_is | kernel_rfl)
    (case o5_str => first | k_is | kernel_rfl)
    (case o1_list => first | k_is | kernel_rfl)
    (case o2_list => first | k_is | kernel_rfl)
    (case o3_list => first | k_is | kernel_rfl)
    (case o4_list => first | k_is | kernel_rfl)
    (case o5_list => first | k_is | kernel_rfl)
    (case o1_tuple => first | k_is | kernel_rfl)
    (case o2_tuple => first | k_is | kernel_rfl)
    (case o3_tuple => first | k_is | kernel_rfl)
    (case o4_tuple => first | k_is | kernel_rfl)
    (case o5_tuple => first | k_is | kernel_rfl)
    (case o1_bool => first | k_is | kernel_rfl)
    (case o2_bool => first | k_is | kernel_rfl)
    (case o3_bool => first | k_is | kernel_rfl)
    (case o4_bool => first | k_is | kernel_rfl)
    (case o5_bool => first | k_is | kernel_rfl)
    (case l_TM => first | k_is | kernel_rfl)
    (case c_TM => first | k_is | kernel_rfl)
    (case k_TM => first | k_is | kernel_rfl)
    (case l_BW => first | k_is | kernel_rfl)
    (case c_BW => first | k_is | kernel_rfl)
    (case k_BW => first | k_is | kernel_rfl)
    (case l_WI => first | k_is | kernel_rfl)
    (case d_WI => first | k_is | kernel_rfl)
    (case c_WI => first | k_is | kernel_rfl)
    (case k_WI => first | k_is | kernel_rfl)
    (case l_WM => first | k_is | kernel_rfl)
    (case c_WM => first | k_is | kernel_rfl)
    (case k_WM => first | k_is | kernel_rfl)
    (case l_WV => first | k_is | kernel_rfl)
    (case c_WV => first | k_is | kernel_rfl)
    (case k_WV => first | k_is | kernel_rfl)
    (case l_WE => first | k_is | kernel_rfl)
    (case c_WE => first | k_is | kernel_rfl)
    (case k_WE => first | k_is | kernel_rfl)
    (case l_WF => first | k_is | kernel_rfl)
    (case c_WF => first | k_is | kernel_rfl)
    (case k_WF => first | k_is | kernel_rfl)
    (case ne1 => decide)
