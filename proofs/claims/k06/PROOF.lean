import PyProof.Rows.All
import PySem.Challenge.RW_sevenball_k06_texts_of_words
import HandS.ForMost
import HandS.Exc
import HandS.TryOnly
import HandS.ExcIs
import HandS.ExcField
import HandS.ExcInit
import HandS.IsInst
import HandS.Lambda
import HandS.EndTab
import KE.KExcIs
import KE.GoesMore
import HandS.Walk
import HandS.ClsMeth
import PyProof.InstNe
import KE.KCallOwn
import HandS.Style
import HandS.WordsExc
import HandS.Codes
import HandS.Defaults
import HandS.RaiseMore
import HandS.Replace
import PyProof.StrBlock2
import HandS.Text
set_option Elab.async false
set_option linter.all false
set_option maxRecDepth 100000
set_option maxHeartbeats 4000000
-- R1
namespace SB
open PySem PySem.Spec PyProof.Rows L2

/-! ### an error that was caught and is kept as a value -/
/-- at a: an error of the class at C; its own dict is at d -/
def ErrO (C d a : Addr) : HO := .ext fun h => ∃ (oe : Obj) (fv : Array Value),
  h.get? a = some oe ∧ oe.cls = .ref C ∧ oe.dict = some d ∧ oe.data = .fields fv
section
variable {X : Cx} {pins : List (Addr × Obj)} {σ : L2.St} {H : Hp} {s : Shared} {a C d : Addr} {oe : Obj} {fv : Array Value}
/-- what stands there untracked, made since the entry, is tracked from now on -/
theorem track_err (I : Inv X pins σ H s) (ha : s.heap.get? a = some oe) (hn : H a = none)
    (new : X.s_0.heap.get? a = none) (hc : oe.cls = .ref C) (hd : oe.dict = some d) (hf : oe.data = .fields fv)
    (nL : a ≠ X.env.locals) (np : ∀ p ∈ X.pn ++ pins, p.1 ≠ a) :
    Inv X pins σ (upd H a (ErrO C d a)) s := by
  have ne0 : ∀ b o, X.s_0.heap.get? b = some o → b ≠ a := fun b o e z => by
    rw [z, new] at e
    cases e
  have neH : ∀ b o, H b = some o → b ≠ a := fun b o e => ne_of_none e hn
  have neC : ∀ x c, X.env.cells.lookup x = some c → c ≠ a := fun x c e z => by
    obtain ⟨v, o, ho, hv⟩ := I.cell x c e
    rw [z, ha] at ho
    cases ho
    rw [hf] at hv
    cases hv
  have at_ : ∀ b, b ≠ a → upd H a (ErrO C d a) b = H b := fun b h => upd_ne h
  refine { ok := I.ok, os := I.os, bare := I.bare, base := ?_, loc := I.loc, cell := I.cell, free := ?_, freeC := ?_, pin := ?_, hok := ?_, len := I.len }
  · have u := I.base
    refine { keep := u.keep, slot := u.slot, free := ?_, there := u.there, tups := ?_, frzs := ?_, tbls := ?_ }
    · intro b o e n hx
      rw [at_ b (ne0 b o e)]
      exact u.free b o e n hx
    · intro b xs e
      have q := u.tups b xs e
      rw [at_ b (neH b _ q)]
      exact q
    · intro b o w e
      have q := u.frzs b o w e
      rw [at_ b (neH b _ q)]
      exact q
    · intro b ps e
      obtain ⟨m, q⟩ := u.tbls b ps e
      exact ⟨m, by rw [at_ b (neH b _ q)]; exact q⟩
  · rw [at_ _ (Ne.symm nL)]
    exact I.free
  · intro x c e
    rw [at_ c (neC x c e)]
    exact I.freeC x c e
  · intro p hp
    obtain ⟨e1, e2, e3⟩ := I.pin p hp
    exact ⟨e1, by rw [at_ _ (np p hp)]; exact e2, e3⟩
  · intro b u e
    by_cases hb : b = a
    · subst hb
      rw [upd_same] at e
      cases e
      exact ⟨⟨oe, fv, ha, hc, hd, hf⟩, ⟨oe, ha⟩, fun h1 h2 ⟨o, v, q1, q2⟩ k => ⟨o, v, k o q1, q2⟩⟩
    · rw [at_ b hb] at e
      exact (I.hok b u e).stay (fun c v _ q => q) (fun c q => by rw [at_ c (neH c _ q)]; exact q) fun c xs q => by rw [at_ c (neH c _ q)]; exact q
end

/-- what the clause «except x as n: y = n» wishes: slot i is n's, slot j is y's -/
def wKeep (K : PySem.W.Frag) (c : Value) (i j m : Nat) (D : Ends) : WX := fun cls d σ H =>
  ∃ b, PySem.W.exmOne K cls c = some b ∧ (b = false → False) ∧
    (b = true → ∃ C dd, cls = .ref C ∧ d = some dd ∧
      ∀ a, H a = none → σ.length = m → D.nx ((σ.set j (some (.ref a))).set i none) (upd H a (ErrO C dd a)))
end SB
-- R2
namespace SB
open PySem PySem.Spec PyProof.Rows L2
section
variable {X : Cx} {x n y : Str} {c : Value} {i j : Nat} {body : List Stmt} {np p1 p2 pos pos1 pos' : Pos} {tb : WX → TS}
/-- try: body / except x as n: y = n — the error is kept as a value -/
theorem ps_try_keep (hstk : X.stack = X.env :: X.outer) (hfrm : X.env.frame = some X.env.locals) (nd : X.N.Nodup)
    (hi : X.N[i]? = some n) (hj : X.N[j]? = some y) (hij : i ≠ j) (kn : X.env.kindOf n = some .local) (ky : X.env.kindOf y = some .local) (nm : Names X x c) (hex : X.ex = [])
    (hb : ∀ (W : WX) (pn : List (Addr × Obj)) (xe : Value → Shared → Prop), Takes (X.tr pn xe) W →
      PassesOwn (model X.prog X.w) X.A X.env xe → PSs (X.tr pn xe) body (tb W))
    (hns : (n == ("__debug__" : Str)) = false := by decide) (hnc : (n == ("__classdict__" : Str)) = false := by decide)
    (hsw : ∀ (a : Addr) (pn : List (Addr × Obj)), PG (X.suite a pn) (.Name y p1) (gName j)) :
    PS X (.Try body [.ExceptHandler (some (.Name x np)) (some n) [.Assign [.Name y p1] (.Name n p2) pos1] pos'] [] [] pos)
      (fun D σ H => tb (wKeep X.K c i j X.N.length D) D σ H) := by
  constructor
  intro pins s σ H D I h
  have ok := I.ok
  have frames : X.A.frames = some (X.env :: X.outer) := by
    rw [ok.frames, hstk]
  have locN : Loc X.env.scope n := .inl kn
  apply wpAny_Try_except
  let hand : List ExceptHandler := [.ExceptHandler (some (.Name x np)) (some n) [.Assign [.Name y p1] (.Name n p2) pos1] pos']
  let away : Value → Shared → Prop := fun e t1 => wpAny (model X.prog X.w) X.A (noteFrame e X.env)
    (fun _ t2 => wpAny (model X.prog X.w) X.A (setFlight e none)
      (fun _ t3 => wpAny (model X.prog X.w) X.A (handleBy e X.env hand) (SP X pins D) X.xe t3) X.xe t2) X.xe t1
  have taken : Takes (X.tr (X.pn ++ pins) away) (wKeep X.K c i j X.N.length D) := by
    rintro u s' ⟨a, B, sI, pins', σ', H', cls, d, rfl, J', nb, up, sky, na, os, ag, b, hb1, hno, hyes⟩
    have J : Inv X pins σ' H' sI := J'.ofTry ok
    rw [show (X.tr (X.pn ++ pins) away).stack = X.env :: X.outer from hstk] at sky
    show wpAny (model X.prog X.w) X.A (noteFrame (.ref a) X.env) _ X.xe s'
    refine Sky.land Zc.steady frames hfrm sky fun g3 fly3 up3 => ?_
    have J3 : Inv X pins σ' H' { s' with heap := g3 } := J.landed nb fly3.1 (up.trans up3) os ag
    obtain ⟨o3, v3, at3, z3, dat3⟩ := fly3.there
    have notF : a ∉ frs (X.env :: X.outer) := fun hm => by
      obtain ⟨_, o', e', hnf⟩ := fly3.2.2.1.mem hm
      have at3' : g3.get? a = some o3 := at3
      rw [at3'] at e'
      cases e'
      exact hnf _ dat3
    have nL : a ≠ X.env.locals := fun z => notF (List.mem_filterMap.mpr ⟨X.env, List.mem_cons_self, by rw [hfrm, z]⟩)
    have nF : a ∉ X.fs := fun hm => by
      obtain ⟨e, he, q⟩ := List.mem_filterMap.mp hm
      exact notF (List.mem_filterMap.mpr ⟨e, List.mem_cons_of_mem _ he, q⟩)
    have gone : B.get? a = none := fly3.2.1
    have newI : sI.heap.get? a = none := by
      cases q : sI.heap.get? a with
      | none => rfl
      | some o =>
        have z := nb a o q (by rw [show (X.tr (X.pn ++ pins) away).stack = X.env :: X.outer from hstk]; exact notF)
        rw [gone] at z
        cases z
    have new0 : X.s_0.heap.get? a = none := by
      cases q : X.s_0.heap.get? a with
      | none => rfl
      | some o =>
        obtain ⟨o', z⟩ := J.base.there a o q (by rw [hex]; exact fun z => nomatch z)
        rw [newI] at z
        cases z
    have pinsNe : ∀ p ∈ X.pn ++ pins, p.1 ≠ a := fun p hp z => by
      have q := (J.pin p hp).1
      rw [z, newI] at q
      cases q
    have S3 := J3.suite at3 dat3 na nL nF
    refine wpAny_handleBy_cons (codeAny_handlers_test ?_) (by intro q; cases q)
    have ty : PySem.W.Looks (model X.prog X.w) g3 (typeOf (.ref a)) cls := fun A Q E s k q =>
      wpAny_typeOf_ref (k _ _ at3) (by rw [z3.1]; exact q)
    have mt := PySem.W.exm_one (M := model X.prog X.w) J3.kIn ty hb1
    have asked : ∀ {Q : Value → Shared → Prop} {E : Value → Shared → Prop}, Q c { s' with heap := g3 } →
        wpAny (model X.prog X.w) (X.A.mark (some (.ref a))) (eval (.Name x np) X.env) Q E { s' with heap := g3 } := by
      intro Q E q
      obtain ⟨hg, hdbg, hm⟩ := nm
      rcases hm with hm | ⟨hm, hv, hnn⟩
      · exact ld_glob (X := X.suite a ((a, o3) :: (X.pn ++ pins))) S3 hg hm q hdbg
      · exact ld_blt (X := X.suite a ((a, o3) :: (X.pn ++ pins))) S3 hg hm hv q hnn hdbg
    refine asked (mt.here ?_)
    cases b with
    | false => exact (hno rfl).elim
    | true =>
      obtain ⟨C, dd, rfl, rfl, kept⟩ := hyes rfl
      refine codeAny_handlers_suite_as ?_
      refine HandSPX.lands_againZ fly3 fun g4 fly4 up4 => ?_
      have J4 : Inv X pins σ' H' { s' with heap := g4 } := J.landed nb fly4.1 ((up.trans up3).trans up4) os ag
      obtain ⟨o4, v4, at4, z4, dat4⟩ := fly4.there
      have S4 := J4.suite at4 dat4 na nL nF
      refine store_ok (X := X.suite a ((a, o4) :: (X.pn ++ pins))) (v := .ref a) S4 nd hi locN rfl (fun s5 S5 => ?_) (.inr kn)
      have len : σ'.length = X.N.length := J.len
      have hin : i < σ'.length := by
        rw [len]
        exact (List.getElem?_eq_some_iff.mp hi).1
      have suite : PSs (X.suite a ((a, o4) :: (X.pn ++ pins))) [.Assign [.Name y p1] (.Name n p2) pos1] (tAsg (tVar i) (gName j)) :=
        pss_one (ps_asg (pe_var hi (.inl kn) hns hnc) (hsw a _))
      let D5 : Ends := { nx := fun σ6 H6 => σ6 = (σ'.set i (some (.ref a))).set j (some (.ref a)) ∧ H6 = H', rt := fun _ _ => False, bk := fun _ _ => False, ct := fun _ _ => False }
      have start : tAsg (tVar i) (gName j) D5 (σ'.set i (some (.ref a))) H' := by
        refine ⟨.ref a, ?_, rfl, rfl⟩
        rw [List.getElem?_set_self hin]
      refine wpAny_mono (suite.run [] s5 _ H' D5 S5 start) (fun f s6 hsp => ?_) (fun _ _ z => False.elim z)
      cases f with
      | next =>
        obtain ⟨σ6, H6, S6, e1, e2⟩ := hsp
        subst e1 e2
        have at6 : s6.heap.get? a = some o4 := (S6.pin (a, o4) (List.mem_append_left _ List.mem_cons_self)).1
        have J6 := S6.unsuite ok
        have free6 : H6 a = none := na
        have held : Inv X ((a, o4) :: pins) ((σ'.set i (some (.ref a))).set j (some (.ref a))) H6 s6 := J6.pins_of fun p hp => by
          rcases List.mem_cons.mp hp with e | e
          · rw [e]
            exact ⟨at6, free6, nL, nF, fun v z => by rw [dat4] at z; cases z⟩
          · exact J6.pin p (List.mem_append_right _ e)
        refine gone_ok held nd hi kn fun s7 J7 => ?_
        have at7 : s7.heap.get? a = some o4 := (J7.pin (a, o4) (List.mem_append_right _ List.mem_cons_self)).1
        have J8 : Inv X pins ((((σ'.set i (some (.ref a))).set j (some (.ref a)))).set i none) H6 s7 :=
          J7.pins_of fun p hp => J7.pin p (List.mem_append_right _ (List.mem_cons_of_mem _ hp))
        have J9 := track_err J8 at7 free6 new0 z4.1 z4.2 dat4 nL pinsNe
        have es : (((σ'.set i (some (.ref a))).set j (some (.ref a)))).set i none = (σ'.set j (some (.ref a))).set i none := by
          rw [List.set_comm _ _ (Ne.symm hij), List.set_set, List.set_comm _ _ hij]
        rw [es] at J9
        exact ⟨_, _, J9, kept a na len⟩
      | brk =>
        obtain ⟨_, _, _, z⟩ := hsp
        exact z.elim
      | cont =>
        obtain ⟨_, _, _, z⟩ := hsp
        exact z.elim
      | ret u =>
        obtain ⟨_, _, _, _, _, z⟩ := hsp
        exact z.elim
  refine wpAny_mono ((hb (wKeep X.K c i j X.N.length D) (X.pn ++ pins) away taken PassesOwn.looking).run [] s σ H D (I.toTry _) h) (fun f s1 hsp => ?_) (fun e s1 he => he)
  cases f with
  | next =>
    obtain ⟨σ', H', J', q⟩ := hsp
    exact wpAny_execs_nil ⟨σ', H', J'.ofTry ok, q⟩
  | brk =>
    obtain ⟨σ', H', J', q⟩ := hsp
    exact ⟨σ', H', J'.ofTry ok, q⟩
  | cont =>
    obtain ⟨σ', H', J', q⟩ := hsp
    exact ⟨σ', H', J'.ofTry ok, q⟩
  | ret u =>
    obtain ⟨v, σ', H', J', r, q⟩ := hsp
    exact ⟨v, σ', H', J'.ofTry ok, r, q⟩
end
end SB
-- R3
namespace SB
open PySem PySem.Spec PyProof.Rows L2
/-- heard: what comes of a() is dropped; an own error that it raises is handed back as a value -/
def THeard (K : PySem.W.Frag) (CB : Addr) : (XK → Hp → VK → Prop) → Hp → VK → Prop := fun tl H Q =>
  tl (fun cls d H' => ∃ b, PySem.W.exmOne K cls (.ref CB) = some b ∧ (b = false → False) ∧
    (b = true → ∃ C dd, cls = .ref C ∧ d = some dd ∧ ∀ a, H' a = none → Q (.ref a) (upd H' a (ErrO C dd a)))) H (fun _ H' => Q .non H')
def hearScope : Scope := { kind := .function, names := [("ask", .local), ("caught", .local), ("error", .local), ("BallError", .globalImplicit)], isGenerator := false, isCoroutine := false, more := [] }
def hearBody (c1 c2 c3 c4 c5 c6 c7 c8 c9 c10 c11 c12 c13 c14 : Pos) : List Stmt :=
  [.Assign [.Name "caught" c1] (.Constant .none 0 c2) c3,
   .Try [.Expr (.Call (.Name "ask" c4) [] [] c5) c6] [.ExceptHandler (some (.Name "BallError" c7)) (some "error") [.Assign [.Name "caught" c8] (.Name "error" c9) c10] c11] [] [] c12,
   .Return (some (.Name "caught" c13)) c14]
section
variable {X : Cx}
theorem heard_gives {x q : Str} {g CB : Addr} {cdg : Value} {c1 c2 c3 c4 c5 c6 c7 c8 c9 c10 c11 c12 c13 c14 : Pos} (hmb : X.mg "BallError" = some (.ref CB)) :
    LamX.GivesTo X ["ask", "caught", "error"] x hearScope g cdg (hearBody c1 c2 c3 c4 c5 c6 c7 c8 c9 c10 c11 c12 c13 c14) "ask" q (THeard X.K CB) := by
  intro f c' s H Q tl act hc h
  have nd : (["ask", "caught", "error"] : List Str).Nodup := by decide +kernel
  refine ⟨_, pss_cons (ps_set (i := 1) nd rfl (.inl rfl) pe_non)
    (pss_cons (ps_try_keep (c := .ref CB) (i := 2) (j := 1) (tb := fun W D σ H => ∃ Ech : XK, (∀ cls d σ' H', Ech cls d H' → W cls d σ' H') ∧ σ[0]? = some (some (.ref f)) ∧ H c' = some (LamX.CodeO c' q) ∧ tl Ech H (fun _ H1 => D.nx σ H1))
      rfl rfl nd rfl rfl (by decide) rfl rfl ⟨rfl, by decide, .inl hmb⟩ rfl (fun W pn xe tk _ => ?_) (by decide) (by decide) (fun a pn => pg_name nd rfl (.inl rfl)))
    (pss_one (ps_ret (pv 1)))), ?_⟩
  · refine ⟨fun pins s' σ H' D I h' => ?_⟩
    obtain ⟨Ech, hW, h1, h2, h3⟩ := h'
    have hp := act W pn xe Ech c4 c5 tk hW
    have hq := pss_one (ps_expr (pos := c6) hp)
    exact hq.run pins s' σ H' D I ⟨h1, h2, h3⟩
  · show tAsg _ _ _ _ _
    refine ⟨fun cls d H' => ∃ b, PySem.W.exmOne X.K cls (.ref CB) = some b ∧ (b = false → False) ∧
      (b = true → ∃ C dd, cls = .ref C ∧ d = some dd ∧ ∀ a, H' a = none → Q (.ref a) (upd H' a (ErrO C dd a))), ?_, rfl, hc, ?_⟩
    · rintro cls d σ' H' ⟨b, e1, e2, e3⟩
      refine ⟨b, e1, e2, fun hb => ?_⟩
      obtain ⟨C, dd, k1, k2, k3⟩ := e3 hb
      refine ⟨C, dd, k1, k2, fun a ha hl => ?_⟩
      have hl' : σ'.length = 3 := hl
      match σ', hl' with
      | [u0, u1, u2], _ => exact ⟨.ref a, rfl, k3 a ha⟩
    · have same : (fun (_ : V) (H1 : Hp) => Q .non H1) = fun (_ : V) (H1 : Hp) => tRet (tVar 1) { nx := fun _ H' => Q .non H', rt := Q } (List.set (L2.start ["ask", "caught", "error"] [V.ref f]) 1 (some V.non)) H1 := by
        funext u H1
        refine propext ⟨fun z => ⟨.non, rfl, z⟩, ?_⟩
        rintro ⟨v, e, z⟩
        have e' : (some (some V.non) : Option (Option V)) = some (some v) := e
        cases e'
        exact z
      unfold THeard at h
      rw [same] at h
      exact h
end
end SB
-- R4
namespace SB
open PySem PySem.Spec PyProof.Rows L2
/-- what the class of a kept error must say -/
structure ErrC (K : PySem.W.Frag) (C : Addr) : Prop where
  cls : (PySem.W.clsIn K C).isSome = true
  own : PySem.W.hasDictIn K C = true
  ga : PySem.W.findIn K (.ref C) "__getattribute__" = some (some (.builtin "BaseException.__getattribute__"))
  gt : PySem.W.findIn K (.ref C) "__getattr__" = some none
  sub : PySem.W.subIn K (.ref C) (.type "BaseException") = some true
  ca : PySem.W.findIn K (.ref C) "__class__" = some (some (.builtin "object.__class__"))
  cg : PySem.W.specialIn K (.builtin "object.__class__") "__get__" = some (some (.builtin "getset_descriptor.__get__"))
  ct : PySem.W.takesIn K (.builtin "object.__class__") = some true
  mr : PySem.W.mroIn K C (.type "object") = some true
section
variable {X : Cx} {pins : List (Addr × Obj)} {σ : L2.St} {H : Hp} {s : Shared} {a C d : Addr} {fs : List (Str × V)}
theorem err_at (I : Inv X pins σ H s) (h : H a = some (ErrO C d a)) (hd : H d = some (.xd fs)) :
    ∃ oe od, PySem.W.InstAt s.heap a oe C (some od) ∧ ∃ mA : Str → Option Value, (∀ f : Str, RelO (fs.lookup f) (mA f)) ∧ ∀ f : Str, PySem.W.lookIn f od = some (mA f) := by
  obtain ⟨⟨oe, fv, e1, e2, e3, e4⟩, _⟩ := I.hok a _ h
  have hx : ObjOk X.prog X.w H s.heap d (.xd fs) := I.hok d _ hd
  obtain ⟨mA, hns, hr⟩ := hx
  obtain ⟨od, ho, hl⟩ := lookIn_ns hns
  refine ⟨oe, od, ⟨e1, e2, ?_, ?_⟩, mA, hr, hl⟩
  · unfold PySem.W.notCls
    rw [e4] <;> trivial
  · rw [e3]
    exact ho
/-- isinstance(e, D), e a kept error -/
def rIsErr (K : PySem.W.Frag) : List V → Hp → VK → Prop := fun xs H Q => ∃ (a C d D : Addr) (fs : List (Str × V)) (b : Bool),
  xs = [.ref a, .ref D] ∧ H a = some (ErrO C d a) ∧ H d = some (.xd fs) ∧ ErrC K C ∧ PySem.W.kitOne K (.ref C) (.ref D) = some b ∧ Q (.bl b) H
theorem call_isErr : CallR X (.builtin "isinstance") (rIsErr X.K) := by
  intro pins s σ H xs us Q I r h
  obtain ⟨a, C, d, D, fs, b, rfl, ea, ed, T, e, q⟩ := h
  obtain ⟨u1, u2, rfl, r1, r2⟩ := vals2 r
  cases (show u1 = Value.ref a from r1)
  cases (show u2 = Value.ref D from r2)
  obtain ⟨oe, od, J, _⟩ := err_at I ea ed
  exact PySem.W.kia_one (PySem.W.kitx_exc T.cls T.ga T.gt T.sub T.ca T.cg T.ct T.mr) I.kIn J e (fun z => nomatch z) fun tk => ⟨.bl b, H, I.tok tk, rfl, q⟩
/-- e.f, e a kept error -/
def tErrF (K : PySem.W.Frag) (te : TE) (f : Str) : TE := fun σ H Q => te σ H fun x H1 => ∃ (a C d : Addr) (fs : List (Str × V)) (v : V),
  x = .ref a ∧ H1 a = some (ErrO C d a) ∧ H1 d = some (.xd fs) ∧ ErrC K C ∧ PySem.W.findIn K (.ref C) f = some none ∧ fs.lookup f = some v ∧ Q v H1
theorem pe_errF {e : Expr} {te : TE} {pos : Pos} {f : Str} (he : PE X e te) (hb : attributeBase e f X.env (eval e X.env) = eval e X.env := by rfl) :
    PE X (.Attribute e f pos) (tErrF X.K te f) := by
  constructor
  intro pins s σ H Q I h
  refine attr_of hb (thn (he.run pins s σ H _ I h) fun u s1 hh => ?_)
  obtain ⟨x, H1, I1, rx, a, C, d, fs, v, rfl, ea, ed, T, hn, hl, q⟩ := hh
  obtain rfl : u = Value.ref a := rx
  obtain ⟨oe, od, J, mA, hr, look⟩ := err_at I1 ea ed
  obtain ⟨w, hw, rw_⟩ := RelO.some_of (v := v) (o := mA f) (by rw [← hl]; exact hr f)
  exact HandSPX.exc_get I1.kIn J T.ga T.gt T.sub (PySem.W.findObj_own T.own hn rfl (by rw [look, hw])) (handed_of rw_) ⟨v, H1, I1.tok _, rw_, q⟩
end
end SB
-- R5
namespace SB
open PySem PySem.Spec PyProof.Rows L2
/-! ### enumerate of a text -/
/-- the signs of x, each in a new pair with its place -/
def Ies (x : Str) : It :=
  ⟨fun i _ => i < x.cps.size, fun i H v H' => ∃ (T : Addr) (c : Nat), v = .ref T ∧ H T = none ∧ x.cps[i]? = some c ∧ H' = upd H T (.tup [.int (i : Nat), .str ⟨#[c]⟩]), fun i _ => i = x.cps.size⟩
theorem turn_enumS {P : Program} {w : World} {K : PySem.W.Frag} {elts : List Expr} {kk : Nat} {tpos : Pos} (x : Str) (t : Tok) (e it : Addr) (hne : e ≠ it) :
    Turn P w K (.Tuple elts kk tpos) (Ies x) [e, it] e (fun i h => (∃ old, IsEnum h e it ((i : Nat) : Int) old) ∧ h.IsStrIter it (strIterType x) x t i) where
  mem := by simp
  obj := fun i h st b hb => by
    obtain ⟨⟨old, he⟩, ⟨o, ho, hc, hd⟩⟩ := st
    have which : b = e ∨ b = it := by simpa using hb
    rcases which with z | z
    · subst z
      exact ⟨_, he, fun v q => nomatch q⟩
    · subst z
      exact ⟨o, ho, fun v q => by rw [hd] at q; cases q⟩
  keep := fun i h h' st k => by
    obtain ⟨⟨old, he⟩, o, ho, r⟩ := st
    exact ⟨⟨old, k e (by simp) _ he⟩, o, k it (by simp) o ho, r⟩
  item := by
    intro X hP hw hK hc i pins s σ H E I hf st hg
    subst hP hw hK
    obtain ⟨⟨old, he⟩, hit⟩ := st
    have hel : e < s.heap.objs.size := Heap.lt_size he
    have hil : it < s.heap.objs.size := by
      obtain ⟨o, q, _⟩ := hit
      exact Heap.lt_size q
    have D := Draws.text (prog := X.prog) (w := X.w) (A := X.A.in1) (I.ok.hd hc) it x t
    refine wpAny_pyNext_enum_itemD D he hit hg hne (by simpa using hne) fun v h' tk hv ho hit' hT hsz hk => ?_
    obtain ⟨c, u, hcx, rfl⟩ := hv
    refine ⟨_, rfl, wpAny_letOwnedTupleGo_enum (s := { s with heap := h', toks := tk + 1 }) ho fun h2 he2 sb => ?_⟩
    have hT2 : h2.get? s.heap.objs.size = some { cls := .type "tuple", data := .seq #[.int i tk, .str ⟨#[c]⟩ u] } := (sb.2 _ (Nat.ne_of_gt hel)).trans hT
    have new : ObjOk X.prog X.w (upd H s.heap.objs.size (.tup [.int (i : Nat), .str ⟨#[c]⟩])) h2 s.heap.objs.size (.tup [.int (i : Nat), .str ⟨#[c]⟩]) :=
      ⟨by show 2 ≤ sizeLine; decide, [.int i tk, .str ⟨#[c]⟩ u], .cons ⟨_, rfl⟩ (.cons ⟨_, rfl⟩ .nil), ⟨_, hT2, rfl, _, rfl⟩⟩
    have I1 : Inv X pins σ (upd H s.heap.objs.size (.tup [.int (i : Nat), .str ⟨#[c]⟩])) { s with heap := h2, toks := tk + 1 } := by
      refine I.turnedNew (ch := [e, it]) (fun b ob hb q => ?_) hf (Nat.le_refl _) new
      have n1 : b ≠ e := fun z => hb (by simp [z])
      have n2 : b ≠ it := fun z => hb (by simp [z])
      exact (sb.2 b n1).trans (hk b ob n1 n2 q)
    refine ⟨.ref s.heap.objs.size, _, I1, rfl, ⟨_, c, rfl, I.hok.fresh (Nat.le_refl _), hcx, rfl⟩, ⟨⟨.str ⟨#[c]⟩ u, ?_⟩, ?_⟩, fun b hb => ?_⟩
    · have e1 : ((i + 1 : Nat) : Int) = (i : Int) + 1 := by omega
      rw [e1]
      exact he2
    · obtain ⟨o, q, r⟩ := hit'
      exact ⟨o, (sb.2 it (Ne.symm hne)).trans q, r⟩
    · have which : b = e ∨ b = it := by simpa using hb
      have lt : b < s.heap.objs.size := by
        rcases which with z | z
        · rw [z]
          exact hel
        · rw [z]
          exact hil
      rw [upd_ne (Nat.ne_of_lt lt)]
      exact (hf b hb).1
  done := by
    intro X hP hw hK hc i pins s σ H E I hf st hg
    subst hP hw hK
    obtain ⟨⟨old, he⟩, hit⟩ := st
    obtain ⟨f0, f1, f2, f3, f4, f5⟩ := hf it (by simp)
    have D := Draws.text (prog := X.prog) (w := X.w) (A := X.A.in1) (I.ok.hd hc) it x t
    have hg' : i = x.cps.size := hg
    rw [hg'] at hit
    refine wpAny_pyNext_enum_endD D he hit fun h' eb => ⟨rfl, I.turned (t' := s.toks) (fun b o hb q => eb b o hb q) f0 f1 f3 f4 f5⟩
  self := fun A i s Q E st h => by
    obtain ⟨⟨_, he⟩, _⟩ := st
    exact wpAny_pyIter_enum he h
def iEnumS (ta : TA) : TI := fun σ H R => ta σ H fun vs H1 => ∃ x, vs = [.str x] ∧ R (Ies x) H1
theorem pi_enumS {X : Cx} {e : Expr} {ta : TA} {p pos tpos : Pos} {elts : List Expr} {kk : Nat} (hg : Gl X "enumerate") (hm : X.mg "enumerate" = none) (ha : PA X [e] ta)
    (hs : starEach [e] X.env = [(false, eval e X.env)] := by rfl) : PI X (.Tuple elts kk tpos) (.Call (.Name "enumerate" p) [e] [] pos) (iEnumS ta) := by
  constructor
  intro pins s σ H R I h
  refine Call_ (ld_blt I hg hm boot_enumerate (PyProof.Rows.callWith_type1 (thn (ha.run pos pins s σ H _ I h) fun us s1 hh => ?_) hs rfl))
  obtain ⟨vs, H1, I1, r1, x, ex, q⟩ := hh
  subst ex
  obtain ⟨u, rfl, r⟩ := vals1 r1
  obtain ⟨t, rfl⟩ := r
  refine call_enumerate_str fun h' he hit hsz hk => wpAny_pyIter_enum he ?_
  have I2 : Inv X pins σ H1 { s1 with heap := h' } := I1.kept (t' := s1.toks) hk
  refine ⟨s1.heap.objs.size + 1, [s1.heap.objs.size + 1, s1.heap.objs.size], _, _, H1, rfl, I2, turn_enumS x t _ _ (Nat.succ_ne_self _), ⟨⟨.none, he⟩, hit⟩, fun b hb => ?_, q⟩
  have which : b = s1.heap.objs.size + 1 ∨ b = s1.heap.objs.size := by simpa using hb
  have le : s1.heap.objs.size ≤ b := by
    rcases which with z | z
    · rw [z]
      exact Nat.le_succ _
    · rw [z]
      exact Nat.le_refl _
  exact I1.fpOk le (I1.hok.fresh le)
end SB
-- R6
namespace SB
open PySem PySem.Spec PyProof.Rows L2
section
variable {X : Cx}
/-- x.swapcase() -/
theorem mt_swapcase : MtR X "str.swapcase" (fun x xs H Q => ∃ a, x = .str a ∧ xs = [] ∧ a.length ≤ 5592405 ∧ Q (.str (Txt.swapcase a)) H) :=
  mt0 (C := fun a => a.length ≤ 5592405) (g := fun a => .str (Txt.swapcase a)) fun a t s Q hc h =>
    PyProof.Rows.SCL.swapcase hc fun _ => h _ (s.toks + 1) ⟨_, rfl⟩
theorem pe_swap {o : Expr} {ot : TE} {apos pos : Pos} (ho : PE X o ot) (hbase : attributeBase o "swapcase" X.env (eval o X.env) = eval o X.env := by rfl) (hline : (apos.endLine == pos.line) = true := by rfl) : True := trivial
end
/-- C.m is a staticmethod: its record at p, its def at g -/
structure Stat (K : PySem.W.Frag) (C : Addr) (m : Str) (p g : Addr) : Prop where
  rd : ∃ mc, PySem.W.readsIn K C mc = true ∧ PySem.W.findCls K (.ref C) mc m = some (.get (.builtin "staticmethod.__get__") (.ref p) .none (.ref C))
  ga : PySem.W.specialIn K (.ref C) "__getattribute__" = some (some (.builtin "type.__getattribute__"))
  rc : ∃ rest, PySem.W.recIn K p "staticmethod" = some (.ref g :: rest)
  kp : PySem.W.keepIn K (.ref g) = true
section
variable {X : Cx} {CX : CXT} {k : Nat} {C p g : Addr} {fd : FuncData} {ps : List Str} {sp : Sp} {dvs : List V} {ds : List Value} {E : XK} {o e : Expr} {es : List Expr} {m : Str} {pos apos : Pos} {ta : TE} {t : TA} {pl : Sem Bool}
theorem stat_ok {A : Around} {E : Value → Shared → Prop} {pins : List (Addr × Obj)} {σ : L2.St} {H : Hp} {s : Shared} {pl : Sem Bool} {Q : Value × List Value → Shared → Prop} (I : Inv X pins σ H s) (c : Stat X.K C m p g)
    (h : ∀ s', Inv X pins σ H s' → Q (.ref g, []) s') : wpAny (model X.prog X.w) A (getMethod (.ref C) m pl) Q E s := by
  obtain ⟨mc, hrd, hat⟩ := c.rd
  obtain ⟨rest, hp⟩ := c.rc
  refine PySem.W.method_cls I.kIn c.ga (PySem.W.cls_bind I.kIn hrd hat ?_)
  refine wpAny_call (PySem.W.sm_get (s := { s with toks := s.toks + 1 }) I.kIn hp (PySem.W.handed_on rfl ?_))
  exact h _ (I.tok _)
def tStat (C : Addr) (sp : Sp) (dvs : List V) (E : XK) (ta : TE) (t : TA) : TE := fun σ H Q => ta σ H fun x H1 => x = .ref C ∧ t σ H1 fun vs H2 => sp (vs ++ dvs) H2 Q E
/-- C.m(e, ..), m a staticmethod -/
theorem pe_stat (he : PE X o ta) (c : Stat X.K C m p g) (F : FnOk X.prog X.w X.K X.mg X.base CX k g fd ps sp) (hr : Room k X.A) (hb : Binds X.K fd ps ds) (hd : Vals dvs ds) (hx : Passes CX X E) (ha : PA X (e :: es) t)
    (hst : starEach (e :: es) X.env = (false, eval e X.env) :: starEach es X.env := by rfl) (hpl : (backTo pos (starEach es X.env)).any (·.1) = false := by rfl)
    (ht : eval (.Call (.Attribute o m apos) (e :: es) [] pos) X.env = (do
      let ov ← eval o X.env
      standAt apos.atName
      let (f, first) ← holding [ov] (getMethod ov m pl)
      callWith pos f first (backTo pos (starEach (e :: es) X.env)) (backToKw pos (keywordEach [] X.env))) := by rfl) :
    PE X (.Call (.Attribute o m apos) (e :: es) [] pos) (tStat C sp dvs E ta t) := by
  constructor
  intro pins s σ H Q I h
  refine PySem.W.methodCall_KW (pl := pl) (thn (he.run pins s σ H _ I h) fun u s1 hh => ?_) ht
  obtain ⟨x, H1, I1, rx, rfl, q⟩ := hh
  obtain rfl : u = Value.ref C := rx
  refine stat_ok I1 c fun s2 I2 => ?_
  refine PySem.W.callWith_K (first := []) (h₀ := X.base) I.ok.mod.kin c.kp (thn (ha.run pos pins s2 σ H1 _ I2 q) fun us s3 h3 => ?_) hst hpl
  obtain ⟨vs, H2, I3, r, q2⟩ := h3
  exact ⟨I3.kIn, run_fn F hr hb hd hx I3 r q2⟩
end
end SB
-- R7
namespace SB
open PySem PySem.Spec PyProof.Rows L2
section
variable {X : Cx} {CX : CXT} {k : Nat} {C p g : Addr} {fd : FuncData} {ps ks : List Str} {sp : Sp} {E : XK} {o e : Expr} {kws : List Keyword} {m : Str} {pos apos : Pos} {ta : TE} {t tk : TA} {pl : Sem Bool}
variable {gg : List Value → List Value → List Value} {gV : List V → List V → List V}
def tStatK (C : Addr) (sp : Sp) (gV : List V → List V → List V) (E : XK) (ta : TE) (tk : TA) : TE := fun σ H Q => ta σ H fun x H1 => x = .ref C ∧ tk σ H1 fun zs H2 => sp (gV [] zs) H2 Q E
/-- C.m(k = e, ..), m a staticmethod -/
theorem pe_statK (he : PE X o ta) (c : Stat X.K C m p g) (F : FnOk X.prog X.w X.K X.mg X.base CX k g fd ps sp) (hr : Room k X.A) (hb : KBinds X.K fd ps ks gg gV) (hx : Passes CX X E) (hkw : PK X kws tk)
    (hall : (backToKw pos (keywordEach kws X.env)).all (·.1.isSome) = true := by rfl) (hks : (backToKw pos (keywordEach kws X.env)).filterMap (·.1) = ks := by rfl)
    (hpl : ((backTo pos (starEach [] X.env)).any (·.1) || (backToKw pos (keywordEach kws X.env)).any (·.1.isNone)) = false := by rfl)
    (ht : eval (.Call (.Attribute o m apos) [] kws pos) X.env = (do
      let ov ← eval o X.env
      standAt apos.atName
      let (f, first) ← holding [ov] (getMethod ov m pl)
      callWith pos f first (backTo pos (starEach [] X.env)) (backToKw pos (keywordEach kws X.env))) := by rfl) :
    PE X (.Call (.Attribute o m apos) [] kws pos) (tStatK C sp gV E ta tk) := by
  constructor
  intro pins s σ H Q I h
  refine PySem.W.methodCall_KW (pl := pl) (thn (he.run pins s σ H _ I h) fun u s1 hh => ?_) ht
  obtain ⟨x, H1, I1, rx, rfl, q⟩ := hh
  obtain rfl : u = Value.ref C := rx
  refine stat_ok I1 c fun s2 I2 => ?_
  refine PySem.W.callWith_KW0 (first := []) (h₀ := X.base) I.ok.mod.kin c.kp hall ?_ hpl
  refine thn (hkw.run pos pins s2 σ H1 _ I2 q) fun ws s3 h3 => ?_
  obtain ⟨zs, H2, I3, rz, q2⟩ := h3
  refine ⟨I3.kIn, ?_⟩
  rw [hks]
  exact run_fnk (us := []) (vs := []) F hr hb hx I3 .nil rz q2
end
end SB
-- R8
namespace SB
open PySem PySem.Spec PyProof.Rows L2
/-- a class over object alone that tells __eq__ and no __ne__ -/
structure EqC (K : PySem.W.Frag) (C f : Addr) : Prop where
  obj : ∃ (nm q : Str) (N : Addr) (bs : List Value) (hdct : Bool) (sn : List Str) (sub : List Value) (ab : Bool) (col : Option Bool) (dd : Option Addr) (k0 k1 k2 k3 k5 : Option Value) (newId : String),
    K.lookup C = some (excClassObj nm q C N bs [.type "object"] hdct sn sub ab col dd k0 k1 k2 k3 k5 newId) ∧ PySem.W.nsOkIn K N = true ∧
    PySem.W.nsIn K N "__eq__" = some (some (.ref f)) ∧ PySem.W.nsIn K N "__ne__" = some none
  find : PySem.W.findIn K (.ref C) "__eq__" = some (some (.ref f))
  fn : PySem.W.isFn K (.ref f) = true
theorem ns_has {K : PySem.W.Frag} {h : Heap} {N : Addr} {mm : Str → Option Value} {x : Str} {v : Value} (KX : K.In h) (G : h.Ns N mm) (e : PySem.W.nsIn K N x = some (some v)) : mm x = some v := by
  obtain ⟨ob, es, ep, at_, dat, _, look⟩ := G
  unfold PySem.W.nsIn at e
  split at e
  · rename_i lk
    have same := KX _ _ lk
    rw [at_] at same
    cases same
    cases dat
    split at e
    · rename_i en he
      cases e
      rw [← look]
      unfold nsFind findBy
      rw [← Array.find?_toList, he]
      rfl
    · split at e <;> cases e
  · cases e
section
variable {X : Cx} {CX : CXT} {k : Nat} {C f : Addr} {fd : FuncData} {ps : List Str} {sp : Sp} {E : XK}
/-- a def called from somewhere within a builtin, around A -/
theorem run_at {A : Around} {pins : List (Addr × Obj)} {σ : L2.St} {H : Hp} {s : Shared} {Q : VK} {us : List Value} {vs : List V} (F : FnOk X.prog X.w X.K X.mg X.base CX k f fd ps sp) (hr : Room k A) (e0 : Env0 X.prog X.w X.K X.mg X.base A X.stack s H) (hb : Binds X.K fd ps []) (hx : Passes CX X E)
    (I : Inv X pins σ H s) (r : Vals vs us) (h : sp vs H Q E) : wpAny (model X.prog X.w) A (call (.ref f) us) (EP X pins σ Q) X.xe s := by
  have hl : (us ++ []).length = ps.length := by
    rw [List.append_nil, ← r.length]
    exact F.len _ _ _ _ h
  have bd := hb s us I.kIn hl
  rw [List.append_nil] at bd
  refine wpAny_call (codeAny_mono (F.run A X.stack s H ⟨us, []⟩ us vs Q E hr e0 bd r h) fun r s' hq => ?_)
  rcases r with e | fl
  · exact hx pins σ H s e s' I hq
  · rcases fl with u | _ | _ | _
    · first
        | exact I.after hq
        | exact hq.elim
    all_goals
      first
        | exact I.after hq
        | exact False.elim hq
theorem run_in1 {pins : List (Addr × Obj)} {σ : L2.St} {H : Hp} {s : Shared} {Q : VK} {us : List Value} {vs : List V} (F : FnOk X.prog X.w X.K X.mg X.base CX k f fd ps sp) (hr : Room (k + 1) X.A) (hb : Binds X.K fd ps []) (hx : Passes CX X E)
    (I : Inv X pins σ H s) (r : Vals vs us) (h : sp vs H Q E) : wpAny (model X.prog X.w) X.A.in1 (call (.ref f) us) (EP X pins σ Q) X.xe s :=
  run_at F hr.in1 I.env0.in1 hb hx I r h
theorem run_in2 {pins : List (Addr × Obj)} {σ : L2.St} {H : Hp} {s : Shared} {Q : VK} {us : List Value} {vs : List V} (F : FnOk X.prog X.w X.K X.mg X.base CX k f fd ps sp) (hr : Room (k + 2) X.A) (hb : Binds X.K fd ps []) (hx : Passes CX X E)
    (I : Inv X pins σ H s) (r : Vals vs us) (h : sp vs H Q E) : wpAny (model X.prog X.w) X.A.in1.in1 (call (.ref f) us) (EP X pins σ Q) X.xe s :=
  run_at F (Room.in1 (Room.in1 hr)) I.env0.in1.in1 hb hx I r h
def rNeOwn (C : Addr) (sp : Sp) (E : XK) : R2 := fun x y H Q => ∃ (a b dx dy : Addr) (fs gs : List (Str × V)), x = .ref a ∧ y = .ref b ∧ H a = some (.ins C dx fs) ∧ H b = some (.ins C dy gs) ∧
  sp [x, y] H (fun v H' => ∃ r, v = .bl r ∧ Q (.bl (!r)) H') E
/-- x != y by the own __eq__ of both -/
theorem op_neOwn (T : EqC X.K C f) (F : FnOk X.prog X.w X.K X.mg X.base CX k f fd ps sp) (hr : Room (k + 1) X.A) (hb : Binds X.K fd ps []) (hx : Passes CX X E) : OpR X (compareOp .NotEq) (rNeOwn C sp E) := by
  intro pins s σ H x y u v Q I rx ry h
  obtain ⟨a, b, dx, dy, fs, gs, rfl, rfl, ea, eb, q⟩ := h
  obtain rfl : u = Value.ref a := rx
  obtain rfl : v = Value.ref b := ry
  obtain ⟨nm, qn, N, bs, hdct, sn, sub, ab, col, dd, k0, k1, k2, k3, k5, newId, lk, ok, e1, e2⟩ := T.obj
  have KX := I.kIn
  obtain ⟨_, _, _, oa, _⟩ := (show ObjOk X.prog X.w H s.heap a (.ins C dx fs) from I.hok a _ ea)
  obtain ⟨_, _, _, ob, _⟩ := (show ObjOk X.prog X.w H s.heap b (.ins C dy gs) from I.hok b _ eb)
  have hns : s.heap.Ns N (s.heap.nsMap N) := .of_isNs (PySem.W.isNs_of_in KX ok)
  have m1 : s.heap.nsMap N "__eq__" = some (.ref f) := ns_has KX hns e1
  have m2 : s.heap.nsMap N "__ne__" = none := PySem.W.ns_none_of KX hns e2
  have ft : ∃ of, s.heap.get? f = some of ∧ of.cls = .type "function" := by
    obtain ⟨o, ho, hc⟩ := Option.map_eq_some_iff.mp (show (X.K.lookup f).map (·.cls) = some (.type "function") from beq_iff_eq.mp T.fn)
    exact ⟨o, KX _ _ ho, hc⟩
  obtain ⟨of, hf, hfc⟩ := ft
  have own : s.heap.OwnEqNoNe a C f "object" [.type "object"] :=
    ⟨_, of, nm, qn, N, bs, hdct, sn, sub, ab, col, dd, k0, k1, k2, k3, k5, newId, _, _, oa, rfl, KX _ _ lk, hns, m1, hf, hfc, PySem.F.mro_object, rfl, m2⟩
  have un := hr.un
  obtain ⟨hp, g, d, t, os⟩ := s
  refine compareOp_ne_ownEq PySem.F.cmp_object own ob rfl (by omega) ?_
  refine thn (run_in1 (us := [.ref a, .ref b]) (vs := [.ref a, .ref b]) F hr hb hx I (.cons rfl (.cons rfl .nil)) q) fun u s1 hh => ?_
  obtain ⟨w, H1, I1, r1, r, rfl, q1⟩ := hh
  obtain rfl : u = Value.bool r := r1
  exact ⟨r, rfl, .bl (!r), H1, I1, rfl, q1⟩
end
end SB
-- R9
namespace SB
open PySem PySem.Spec PyProof.Rows L2
section
variable {X : Cx} {CX : CXT} {k : Nat} {C f : Addr} {fd : FuncData} {ps : List Str} {sp : Sp} {E : XK} {pins : List (Addr × Obj)} {σ : L2.St} {H : Hp} {s : Shared}
theorem inst_of {a dx : Addr} {fs : List (Str × V)} (I : Inv X pins σ H s) (ea : H a = some (.ins C dx fs)) : ∃ od, PySem.W.InstAt s.heap a (PySem.W.instObj C dx) C (some od) := by
  obtain ⟨mA, O, _⟩ := ins_get I.hok ea
  obtain ⟨od, J, _⟩ := O.look
  exact ⟨od, J⟩
/-- str(x) by the own __str__ -/
def rStrOwn (C : Addr) (sp : Sp) (E : XK) : List V → Hp → VK → Prop := fun xs H Q => ∃ (a dx : Addr) (fs : List (Str × V)), xs = [.ref a] ∧ H a = some (.ins C dx fs) ∧
  sp [.ref a] H (fun v H' => ∃ z, v = .str z ∧ Q (.str z) H') E
theorem call_strOwn (hs : PySem.W.findIn X.K (.ref C) "__str__" = some (some (.ref f))) (hf : PySem.W.isFn X.K (.ref f) = true) (F : FnOk X.prog X.w X.K X.mg X.base CX k f fd ps sp) (hr : Room (k + 2) X.A) (hb : Binds X.K fd ps []) (hx : Passes CX X E) :
    CallR X (.type "str") (rStrOwn C sp E) := by
  intro pins s σ H xs us Q I r h
  obtain ⟨a, dx, fs, rfl, ea, q⟩ := h
  obtain ⟨u, rfl, ru⟩ := vals1 r
  obtain rfl : u = Value.ref a := ru
  obtain ⟨od, J⟩ := inst_of I ea
  have un := (Room.in1 (Room.in1 hr)).units0
  refine PySem.W.kso_call un I.kIn J hs hf ?_
  refine thn (run_in2 (us := [.ref a]) (vs := [.ref a]) F hr hb hx I (.cons rfl .nil) q) fun u s1 hh => ?_
  obtain ⟨w, H1, I1, r1, z, rfl, q1⟩ := hh
  obtain ⟨t, rfl⟩ := r1
  exact ⟨.str z, H1, I1, ⟨t, rfl⟩, q1⟩
/-- an int is no bool -/
theorem op_isIB : OpR X (compareOp .Is) (fun x y H Q => ∃ (i : Int) (b : Bool), x = .int i ∧ y = .bl b ∧ Q (.bl false) H) := by
  intro pins s σ H x y v u Q I rx ry h
  obtain ⟨i, b, rfl, rfl, q⟩ := h
  obtain ⟨t, rfl⟩ := rx
  obtain rfl : u = Value.bool b := ry
  exact wpAny_is_other rfl (fun z => nomatch z) ⟨.bl false, H, I, rfl, q⟩
theorem op_notIB : OpR X (compareOp .IsNot) (fun x y H Q => ∃ (i : Int) (b : Bool), x = .int i ∧ y = .bl b ∧ Q (.bl true) H) := by
  intro pins s σ H x y v u Q I rx ry h
  obtain ⟨i, b, rfl, rfl, q⟩ := h
  obtain ⟨t, rfl⟩ := rx
  obtain rfl : u = Value.bool b := ry
  exact wpAny_isNot_other rfl (fun z => nomatch z) ⟨.bl true, H, I, rfl, q⟩
end
end SB
-- T06
namespace K06
open PySem PySem.Spec PyProof.Rows L2 SB
def topS (i : Nat) : Stmt := PySem.Challenge.pw_sevenball_k06_texts_of_words.main.body.getD i (.Pass ⟨0, 0, 0, 0⟩)
abbrev s_BadWord_init : Stmt := inClass (topS 4) 0
theorem sc_BadWord_init : FnScope ["self", "at"] ["self", "at"] (defScope s_BadWord_init) := ⟨rfl, rfl, rfl, by decide +kernel, rfl, by decide +kernel, by decide +kernel⟩
abbrev s_TooMany_init : Stmt := inClass (topS 5) 0
theorem sc_TooMany_init : FnScope ["self", "what", "most"] ["self", "what", "most"] (defScope s_TooMany_init) := ⟨rfl, rfl, rfl, by decide +kernel, rfl, by decide +kernel, by decide +kernel⟩
abbrev s_BadText_init : Stmt := inClass (topS 6) 0
theorem sc_BadText_init : FnScope ["self", "item"] ["self", "item"] (defScope s_BadText_init) := ⟨rfl, rfl, rfl, by decide +kernel, rfl, by decide +kernel, by decide +kernel⟩
abbrev s_first_fault : Stmt := topS 13
theorem sc_first_fault : FnScope ["letters", "before", "at", "letter"] ["letters"] (defScope s_first_fault) := ⟨rfl, rfl, rfl, by decide +kernel, rfl, by decide +kernel, by decide +kernel⟩
abbrev s_items_of : Stmt := topS 19
theorem sc_items_of : FnScope ["text"] ["text"] (defScope s_items_of) := ⟨rfl, rfl, rfl, by decide +kernel, rfl, by decide +kernel, by decide +kernel⟩
abbrev s_Word_init : Stmt := inClass (topS 21) 0
theorem sc_Word_init : FnScope ["self", "letters", "at"] ["self", "letters"] (defScope s_Word_init) := ⟨rfl, rfl, rfl, by decide +kernel, rfl, by decide +kernel, by decide +kernel⟩
abbrev s_Word_read : Stmt := inClass (topS 21) 2
theorem sc_Word_read : FnScope ["text", "items", "word"] ["text"] (defScope s_Word_read) := ⟨rfl, rfl, rfl, by decide +kernel, rfl, by decide +kernel, by decide +kernel⟩
abbrev s_Word_str : Stmt := inClass (topS 21) 3
theorem sc_Word_str : FnScope ["self"] ["self"] (defScope s_Word_str) := ⟨rfl, rfl, rfl, by decide +kernel, rfl, by decide +kernel, by decide +kernel⟩
abbrev s_Word_eq : Stmt := inClass (topS 21) 10
theorem sc_Word_eq : FnScope ["self", "other"] ["self", "other"] (defScope s_Word_eq) := ⟨rfl, rfl, rfl, by decide +kernel, rfl, by decide +kernel, by decide +kernel⟩
abbrev s_word_in : Stmt := topS 22
theorem sc_word_in : FnScope ["item"] ["item"] (defScope s_word_in) := ⟨rfl, rfl, rfl, by decide +kernel, rfl, by decide +kernel, by decide +kernel⟩
abbrev s__law_pen : Stmt := topS 24
theorem sc__law_pen : FnScope ["script"] ["script"] (defScope s__law_pen) := ⟨rfl, rfl, rfl, by decide +kernel, rfl, by decide +kernel, by decide +kernel⟩
abbrev s__law_draw : Stmt := topS 25
theorem sc__law_draw : FnScope ["pen", "many", "digit", "spot", "cell", "great", "mixed"] ["pen", "many"] (defScope s__law_draw) := ⟨rfl, rfl, rfl, by decide +kernel, rfl, by decide +kernel, by decide +kernel⟩
abbrev s__law_pick : Stmt := topS 26
theorem sc__law_pick : FnScope ["pen", "some"] ["pen", "some"] (defScope s__law_pick) := ⟨rfl, rfl, rfl, by decide +kernel, rfl, by decide +kernel, by decide +kernel⟩
abbrev s__law_heard : Stmt := topS 27
theorem sc__law_heard : FnScope ["ask", "caught", "error"] ["ask"] (defScope s__law_heard) := ⟨rfl, rfl, rfl, by decide +kernel, rfl, by decide +kernel, by decide +kernel⟩
abbrev s__law_undo : Stmt := topS 28
theorem sc__law_undo : FnScope ["letter"] ["letter"] (defScope s__law_undo) := ⟨rfl, rfl, rfl, by decide +kernel, rfl, by decide +kernel, by decide +kernel⟩
abbrev s__law_row : Stmt := topS 29
theorem sc__law_row : FnScope ["pen", "most", "found", "kind", "turn", "some", "letter"] ["pen", "most"] (defScope s__law_row) := ⟨rfl, rfl, rfl, by decide +kernel, rfl, by decide +kernel, by decide +kernel⟩
abbrev s__law_due : Stmt := topS 30
theorem sc__law_due : FnScope ["text", "items", "row", "at", "sign"] ["text"] (defScope s__law_due) := ⟨rfl, rfl, rfl, by decide +kernel, rfl, by decide +kernel, by decide +kernel⟩
abbrev s__law_spoiled : Stmt := topS 31
theorem sc__law_spoiled : FnScope ["pen", "text", "at", "sign", "way"] ["pen", "text"] (defScope s__law_spoiled) := ⟨rfl, rfl, rfl, by decide +kernel, rfl, by decide +kernel, by decide +kernel⟩
abbrev s__law_text_right : Stmt := topS 32
theorem sc__law_text_right : FnScope ["text", "due", "caught", "word"] ["text"] (defScope s__law_text_right) := ⟨rfl, rfl, rfl, by decide +kernel, rfl, by decide +kernel, by decide +kernel⟩
abbrev s__law_long_right : Stmt := topS 33
theorem sc__law_long_right : FnScope ["text", "caught"] ["text"] (defScope s__law_long_right) := ⟨rfl, rfl, rfl, by decide +kernel, rfl, by decide +kernel, by decide +kernel⟩
abbrev s_law : Stmt := topS 34
theorem sc_law : FnScope ["script", "turn", "row", "word", "caught", "many", "odd", "pen"] ["script"] (defScope s_law) := ⟨rfl, rfl, rfl, by decide +kernel, rfl, by decide +kernel, by decide +kernel⟩
end K06
-- M1
namespace SB
open PySem PySem.Spec PyProof.Rows L2
/-! ### letters as codes; rows of letters -/
def T (l : List Nat) : Str := ⟨l.toArray⟩
/-- the code of the letter that undoes one -/
def up (c : Nat) : Nat := if 97 ≤ c then c - 32 else c + 32
def letters8 : List Nat := [65, 66, 67, 68, 97, 98, 99, 100]
def isL (c : Nat) : Bool := decide (c ∈ letters8)
/-- the first place at which no sign can stand, from place i on, prev being ahead -/
def faultFrom (prev : Option Nat) (i : Nat) : List Nat → Option Nat
  | [] => none
  | c :: r => if isL c = false ∨ some (up c) = prev then some i else faultFrom (some c) (i + 1) r
def fault (l : List Nat) : Option Nat := faultFrom none 0 l
theorem T_cps (l : List Nat) : (T l).cps.toList = l := rfl
theorem letters_T : ("ABCDabcd" : Str) = T letters8 := by decide +kernel
theorem swap_up : ∀ c, isL c = true → Txt.swapcase ⟨#[c]⟩ = ⟨#[up c]⟩ := by
  intro c h
  have h' : c ∈ letters8 := of_decide_eq_true h
  have all : ∀ c ∈ letters8, Txt.swapcase ⟨#[c]⟩ = ⟨#[up c]⟩ := by decide +kernel
  exact all c h'
/-- one sign as a text -/
abbrev s1 (c : Nat) : Str := ⟨#[c]⟩
def prevT : Option Nat → Str
  | none => T []
  | some c => s1 c
theorem s1_inj {a b : Nat} (h : s1 a = s1 b) : a = b := by
  have := congrArg Str.cps h
  simpa using this
theorem eq_prev (c : Nat) (p : Option Nat) : decide (V.str (s1 c) = V.str (prevT p)) = decide (some c = p) := by
  cases p with
  | none =>
    refine (decide_eq_false ?_).trans (decide_eq_false (by simp)).symm
    intro z
    have := congrArg Str.cps (V.str.inj z)
    simp [prevT, T] at this
  | some d =>
    by_cases e : c = d
    · subst e
      simp [prevT]
    · refine (decide_eq_false ?_).trans (decide_eq_false (by simpa using e)).symm
      intro z
      exact e (s1_inj (V.str.inj z))
end SB
-- P1
namespace K06
open PySem PySem.Spec PyProof.Rows L2 SB
theorem walk_enumS {z : Str} : Walk (Ies z) z.cps.size (fun _ => True) (fun i H v H' => ∃ (T : Addr) (c : Nat), v = .ref T ∧ H T = none ∧ z.cps[i]? = some c ∧ H' = upd H T (.tup [.int (i : Nat), .str ⟨#[c]⟩])) :=
  ⟨fun _ _ hi _ => hi, fun _ _ => rfl, fun _ _ _ _ _ _ y => y⟩
theorem same_new {H : Hp} {p : Addr} {o : HO} (h : H p = none) : Same H (upd H p o) := fun b x e => by
  rw [upd_ne (ne_of_none e h)]
  exact e
theorem drop_at {z : Str} {i c : Nat} (h : z.cps[i]? = some c) : z.cps.toList.drop i = c :: z.cps.toList.drop (i + 1) := by
  have h' : z.cps.toList[i]? = some c := by rw [Array.getElem?_toList]; exact h
  obtain ⟨lt, e⟩ := List.getElem?_eq_some_iff.mp h'
  rw [List.drop_eq_getElem_cons lt, e]
section
variable {P : Program} {w : World} {K : PySem.W.Frag} {mg : Str → Option Value} {base : Heap}
def vFault (l : List Nat) : V := match fault l with | none => .non | some i => .int (i : Nat)
def spFault : Sp := fun vs H Q _ => ∃ z : Str, vs = [.str z] ∧ ∀ H', Same H H' → Q (vFault z.cps.toList) H'
theorem ok_first_fault {f : Addr} {fd : FuncData} {k : Nat} (F : Fun K "first_fault" "first_fault" s_first_fault f fd) (me : mg "enumerate" = none) (mL : ∃ t, mg "LETTERS" = some (.str "ABCDabcd" t)) :
    FnOk P w K mg base CX0 (k + 1) f fd ["letters"] spFault := by
  obtain ⟨tL, mL⟩ := mL
  refine F.ok sc_first_fault (fun vs H Q E h => ?_) (fun cdv A outer s H vs Q E hr h => ?_)
  · obtain ⟨z, rfl, _⟩ := h
    rfl
  · obtain ⟨z, rfl, q⟩ := h
    refine ⟨_, pss_cons (ps_set (i := 1) sc_first_fault.nd rfl (.inl rfl) pe_str)
      (pss_cons (ps_for PassesOwn.never rfl (pi_enumS (by rfl) me (pa_cons (pv 0) pa_nil))
          (pg_tup rfl (pgs_cons (pg_name (i := 2) sc_first_fault.nd rfl (.inl rfl)) (pgs_cons (pg_name (i := 3) sc_first_fault.nd rfl (.inl rfl)) pgs_nil)))
        (pss_cons (ps_if (PW.pt (pw_or (pt_cmpR op_notIn_sign (pv 3) (pe_glob (v := .str "ABCDabcd") (by rfl) mL ⟨_, rfl⟩) rfl)
            (pw_or1 (pt_cmpR op_eq (pe_m0 PySem.F.slot_str_swapcase PySem.F.type_str_swapcase mt_swapcase (pv 3)) (pv 1) (nomark _)))))
          (pss_one (ps_ret (pv 2))) pss_nil)
        (pss_one (ps_set (i := 1) sc_first_fault.nd rfl (.inl rfl) (pv 3)))))
      (pss_one (ps_ret pe_non))), ?_⟩
    refine ⟨.str z, rfl, z, rfl, for_it walk_enumS (fun i σ H1 => ∃ p y2 y3, σ = [some (.str z), some (.str (prevT p)), y2, y3] ∧ Same H H1 ∧ faultFrom p i (z.cps.toList.drop i) = fault z.cps.toList)
      ⟨none, none, none, rfl, Same.refl H, rfl⟩ (fun _ _ _ _ _ => trivial) (fun i x σ H1 H2 hi hP hY => ?_) (fun σ H1 hP => ?_)⟩
    · obtain ⟨p, y2, y3, rfl, sm, ef⟩ := hP
      obtain ⟨T, c, rfl, nT, hc, rfl⟩ := hY
      rw [drop_at hc] at ef
      refine ⟨T, _, rfl, .inl (.inl upd_same), rfl, _, _, rfl, _, _, rfl, rfl, ?_⟩
      have sm2 : Same H (upd H1 T (.tup [.int (i : Nat), .str ⟨#[c]⟩])) := sm.trans (same_new nT)
      have mem : decide (c ∈ (Str.ofString "ABCDabcd").cps.toList) = isL c := by
        rw [letters_T]
        rfl
      refine ⟨.str ⟨#[c]⟩, rfl, c, _, rfl, rfl, _, rfl, ?_⟩
      rw [mem]
      by_cases hL : isL c = true
      · rw [hL]
        refine iteF ?_
        refine ⟨.str ⟨#[c]⟩, rfl, ⟨_, rfl⟩, _, rfl, rfl, (by show 1 ≤ 5592405; decide), .str (prevT p), rfl, rfl, _, rfl, ?_⟩
        rw [swap_up c hL, eq_prev]
        refine ite2 (fun hp => ?_) (fun hp => ?_)
        · have e : fault z.cps.toList = some i := by
            rw [← ef]
            exact if_pos (.inr (of_decide_eq_true hp))
          refine ⟨_, rfl, ?_⟩
          have r := q _ sm2
          unfold vFault at r
          rw [e] at r
          exact r
        · refine ⟨_, rfl, some c, _, _, rfl, sm2, ?_⟩
          have n : ¬ (isL c = false ∨ some (up c) = p) := by
            rintro (z1 | z2)
            · rw [hL] at z1
              cases z1
            · exact hp (decide_eq_true z2)
          rw [← ef]
          exact (if_neg n).symm
      · have hL' : isL c = false := by simpa using hL
        rw [hL']
        refine iteT (iteT ?_)
        have e : fault z.cps.toList = some i := by
          rw [← ef]
          exact if_pos (.inl hL')
        refine ⟨_, rfl, ?_⟩
        have r := q _ sm2
        unfold vFault at r
        rw [e] at r
        exact r
    · obtain ⟨p, y2, y3, rfl, sm, ef⟩ := hP
      have e : fault z.cps.toList = none := by
        rw [← ef, show z.cps.size = z.cps.toList.length from rfl, List.drop_length]
        rfl
      have r := q _ sm
      unfold vFault at r
      rw [e] at r
      exact r
end
end K06
-- M2
namespace SB
open PySem PySem.Spec PyProof.Rows L2
/-- the items of a text -/
def items (z : Str) : List Str := Txt.split z " "
theorem blank_T : (" " : Str) = ⟨#[32]⟩ := by decide +kernel
theorem items_pos (z : Str) : 1 ≤ (items z).length := split_pos z " "
theorem items_one {z : Str} (h : (items z).length = 1) : items z = [z] := by
  have j : Str.join " " (items z) = z   := StrLaws.join_split z " "
  match e : items z, h with
  | [a], _ =>
    rw [e] at j
    exact congrArg (fun a => [a]) j
theorem items_free {z : Str} (h : (32 : Nat) ∉ z.cps.toList) : items z = [z] := by
  refine items_one ?_
  have l := split_len z 32
  unfold items
  rw [blank_T]
  have c0 : ∀ l : List Nat, (32 : Nat) ∉ l → cnt 32 l = 0 := by
    intro l
    induction l with
    | nil => intro _; rfl
    | cons a r ih =>
      intro hn
      rw [cnt_cons, ih fun z => hn (List.mem_cons_of_mem _ z), if_neg fun z => hn (by rw [z]; exact List.mem_cons_self)]
      rfl
  rw [c0 _ h] at l
  omega
theorem items_short {z a : Str} (h : a ∈ items z) : a.length ≤ z.length := part_short h
/-- of a row without a fault each sign is a letter -/
theorem letters_of : ∀ (l : List Nat) (p : Option Nat) (i : Nat), faultFrom p i l = none → ∀ c ∈ l, isL c = true
  | [], _, _, _, c, hc => nomatch hc
  | a :: r, p, i, h, c, hc => by
    have h' : (if isL a = false ∨ some (up a) = p then some i else faultFrom (some a) (i + 1) r) = none := h
    by_cases e : isL a = false ∨ some (up a) = p
    · rw [if_pos e] at h'
      cases h'
    · rw [if_neg e] at h'
      rcases List.mem_cons.mp hc with q | q
      · rw [q]
        cases z : isL a with
        | true => rfl
        | false => exact (e (.inl z)).elim
      · exact letters_of r _ _ h' c q
theorem letter_lt : ∀ c, isL c = true → c < 128 := by
  intro c h
  have h' : c ∈ letters8 := of_decide_eq_true h
  have all : ∀ c ∈ letters8, c < 128 := by decide +kernel
  exact all c h'
theorem ok_word {z : Str} (h : fault z.cps.toList = none) : (z.cps.all fun c => decide (c < 0x110000)) = true := by
  rw [← Array.all_toList, List.all_eq_true]
  intro c hc
  have := letter_lt c (letters_of _ _ _ h c hc)
  exact decide_eq_true (by omega)
theorem shaped_word {z : Str} (n : Int) (h : fault z.cps.toList = none) : SeqAt.shaped (.tuple [.int n, .str z]) = true := by
  have e : PyData.canLay0 (.tuple [.int n, .str z]) = true := by
    show (true && ((z.cps.all fun c => decide (c < 0x110000)) && true)) = true
    rw [ok_word h]
    rfl
  unfold SeqAt.shaped
  rw [e]
  rfl
end SB
-- R10
namespace SB
open PySem PySem.Spec PyProof.Rows L2
/-- __init__(self, f): self.f = f, of an own error class -/
def spErr1 (K : PySem.W.Frag) (g : Str) : Sp := fun vs H Q _ => ∃ (a C : Addr) (y : V), vs = [.ref a, y] ∧ OexC K C ∧ PySem.W.findIn K (.ref C) g = some none ∧ H a = some (exo a C none) ∧
  ∀ dx, H dx = none → dx ≠ a → Q .non (upd (upd H dx (exd dx [(g, y)])) a (exo a C (some dx)))
/-- what is told of an own error class x of one field g: its class at C, its __init__ at fI -/
structure Err1 (K : PySem.W.Frag) (mg : Str → Option Value) (x g : Str) (C fI : Addr) : Prop where
  ox : OexC K C
  ec : ErrC K C
  iC : PySem.W.findIn K (.ref C) "__init__" = some (some (.ref fI))
  tI : PySem.W.typeIn K (.ref fI) = some (.type "function")
  no : PySem.W.findIn K (.ref C) g = some none
  at_ : mg x = some (.ref C)
theorem heap_raised {H : Hp} {a d : Addr} {o1 o2 o3 o4 : HO} (ha : H a = none) (hd : (upd H a o1) d = none) (ne : d ≠ a) : upd (del (upd (upd (upd H a o1) d o2) a o3) a) d o4 = upd H d o4 := by
  funext b
  by_cases e1 : b = d
  · subst e1
    rw [upd_same, upd_same]
  · rw [upd_ne e1, upd_ne e1]
    by_cases e2 : b = a
    · subst e2
      rw [del_same, ha]
    · rw [del_ne e2, upd_ne e2, upd_ne e1, upd_ne e2]
section
variable {X : Cx} {x g : Str} {C fI : Addr} {k : Nat} {fd : FuncData} {ps : List Str} {W : WX} {e : Expr} {te : TE} {p pos pos2 : Pos} {CX : CXT}
/-- raise x(e) -/
theorem ps_raise1 (T : Err1 X.K X.mg x g C fI) (F : FnOk X.prog X.w X.K X.mg X.base CX k fI fd ps (spErr1 X.K g)) (hb : Binds X.K fd ps []) (hr : Room (k + 1) X.A) (hc : X.calm = true) (tk : Takes X W) (hx : Passes CX X (fun _ _ _ => False)) (he : PE X e te) (hg : Gl X x := by rfl)
    (hs : starEach (e :: []) X.env = (false, eval e X.env) :: starEach [] X.env := by rfl) (hpl : (backTo pos (starEach [] X.env)).any (·.1) = false := by rfl) (hdb : (x == ("__debug__" : Str)) = false := by decide) :
    PS X (.Raise (some (.Call (.Name x p) [e] [] pos)) none pos2) (fun _ σ H => tMkO C (spErr1 X.K g) [] (tCons te tNil) σ H fun cls d H' => W cls d σ H') :=
  ps_raise (pos := pos2) hc tk (pmk_oex (pos := pos) (p := p) T.ox T.iC T.tI F hr hb .nil hx hg T.at_ (pa_cons he pa_nil hs) hdb hs hpl)
end
/-- what such a raise asks, once its argument is there -/
theorem raised1 {K : PySem.W.Frag} {mg : Str → Option Value} {x g : Str} {C fI : Addr} {H : Hp} {y : V} {Q : XK} (T : Err1 K mg x g C fI) (h : ∀ d, H d = none → Q (.ref C) (some d) (upd H d (.xd [(g, y)]))) :
    ([y] : List V).length ≤ 1000 ∧ ∀ a, H a = none → spErr1 K g (.ref a :: ([y] ++ [])) (upd H a (exo a C none)) (fun v H2 => v = .non ∧ ∃ (d : Addr) (fs : List (Str × V)), H2 a = some (exo a C (some d)) ∧ H2 d = some (exd d fs) ∧ H d = none ∧ Q (.ref C) (some d) (upd (del H2 a) d (.xd fs))) (fun _ _ _ => False) := by
  refine ⟨by show 1 ≤ 1000; decide, fun a ha => ⟨a, C, y, rfl, T.ox, T.no, upd_same, fun dx hd ne => ⟨rfl, dx, [(g, y)], upd_same, ?_, ?_, ?_⟩⟩⟩
  · rw [upd_ne ne, upd_same]
  · rw [upd_ne ne] at hd
    exact hd
  · rw [heap_raised ha hd ne]
    refine h dx ?_
    rw [upd_ne ne] at hd
    exact hd
theorem init1_sp {K : PySem.W.Frag} {g : Str} {vs : List V} {H : Hp} {Q : VK} {E : XK} (h : spErr1 K g vs H Q E) : vs.length = 2 := by
  obtain ⟨a, C, y, rfl, _⟩ := h
  rfl
/-- the reading of self.f = f -/
theorem init1_read {K : PySem.W.Frag} {g : Str} {vs : List V} {H : Hp} {Q : VK} {E : XK} {N : List Str} (hN : N.length = 2) (h : spErr1 K g vs H Q E) : tOst K g (tVar 0) (tVar 1) { nx := fun _ H' => Q .non H', rt := Q } (L2.start N vs) H := by
  obtain ⟨a, C, y, rfl, T, hn, ha, q⟩ := h
  match N, hN with
  | [_, _], _ => exact ⟨y, rfl, .ref a, rfl, a, C, rfl, T, hn, .inl ⟨ha, fun dx h1 h2 => q dx h1 h2⟩⟩
end SB
-- P2
namespace K06
open PySem PySem.Spec PyProof.Rows L2 SB
section
variable {P : Program} {w : World} {K : PySem.W.Frag} {mg : Str → Option Value} {base : Heap}
theorem ok_BadText_init {f : Addr} {fd : FuncData} {k : Nat} (F : Fun K "__init__" "BadText.__init__" s_BadText_init f fd) : FnOk P w K mg base CX0 (k + 1) f fd ["self", "item"] (spErr1 K "item") := by
  refine F.ok sc_BadText_init (fun vs H Q E h => init1_sp h) (fun cdv A outer s H vs Q E hr h => ?_)
  exact ⟨_, pss_one (ps_ost (pv 0) (pv 1)), init1_read rfl h⟩
theorem ok_BadWord_init {f : Addr} {fd : FuncData} {k : Nat} (F : Fun K "__init__" "BadWord.__init__" s_BadWord_init f fd) : FnOk P w K mg base CX0 (k + 1) f fd ["self", "at"] (spErr1 K "at") := by
  refine F.ok sc_BadWord_init (fun vs H Q E h => init1_sp h) (fun cdv A outer s H vs Q E hr h => ?_)
  exact ⟨_, pss_one (ps_ost (pv 0) (pv 1)), init1_read rfl h⟩
/-- any value, and whether it is a text -/
def AnyV (K : PySem.W.Frag) (H : Hp) (x : V) : Prop := (∃ z : Str, x = .str z) ∨ ∃ t, TyX K H x t ∧ PySem.W.kitOne K t (.type "str") = some false
theorem isStr_of {K : PySem.W.Frag} {H : Hp} {x : V} (h : AnyV K H x) : ∃ t b, TyX K H x t ∧ PySem.W.kitOne K t (.type "str") = some b ∧ (b = true → ∃ z : Str, x = .str z) ∧ (b = false → ∀ z : Str, x ≠ .str z) := by
  rcases h with ⟨z, rfl⟩ | ⟨t, ty, e⟩
  · exact ⟨.type "str", true, .base (.str z), kit_ty (by decide +kernel), fun _ => ⟨z, rfl⟩, fun z => nomatch z⟩
  · refine ⟨t, false, ty, e, (fun z => nomatch z), fun _ z hz => ?_⟩
    subst hz
    cases ty with
    | base b =>
      cases b
      have z : PySem.W.kitOne K (.type "str") (.type "str") = some true := kit_ty (by decide +kernel)
      rw [z] at e
      cases e
def spItems (K : PySem.W.Frag) (CT : Addr) : Sp := fun vs H Q E => ∃ x, vs = [x] ∧ AnyV K H x ∧
  (∀ z : Str, x = .str z → z.length ≤ 10000 ∧ ∀ p, H p = none → Q (.ref p) (upd H p (.lst ((items z).map .str)))) ∧
  ((∀ z : Str, x ≠ .str z) → ∀ d, H d = none → E (.ref CT) (some d) (upd H d (.xd [("item", .int 0)])))
theorem ok_items_of {f CT fT : Addr} {fd fdT : FuncData} {k : Nat} (F : Fun K "items_of" "items_of" s_items_of f fd) (T : Err1 K mg "BadText" "item" CT fT) (FT : Fun K "__init__" "BadText.__init__" s_BadText_init fT fdT) (bT : Binds K fdT ["self", "item"] [])
    (mi : mg "isinstance" = none) (ms : mg "str" = none) : FnOk P w K mg base (L2.CX P w) (k + 3) f fd ["text"] (spItems K CT) := by
  refine F.okX sc_items_of (fun vs H Q E h => ?_) (fun cdv A outer s H vs Q E hr h => ?_)
  · obtain ⟨x, rfl, _⟩ := h
    rfl
  · obtain ⟨x, rfl, hx, yes, no⟩ := h
    refine ⟨_, pss_cons (ps_if (pt_not (pt_val (pe_callB call_isi (by rfl) mi boot_isinstance (pa_cons (pv 0) (pa_cons (pe_bltn (v := .ty "str") (by rfl) ms PyProof.Rows.boot_str rfl) pa_nil)))))
        (pss_one (ps_raise1 T (ok_BadText_init (k := k) FT) bT (hr.mono (by omega)) rfl (takes_of rfl rfl rfl rfl) pass0 pe_int)) pss_nil)
      (pss_one (ps_ret (pe_split (pv 0) pe_str))), ?_⟩
    obtain ⟨t, b, ty, ek, h1, h2⟩ := isStr_of hx
    refine ⟨x, rfl, x, .ty "str", t, .type "str", b, rfl, .ty "str", ty, ek, b, rfl, ?_⟩
    cases b with
    | true =>
      obtain ⟨z, rfl⟩ := h1 rfl
      refine iteF ?_
      obtain ⟨hl, q⟩ := yes z rfl
      refine ⟨.str z, rfl, ⟨_, rfl⟩, z, " ", rfl, rfl, by decide +kernel, ?_, fun p hp => q p hp⟩
      rw [sizeLine_eq]
      omega
    | false =>
      refine iteT ?_
      exact raised1 T fun d hd => no (h2 rfl) d hd
end
end K06
-- P3
namespace K06
open PySem PySem.Spec PyProof.Rows L2 SB
section
variable {P : Program} {w : World} {K : PySem.W.Frag} {mg : Str → Option Value} {base : Heap}
/-- a Word of the letters z at a -/
def WordAt (CW : Addr) (H : Hp) (a : Addr) (z : Str) : Prop := ∃ dx, H a = some (.ins CW dx [("letters", .str z)])
theorem same_made {H H' : Hp} {x dx C : Addr} {o : HO} (nx : H x = none) (nd : H dx = none) (s : Same (upd (upd H dx (.own x)) x (.ins C dx [])) H') : Same H (upd H' x o) := fun b u e => by
  have bx : b ≠ x := ne_of_none e nx
  have bd : b ≠ dx := ne_of_none e nd
  rw [upd_ne bx]
  refine s b u ?_
  rw [upd_ne bx, upd_ne bd]
  exact e
def spWordInit (K : PySem.W.Frag) (CW CB : Addr) : Sp := fun vs H Q E => ∃ (a dx : Addr) (x : V), vs = [.ref a, x] ∧ H a = some (.ins CW dx []) ∧ AnyV K H x ∧
  (∀ z : Str, x = .str z → z.length ≤ 4000 ∧
    (∀ i, fault z.cps.toList = some i → ∀ H' d, Same H H' → H' d = none → E (.ref CB) (some d) (upd H' d (.xd [("at", .int (i : Nat))]))) ∧
    (fault z.cps.toList = none → ∀ H', Same H H' → Q .non (upd H' a (.ins CW dx [("letters", .str z)])))) ∧
  ((∀ z : Str, x ≠ .str z) → ∀ d, H d = none → E (.ref CB) (some d) (upd H d (.xd [("at", .int 0)])))
theorem ok_Word_init {f CW CB fB fF : Addr} {fd fdB fdF : FuncData} {k : Nat} (F : FunD K "__init__" "Word.__init__" (defArgs s_Word_init) (defBody s_Word_init) (defScope s_Word_init) [.str ""] [] f fd) (T : Err1 K mg "BadWord" "at" CB fB) (FB : Fun K "__init__" "BadWord.__init__" s_BadWord_init fB fdB) (bB : Binds K fdB ["self", "at"] [])
    (FF : Fun K "first_fault" "first_fault" s_first_fault fF fdF) (bF : Binds K fdF ["letters"] []) (gF : mg "first_fault" = some (.ref fF)) (cl : Cls K CW) (na : NoAttr K CW "letters")
    (mi : mg "isinstance" = none) (ms : mg "str" = none) (ml : mg "len" = none) (me : mg "enumerate" = none) (mL : ∃ t, mg "LETTERS" = some (.str "ABCDabcd" t)) (mM : ∃ t, mg "MOST_LETTERS" = some (.int 4000 t)) :
    FnOk P w K mg base (L2.CX P w) (k + 3) f fd ["self", "letters"] (spWordInit K CW CB) := by
  obtain ⟨tM, mM⟩ := mM
  refine FunD.ok F sc_Word_init (fun vs H Q E h => ?_) (fun cdv A outer s H vs Q E hr h => ?_)
  · obtain ⟨a, dx, x, rfl, _⟩ := h
    rfl
  · obtain ⟨a, dx, x, rfl, ha, hx, yes, no⟩ := h
    have nd := sc_Word_init.nd
    have GF : FnOk P w K mg base CX0 (k + 2) fF fdF ["letters"] spFault := ok_first_fault (k := k + 1) FF me mL
    refine ⟨_, pss_cons (ps_if (pt_not (pt_val (pe_callB call_isi (by rfl) mi boot_isinstance (pa_cons (pv 1) (pa_cons (pe_bltn (v := .ty "str") (by rfl) ms PyProof.Rows.boot_str rfl) pa_nil)))))
        (pss_one (ps_raise1 T (ok_BadWord_init (k := k) FB) bB (hr.mono (by omega)) rfl (takes_of rfl rfl rfl rfl) pass0 pe_int)) pss_nil)
      (pss_cons (ps_set (i := 2) nd rfl (.inl rfl) (pe_call GF hr (by rfl) gF FF.kp bF .nil pass0 (pa_cons (pv 1) pa_nil)))
      (pss_cons (ps_if (pt_cmpR op_notN (pv 2) pe_non (nomark _))
        (pss_one (ps_raise1 T (ok_BadWord_init (k := k) FB) bB (hr.mono (by omega)) rfl (takes_of rfl rfl rfl rfl) pass0 (pv 2))) pss_nil)
      (pss_cons (ps_if (pt_cmpR op_gt (pe_callB call_len (by rfl) ml PySem.boot_len (pa_cons (pv 1) pa_nil)) (pe_glob (v := .int 4000) (by rfl) mM ⟨_, rfl⟩) (nomark _))
        (pss_one ps_never) pss_nil)
      (pss_one (ps_fld (pv 0) (pv 1) rfl))))), ?_⟩
    obtain ⟨t, b, ty, ek, h1, h2⟩ := isStr_of hx
    refine ⟨x, rfl, x, .ty "str", t, .type "str", b, rfl, .ty "str", ty, ek, b, rfl, ?_⟩
    cases b with
    | false =>
      refine iteT ?_
      exact raised1 T fun d hd => no (h2 rfl) d hd
    | true =>
      obtain ⟨z, rfl⟩ := h1 rfl
      refine iteF ?_
      obtain ⟨hl, bad, good⟩ := yes z rfl
      refine ⟨.str z, rfl, z, rfl, fun H1 sm => ?_⟩
      refine ⟨_, rfl, rfl, _, rfl, ?_⟩
      cases e : fault z.cps.toList with
      | some i =>
        have ev : vFault z.cps.toList = .int (i : Nat) := by
          unfold vFault
          rw [e]
        rw [ev]
        refine iteT ?_
        refine ⟨_, rfl, ?_⟩
        exact raised1 T fun d hd => bad i e H1 d sm hd
      | none =>
        have ev : vFault z.cps.toList = .non := by
          unfold vFault
          rw [e]
        rw [ev]
        refine iteF ?_
        refine ⟨.str z, rfl, .str z, z.length, rfl, ⟨by rw [sizeLine_eq]; omega, rfl⟩, _, _, rfl, rfl, _, rfl, ?_⟩
        have nb : decide ((4000 : Int) < (z.length : Int)) = false := decide_eq_false (by omega)
        rw [nb]
        refine iteF ?_
        exact ⟨.str z, rfl, .ref a, rfl, a, CW, dx, [], rfl, sm _ _ ha, cl, na, by decide, good e H1 sm⟩
end
end K06
-- P4
namespace K06
open PySem PySem.Spec PyProof.Rows L2 SB
/-- the letters of the word that an item writes -/
def wordOf (z : Str) : Option Str := if z = "-" then some "" else if z = "" ∨ 4000 < z.length ∨ fault z.cps.toList ≠ none then none else some z
section
variable {P : Program} {w : World} {K : PySem.W.Frag} {mg : Str → Option Value} {base : Heap}
def spWordIn (CW : Addr) : Sp := fun vs H Q _ => ∃ z : Str, vs = [.str z] ∧ z.length ≤ 10000 ∧ (wordOf z = none → ∀ H', Same H H' → Q .non H') ∧
  ∀ l, wordOf z = some l → ∀ a H', H a = none → Same H H' → WordAt CW H' a l → Q (.ref a) H'
theorem made_word {H H1 : Hp} {x dx CW : Addr} {z : Str} (nx : H x = none) (nd : H dx = none) (s : Same (upd (upd H dx (.own x)) x (.ins CW dx [])) H1) :
    Same H (upd H1 x (.ins CW dx [("letters", .str z)])) ∧ WordAt CW (upd H1 x (.ins CW dx [("letters", .str z)])) x z := ⟨same_made nx nd s, dx, upd_same⟩
theorem ok_word_in {f CW CB fW fF : Addr} {fd fdW fdF : FuncData} {k : Nat} {tE : Value} (F : Fun K "word_in" "word_in" s_word_in f fd)
    (M : Mk K CW fW) (GW : FnOk P w K mg base (L2.CX P w) (k + 3) fW fdW ["self", "letters"] (spWordInit K CW CB)) (gW : mg "Word" = some (.ref CW)) (bW : Binds K fdW ["self", "letters"] []) (bW0 : Binds K fdW ["self", "letters"] [tE]) (rE : RelV (.str "") tE)
    (FF : Fun K "first_fault" "first_fault" s_first_fault fF fdF) (bF : Binds K fdF ["letters"] []) (gF : mg "first_fault" = some (.ref fF))
    (ml : mg "len" = none) (me : mg "enumerate" = none) (mL : ∃ t, mg "LETTERS" = some (.str "ABCDabcd" t)) (mM : ∃ t, mg "MOST_LETTERS" = some (.int 4000 t)) :
    FnOk P w K mg base CX0 (k + 5) f fd ["item"] (spWordIn CW) := by
  obtain ⟨tM, mM⟩ := mM
  refine F.ok sc_word_in (fun vs H Q E h => ?_) (fun cdv A outer s H vs Q E hr h => ?_)
  · obtain ⟨z, rfl, _⟩ := h
    rfl
  · obtain ⟨z, rfl, hl, no, yes⟩ := h
    have GF : FnOk P w K mg base CX0 (k + 4) fF fdF ["letters"] spFault := ok_first_fault (k := k + 3) FF me mL
    refine ⟨_, pss_cons (ps_if (pt_cmpR op_eq (pv 0) pe_str (nomark _)) (pss_one (ps_ret (pe_make0 M GW hr (by rfl) gW bW0 (.cons rE .nil) passL))) pss_nil)
      (pss_cons (ps_if (PW.pt (pw_or (pt_cmpR op_eq (pv 0) pe_str (nomark _)) (pw_or (pt_cmpR op_gt (pe_callB call_len (by rfl) ml PySem.boot_len (pa_cons (pv 0) pa_nil)) (pe_glob (v := .int 4000) (by rfl) mM ⟨_, rfl⟩) (nomark _))
          (pw_or1 (pt_cmpR op_notN (pe_call GF hr (by rfl) gF FF.kp bF .nil pass0 (pa_cons (pv 0) pa_nil)) pe_non (nomark _)))))) (pss_one (ps_ret pe_non)) pss_nil)
      (pss_one (ps_ret (pe_make M GW hr (by rfl) gW bW .nil passL (pa_cons (pv 0) pa_nil))))), ?_⟩
    refine ⟨.str z, rfl, rfl, _, rfl, ite2 (fun e => ?_) (fun e => ?_)⟩
    · have ez : z = "-" := V.str.inj (of_decide_eq_true e)
      refine fun x dx nx nd ne => ?_
      refine ⟨x, dx, .str "", rfl, upd_same, .inl ⟨_, rfl⟩, fun z' hz' => ?_, fun nz => (nz _ rfl).elim⟩
      cases hz'
      refine ⟨by decide +kernel, fun i hi => ?_, fun _ H1 sm => ⟨rfl, ?_⟩⟩
      · have : fault ("" : Str).cps.toList = none := by decide +kernel
        rw [this] at hi
        cases hi
      · obtain ⟨s1, w1⟩ := made_word (z := "") nx nd sm
        exact yes "" (if_pos ez) x _ nx s1 w1
    · have nz : z ≠ "-" := fun q => e (decide_eq_true (congrArg V.str q))
      have wo : ∀ {c : Prop} [Decidable c], True := trivial
      refine ⟨.str z, rfl, rfl, _, rfl, ite2 (fun e1 => ?_) (fun e1 => ?_)⟩
      · have ez : z = "" := V.str.inj (of_decide_eq_true e1)
        refine iteT ?_
        refine no ?_ H (Same.refl H)
        unfold wordOf
        rw [if_neg nz, if_pos (.inl ez)]
      · have n1 : z ≠ "" := fun q => e1 (decide_eq_true (congrArg V.str q))
        refine ⟨.str z, rfl, .str z, z.length, rfl, ⟨by rw [sizeLine_eq]; omega, rfl⟩, _, _, rfl, rfl, _, rfl, ite2 (fun e2 => ?_) (fun e2 => ?_)⟩
        · have l2 : 4000 < z.length := by
            have := of_decide_eq_true e2
            omega
          refine iteT ?_
          refine no ?_ H (Same.refl H)
          unfold wordOf
          rw [if_neg nz, if_pos (.inr (.inl l2))]
        · have l2 : ¬ 4000 < z.length := fun q => e2 (decide_eq_true (by omega))
          refine ⟨.str z, rfl, z, rfl, fun H1 sm => ?_⟩
          refine ⟨rfl, _, rfl, ?_⟩
          cases ef : fault z.cps.toList with
          | some i =>
            have ev : vFault z.cps.toList = .int (i : Nat) := by
              unfold vFault
              rw [ef]
            rw [ev]
            refine iteT ?_
            refine no ?_ H1 sm
            unfold wordOf
            rw [if_neg nz, if_pos (.inr (.inr (by rw [ef]; exact fun q => nomatch q)))]
          | none =>
            have ev : vFault z.cps.toList = .non := by
              unfold vFault
              rw [ef]
            rw [ev]
            refine iteF ?_
            refine ⟨.str z, rfl, fun x dx nx nd ne => ?_⟩
            refine ⟨x, dx, .str z, rfl, upd_same, .inl ⟨_, rfl⟩, fun z' hz' => ?_, fun nz => (nz _ rfl).elim⟩
            cases hz'
            refine ⟨by omega, fun i hi => ?_, fun _ H2 sm2 => ⟨rfl, ?_⟩⟩
            · rw [ef] at hi
              cases hi
            · obtain ⟨s1, w1⟩ := made_word (z := z) nx nd sm2
              refine yes z ?_ x _ (sm.free nx) (sm.trans s1) w1
              unfold wordOf
              rw [if_neg nz, if_neg]
              rintro (q | q | q)
              · exact n1 q
              · exact l2 q
              · exact q ef
end
end K06
-- P5
namespace K06
open PySem PySem.Spec PyProof.Rows L2 SB
/-- the first item of a text -/
def hd (z : Str) : Str := (items z).headD ""
theorem hd_at (z : Str) : (items z)[0]? = some (hd z) := by
  have h := items_pos z
  unfold hd
  cases e : items z with
  | nil =>
    rw [e] at h
    exact absurd h (by decide)
  | cons a r => rfl
theorem hd_short (z : Str) : (hd z).length ≤ z.length := items_short (List.mem_of_getElem? (hd_at z))
section
variable {P : Program} {w : World} {K : PySem.W.Frag} {mg : Str → Option Value} {base : Heap}
def spRead (K : PySem.W.Frag) (CW CT : Addr) : Sp := fun vs H Q E => ∃ x, vs = [x] ∧ AnyV K H x ∧
  (∀ z : Str, x = .str z → z.length ≤ 9000 ∧
    (wordOf (hd z) = none → ∀ H' d, Same H H' → H' d = none → E (.ref CT) (some d) (upd H' d (.xd [("item", .int 0)]))) ∧
    (∀ l, wordOf (hd z) = some l → (items z).length ≠ 1 → ∀ H' d, Same H H' → H' d = none → E (.ref CT) (some d) (upd H' d (.xd [("item", .int 1)]))) ∧
    (∀ l, wordOf (hd z) = some l → (items z).length = 1 → ∀ a H', H a = none → Same H H' → WordAt CW H' a l → Q (.ref a) H')) ∧
  ((∀ z : Str, x ≠ .str z) → ∀ d, H d = none → E (.ref CT) (some d) (upd H d (.xd [("item", .int 0)])))
theorem ok_Word_read {f CW CT fT fI fN : Addr} {fd fdT fdI fdN : FuncData} {k : Nat} (F : Fun K "read" "Word.read" s_Word_read f fd) (T : Err1 K mg "BadText" "item" CT fT) (FT : Fun K "__init__" "BadText.__init__" s_BadText_init fT fdT) (bT : Binds K fdT ["self", "item"] [])
    (GI : FnOk P w K mg base (L2.CX P w) (k + 5) fI fdI ["text"] (spItems K CT)) (bI : Binds K fdI ["text"] []) (gI : mg "items_of" = some (.ref fI)) (kI : PySem.W.keepIn K (.ref fI) = true)
    (GN : FnOk P w K mg base CX0 (k + 5) fN fdN ["item"] (spWordIn CW)) (bN : Binds K fdN ["item"] []) (gN : mg "word_in" = some (.ref fN)) (kN : PySem.W.keepIn K (.ref fN) = true) (ml : mg "len" = none) :
    FnOk P w K mg base (L2.CX P w) (k + 6) f fd ["text"] (spRead K CW CT) := by
  refine F.okX sc_Word_read (fun vs H Q E h => ?_) (fun cdv A outer s H vs Q E hr h => ?_)
  · obtain ⟨x, rfl, _⟩ := h
    rfl
  · obtain ⟨x, rfl, hx, yes, no⟩ := h
    have nd := sc_Word_read.nd
    refine ⟨_, pss_cons (ps_set (i := 1) nd rfl (.inl rfl) (pe_call GI hr (by rfl) gI kI bI .nil (E := E) (passes_call (takes_of rfl rfl rfl rfl) fun _ _ _ _ q => q) (pa_cons (pv 0) pa_nil)))
      (pss_cons (ps_set (i := 2) nd rfl (.inl rfl) (pe_call GN hr (by rfl) gN kN bN .nil pass0 (pa_cons (pe_ix ix_list (pv 1) pe_int (fun _ _ => rfl)) pa_nil)))
      (pss_cons (ps_if (pt_cmpR op_isN (pv 2) pe_non (nomark _)) (pss_one (ps_raise1 T (ok_BadText_init (k := k) FT) bT (hr.mono (by omega)) rfl (takes_of rfl rfl rfl rfl) pass0 pe_int)) pss_nil)
      (pss_cons (ps_if (pt_cmpR op_gt (pe_callB call_len_seq (by rfl) ml PySem.boot_len (pa_cons (pv 1) pa_nil)) pe_int (nomark _)) (pss_one (ps_raise1 T (ok_BadText_init (k := k) FT) bT (hr.mono (by omega)) rfl (takes_of rfl rfl rfl rfl) pass0 pe_int)) pss_nil)
      (pss_one (ps_ret (pv 2)))))), ?_⟩
    refine ⟨x, rfl, x, rfl, hx, fun z hz => ?_, fun nz d hd => no nz d hd⟩
    subst hz
    obtain ⟨hl, h0, h1, h2⟩ := yes z rfl
    refine ⟨by omega, fun p hp => ?_⟩
    have s1 : Same H (upd H p (.lst ((items z).map .str))) := same_new hp
    refine ⟨.ref p, rfl, p, _, 0, .str (hd z), rfl, rfl, .inl (.inl upd_same), atI_nat (j := 0) (by rw [List.getElem?_map, hd_at]; rfl), ?_⟩
    have many : ((items z).map V.str).length = (items z).length := List.length_map ..
    refine ⟨hd z, rfl, Nat.le_trans (hd_short z) (by omega), fun en H2 s2 => ?_, fun l el a H2 na s2 wa => ?_⟩
    · refine ⟨_, rfl, rfl, _, rfl, iteT ?_⟩
      exact raised1 T fun d hd => h0 en H2 d (s1.trans s2) hd
    · refine ⟨_, rfl, rfl, _, rfl, iteF ?_⟩
      refine ⟨.ref p, rfl, p, _, rfl, .inl (.inl (.inl (s2 _ _ upd_same))), _, _, rfl, rfl, _, rfl, ?_⟩
      rw [many]
      have pos := items_pos z
      by_cases e1 : (items z).length = 1
      · rw [e1]
        refine iteF ?_
        exact ⟨_, rfl, h2 l el e1 a H2 (s1.free na) (s1.trans s2) wa⟩
      · have gt : decide ((1 : Int) < ((items z).length : Int)) = true := decide_eq_true (by omega)
        rw [gt]
        refine iteT ?_
        exact raised1 T fun d hd => h1 l el e1 H2 d (s1.trans s2) hd
/-- __str__ -/
def strOf (z : Str) : Str := if z = "" then "-" else z
def spStr (CW : Addr) : Sp := fun vs H Q _ => ∃ a z, vs = [.ref a] ∧ WordAt CW H a z ∧ Q (.str (strOf z)) H
theorem ok_Word_str {f CW : Addr} {fd : FuncData} {k : Nat} (F : Fun K "__str__" "Word.__str__" s_Word_str f fd) (cl : Cls K CW) (na : NoAttr K CW "letters") (ms : mg "str" = none) :
    FnOk P w K mg base CX0 (k + 1) f fd ["self"] (spStr CW) := by
  refine F.ok sc_Word_str (fun vs H Q E h => ?_) (fun cdv A outer s H vs Q E hr h => ?_)
  · obtain ⟨a, z, rfl, _⟩ := h
    rfl
  · obtain ⟨a, z, rfl, ⟨dx, ha⟩, q⟩ := h
    refine ⟨_, pss_cons (ps_if (pt_cmpR op_eq (pe_fld (pv 0) rfl) pe_str (nomark _)) (pss_one (ps_ret pe_str)) pss_nil)
      (pss_one (ps_ret (pe_callTy SkE.call_str_str (by rfl) ms PyProof.Rows.boot_str (pa_cons (pe_fld (pv 0) rfl) pa_nil)))), ?_⟩
    refine ⟨.ref a, rfl, a, CW, dx, _, .str z, rfl, ha, cl, na, rfl, rfl, _, rfl, ite2 (fun e => ?_) (fun e => ?_)⟩
    · have ez : z = "" := V.str.inj (of_decide_eq_true e)
      unfold strOf at q
      rw [if_pos ez] at q
      exact q
    · have nz : z ≠ "" := fun q => e (decide_eq_true (congrArg V.str q))
      unfold strOf at q
      rw [if_neg nz] at q
      exact ⟨.ref a, rfl, a, CW, dx, _, .str z, rfl, ha, cl, na, rfl, z, rfl, q⟩
end
end K06
-- P6
namespace K06
open PySem PySem.Spec PyProof.Rows L2 SB
/-- what isinstance asks of an own class -/
structure IsC (K : PySem.W.Frag) (C : Addr) : Prop where
  ca : PySem.W.findIn K (.ref C) "__class__" = some (some (.builtin "object.__class__"))
  cg : PySem.W.specialIn K (.builtin "object.__class__") "__get__" = some (some (.builtin "getset_descriptor.__get__"))
  ct : PySem.W.takesIn K (.builtin "object.__class__") = some true
  mr : PySem.W.mroIn K C (.type "object") = some true
  ns : PySem.W.kitOne K (.ref C) (.type "str") = some false
theorem isC_ty {K : PySem.W.Frag} {CW a : Addr} {H : Hp} {z : Str} (c : Cls K CW) (i : IsC K CW) (h : WordAt CW H a z) : TyX K H (.ref a) (.ref CW) := by
  obtain ⟨dx, h⟩ := h
  exact .base (.ins h c i.ca i.cg i.ct i.mr)
theorem kit_self {K : PySem.W.Frag} {C : Addr} : PySem.W.kitOne K (.ref C) (.ref C) = some true := by
  unfold PySem.W.kitOne
  rw [if_pos (beq_self_eq_true _)]
theorem eqv_word (z y : Str) : PyData.eqv (.tuple [.int (z.length : Nat), .str z]) (.tuple [.int (y.length : Nat), .str y]) = decide (z = y) := by
  show ((((z.length : Nat) : Int) == ((y.length : Nat) : Int)) && ((z == y) && true)) = decide (z = y)
  by_cases e : z = y
  · subst e
    simp
  · have : (z == y) = false := by simpa using e
    rw [this, decide_eq_false e]
    simp
section
variable {P : Program} {w : World} {K : PySem.W.Frag} {mg : Str → Option Value} {base : Heap}
def spEq (CW : Addr) : Sp := fun vs H Q _ => ∃ a b z y, vs = [.ref a, .ref b] ∧ WordAt CW H a z ∧ WordAt CW H b y ∧ z.length ≤ 100000 ∧ y.length ≤ 100000 ∧ fault z.cps.toList = none ∧ fault y.cps.toList = none ∧ ∀ H', Same H H' → Q (.bl (decide (z = y))) H'
theorem ok_Word_eq {f CW : Addr} {fd : FuncData} {k : Nat} (F : Fun K "__eq__" "Word.__eq__" s_Word_eq f fd) (cl : Cls K CW) (ic : IsC K CW) (na : NoAttr K CW "letters") (gW : mg "Word" = some (.ref CW)) (mi : mg "isinstance" = none) (ml : mg "len" = none) :
    FnOk P w K mg base CX0 (k + 1) f fd ["self", "other"] (spEq CW) := by
  refine F.ok sc_Word_eq (fun vs H Q E h => ?_) (fun cdv A outer s H vs Q E hr h => ?_)
  · obtain ⟨a, b, z, y, rfl, _⟩ := h
    rfl
  · obtain ⟨a, b, z, y, rfl, wa, wb, lz, ly, fz, fy, q⟩ := h
    refine ⟨_, pss_cons (ps_if (pt_not (pt_val (pe_callB call_isi (by rfl) mi boot_isinstance (pa_cons (pv 1) (pa_cons (pe_glob (v := .ref CW) (by rfl) gW rfl) pa_nil)))))
        (pss_one (ps_ret pe_bl)) pss_nil)
      (pss_one (ps_ret (pe_cmpR (op_eqD hr.units) (pe_tup (pa_cons (pe_callB call_len (by rfl) ml PySem.boot_len (pa_cons (pe_fld (pv 0) rfl) pa_nil)) (pa_cons (pe_fld (pv 0) rfl) pa_nil)))
        (pe_tup (pa_cons (pe_callB call_len (by rfl) ml PySem.boot_len (pa_cons (pe_fld (pv 1) rfl) pa_nil)) (pa_cons (pe_fld (pv 1) rfl) pa_nil))) (nomark _)))), ?_⟩
    refine ⟨.ref b, rfl, .ref b, .ref CW, .ref CW, .ref CW, true, rfl, .own CW, isC_ty cl ic wb, kit_self, true, rfl, iteF ?_⟩
    obtain ⟨dx, ha⟩ := wa
    obtain ⟨dy, hb⟩ := wb
    have lz' : z.length ≤ sizeLine := by
      rw [sizeLine_eq]
      omega
    have ly' : y.length ≤ sizeLine := by
      rw [sizeLine_eq]
      omega
    refine ⟨.ref a, rfl, a, CW, dx, _, .str z, rfl, ha, cl, na, rfl, .str z, z.length, rfl, ⟨lz', rfl⟩, .ref a, rfl, a, CW, dx, _, .str z, rfl, ha, cl, na, rfl, by show 2 ≤ sizeLine; decide, fun p hp => ?_⟩
    have s1 : Same H (upd H p (.tup [.int (z.length : Nat), .str z])) := same_new hp
    have hb1 := s1 _ _ hb
    refine ⟨.ref b, rfl, b, CW, dy, _, .str y, rfl, hb1, cl, na, rfl, .str y, y.length, rfl, ⟨ly', rfl⟩, .ref b, rfl, b, CW, dy, _, .str y, rfl, hb1, cl, na, rfl, by show 2 ≤ sizeLine; decide, fun r hr2 => ?_⟩
    have s2 := same_new (o := .tup [.int (y.length : Nat), .str y]) hr2
    refine ⟨.tuple [.int (z.length : Nat), .str z], .tuple [.int (y.length : Nat), .str y], .tup (.inl (.inl (s2 _ _ upd_same))) (.cons (.int _) (.cons (.str _) .nil)), .tup (.inl (.inl upd_same)) (.cons (.int _) (.cons (.str _) .nil)), shaped_word _ fz, shaped_word _ fy, ?_⟩
    rw [eqv_word]
    exact q _ (s1.trans s2)
end
end K06
-- M3
namespace SB
open PySem PySem.Spec PyProof.Rows L2
/-! ### the pen of a law -/
/-- what is tracked stays, but for p -/
def Kept (p : Addr) (H H' : Hp) : Prop := ∀ b o, H b = some o → b ≠ p → H' b = some o
theorem Kept.refl (p : Addr) (H : Hp) : Kept p H H := fun _ _ h _ => h
theorem Kept.trans {p : Addr} {H H1 H2 : Hp} (a : Kept p H H1) (b : Kept p H1 H2) : Kept p H H2 := fun c o h n => b c o (a c o h n) n
theorem Kept.of {p : Addr} {H H' : Hp} (s : Same H H') : Kept p H H' := fun b o h _ => s b o h
theorem Kept.write {p : Addr} {H H' : Hp} {o : HO} (k : Kept p H H') : Kept p H (upd H' p o) := fun b u h n => by
  rw [upd_ne n]
  exact k b u h n
/-- a list of three at p: the script's ints, how many cells were read, what is left of a great one -/
def PenAt (N : Int) (H : Hp) (p : Addr) : Prop := ∃ (q : Addr) (ns : List Int) (i j : Int), H p = some (.lst [.ref q, .int i, .int j]) ∧ H q = some (.lst (ns.map V.int)) ∧ 0 ≤ i ∧ i ≤ N
theorem pen_ne {H : Hp} {p q : Addr} {ns : List Int} {i j : Int} (h : H p = some (.lst [.ref q, .int i, .int j])) (h' : H q = some (.lst (ns.map V.int))) : q ≠ p := by
  rintro rfl
  rw [h] at h'
  have e := HO.lst.inj (Option.some.inj h')
  cases ns with
  | nil => cases e
  | cons a r => cases e
theorem PenAt.mono {N M : Int} {H : Hp} {p : Addr} (h : PenAt N H p) (le : N ≤ M) : PenAt M H p := by
  obtain ⟨q, ns, i, j, h1, h2, h3, h4⟩ := h
  exact ⟨q, ns, i, j, h1, h2, h3, by omega⟩
theorem PenAt.same {N : Int} {H H' : Hp} {p : Addr} (h : PenAt N H p) (s : Same H H') : PenAt N H' p := by
  obtain ⟨q, ns, i, j, h1, h2, h3, h4⟩ := h
  exact ⟨q, ns, i, j, s _ _ h1, s _ _ h2, h3, h4⟩
theorem shaped_nums (ns : List Int) : SeqAt.shaped (.list (ns.map PyData.int)) = true := by
  have lay : ∀ l : List Int, PyData.canLayAll0 (l.map PyData.int) = true := by
    intro l
    induction l with
    | nil => rfl
    | cons a r ih => exact ih
  have dep : ∀ l : List Int, PyData.depthAll (l.map PyData.int) ≤ 1 := by
    intro l
    induction l with
    | nil => exact Nat.zero_le _
    | cons a r ih =>
      show max _ _ ≤ 1
      refine Nat.max_le.mpr ⟨?_, ih⟩
      simp [PyData.depth]
  unfold SeqAt.shaped
  have e1 : PyData.canLay0 (.list (ns.map PyData.int)) = true := lay ns
  rw [e1]
  refine decide_eq_true ?_
  have := dep ns
  have e2 : PyData.depth (.list (ns.map PyData.int)) = PyData.depthAll (ns.map PyData.int) + 1 := by
    simp [PyData.depth]
  rw [e2]
  omega
theorem dp_nums {K : PySem.W.Frag} {H : Hp} : ∀ ns : List Int, DpAll K H (ns.map V.int) (ns.map PyData.int)
  | [] => .nil
  | a :: r => .cons (.int a) (dp_nums r)
theorem eqv_empty (ns : List Int) : PyData.eqv (.list (ns.map PyData.int)) (.list []) = decide (ns = []) := by
  cases ns with
  | nil => rfl
  | cons a r => rfl
theorem cut_nums (ns : List Int) (lo hi : Option Int) : ∃ ms : List Int, cutV (ns.map V.int) lo hi = ms.map V.int ∧ ms.length ≤ ns.length := by
  refine ⟨(ns.drop (HT.sIx (ns.map V.int).length 0 lo)).take (HT.sIx (ns.map V.int).length (ns.map V.int).length hi - HT.sIx (ns.map V.int).length 0 lo), ?_, ?_⟩
  · unfold cutV
    rw [← List.map_drop, ← List.map_take]
  · rw [List.length_take, List.length_drop]
    omega
theorem bound3 {u i a b c : Int} (u0 : 0 ≤ u) (u1 : u < 2147483648) (i0 : 0 ≤ i) (i1 : i ≤ 100000) (a0 : 0 ≤ a) (a1 : a ≤ 100000) (b0 : 0 ≤ b) (b1 : b ≤ 1000000) (c0 : 0 ≤ c) (c1 : c ≤ 1000000) :
    (u * (2 * i + a) + b * i * i + c).natAbs < 2 ^ 64 := by
  have h1 : u * (2 * i + a) ≤ 2147483648 * 300000 := Int.mul_le_mul (by omega) (by omega) (by omega) (by omega)
  have h2 : 0 ≤ u * (2 * i + a) := Int.mul_nonneg u0 (by omega)
  have h3 : b * i ≤ 1000000 * 100000 := Int.mul_le_mul b1 i1 i0 (by omega)
  have h4 : 0 ≤ b * i := Int.mul_nonneg b0 i0
  have h5 : b * i * i ≤ 1000000 * 100000 * 100000 := Int.mul_le_mul h3 i1 i0 (by omega)
  have h6 : 0 ≤ b * i * i := Int.mul_nonneg h4 i0
  omega
end SB
-- P7
namespace K06
open PySem PySem.Spec PyProof.Rows L2 SB
section
variable {P : Program} {w : World} {K : PySem.W.Frag} {mg : Str → Option Value} {base : Heap}
def spPen (K : PySem.W.Frag) : Sp := fun vs H Q _ => ∃ (a : Addr) (ns : List Int), vs = [.ref a] ∧ SqL K H a (ns.map V.int) ∧ ∀ p H', H p = none → Same H H' → PenAt 0 H' p → Q (.ref p) H'
theorem ok_law_pen {f : Addr} {fd : FuncData} {k : Nat} (F : Fun K "_law_pen" "_law_pen" s__law_pen f fd) (ml : mg "list" = none) : FnOk P w K mg base CX0 (k + 1) f fd ["script"] (spPen K) := by
  refine F.ok sc__law_pen (fun vs H Q E h => ?_) (fun cdv A outer s H vs Q E hr h => ?_)
  · obtain ⟨a, ns, rfl, _⟩ := h
    rfl
  · obtain ⟨a, ns, rfl, hS, q⟩ := h
    refine ⟨_, pss_one (ps_ret (pe_lst (pa_cons (pe_callTy call_list_of (by rfl) ml PyProof.Rows.boot_list (pa_cons (pe_slice sl_list (pv 0) po_none (po_some pe_int)) pa_nil)) (pa_cons pe_int (pa_cons pe_int pa_nil))))), ?_⟩
    refine ⟨.ref a, rfl, 63, rfl, a, _, rfl, hS, fun c nc => ?_⟩
    obtain ⟨ms, em, lm⟩ := cut_nums ns none (some 63)
    rw [em]
    refine ⟨c, _, rfl, .inl (.inl (.inl upd_same)), fun l hl => ⟨by show 3 ≤ sizeLine; decide, fun p hp => ?_⟩⟩
    have s1 : Same H (upd H c (.lst (ms.map V.int))) := same_new nc
    have s2 := same_new (o := .lst (ms.map V.int)) hl
    have s3 := same_new (o := .lst [.ref l, .int 0, .int 0]) hp
    refine q p _ (s1.free (s2.free hp)) (s1.trans (s2.trans s3)) ⟨l, ms, 0, 0, upd_same, s3 _ _ upd_same, by omega, by omega⟩
end
end K06
-- P8
namespace K06
open PySem PySem.Spec PyProof.Rows L2 SB
section
variable {P : Program} {w : World} {K : PySem.W.Frag} {mg : Str → Option Value} {base : Heap}
def spDraw : Sp := fun vs H Q _ => ∃ (p : Addr) (N m : Int), vs = [.ref p, .int m] ∧ PenAt N H p ∧ N ≤ 100000 ∧ 0 < m ∧ m ≤ 100000 ∧
  ∀ (d : Int) H', 0 ≤ d → d < m → Kept p H H' → PenAt (N + 1) H' p → Q (.int d) H'
theorem mod_ok (i m : Int) (h : 0 < m) : 0 ≤ i % m ∧ i % m < m := ⟨Int.emod_nonneg _ (by omega), Int.emod_lt_of_pos _ h⟩
theorem ok_law_draw {f : Addr} {fd : FuncData} {k : Nat} (F : Fun K "_law_draw" "_law_draw" s__law_draw f fd) (m_int : mg "int" = none) (m_len : mg "len" = none) (m_abs : mg "abs" = none) : FnOk P w K mg base CX0 (k + 1) f fd ["pen", "many"] spDraw := by
  refine F.ok sc__law_draw (fun vs H Q E h => ?_) (fun cdv A outer s H vs Q E hr h => ?_)
  · obtain ⟨p, N, m, rfl, _⟩ := h
    rfl
  · obtain ⟨p, N, m, rfl, hP, hN, m0, m1, q⟩ := h
    have nd := sc__law_draw.nd
    refine ⟨_, (pss_cons (ps_if (pt_cmpR op_gt (pe_ix ix_list (pv 0) pe_int (fun _ _ => rfl)) pe_int (nomark _)) (pss_cons (ps_set (i := 2) nd rfl (.inl rfl) (pe_op op_mod (pe_callTy call_int1 (by rfl) m_int PyProof.Rows.boot_int (pa_cons (pe_ix ix_list (pv 0) pe_int (fun _ _ => rfl)) pa_nil)) (pv 1)))
      (pss_cons (ps_asg (pe_op op_fdiv (pe_callTy call_int1 (by rfl) m_int PyProof.Rows.boot_int (pa_cons (pe_ix ix_list (pv 0) pe_int (fun _ _ => rfl)) pa_nil)) (pv 1)) (pg_sub (pv 0) pe_int set_list))
      (pss_one (ps_ret (pv 2))))) pss_nil)
      (pss_cons (ps_set (i := 3) nd rfl (.inl rfl) (pe_ix ix_list (pv 0) pe_int (fun _ _ => rfl)))
      (pss_cons (ps_asg (pe_op op_add (pv 3) pe_int) (pg_sub (pv 0) pe_int set_list))
      (pss_cons (ps_set (i := 4) nd rfl (.inl rfl) (pe_op op_add (pe_op op_mul pe_int (pv 3)) pe_int))
      (C8.pss_cut (ps_if (pt_cmpR (op_neD hr.units) (pe_ix ix_list (pv 0) pe_int (fun _ _ => rfl)) (pe_lst pa_nil) (nomark _)) (pss_one (ps_set (i := 4) nd rfl (.inl rfl) (pe_ix ix_list (pe_ix ix_list (pv 0) pe_int (fun _ _ => rfl)) (pe_op op_mod (pe_callTy call_int1 (by rfl) m_int PyProof.Rows.boot_int (pa_cons (pv 3) pa_nil)) (pe_callB call_len_seq (by rfl) m_len PySem.boot_len (pa_cons (pe_ix ix_list (pv 0) pe_int (fun _ _ => rfl)) pa_nil))) (fun _ _ => rfl)))) pss_nil)
      (pss_cons (ps_if (PW.pt (pw_and (pt_cmpR op_lt (pv 3) (pe_callB call_len_seq (by rfl) m_len PySem.boot_len (pa_cons (pe_ix ix_list (pv 0) pe_int (fun _ _ => rfl)) pa_nil)) (nomark _)) (pw_and1 (pt_cmpR op_ge (pe_callB call_abs (by rfl) m_abs PyProof.Rows.boot_abs (pa_cons (pv 4) pa_nil)) (pe_op op_pow pe_int pe_int) (nomark _))))) (pss_cons (ps_set (i := 5) nd rfl (.inl rfl) (pe_op op_add (pe_op op_mul pe_int (pe_op op_sub (pe_callB call_abs (by rfl) m_abs PyProof.Rows.boot_abs (pa_cons (pv 4) pa_nil)) (pe_op op_pow pe_int pe_int))) (pe_callTy call_int1 (by rfl) m_int PyProof.Rows.boot_int (pa_cons (pe_cmpR op_lt (pv 4) pe_int (nomark _)) pa_nil))))
      (pss_cons (ps_asg (pe_op op_fdiv (pe_callTy call_int1 (by rfl) m_int PyProof.Rows.boot_int (pa_cons (pv 5) pa_nil)) (pv 1)) (pg_sub (pv 0) pe_int set_list))
      (pss_one (ps_ret (pe_op op_mod (pe_callTy call_int1 (by rfl) m_int PyProof.Rows.boot_int (pa_cons (pv 5) pa_nil)) (pv 1)))))) pss_nil)
      (pss_cons (ps_set (i := 6) nd rfl (.inl rfl) (pe_op op_mod (pe_callTy call_int1 (by rfl) m_int PyProof.Rows.boot_int (pa_cons (pe_op op_pow (pe_op op_add (pe_op op_add (pe_op op_mod (pe_callTy call_int1 (by rfl) m_int PyProof.Rows.boot_int (pa_cons (pv 4) pa_nil)) pe_int) (pe_op op_mul pe_int (pv 3))) pe_int) pe_int) pa_nil)) pe_int))
      (pss_cons (ps_set (i := 6) nd rfl (.inl rfl) (pe_op op_mod (pe_callTy call_int1 (by rfl) m_int PyProof.Rows.boot_int (pa_cons (pe_op op_pow (pe_op op_add (pe_op op_add (pe_op op_mul (pv 6) (pe_op op_add (pe_op op_mul pe_int (pv 3)) pe_int)) (pe_op op_mul (pe_op op_mul pe_int (pv 3)) (pv 3))) pe_int) pe_int) pa_nil)) pe_int))
      (pss_one (ps_ret (pe_op op_mod (pe_callTy call_int1 (by rfl) m_int PyProof.Rows.boot_int (pa_cons (pe_op op_fdiv (pv 6) pe_int) pa_nil)) (pv 1)))))))))))), ?_⟩
    obtain ⟨l, ns, i, j, hp, hl, i0, i1⟩ := hP
    have lp : l ≠ p := pen_ne hp hl
    have L0 : SqL K H p [.ref l, .int i, .int j] := .inl (.inl hp)
    have mm : (0 : Int) < m ∧ m < 1073741824 := ⟨m0, by omega⟩
    refine ⟨.ref p, rfl, p, _, 2, .int j, rfl, rfl, L0, atI_nat (j := 2) rfl, j, 0, rfl, rfl, _, rfl, ite2 (fun e => ?_) (fun e => ?_)⟩
    · -- what is left of a great cell
      refine ⟨.ref p, rfl, p, _, 2, .int j, rfl, rfl, L0, atI_nat (j := 2) rfl, .inl ⟨j, rfl, .int m, rfl, j, m, rfl, rfl, m0, ?_⟩⟩
      refine ⟨.ref p, rfl, p, _, 2, .int j, rfl, rfl, L0, atI_nat (j := 2) rfl, .inl ⟨j, rfl, .int m, rfl, j, m, rfl, rfl, mm, ?_⟩⟩
      refine ⟨.ref p, rfl, p, _, 2, 2, rfl, rfl, hp, rfl, ?_⟩
      refine ⟨.int (j % m), rfl, ?_⟩
      obtain ⟨d0, d1⟩ := mod_ok j m m0
      refine q _ _ d0 d1 (Kept.write (Kept.refl p H)) ⟨l, ns, i, j / m, upd_same, ?_, i0, by omega⟩
      rw [upd_ne lp]
      exact hl
    · refine ⟨.ref p, rfl, p, _, 1, .int i, rfl, rfl, L0, atI_nat (j := 1) rfl, ?_⟩
      refine ⟨.int i, rfl, i, 1, rfl, rfl, .ref p, rfl, p, _, 1, 1, rfl, rfl, hp, rfl, ?_⟩
      have hp1 : upd H p (.lst [.ref l, .int (i + 1), .int j]) p = some (.lst [.ref l, .int (i + 1), .int j]) := upd_same
      have hl1 : upd H p (.lst [.ref l, .int (i + 1), .int j]) l = some (.lst (ns.map V.int)) := by
        rw [upd_ne lp]
        exact hl
      have K1 : Kept p H (upd H p (.lst [.ref l, .int (i + 1), .int j])) := Kept.write (Kept.refl p H)
      have L1 : SqL K (upd H p (.lst [.ref l, .int (i + 1), .int j])) p [.ref l, .int (i + 1), .int j] := .inl (.inl hp1)
      have M1 : SqL K (upd H p (.lst [.ref l, .int (i + 1), .int j])) l (ns.map V.int) := .inl (.inl hl1)
      refine ⟨.int i, rfl, 77317, i, rfl, rfl, .inl ⟨by decide, by decide⟩, _, 2347, rfl, rfl, ?_⟩
      refine ⟨fun σ' H' => ∃ (c : Int), σ' = [some (.ref p), some (.int m), none, some (.int i), some (.int c), none, none] ∧ H' p = some (.lst [.ref l, .int (i + 1), .int j]) ∧ H' l = some (.lst (ns.map V.int)) ∧ Kept p H H', ?_, ?_⟩
      · -- cell
        refine ⟨.ref p, rfl, p, _, 0, .ref l, rfl, rfl, L1, atI_nat (j := 0) rfl, Nat.zero_le _, fun b hb => ?_⟩
        have sb := same_new (o := .lst []) hb
        have L2' : SqL K (upd (upd H p (.lst [.ref l, .int (i + 1), .int j])) b (.lst [])) p [.ref l, .int (i + 1), .int j] := .inl (.inl (sb _ _ hp1))
        have M2 : SqL K (upd (upd H p (.lst [.ref l, .int (i + 1), .int j])) b (.lst [])) l (ns.map V.int) := .inl (.inl (sb _ _ hl1))
        refine ⟨.list (ns.map PyData.int), .list [], .lst M2 (dp_nums ns), .lst (.inl (.inl upd_same)) .nil, shaped_nums ns, rfl, ?_⟩
        rw [eqv_empty]
        by_cases en : ns = []
        · rw [decide_eq_true en]
          refine ⟨false, rfl, iteF ?_⟩
          exact ⟨_, rfl, sb _ _ hp1, sb _ _ hl1, K1.trans (Kept.of sb)⟩
        · rw [decide_eq_false en]
          refine ⟨true, rfl, iteT ?_⟩
          have pos : 0 < ns.length := List.length_pos_iff.mpr en
          have zl : ((ns.map V.int).length : Int) = (ns.length : Int) := by rw [List.length_map]
          obtain ⟨r0, r1⟩ := mod_ok i (ns.length : Int) (by omega)
          have rt : (i % (ns.length : Int)).toNat < ns.length := by omega
          refine ⟨.ref p, rfl, p, _, 0, .ref l, rfl, rfl, L2', atI_nat (j := 0) rfl, .int i, rfl, .inl ⟨i, rfl, ?_⟩⟩
          refine ⟨.ref p, rfl, p, _, 0, .ref l, rfl, rfl, L2', atI_nat (j := 0) rfl, l, _, rfl, .inl M2, i, _, rfl, rfl, ?_, ?_⟩
          · rw [zl]
            omega
          · refine ⟨l, _, _, .int (ns[(i % (ns.length : Int)).toNat]), rfl, rfl, M2, at_of (j := (i % (ns.length : Int)).toNat) (by rw [zl]; omega) ?_, ?_⟩
            · rw [List.getElem?_map, List.getElem?_eq_getElem rt]
              rfl
            · exact ⟨_, rfl, sb _ _ hp1, sb _ _ hl1, K1.trans (Kept.of sb)⟩
      · rintro σ' H2 ⟨c, rfl, hp2, hl2, K2⟩
        have L2' : SqL K H2 p [.ref l, .int (i + 1), .int j] := .inl (.inl hp2)
        have M2 : SqL K H2 l (ns.map V.int) := .inl (.inl hl2)
        have zl : ((ns.map V.int).length : Int) = (ns.length : Int) := by rw [List.length_map]
        -- the rest behind a cell that isn't great
        refine ⟨.int i, rfl, .ref p, rfl, p, _, 0, .ref l, rfl, rfl, L2', atI_nat (j := 0) rfl, l, _, rfl, .inl M2, i, _, rfl, rfl, _, rfl, ?_⟩
        have out : ∀ r : Int, Q (.int (r % m)) H2 := fun r => by
          obtain ⟨d0, d1⟩ := mod_ok r m m0
          exact q _ _ d0 d1 K2 ⟨l, ns, i + 1, j, hp2, hl2, by omega, by omega⟩
        have ten : CPow 10 18 := ⟨by decide, by decide, by decide⟩
        refine ite2 (fun e1 => ⟨.int c, rfl, c, rfl, 10, 18, rfl, rfl, ten, _, _, rfl, rfl, _, rfl, ite2 (fun e2 => ?great) (fun e2 => ?t1)⟩) (fun e1 => iteF ?t2)
        case great =>
          refine ⟨.int c, rfl, c, rfl, 10, 18, rfl, rfl, ten, _, _, rfl, rfl, 2, _, rfl, rfl, .inl ⟨by decide, by decide⟩, .int c, rfl, c, 0, rfl, rfl, .inr ⟨_, rfl, _, _, rfl, rfl, ?_⟩⟩
          refine ⟨_, rfl, .inl ⟨_, rfl, .int m, rfl, _, m, rfl, rfl, mm, ?_⟩⟩
          refine ⟨.ref p, rfl, p, _, 2, 2, rfl, rfl, hp2, rfl, ?_⟩
          refine ⟨_, rfl, .inl ⟨_, rfl, .int m, rfl, _, m, rfl, rfl, m0, ?_⟩⟩
          obtain ⟨d0, d1⟩ := mod_ok ((fun i j => i + j) 0 0) m m0
          refine q _ _ (mod_ok _ m m0).1 (mod_ok _ m m0).2 (Kept.write K2) ⟨l, ns, i + 1, _, upd_same, ?_, by omega, by omega⟩
          rw [upd_ne lp]
          exact hl2
        all_goals
          obtain ⟨c0, c1⟩ := mod_ok c 2147483579 (by decide)
          refine ⟨.int c, rfl, .inl ⟨c, rfl, c, 2147483579, rfl, rfl, (by show (0 : Int) < 2147483579; decide), ?_⟩⟩
          refine ⟨.int i, rfl, _, i, rfl, rfl, .inl ⟨by decide, by decide⟩, _, _, rfl, rfl, _, _, rfl, rfl, _, 5, rfl, rfl, ⟨by decide, by decide, by omega⟩, ?_⟩
          obtain ⟨u0, u1⟩ := mod_ok ((c % 2147483579 + 46507 * i + 1193) ^ Int.toNat 5) 2147483549 (by decide)
          refine .inl ⟨_, rfl, _, _, rfl, rfl, (by show (0 : Int) < 2147483549; decide), ?_⟩
          refine ⟨_, rfl, .int i, rfl, _, i, rfl, rfl, .inl ⟨by decide, by decide⟩, _, _, rfl, rfl, ?_⟩
          show rI CMul (fun i j => V.int (i * j)) (.int ((c % 2147483579 + 46507 * i + 1193) ^ Int.toNat 5 % 2147483549)) (.int (2 * i + 211)) H2 _
          refine ⟨_, _, rfl, rfl, .inl ⟨by omega, by omega⟩, .int i, rfl, _, i, rfl, rfl, .inl ⟨by decide, by decide⟩, .int i, rfl, _, i, rfl, rfl, .inr ⟨by omega, by omega⟩, _, _, rfl, rfl, _, _, rfl, rfl, _, 3, rfl, rfl, ⟨by decide, by decide, bound3 u0 (by omega) i0 (by omega) (by decide) (by decide) (by decide) (by decide) (by decide) (by decide)⟩, ?_⟩
          refine .inl ⟨_, rfl, _, _, rfl, rfl, (by show (0 : Int) < 2147483629; decide), ?_⟩
          exact ⟨_, rfl, _, 32, rfl, rfl, ⟨by decide, by decide⟩, .inl ⟨_, rfl, .int m, rfl, _, m, rfl, rfl, m0, out _⟩⟩
end
end K06
-- P9
namespace K06
open PySem PySem.Spec PyProof.Rows L2 SB
theorem kept_seq {K : PySem.W.Frag} {H H' : Hp} {p a : Addr} {xs : List V} (k : Kept p H H') (n : a ≠ p) (h : SqL K H a xs) : SqL K H' a xs := by
  rcases h with (h | ⟨o, h⟩) | h
  · exact .inl (.inl (k _ _ h n))
  · exact .inl (.inr ⟨o, k _ _ h n⟩)
  · exact .inr h
section
variable {P : Program} {w : World} {K : PySem.W.Frag} {mg : Str → Option Value} {base : Heap}
def spPick (K : PySem.W.Frag) : Sp := fun vs H Q _ => ∃ (p a : Addr) (N : Int) (xs : List V), vs = [.ref p, .ref a] ∧ PenAt N H p ∧ N ≤ 100000 ∧ SqL K H a xs ∧ a ≠ p ∧ 0 < xs.length ∧ xs.length ≤ 100000 ∧
  ∀ x H', x ∈ xs → Kept p H H' → PenAt (N + 1) H' p → Q x H'
theorem ok_law_pick {f f__law_draw : Addr} {fd d__law_draw : FuncData} {k : Nat} (F : Fun K "_law_pick" "_law_pick" s__law_pick f fd)
    (G__law_draw : FnOk P w K mg base CX0 (k + 1) f__law_draw d__law_draw ["pen", "many"] spDraw) (g__law_draw : mg "_law_draw" = some (.ref f__law_draw)) (k__law_draw : PySem.W.keepIn K (.ref f__law_draw) = true) (b__law_draw : Binds K d__law_draw ["pen", "many"] [])
    (m_len : mg "len" = none) : FnOk P w K mg base CX0 (k + 2) f fd ["pen", "some"] (spPick K) := by
  refine F.ok sc__law_pick (fun vs H Q E h => ?_) (fun cdv A outer s H vs Q E hr h => ?_)
  · obtain ⟨p, a, N, xs, rfl, _⟩ := h
    rfl
  · obtain ⟨p, a, N, xs, rfl, hP, hN, hS, ne, l0, l1, q⟩ := h
    have nd := sc__law_pick.nd
    refine ⟨_, (pss_one (ps_ret (pe_ix ix_list (pv 1) (pe_call G__law_draw (hr.mono (by omega)) (by rfl) g__law_draw k__law_draw b__law_draw .nil pass0 (pa_cons (pv 0) (pa_cons (pe_callB call_len_seq (by rfl) m_len PySem.boot_len (pa_cons (pv 1) pa_nil)) pa_nil))) (fun _ _ => rfl)))), ?_⟩
    refine ⟨.ref a, rfl, .ref p, rfl, .ref a, rfl, a, xs, rfl, .inl hS, p, N, (xs.length : Int), rfl, hP, hN, by omega, by omega, fun d H' d0 d1 kp pn => ?_⟩
    have dl : d.toNat < xs.length := by omega
    refine ⟨a, xs, d, xs[d.toNat], rfl, rfl, kept_seq kp ne hS, at_of (j := d.toNat) (by omega) (List.getElem?_eq_getElem dl), ?_⟩
    exact q _ H' (List.getElem_mem dl) kp pn
end
end K06
-- P10
namespace K06
open PySem PySem.Spec PyProof.Rows L2 SB
theorem occ_letter : ∀ c, isL c = true → ∃ i rest, Builtin.Str.occurrences "ABCDabcd" (s1 c) 0 (Str.length "ABCDabcd") 1 = i :: rest ∧ ((("abcdABCD" : Str).cps.toList)[i]? = some (up c)) := by
  intro c h
  have h' : c ∈ letters8 := of_decide_eq_true h
  have all : ∀ c ∈ letters8, Builtin.Str.occurrences "ABCDabcd" (s1 c) 0 (Str.length "ABCDabcd") 1 = [letters8.idxOf c] ∧ ((("abcdABCD" : Str).cps.toList)[letters8.idxOf c]? = some (up c)) := by decide +kernel
  exact ⟨_, [], (all c h').1, (all c h').2⟩
section
variable {P : Program} {w : World} {K : PySem.W.Frag} {mg : Str → Option Value} {base : Heap}
def spUndo : Sp := fun vs H Q _ => ∃ c, vs = [.str (s1 c)] ∧ isL c = true ∧ Q (.str (s1 (up c))) H
theorem ok_law_undo {f : Addr} {fd : FuncData} {k : Nat} (F : Fun K "_law_undo" "_law_undo" s__law_undo f fd) : FnOk P w K mg base CX0 (k + 1) f fd ["letter"] spUndo := by
  refine F.ok sc__law_undo (fun vs H Q E h => ?_) (fun cdv A outer s H vs Q E hr h => ?_)
  · obtain ⟨c, rfl, _⟩ := h
    rfl
  · obtain ⟨c, rfl, hL, q⟩ := h
    refine ⟨_, (pss_one (ps_ret (pe_ix ix_str pe_str (pe_m1 PySem.F.slot_str_index PySem.F.type_str_index mt_sindex pe_str (pv 0)) (fun _ _ => rfl)))), ?_⟩
    obtain ⟨i, rest, e1, e2⟩ := occ_letter c hL
    refine ⟨⟨_, rfl⟩, .str (s1 c), rfl, _, _, i, rest, rfl, rfl, e1, ?_⟩
    exact ⟨_, _, up c, rfl, rfl, by decide +kernel, atI_nat e2, q⟩
end
end K06
-- M4
namespace SB
open PySem PySem.Spec PyProof.Rows L2
theorem up_up : ∀ c, isL c = true → up (up c) = c := by
  intro c h
  have h' : c ∈ letters8 := of_decide_eq_true h
  have all : ∀ c ∈ letters8, up (up c) = c := by decide +kernel
  exact all c h'
theorem up_isL : ∀ c, isL c = true → isL (up c) = true := by
  intro c h
  have h' : c ∈ letters8 := of_decide_eq_true h
  have all : ∀ c ∈ letters8, isL (up c) = true := by decide +kernel
  exact all c h'
theorem faultFrom_snoc : ∀ (l : List Nat) (c : Nat) (p : Option Nat) (i : Nat), faultFrom p i l = none → isL c = true → (∀ d, (l.getLast?.or p) = some d → some (up c) ≠ some d) → faultFrom p i (l ++ [c]) = none
  | [], c, p, i, _, hc, hd => by
    show (if isL c = false ∨ some (up c) = p then some i else faultFrom (some c) (i + 1) []) = none
    rw [if_neg]
    · rfl
    · rintro (z | z)
      · rw [hc] at z
        cases z
      · exact hd (up c) z.symm rfl
  | a :: r, c, p, i, h, hc, hd => by
    have h' : (if isL a = false ∨ some (up a) = p then some i else faultFrom (some a) (i + 1) r) = none := h
    by_cases e : isL a = false ∨ some (up a) = p
    · rw [if_pos e] at h'
      cases h'
    · rw [if_neg e] at h'
      show (if isL a = false ∨ some (up a) = p then some i else faultFrom (some a) (i + 1) (r ++ [c])) = none
      rw [if_neg e]
      refine faultFrom_snoc r c (some a) (i + 1) h' hc fun d hd2 => hd d ?_
      cases r with
      | nil => simpa using hd2
      | cons b r2 =>
        have q : ((b :: r2).getLast?.or (some a)) = some d := hd2
        rw [List.getLast?_cons_cons]
        cases e2 : (b :: r2).getLast? with
        | none => simp at e2
        | some v =>
          rw [e2] at q
          simpa using q
theorem fault_snoc {l : List Nat} {c : Nat} (h : fault l = none) (hc : isL c = true) (hd : ∀ d, l.getLast? = some d → c ≠ up d) : fault (l ++ [c]) = none := by
  refine faultFrom_snoc l c none 0 h hc fun d e z => ?_
  have e' : l.getLast? = some d := by simpa using e
  have z' : up c = d := Option.some.inj z
  refine hd d e' ?_
  rw [← z', up_up c hc]
theorem last_split {l : List Nat} {d : Nat} (h : l.getLast? = some d) : ∃ r, l = r ++ [d] := by
  rw [List.getLast?_eq_some_iff] at h
  exact h
theorem str_empty {z : Str} : z = "" ↔ z.cps.toList = [] := by
  constructor
  · rintro rfl
    rfl
  · intro h
    cases z with
    | mk a =>
      have : a = #[] := by simpa using h
      subst this
      rfl
theorem app_codes (a b : Str) : (a ++ b).cps.toList = a.cps.toList ++ b.cps.toList := by
  rw [Str.cps_append, Array.toList_append]
theorem len_codes (z : Str) : z.length = z.cps.toList.length := rfl
end SB
-- P11
namespace K06
open PySem PySem.Spec PyProof.Rows L2 SB
def kinds : List Str := ["ABCDabcd", "Aab", "ABab", "CcdB", "AD"]
theorem kinds_in {x : V} (h : x ∈ [V.str "ABCDabcd", .str "Aab", .str "ABab", .str "CcdB", .str "AD"]) : ∃ kz : Str, x = .str kz ∧ kz ∈ kinds := by
  have e : [V.str "ABCDabcd", .str "Aab", .str "ABab", .str "CcdB", .str "AD"] = kinds.map V.str := rfl
  rw [e] at h
  obtain ⟨kz, h1, h2⟩ := List.mem_map.mp h
  exact ⟨kz, h2.symm, h1⟩
theorem kinds_ok : ∀ kz ∈ kinds, (∀ c ∈ kz.cps.toList, isL c = true) ∧ kz.length ≤ 8 ∧ (kz.cps.toList.headD 0 ∈ kz.cps.toList ∧ kz.cps.toList.getLastD 0 ∈ kz.cps.toList ∧ kz.cps.toList.headD 0 ≠ kz.cps.toList.getLastD 0) := by decide +kernel
/-- whether a letter may stand behind a row -/
def may (z : Str) (c : Nat) : Bool := match z.cps.toList.getLast? with | none => true | some d => decide (c ≠ up d)
theorem some_may {kz : Str} (h : kz ∈ kinds) (z : Str) : ∃ c ∈ kz.cps.toList, may z c = true := by
  obtain ⟨_, _, h1, h2, h3⟩ := kinds_ok kz h
  unfold may
  cases z.cps.toList.getLast? with
  | none => exact ⟨_, h1, rfl⟩
  | some d =>
    by_cases e : kz.cps.toList.headD 0 = up d
    · exact ⟨_, h2, decide_eq_true fun q => h3 (e.trans q.symm)⟩
    · exact ⟨_, h1, decide_eq_true e⟩
theorem take_filter {l : List Nat} {i c : Nat} (f : Nat → Bool) (h : l[i]? = some c) : (l.take (i + 1)).filter f = (l.take i).filter f ++ (if f c = true then [c] else []) := by
  rw [List.take_add_one, h, List.filter_append]
  congr 1
  show List.filter f [c] = _
  by_cases e : f c = true
  · rw [if_pos e, List.filter_cons_of_pos e]
    rfl
  · rw [if_neg e, List.filter_cons_of_neg e]
    rfl
def vs1 (l : List Nat) : List V := l.map fun c => V.str (s1 c)
section
variable {P : Program} {w : World} {K : PySem.W.Frag} {mg : Str → Option Value} {base : Heap}
/-- a row of letters without a fault, of at most m -/
def RowOk (m : Nat) (z : Str) : Prop := fault z.cps.toList = none ∧ z.length ≤ m
def spRow : Sp := fun vs H Q _ => ∃ (p : Addr) (N m : Int), vs = [.ref p, .int m] ∧ PenAt N H p ∧ 0 ≤ m ∧ m ≤ 100 ∧ N + m + 10 ≤ 100000 ∧
  ∀ z H', RowOk m.toNat z → Kept p H H' → PenAt (N + m + 2) H' p → Q (.str z) H'
theorem ok_law_row {f f__law_draw f__law_pick f__law_undo : Addr} {fd d__law_draw d__law_pick d__law_undo : FuncData} {k : Nat} (F : Fun K "_law_row" "_law_row" s__law_row f fd)
    (G__law_draw : FnOk P w K mg base CX0 (k + 2) f__law_draw d__law_draw ["pen", "many"] spDraw) (g__law_draw : mg "_law_draw" = some (.ref f__law_draw)) (k__law_draw : PySem.W.keepIn K (.ref f__law_draw) = true) (b__law_draw : Binds K d__law_draw ["pen", "many"] [])
    (G__law_pick : FnOk P w K mg base CX0 (k + 2) f__law_pick d__law_pick ["pen", "some"] (spPick K)) (g__law_pick : mg "_law_pick" = some (.ref f__law_pick)) (k__law_pick : PySem.W.keepIn K (.ref f__law_pick) = true) (b__law_pick : Binds K d__law_pick ["pen", "some"] [])
    (G__law_undo : FnOk P w K mg base CX0 (k + 2) f__law_undo d__law_undo ["letter"] spUndo) (g__law_undo : mg "_law_undo" = some (.ref f__law_undo)) (k__law_undo : PySem.W.keepIn K (.ref f__law_undo) = true) (b__law_undo : Binds K d__law_undo ["letter"] [])
    (m_range : mg "range" = none) : FnOk P w K mg base CX0 (k + 3) f fd ["pen", "most"] spRow := by
  refine F.ok sc__law_row (fun vs H Q E h => ?_) (fun cdv A outer s H vs Q E hr h => ?_)
  · obtain ⟨p, N, m, rfl, _⟩ := h
    rfl
  · obtain ⟨p, N, m, rfl, hP, m0, m1, hN, q⟩ := h
    have nd := sc__law_row.nd
    refine ⟨_, (pss_cons (ps_asg (pe_tup (pa_cons pe_str (pa_cons (pe_call G__law_pick (hr.mono (by omega)) (by rfl) g__law_pick k__law_pick b__law_pick .nil pass0 (pa_cons (pv 0) (pa_cons (pe_lst (pa_cons pe_str (pa_cons pe_str (pa_cons pe_str (pa_cons pe_str (pa_cons pe_str pa_nil)))))) pa_nil))) pa_nil))) (pg_tup rfl (pgs_cons (pg_name (i := 2) nd rfl (.inr rfl)) (pgs_cons (pg_name (i := 3) nd rfl (.inl rfl)) pgs_nil))))
      (pss_cons (ps_for PassesOwn.never rfl (pi_range1 (by rfl) m_range (pa_cons (pe_call G__law_draw (hr.mono (by omega)) (by rfl) g__law_draw k__law_draw b__law_draw .nil pass0 (pa_cons (pv 0) (pa_cons (pe_op op_add (pv 1) pe_int) pa_nil))) pa_nil)) (pg_name (i := 4) nd rfl (.inl rfl)) (pss_cons (ps_setLc (i := 5) (own := [("letter", 6)]) (g := gName 6) (by rfl) nd rfl rfl (sw_true rfl rfl rfl (by decide +kernel)) (pi_str (pv 3)) (blkOk_by (own := [("letter", 6)]) (N := ["pen", "most", "found", "kind", "turn", "some", "letter"]) (sc := defScope s__law_row) (by decide +kernel)) (fun _ _ _ _ _ => pg_name (i := 6) nd rfl (Or.inl rfl)) (fun _ _ _ _ _ => (pts_one (PW.pt (pw_or (pt_cmpR op_eq (pv 2) pe_str (nomark _)) (pw_or1 (pt_cmpR op_ne (pv 6) (pe_call G__law_undo (hr.mono (by omega)) (by rfl) g__law_undo k__law_undo b__law_undo .nil pass0 (pa_cons (pe_ix ix_str (pv 2) (pe_un un_neg pe_int) (fun _ _ => rfl)) pa_nil)) (nomark _))))))) (fun _ _ _ _ _ => (pv 6)))
      (pss_one (ps_set (i := 2) nd rfl (.inr rfl) (pe_op op_add_str (pv 2) (pe_call G__law_pick (hr.mono (by omega)) (by rfl) g__law_pick k__law_pick b__law_pick .nil pass0 (pa_cons (pv 0) (pa_cons (pv 5) pa_nil))))))))
      (pss_one (ps_ret (pv 2))))), ?_⟩
    -- kind
    refine ⟨.ref p, rfl, by show 5 ≤ sizeLine; decide, fun a ha => ?_⟩
    have s0 := same_new (o := .lst [.str "ABCDabcd", .str "Aab", .str "ABab", .str "CcdB", .str "AD"]) ha
    have pa : a ≠ p := by
      rintro rfl
      obtain ⟨_, _, _, _, z, _⟩ := hP
      rw [ha] at z
      cases z
    refine ⟨p, a, N, _, rfl, hP.same s0, by omega, .inl (.inl upd_same), pa, by decide, by decide, fun x H1 hx k1 p1 => ?_⟩
    have hk := kinds_in hx
    obtain ⟨kz, rfl, hkz⟩ := hk
    refine ⟨by show 2 ≤ sizeLine; decide, fun t ht => ?_⟩
    have s1' := same_new (o := .tup [.str "", .str kz]) ht
    refine ⟨t, _, rfl, .inl (.inl upd_same), rfl, _, _, rfl, _, _, rfl, rfl, ?_⟩
    have kk0 : Kept p H (upd H1 t (.tup [.str "", .str kz])) := (Kept.of s0).trans (k1.trans (Kept.of s1'))
    obtain ⟨kL, kS, _⟩ := kinds_ok kz hkz
    refine ⟨.ref p, rfl, .int m, rfl, m, 1, rfl, rfl, p, N + 1, m + 1, rfl, p1.same s1', by omega, by omega, by omega, fun d H3 d0 d1 k3 p3 => ?_⟩
    refine ⟨d, rfl, by omega, by omega, for_range (lo := 0) (n := d.toNat) (fun i σ H' => ∃ z y4 y5 y6, σ = [some (.ref p), some (.int m), some (.str z), some (.str kz), y4, y5, y6] ∧ fault z.cps.toList = none ∧ z.length = i ∧ Kept p H H' ∧ PenAt (N + 2 + i) H' p)
      ⟨"", none, none, none, rfl, by decide +kernel, rfl, kk0.trans k3, p3.mono (by omega)⟩ (fun i σ H4 hi hPv => ?_) (fun σ H4 hPv => ?_)⟩
    · obtain ⟨z, y4, y5, y6, rfl, fz, lz, k4, p4⟩ := hPv
      refine ⟨.str kz, rfl, kz, rfl, fun D hD => lc_it walk_str (fun i' H' => Same H4 H' ∧ H' D = some (.lst (vs1 ((kz.cps.toList.take i').filter (may z))))) ⟨same_new hD, upd_same⟩ (fun _ _ _ _ => trivial) (fun i' x Ha Hb hi' hPc hY => ?_) (fun H5 hPc => ?_)⟩
      · obtain ⟨sa, ha'⟩ := hPc
        obtain ⟨rfl, c, hc, rfl⟩ := hY
        have hc' : kz.cps.toList[i']? = some c := by
          rw [Array.getElem?_toList]
          exact hc
        have tf := take_filter (may z) hc'
        have small : (vs1 ((kz.cps.toList.take i').filter (may z))).length < sizeLine := by
          unfold vs1
          rw [List.length_map, sizeLine_eq]
          have q1 := List.length_filter_le (may z) (kz.cps.toList.take i')
          have q2 : (kz.cps.toList.take i').length ≤ kz.cps.toList.length := by
            rw [List.length_take]
            omega
          have q3 := kS
          rw [len_codes] at q3
          omega
        have more : may z c = true → ∀ Hc, Same H4 Hc → Hc D = some (.lst (vs1 ((kz.cps.toList.take i').filter (may z)))) → Same H4 (upd Hc D (.lst (vs1 ((kz.cps.toList.take i').filter (may z)) ++ [.str (s1 c)]))) ∧
            (upd Hc D (.lst (vs1 ((kz.cps.toList.take i').filter (may z)) ++ [.str (s1 c)]))) D = some (.lst (vs1 ((kz.cps.toList.take (i' + 1)).filter (may z)))) := fun em Hc sc hDc => by
          refine ⟨fun b u e => ?_, ?_⟩
          · rw [upd_ne (ne_of_none e hD)]
            exact sc b u e
          · rw [upd_same, tf, if_pos em]
            unfold vs1
            rw [List.map_append]
            rfl
        refine ⟨rfl, .str z, rfl, rfl, _, rfl, ite2 (fun e => ?_) (fun e => ?_)⟩
        · have ez : z = "" := V.str.inj (of_decide_eq_true e)
          have em : may z c = true := by
            rw [ez]
            rfl
          refine iteT ?_
          exact ⟨.str (s1 c), rfl, _, ha', small, more em _ sa ha'⟩
        · have nz : z ≠ "" := fun q => e (decide_eq_true (congrArg V.str q))
          have nl : z.cps.toList ≠ [] := fun q => nz (str_empty.mpr q)
          obtain ⟨dl, hdl⟩ : ∃ dl, z.cps.toList.getLast? = some dl := ⟨_, List.getLast?_eq_getLast nl⟩
          obtain ⟨r, er⟩ := last_split hdl
          have dL : isL dl = true := letters_of _ _ _ fz dl (by rw [er]; exact List.mem_append_right _ List.mem_cons_self)
          have emay : may z c = decide (c ≠ up dl) := by
            unfold may
            rw [hdl]
          have at1 : atI z.cps.toList (-1) = some dl := by
            rw [er]
            exact atI_last _ _
          have zs : z.length ≤ sizeLine := by
            rw [sizeLine_eq]
            omega
          refine ⟨.str (s1 c), rfl, .str z, rfl, 1, rfl, z, -1, dl, rfl, rfl, zs, at1, dl, rfl, dL, rfl, _, rfl, ?_⟩
          by_cases ec : c = up dl
          · have e1 : (!decide (V.str (s1 c) = V.str (s1 (up dl)))) = false := by
              rw [ec]
              simp
            rw [e1]
            refine iteF ⟨sa, ?_⟩
            rw [ha', tf, if_neg]
            · rw [List.append_nil]
            · rw [emay]
              simpa using ec
          · have e1 : (!decide (V.str (s1 c) = V.str (s1 (up dl)))) = true := by
              rw [decide_eq_false fun q => ec (s1_inj (V.str.inj q))]
              rfl
            rw [e1]
            refine iteT ?_
            exact ⟨.str (s1 c), rfl, _, ha', small, more (emay.trans (decide_eq_true ec)) _ sa ha'⟩
      · obtain ⟨s5, h5⟩ := hPc
        have full : kz.cps.toList.take kz.cps.size = kz.cps.toList := List.take_of_length_le (by simp)
        rw [full] at h5
        obtain ⟨c1, c2, c3⟩ := some_may hkz z
        have mem1 : c1 ∈ kz.cps.toList.filter (may z) := List.mem_filter.mpr ⟨c2, c3⟩
        have pD : D ≠ p := by
          rintro rfl
          obtain ⟨_, _, _, _, q, _⟩ := p4
          rw [hD] at q
          cases q
        have lp1 : 0 < (vs1 (kz.cps.toList.filter (may z))).length := by
          unfold vs1
          rw [List.length_map]
          exact List.length_pos_of_mem mem1
        have lp2 : (vs1 (kz.cps.toList.filter (may z))).length ≤ 100000 := by
          unfold vs1
          rw [List.length_map]
          have q1 := List.length_filter_le (may z) kz.cps.toList
          have q3 := kS
          rw [len_codes] at q3
          omega
        refine ⟨.str z, rfl, .ref p, rfl, .ref D, rfl, p, D, N + 2 + i, _, rfl, p4.same s5, by omega, .inl (.inl h5), pD, lp1, lp2, fun x H6 hx6 k6 p6 => ?_⟩
        obtain ⟨c, hc, rfl⟩ := List.mem_map.mp hx6
        obtain ⟨hcm, hcy⟩ := List.mem_filter.mp hc
        refine ⟨z, s1 c, rfl, rfl, by show z.length + 1 ≤ sizeLine; rw [sizeLine_eq]; omega, ?_⟩
        refine ⟨z ++ s1 c, _, _, _, rfl, ?_, ?_, k4.trans ((Kept.of s5).trans k6), p6.mono (by omega)⟩
        · rw [app_codes]
          refine fault_snoc fz (kL c hcm) fun d hd => ?_
          unfold may at hcy
          rw [hd] at hcy
          exact of_decide_eq_true hcy
        · rw [Str.length_append, lz]
          rfl
    · obtain ⟨z, y4, y5, y6, rfl, fz, lz, k4, p4⟩ := hPv
      refine ⟨.str z, rfl, ?_⟩
      exact q z _ ⟨fz, by omega⟩ k4 (p4.mono (by omega))
end
end K06
-- M5
namespace SB
open PySem PySem.Spec PyProof.Rows L2
/-- whether each sign is a letter -/
theorem all_or (l : List Nat) : (l.filter fun c => !isL c) = [] ↔ ∀ c ∈ l, isL c = true := by
  rw [List.filter_eq_nil_iff]
  constructor
  · intro h c hc
    have := h c hc
    simpa using this
  · intro h c hc
    rw [h c hc]
    decide
/-- no letter stands behind the one that it undoes -/
def flat (l : List Nat) (n : Nat) : Prop := ∀ j c d, j + 1 < n → l[j]? = some d → l[j + 1]? = some c → c ≠ up d
theorem flat_mono {l : List Nat} {n m : Nat} (h : flat l n) (le : m ≤ n) : flat l m := fun j c d hj => h j c d (by omega)
theorem faultFrom_flat : ∀ (l : List Nat) (p : Option Nat) (i : Nat), (∀ c ∈ l, isL c = true) → (faultFrom p i l = none ↔ (∀ c, l[0]? = some c → some (up c) ≠ p) ∧ flat l l.length)
  | [], p, i, _ => by
    refine ⟨fun _ => ⟨fun c h => (nomatch h), fun j c d h => absurd h (by simp)⟩, fun _ => rfl⟩
  | a :: r, p, i, h => by
    have ha : isL a = true := h a List.mem_cons_self
    have ih := faultFrom_flat r (some a) (i + 1) fun c hc => h c (List.mem_cons_of_mem _ hc)
    have e : faultFrom p i (a :: r) = if isL a = false ∨ some (up a) = p then some i else faultFrom (some a) (i + 1) r := rfl
    rw [e]
    by_cases q : some (up a) = p
    · rw [if_pos (.inr q)]
      refine ⟨fun z => (nomatch z), fun z => (z.1 a rfl q).elim⟩
    · rw [if_neg (by rintro (z | z); rw [ha] at z; cases z; exact q z), ih]
      constructor
      · rintro ⟨h1, h2⟩
        refine ⟨fun c hc => by cases hc; exact q, fun j c d hj hd hc => ?_⟩
        cases j with
        | zero =>
          have hd' : a = d := by simpa using hd
          have hc' : r[0]? = some c := hc
          subst hd'
          intro z
          refine h1 c hc' ?_
          rw [z, up_up a ha]
        | succ j =>
          refine h2 j c d ?_ hd hc
          have : j + 1 + 1 < r.length + 1 := hj
          omega
      · rintro ⟨_, h2⟩
        refine ⟨fun c hc z => ?_, fun j c d hj hd hc => h2 (j + 1) c d (by show j + 1 + 1 < r.length + 1; omega) hd hc⟩
        have z' : up c = a := Option.some.inj z
        have cL : isL c = true := h c (List.mem_cons_of_mem _ (List.mem_of_getElem? hc))
        refine h2 0 c a ?_ rfl hc ?_
        · show 0 + 1 < r.length + 1
          have : 0 < r.length := (List.getElem?_eq_some_iff.mp hc).1
          omega
        · rw [← z', up_up c cL]
theorem fault_iff (l : List Nat) : fault l = none ↔ (∀ c ∈ l, isL c = true) ∧ flat l l.length := by
  constructor
  · intro h
    have hL := letters_of l none 0 h
    exact ⟨hL, ((faultFrom_flat l none 0 hL).mp h).2⟩
  · rintro ⟨hL, hf⟩
    exact (faultFrom_flat l none 0 hL).mpr ⟨fun c _ z => (nomatch z), hf⟩
end SB
-- P12
namespace K06
open PySem PySem.Spec PyProof.Rows L2 SB
/-- what a text is due to be read as: the row of a word, or the item at which no word stands -/
def dueV (z : Str) : V := match wordOf (hd z) with | none => .int 0 | some l => if (items z).length = 1 then .str l else .int 1
/-- the row that the first item writes -/
def rowOf (z : Str) : Str := if hd z = "-" then "" else hd z
theorem due_dash {z : Str} (h : hd z = "-") : wordOf (hd z) = some "" := if_pos h
theorem due_row {z : Str} (h : hd z ≠ "") (l : z.length ≤ 4000) (f : fault (rowOf z).cps.toList = none) : wordOf (hd z) = some (rowOf z) := by
  unfold wordOf rowOf at *
  by_cases e : hd z = "-"
  · rw [if_pos e, if_pos e]
  · rw [if_neg e] at f ⊢
    rw [if_neg e, if_neg]
    have := hd_short z
    rintro (q | q | q)
    · exact h q
    · omega
    · exact q f
theorem due_none {z : Str} (h : hd z = "" ∨ fault (rowOf z).cps.toList ≠ none) : wordOf (hd z) = none := by
  unfold wordOf rowOf at *
  by_cases e : hd z = "-"
  · rw [if_pos e] at h
    rcases h with q | q
    · rw [e] at q
      exact absurd q (by decide +kernel)
    · exact absurd (by decide +kernel) q
  · rw [if_neg e] at h ⊢
    rw [if_pos]
    rcases h with q | q
    · exact .inl q
    · exact .inr (.inr q)
theorem row_short (z : Str) : (rowOf z).length ≤ z.length := by
  unfold rowOf
  split
  · exact Nat.zero_le _
  · exact hd_short z
theorem take_succ_filter {l : List Nat} {i c : Nat} (f : Nat → Bool) (h : l[i]? = some c) : (l.take (i + 1)).filter f = (l.take i).filter f ++ (if f c = true then [c] else []) := take_filter f h
/-- one int for each of the signs that are no letters -/
def ones (l : List Nat) : List Int := (l.filter fun c => !isL c).map fun _ => 1
theorem ones_nil (l : List Nat) : ones l = [] ↔ ∀ c ∈ l, isL c = true := by
  unfold ones
  rw [List.map_eq_nil_iff, all_or]
section
variable {P : Program} {w : World} {K : PySem.W.Frag} {mg : Str → Option Value} {base : Heap}
def spDue : Sp := fun vs H Q _ => ∃ z : Str, vs = [.str z] ∧ z.length ≤ 4000 ∧ ∀ H', Same H H' → Q (dueV z) H'
theorem ok_law_due {f f__law_undo : Addr} {fd d__law_undo : FuncData} {k : Nat} (F : Fun K "_law_due" "_law_due" s__law_due f fd)
    (G__law_undo : FnOk P w K mg base CX0 (k + 2) f__law_undo d__law_undo ["letter"] spUndo) (g__law_undo : mg "_law_undo" = some (.ref f__law_undo)) (k__law_undo : PySem.W.keepIn K (.ref f__law_undo) = true) (b__law_undo : Binds K d__law_undo ["letter"] [])
    (m_range : mg "range" = none) (m_len : mg "len" = none) : FnOk P w K mg base CX0 (k + 3) f fd ["text"] spDue := by
  refine F.ok sc__law_due (fun vs H Q E h => ?_) (fun cdv A outer s H vs Q E hr h => ?_)
  · obtain ⟨z, rfl, _⟩ := h
    rfl
  · obtain ⟨z, rfl, hl, q⟩ := h
    have nd := sc__law_due.nd
    refine ⟨_, (pss_cons (ps_set (i := 1) nd rfl (.inl rfl) (pe_split (pv 0) pe_str))
      (C8.pss_cut (ps_set (i := 2) nd rfl (.inr rfl) (pe_ifExp (pt_cmpR op_ne (pe_ix ix_list (pv 1) pe_int (fun _ _ => rfl)) pe_str (nomark _)) (pe_ix ix_list (pv 1) pe_int (fun _ _ => rfl)) pe_str))
      (pss_cons (ps_if (PW.pt (pw_or (pt_cmpR op_eq (pe_ix ix_list (pv 1) pe_int (fun _ _ => rfl)) pe_str (nomark _)) (pw_or1 (pt_cmpR (op_neD hr.units) (pe_lc (own := [("sign", 4)]) (g := gName 4) (by rfl) nd (pi_str (pv 2)) (blkOk_by (own := [("sign", 4)]) (N := ["text", "items", "row", "at", "sign"]) (sc := defScope s__law_due) (by decide +kernel)) (fun _ _ _ _ _ => pg_name (i := 4) nd rfl (Or.inl rfl)) (fun _ _ _ _ _ => (pts_one (pt_cmpR op_notIn_sign (pv 4) pe_str rfl))) (fun _ _ _ _ _ => pe_int)) (pe_lst pa_nil) (nomark _))))) (pss_one (ps_ret pe_int)) pss_nil)
      (pss_cons (ps_if (pt_cmpR (op_neD hr.units) (pe_lc (own := [("at", 3)]) (g := gName 3) (by rfl) nd (pi_range2 (by rfl) m_range (pa_cons pe_int (pa_cons (pe_callB call_len (by rfl) m_len PySem.boot_len (pa_cons (pv 2) pa_nil)) pa_nil))) (blkOk_by (own := [("at", 3)]) (N := ["text", "items", "row", "at", "sign"]) (sc := defScope s__law_due) (by decide +kernel)) (fun _ _ _ _ _ => pg_name (i := 3) nd rfl (Or.inl rfl)) (fun _ _ _ _ _ => (pts_one (pt_cmpR op_eq (pe_ix ix_str (pv 2) (pv 3) (fun _ _ => rfl)) (pe_call G__law_undo (hr.mono (by omega)) (by rfl) g__law_undo k__law_undo b__law_undo .nil pass0 (pa_cons (pe_ix ix_str (pv 2) (pe_op op_sub (pv 3) pe_int) (fun _ _ => rfl)) pa_nil)) (nomark _)))) (fun _ _ _ _ _ => pe_int)) (pe_lst pa_nil) (nomark _)) (pss_one (ps_ret pe_int)) pss_nil)
      (pss_one (ps_ret (pe_ifExp (pt_cmpR op_eq (pe_callB call_len_seq (by rfl) m_len PySem.boot_len (pa_cons (pv 1) pa_nil)) pe_int (nomark _)) (pv 2) pe_int))))))), ?_⟩
    refine ⟨.str z, rfl, ⟨_, rfl⟩, z, " ", rfl, rfl, by decide +kernel, by rw [sizeLine_eq]; omega, fun p hp => ?_⟩
    have sp1 : Same H (upd H p (.lst ((items z).map .str))) := same_new hp
    have A1 : atI ((items z).map V.str) 0 = some (.str (hd z)) := atI_nat (j := 0) (by rw [List.getElem?_map, hd_at]; rfl)
    refine ⟨fun σ' H' => σ' = [some (.str z), some (.ref p), some (.str (rowOf z)), none, none] ∧ Same H H' ∧ H' p = some (.lst ((items z).map .str)), ?_, ?_⟩
    · refine ⟨.ref p, rfl, p, _, 0, .str (hd z), rfl, rfl, .inl (.inl upd_same), A1, rfl, _, rfl, ?_⟩
      by_cases e : hd z = "-"
      · rw [decide_eq_true (congrArg V.str e)]
        refine iteF ?_
        refine ⟨?_, sp1, upd_same⟩
        unfold rowOf
        rw [if_pos e]
        rfl
      · rw [decide_eq_false fun q => e (V.str.inj q)]
        refine iteT ?_
        refine ⟨.ref p, rfl, p, _, 0, .str (hd z), rfl, rfl, .inl (.inl upd_same), A1, ?_, sp1, upd_same⟩
        unfold rowOf
        rw [if_neg e]
        rfl
    · rintro σ' H1 ⟨rfl, s2, hp1⟩
      have rs := row_short z
      have zs : (rowOf z).length ≤ sizeLine := by
        rw [sizeLine_eq]
        omega
      refine ⟨.ref p, rfl, p, _, 0, .str (hd z), rfl, rfl, .inl (.inl hp1), A1, rfl, _, rfl, ite2 (fun e => ?_) (fun e => ?_)⟩
      · have ez : hd z = "" := V.str.inj (of_decide_eq_true e)
        refine iteT ?_
        have r := q _ s2
        unfold dueV at r
        rw [due_none (.inl ez)] at r
        exact r
      · have nz : hd z ≠ "" := fun q => e (decide_eq_true (congrArg V.str q))
        refine ⟨.str (rowOf z), rfl, rowOf z, rfl, fun D hD => lc_it walk_str (fun i H' => Same H1 H' ∧ H' D = some (.lst ((ones ((rowOf z).cps.toList.take i)).map V.int))) ⟨same_new hD, upd_same⟩ (fun _ _ _ _ => trivial) (fun i x Ha Hb hi hPc hY => ?_) (fun H2 hPc => ?_)⟩
        · obtain ⟨sa, ha'⟩ := hPc
          obtain ⟨rfl, c, hc, rfl⟩ := hY
          have hc' : (rowOf z).cps.toList[i]? = some c := by
            rw [Array.getElem?_toList]
            exact hc
          have mem : decide (c ∈ (Str.ofString "ABCDabcd").cps.toList) = isL c := by
            rw [letters_T]
            rfl
          have tf := take_filter (fun c => !isL c) hc'
          have small : ((ones ((rowOf z).cps.toList.take i)).map V.int).length < sizeLine := by
            unfold ones
            rw [List.length_map, List.length_map, sizeLine_eq]
            have q1 := List.length_filter_le (fun c => !isL c) ((rowOf z).cps.toList.take i)
            have q2 : ((rowOf z).cps.toList.take i).length ≤ (rowOf z).cps.toList.length := by
              rw [List.length_take]
              omega
            rw [len_codes] at rs
            omega
          refine ⟨rfl, .str (s1 c), rfl, c, _, rfl, rfl, _, rfl, ?_⟩
          rw [mem]
          cases hL : isL c with
          | true =>
            refine iteF ⟨sa, ?_⟩
            rw [ha']
            unfold ones
            rw [tf, hL]
            simp
          | false =>
            refine iteT ⟨_, ha', small, fun b u e => ?_, ?_⟩
            · rw [upd_ne (ne_of_none e hD)]
              exact sa b u e
            · rw [upd_same]
              unfold ones
              rw [tf, hL]
              simp
        · obtain ⟨sa, hD2⟩ := hPc
          have full : (rowOf z).cps.toList.take (rowOf z).cps.size = (rowOf z).cps.toList := List.take_of_length_le (by simp)
          rw [full] at hD2
          refine ⟨Nat.zero_le _, fun b hb => ?_⟩
          have sb := same_new (o := .lst []) hb
          refine ⟨.list ((ones (rowOf z).cps.toList).map PyData.int), .list [], .lst (.inl (.inl (sb _ _ hD2))) (dp_nums _), .lst (.inl (.inl upd_same)) .nil, shaped_nums _, rfl, ?_⟩
          rw [eqv_empty]
          have s3 : Same H1 (upd H2 b (.lst [])) := sa.trans sb
          by_cases eo : ones (rowOf z).cps.toList = []
          · rw [decide_eq_true eo]
            have hL := (ones_nil _).mp eo
            refine ⟨_, rfl, iteF ?_⟩
            refine ⟨.str (rowOf z), rfl, .str (rowOf z), (rowOf z).length, rfl, ⟨zs, rfl⟩, 1, (rowOf z).length, rfl, ⟨by decide, by decide, by omega, by omega⟩, fun D2 hD2' => lc_it walk_range (fun i H' => Same H1 H' ∧ ∃ ns : List Int, H' D2 = some (.lst (ns.map V.int)) ∧ ns.length ≤ i ∧ (ns = [] ↔ flat (rowOf z).cps.toList (i + 1))) ⟨s3.trans (same_new hD2'), [], upd_same, Nat.le_refl _, ⟨fun _ j c d hj => absurd hj (by omega), fun _ => rfl⟩⟩ (fun _ _ _ _ => trivial) (fun i x Ha Hb hi hPc hY => ?_) (fun H4 hPc => ?_)⟩
            · obtain ⟨sa2, ns, hns, nl, niff⟩ := hPc
              obtain ⟨rfl, rfl⟩ := hY
              have len : (rowOf z).length = (rowOf z).cps.toList.length := rfl
              have i1 : i + 1 < (rowOf z).cps.toList.length := by omega
              obtain ⟨c, hc⟩ : ∃ c, (rowOf z).cps.toList[i + 1]? = some c := ⟨_, List.getElem?_eq_getElem i1⟩
              obtain ⟨d, hd'⟩ : ∃ d, (rowOf z).cps.toList[i]? = some d := ⟨_, List.getElem?_eq_getElem (by omega)⟩
              have dL : isL d = true := hL d (List.mem_of_getElem? hd')
              have ac : atI (rowOf z).cps.toList (1 + (i : Int)) = some c := by
                rw [show (1 + (i : Int)) = ((i + 1 : Nat) : Int) by omega]
                exact atI_nat hc
              have ad : atI (rowOf z).cps.toList (1 + (i : Int) - 1) = some d := by
                rw [show (1 + (i : Int) - 1) = ((i : Nat) : Int) by omega]
                exact atI_nat hd'
              have small : (ns.map V.int).length < sizeLine := by
                rw [List.length_map, sizeLine_eq]
                omega
              refine ⟨rfl, .str (rowOf z), rfl, .int (1 + (i : Int)), rfl, _, _, c, rfl, rfl, zs, ac, .str (rowOf z), rfl, .int (1 + (i : Int)), rfl, _, _, rfl, rfl, _, _, d, rfl, rfl, zs, ad, d, rfl, dL, rfl, _, rfl, ?_⟩
              have flat_last : flat (rowOf z).cps.toList (i + 1 + 1) ↔ flat (rowOf z).cps.toList (i + 1) ∧ c ≠ up d := by
                constructor
                · intro h
                  exact ⟨flat_mono h (by omega), h i c d (by omega) hd' hc⟩
                · rintro ⟨h1, h2⟩ j c' d' hj e1 e2
                  by_cases ej : j = i
                  · subst ej
                    rw [hc] at e2
                    rw [hd'] at e1
                    cases e1
                    cases e2
                    exact h2
                  · exact h1 j c' d' (by omega) e1 e2
              by_cases ec : c = up d
              · rw [decide_eq_true (congrArg (fun c => V.str (s1 c)) ec)]
                refine iteT ⟨_, hns, small, fun b u e => ?_, ns ++ [1], ?_, ?_, ?_⟩
                · rw [upd_ne (ne_of_none (s3 _ _ e) hD2')]
                  exact sa2 b u e
                · rw [upd_same, List.map_append]
                  rfl
                · rw [List.length_append]
                  show ns.length + 1 ≤ i + 1
                  omega
                · rw [flat_last]
                  exact ⟨fun q => absurd q (by simp), fun q => absurd ec q.2⟩
              · rw [decide_eq_false fun q => ec (s1_inj (V.str.inj q))]
                refine iteF ⟨sa2, ns, hns, by omega, ?_⟩
                rw [flat_last, niff]
                exact ⟨fun q => ⟨q, ec⟩, fun q => q.1⟩
            · obtain ⟨sa2, ns, hns, nl, niff⟩ := hPc
              refine ⟨Nat.zero_le _, fun b2 hb2 => ?_⟩
              have sb2 := same_new (o := .lst []) hb2
              refine ⟨.list (ns.map PyData.int), .list [], .lst (.inl (.inl (sb2 _ _ hns))) (dp_nums _), .lst (.inl (.inl upd_same)) .nil, shaped_nums _, rfl, ?_⟩
              rw [eqv_empty]
              have s4 : Same H1 (upd H4 b2 (.lst [])) := sa2.trans sb2
              have whole : flat (rowOf z).cps.toList (((rowOf z).length : Int) - 1).toNat.succ ↔ flat (rowOf z).cps.toList (rowOf z).cps.toList.length := by
                have len : (rowOf z).length = (rowOf z).cps.toList.length := rfl
                cases e0 : (rowOf z).cps.toList.length with
                | zero =>
                  rw [len, e0]
                  exact ⟨fun q j c d hj => absurd hj (by omega), fun q j c d hj => absurd hj (by show ¬ j + 1 < 0 + 1; omega)⟩
                | succ m =>
                  rw [len, e0]
                  rw [show (((m + 1 : Nat) : Int) - 1).toNat.succ = m + 1 by omega]
              have niff' : ns = [] ↔ fault (rowOf z).cps.toList = none := by
                rw [niff, fault_iff]
                exact ⟨fun q => ⟨hL, whole.mp q⟩, fun q => whole.mpr q.2⟩
              by_cases en : ns = []
              · rw [decide_eq_true en]
                refine ⟨_, rfl, iteF ?_⟩
                have r := q _ (s2.trans s4)
                unfold dueV at r
                rw [due_row nz hl (niff'.mp en)] at r
                refine ⟨.ref p, rfl, p, _, rfl, .inl (.inl (.inl (s4 _ _ hp1))), rfl, _, rfl, ?_⟩
                rw [List.length_map]
                by_cases e1 : (items z).length = 1
                · rw [e1]
                  rw [show (match some (rowOf z) with | none => V.int 0 | some l => if (items z).length = 1 then V.str l else V.int 1) = V.str (rowOf z) from if_pos e1] at r
                  exact iteT ⟨_, rfl, r⟩
                · rw [decide_eq_false fun q => e1 (by have := V.int.inj q; omega)]
                  rw [show (match some (rowOf z) with | none => V.int 0 | some l => if (items z).length = 1 then V.str l else V.int 1) = V.int 1 from if_neg e1] at r
                  exact iteF r
              · rw [decide_eq_false en]
                refine ⟨_, rfl, iteT ?_⟩
                have r := q _ (s2.trans s4)
                unfold dueV at r
                rw [due_none (.inr fun ef => en (niff'.mpr ef))] at r
                exact r
          · rw [decide_eq_false eo]
            refine ⟨_, rfl, iteT ?_⟩
            have r := q _ (s2.trans s3)
            unfold dueV at r
            rw [due_none (.inr fun ef => eo ((ones_nil _).mpr ((fault_iff _).mp ef).1))] at r
            exact r
end
end K06
-- P13
namespace K06
open PySem PySem.Spec PyProof.Rows L2 SB
def tails : List Str := ["-", "A", "", "E"]
def signs : List Str := ["A", "a", "B", "d", " ", "-", "E", "1", "  ", ".", "- ", "\n", "\t"]
section
variable {P : Program} {w : World} {K : PySem.W.Frag} {mg : Str → Option Value} {base : Heap}
def spSpoiled : Sp := fun vs H Q _ => ∃ (p : Addr) (N : Int) (z : Str), vs = [.ref p, .str z] ∧ PenAt N H p ∧ z.length ≤ 1000 ∧ N + 10 ≤ 100000 ∧
  ∀ t H', t.length ≤ 2 * z.length + 10 → Kept p H H' → PenAt (N + 4) H' p → Q (.str t) H'
theorem ok_law_spoiled {f f__law_draw f__law_pick : Addr} {fd d__law_draw d__law_pick : FuncData} {k : Nat} (F : Fun K "_law_spoiled" "_law_spoiled" s__law_spoiled f fd)
    (G__law_draw : FnOk P w K mg base CX0 (k + 2) f__law_draw d__law_draw ["pen", "many"] spDraw) (g__law_draw : mg "_law_draw" = some (.ref f__law_draw)) (k__law_draw : PySem.W.keepIn K (.ref f__law_draw) = true) (b__law_draw : Binds K d__law_draw ["pen", "many"] [])
    (G__law_pick : FnOk P w K mg base CX0 (k + 2) f__law_pick d__law_pick ["pen", "some"] (spPick K)) (g__law_pick : mg "_law_pick" = some (.ref f__law_pick)) (k__law_pick : PySem.W.keepIn K (.ref f__law_pick) = true) (b__law_pick : Binds K d__law_pick ["pen", "some"] [])
    (m_len : mg "len" = none) : FnOk P w K mg base CX0 (k + 3) f fd ["pen", "text"] spSpoiled := by
  refine F.ok sc__law_spoiled (fun vs H Q E h => ?_) (fun cdv A outer s H vs Q E hr h => ?_)
  · obtain ⟨p, N, z, rfl, _⟩ := h
    rfl
  · obtain ⟨p, N, z, rfl, hP, hl, hN, q⟩ := h
    have nd := sc__law_spoiled.nd
    refine ⟨_, (pss_cons (ps_par (i := 2) (j := 3) (by rfl) nd rfl rfl (by decide) rfl rfl (pa_cons (pe_call G__law_draw (hr.mono (by omega)) (by rfl) g__law_draw k__law_draw b__law_draw .nil pass0 (pa_cons (pv 0) (pa_cons (pe_op op_add (pe_callB call_len (by rfl) m_len PySem.boot_len (pa_cons (pv 1) pa_nil)) pe_int) pa_nil))) (pa_cons (pe_call G__law_pick (hr.mono (by omega)) (by rfl) g__law_pick k__law_pick b__law_pick .nil pass0 (pa_cons (pv 0) (pa_cons (pe_lst (pa_cons pe_str (pa_cons pe_str (pa_cons pe_str (pa_cons pe_str (pa_cons pe_str (pa_cons pe_str (pa_cons pe_str (pa_cons pe_str (pa_cons pe_str (pa_cons pe_str (pa_cons pe_str (pa_cons pe_str (pa_cons pe_str pa_nil)))))))))))))) pa_nil))) pa_nil)) (by rfl))
      (pss_cons (ps_set (i := 4) nd rfl (.inl rfl) (pe_call G__law_draw (hr.mono (by omega)) (by rfl) g__law_draw k__law_draw b__law_draw .nil pass0 (pa_cons (pv 0) (pa_cons pe_int pa_nil))))
      (pss_cons (ps_if (pt_cmpR op_eq (pv 4) pe_int (nomark _)) (pss_one (ps_ret (pe_op op_add_str (pe_op op_add_str (pe_slice sl_str (pv 1) po_none (po_some (pv 2))) (pv 3)) (pe_slice sl_str (pv 1) (po_some (pv 2)) po_none)))) pss_nil)
      (pss_cons (ps_if (pt_cmpR op_eq (pv 4) pe_int (nomark _)) (pss_one (ps_ret (pe_op op_add_str (pe_op op_add_str (pe_slice sl_str (pv 1) po_none (po_some (pv 2))) (pv 3)) (pe_slice sl_str (pv 1) (po_some (pe_op op_add (pv 2) pe_int)) po_none)))) pss_nil)
      (pss_cons (ps_if (pt_cmpR op_eq (pv 4) pe_int (nomark _)) (pss_one (ps_ret (pe_op op_add_str (pe_slice sl_str (pv 1) po_none (po_some (pv 2))) (pe_slice sl_str (pv 1) (po_some (pe_op op_add (pv 2) pe_int)) po_none)))) pss_nil)
      (pss_one (ps_ret (pe_ifExp (pt_cmpR op_eq (pv 4) pe_int (nomark _)) (pe_op op_add_str (pe_op op_add_str (pv 1) pe_str) (pe_call G__law_pick (hr.mono (by omega)) (by rfl) g__law_pick k__law_pick b__law_pick .nil pass0 (pa_cons (pv 0) (pa_cons (pe_lst (pa_cons pe_str (pa_cons pe_str (pa_cons pe_str (pa_cons pe_str pa_nil))))) pa_nil)))) (pe_op op_add_str (pv 3) (pv 1)))))))))), ?_⟩
    have zs : z.length ≤ sizeLine := by
      rw [sizeLine_eq]
      omega
    refine ⟨.ref p, rfl, .str z, rfl, .str z, z.length, rfl, ⟨zs, rfl⟩, _, 1, rfl, rfl, p, N, (z.length : Int) + 1, rfl, hP, by omega, by omega, by omega, fun d H1 d0 d1 k1 p1 => ?_⟩
    refine ⟨.ref p, rfl, by show 13 ≤ sizeLine; decide, fun a ha => ?_⟩
    have sa := same_new (o := .lst (signs.map V.str)) ha
    have pa : a ≠ p := by
      rintro rfl
      obtain ⟨_, _, _, _, e, _⟩ := p1
      rw [ha] at e
      cases e
    refine ⟨p, a, N + 1, signs.map V.str, rfl, p1.same sa, by omega, .inl (.inl upd_same), pa, by decide, by decide, fun x H2 hx k2 p2 => ?_⟩
    obtain ⟨g, hg, rfl⟩ := List.mem_map.mp hx
    have gl : g.length ≤ 2 := by
      have all : ∀ g ∈ signs, g.length ≤ 2 := by decide +kernel
      exact all g hg
    refine ⟨_, _, rfl, ?_⟩
    refine ⟨.ref p, rfl, p, N + 2, 5, rfl, p2.mono (by omega), by omega, by omega, by omega, fun way H3 w0 w1 k3 p3 => ?_⟩
    have kk : Kept p H H3 := k1.trans ((Kept.of sa).trans (k2.trans k3))
    have out : ∀ t : Str, t.length ≤ 2 * z.length + 10 → Q (.str t) H3 := fun t ht => q t H3 ht kk (p3.mono (by omega))
    have cl := fun lo hi => cutS_length z lo hi
    have sm : ∀ n, n ≤ 2 * z.length + 10 → n ≤ sizeLine := fun n h => by
      rw [sizeLine_eq]
      omega
    have app : ∀ a b : Str, (a ++ b).length = a.length + b.length := fun a b => Str.length_append a b
    refine ⟨.int way, rfl, rfl, _, rfl, ite2 (fun e => ?_) (fun e => ?_)⟩
    · have c1 := cl none (some d)
      have c2 := cl (some d) none
      refine ⟨.str z, rfl, .int d, rfl, d, rfl, z, rfl, zs, .str g, rfl, _, _, rfl, rfl, sm _ (by omega), .str z, rfl, .int d, rfl, d, rfl, z, rfl, zs, _, _, rfl, rfl, sm _ (by rw [app]; omega), ?_⟩
      exact out _ (by rw [app, app]; omega)
    refine ⟨.int way, rfl, rfl, _, rfl, ite2 (fun e => ?_) (fun e => ?_)⟩
    · have c1 := cl none (some d)
      have c2 := cl (some (d + 1)) none
      refine ⟨.str z, rfl, .int d, rfl, d, rfl, z, rfl, zs, .str g, rfl, _, _, rfl, rfl, sm _ (by omega), .str z, rfl, .int d, rfl, _, 1, rfl, rfl, d + 1, rfl, z, rfl, zs, _, _, rfl, rfl, sm _ (by rw [app]; omega), ?_⟩
      exact out _ (by rw [app, app]; omega)
    refine ⟨.int way, rfl, rfl, _, rfl, ite2 (fun e => ?_) (fun e => ?_)⟩
    · have c1 := cl none (some d)
      have c2 := cl (some (d + 1)) none
      refine ⟨.str z, rfl, .int d, rfl, d, rfl, z, rfl, zs, .str z, rfl, .int d, rfl, _, 1, rfl, rfl, d + 1, rfl, z, rfl, zs, _, _, rfl, rfl, sm _ (by omega), ?_⟩
      exact out _ (by rw [app]; omega)
    refine ⟨.int way, rfl, rfl, _, rfl, ite2 (fun e => ?_) (fun e => ?_)⟩
    · have l1 : (" " : Str).length = 1 := by decide +kernel
      refine ⟨.str z, rfl, z, " ", rfl, rfl, sm _ (by rw [l1]; omega), .ref p, rfl, by show 4 ≤ sizeLine; decide, fun b hb => ?_⟩
      have sb := same_new (o := .lst (tails.map V.str)) hb
      have pb : b ≠ p := by
        rintro rfl
        obtain ⟨_, _, _, _, e, _⟩ := p3
        rw [hb] at e
        cases e
      refine ⟨p, b, N + 3, tails.map V.str, rfl, (p3.mono (by omega)).same sb, by omega, .inl (.inl upd_same), pb, by decide, by decide, fun y H4 hy k4 p4 => ?_⟩
      obtain ⟨y', hy', rfl⟩ := List.mem_map.mp hy
      have yl : y'.length ≤ 1 := by
        have all : ∀ y ∈ tails, y.length ≤ 1 := by decide +kernel
        exact all y' hy'
      refine ⟨_, _, rfl, rfl, sm _ (by rw [app]; omega), ?_⟩
      exact q _ _ (by rw [app, app]; omega) (kk.trans ((Kept.of sb).trans k4)) (p4.mono (by omega))
    · refine ⟨.str g, rfl, .str z, rfl, _, _, rfl, rfl, sm _ (by omega), ?_⟩
      exact out _ (by rw [app]; omega)
end
end K06
-- P14
namespace K06
open PySem PySem.Spec PyProof.Rows L2 SB
/-- a def whose code object is at c -/
structure FunT (K : PySem.W.Frag) (x qual : Str) (st : Stmt) (f c : Addr) (fd : FuncData) : Prop where
  ex : ∃ (oc : Value) (od : Option Addr) (kV doc pm : Value) (an : Option Addr) (ct : Value) (osl : Array (Option Value)),
    fd = PySem.W.fnOf x qual (defArgs st) (defBody st) (defScope st) .none kV doc pm an (.ref c) ct ∧ K.lookup f = some ⟨oc, od, .func fd, osl⟩ ∧ PySem.W.codeIn K (.ref c) qual = true
  kp : PySem.W.keepIn K (.ref f) = true
section
variable {P : Program} {w : World} {K : PySem.W.Frag} {mg : Str → Option Value} {base : Heap}
theorem FunT.fn {x qual : Str} {st : Stmt} {f c : Addr} {fd : FuncData} (F : FunT K x qual st f c fd) : Fun K x qual st f fd := by
  obtain ⟨oc, od, kV, doc, pm, an, ct, osl, e, lk, hcd⟩ := F.ex
  exact ⟨⟨oc, od, kV, doc, pm, an, .ref c, ct, osl, e, lk, hcd⟩, F.kp⟩
theorem FunT.ok {x qual : Str} {st : Stmt} {f c : Addr} {fd : FuncData} {N ps : List Str} {k : Nat} {sp : Sp} (F : FunT K x qual st f c fd) (S : FnScope N ps (defScope st)) (len : ∀ vs H Q E, sp vs H Q E → vs.length = ps.length)
    (hbody : ∀ (A : Around) (outer : List Env) (s : Shared) (H : Hp) (vs : List V) (Q : VK) (E : XK), Room k (A.deeper (envOfC qual (defScope st) s.heap.objs.size f (.ref c))) → sp vs H Q E →
      ∃ t, PSs (cxOf CX0 P w K mg base N qual (defScope st) f (.ref c) A outer s H E).nox (defBody st) t ∧ t { nx := fun _ H' => Q .non H', rt := Q } (L2.start N vs) H) : FnOk P w K mg base CX0 (k + 1) f fd ps sp := by
  obtain ⟨oc, od, kV, doc, pm, an, ct, osl, rfl, lk, hcd⟩ := F.ex
  refine fn_of lk hcd S len fun A outer s H vs Q E hr hsp => ?_
  obtain ⟨t, h, q⟩ := hbody A outer s H vs Q E hr hsp
  exact ⟨t, h.nox, q⟩
theorem funT_mk {x qual : Str} {st : Stmt} {f c : Addr} {oc : Value} {od an : Option Addr} {osl : Array (Option Value)} {kV doc pm ct : Value} (l : K.lookup f = some ⟨oc, od, .func (PySem.W.fnOf x qual (defArgs st) (defBody st) (defScope st) .none kV doc pm an (.ref c) ct), osl⟩)
    (e : PySem.W.codeIn K (.ref c) qual = true) (k : PySem.W.keepIn K (.ref f) = true) : FunT K x qual st f c (PySem.W.fnOf x qual (defArgs st) (defBody st) (defScope st) .none kV doc pm an (.ref c) ct) :=
  ⟨⟨oc, od, kV, doc, pm, an, ct, osl, rfl, l, e⟩, k⟩
/-- what is told of _law_heard -/
structure Heard (K : PySem.W.Frag) (mg : Str → Option Value) (CB : Addr) : Prop where
  ex : ∃ g fd, Fun K "_law_heard" "_law_heard" s__law_heard g fd ∧ Binds K fd ["ask"] [] ∧ mg "_law_heard" = some (.ref g)
  be : mg "BallError" = some (.ref CB)
/-- _law_heard(lambda: body) -/
theorem pe_heard {X : Cx} {T : List (Addr × Str)} {CB c P : Addr} {k : Nat} {params : Arguments} {body : Expr} {scope : Scope} {t : XK → TE} {p lpos pos : Pos} (Hd : Heard X.K X.mg CB) (hg : Gl X "_law_heard")
    (TB : LamX.TabB X.base X.mg c P) (hcode : X.env.code = .ref c) (hmT : (P, X.env.qual ++ "<lambda>") ∈ T) (hu : ∀ p ∈ T, p.1 = P → p.2 = X.env.qual ++ "<lambda>") (hr : Room (k + 2) X.A) (L : LamX.LamS X.env.scope scope) (hdef : defaultsOf params X.env = ([], []))
    (hbind : ∀ (q : Str) (cl : List (Str × Addr)) (pm cv ctv : Value), bindArgs (PySem.W.kla_fn "<lambda>" q params body scope cl pm cv ctv) ⟨[], []⟩ = pure [])
    (hbody : ∀ (A : Around) (outer : List Env) (s : Shared) (H : Hp) (E : XK) (f c' : Addr), Room k (A.deeper (LamX.lamEnv X scope s.heap.objs.size f c')) → PE (LamX.lamCx X A outer s H E scope f c') body (t E)) :
    PE X (.Call (.Name "_law_heard" p) [.Lambda params body scope lpos] [] pos) (LamX.tLam T (THeard X.K CB) t) := by
  obtain ⟨g, fd, F, bF, hm⟩ := Hd.ex
  have kp := F.kp
  obtain ⟨oc, od, kV, doc, pm, an, cdv, ct, osl, rfl, lk, hcd⟩ := F.ex
  exact LamX.pe_lamcall (Ng := ["ask", "caught", "error"]) (a := "ask") hg hm kp lk hcd bF sc__law_heard rfl (.inl rfl) (heard_gives (x := "_law_heard") (g := g) (cdg := cdv) Hd.be) TB hcode hmT hu hr L hdef hbind hbody
end
end K06
-- P15
namespace K06
open PySem PySem.Spec PyProof.Rows L2 SB
/-- the name of the lambda in a def -/
def lq (x : Str) : Str := (envOfC x (defScope s__law_heard) 0 0 .none).qual ++ "<lambda>"
theorem due_text {z l : Str} (h : wordOf (hd z) = some l) (e : (items z).length = 1) : strOf l = z := by
  have hz : hd z = z := by
    unfold hd
    rw [items_one e]
    rfl
  rw [hz] at h
  unfold wordOf at h
  unfold strOf
  by_cases ed : z = "-"
  · rw [if_pos ed] at h
    cases h
    rw [if_pos rfl, ed]
  · rw [if_neg ed] at h
    by_cases en : z = "" ∨ 4000 < z.length ∨ fault z.cps.toList ≠ none
    · rw [if_pos en] at h
      cases h
    · rw [if_neg en] at h
      cases h
      rw [if_neg fun q => en (.inl q)]
theorem xd_fld (g : Str) (v : V) : ([(g, v)] : List (Str × V)).lookup g = some v := by simp [List.lookup]
theorem extN_same {H H' : Hp} (s : Same H H') : LamX.ExtN H H' := LamX.ExtN.of s
theorem tabs_same {T : List (Addr × Str)} {H H' : Hp} (t : LamX.Tabs T H) (s : Same H H') : LamX.Tabs T H' := t.ext s
section
variable {P : Program} {w : World} {K : PySem.W.Frag} {mg : Str → Option Value} {base : Heap}
/-- what is told of Word.read, by place and by name -/
structure ReadOk (P : Program) (w : World) (K : PySem.W.Frag) (mg : Str → Option Value) (base : Heap) (CW CT : Addr) (k : Nat) : Prop where
  ex : ∃ p g fd, Stat K CW "read" p g ∧ FnOk P w K mg base (L2.CX P w) k g fd ["text"] (spRead K CW CT) ∧ Binds K fd ["text"] [] ∧ KBinds K fd ["text"] ["text"] (fun us ws => us ++ ws) (fun vs zs => vs ++ zs)
theorem read_kw {f : Addr} {fd : FuncData} (F : Fun K "read" "Word.read" s_Word_read f fd) : KBinds K fd ["text"] ["text"] (fun us ws => us ++ ws) (fun vs zs => vs ++ zs) := by
  obtain ⟨oc, od, kV, doc, pm, an, cdv, ct, osl, rfl, lk, hcd⟩ := F.ex
  exact ⟨fun s us ws hX hl => match us, ws, hl with | [], [_], _ => .of_eq rfl | [_], [], _ => .of_eq rfl, fun r1 r2 => r1.append r2⟩
/-- str(x) of a Word x -/
structure StrOk (P : Program) (w : World) (K : PySem.W.Frag) (mg : Str → Option Value) (base : Heap) (CW : Addr) (k : Nat) : Prop where
  ex : ∃ g fd, PySem.W.findIn K (.ref CW) "__str__" = some (some (.ref g)) ∧ PySem.W.isFn K (.ref g) = true ∧ FnOk P w K mg base CX0 k g fd ["self"] (spStr CW) ∧ Binds K fd ["self"] []
def spText (T : List (Addr × Str)) : Sp := fun vs H Q _ => ∃ z : Str, vs = [.str z] ∧ z.length ≤ 3000 ∧ LamX.Tabs T H ∧ ∀ H', LamX.ExtN H H' → LamX.Tabs T H' → Q (.bl true) H'
theorem ok_law_text_right {T : List (Addr × Str)} {f c Pt CB CT CW fT f__law_due : Addr} {fd d__law_due : FuncData} {k : Nat} (F : FunT K "_law_text_right" "_law_text_right" s__law_text_right f c fd) (Hd : Heard K mg CB)
    (TB : LamX.TabB base mg c Pt) (hmT : (Pt, lq "_law_text_right") ∈ T) (hu : ∀ p ∈ T, p.1 = Pt → p.2 = lq "_law_text_right")
    (R : ReadOk P w K mg base CW CT (k + 6)) (S : StrOk P w K mg base CW (k + 1)) (gW : mg "Word" = some (.ref CW)) (cl : Cls K CW) (ic : IsC K CW) (na : NoAttr K CW "letters")
    (E1 : Err1 K mg "BadText" "item" CT fT) (xm : PySem.W.exmOne K (.ref CT) (.ref CB) = some true)
    (G__law_due : FnOk P w K mg base CX0 (k + 3) f__law_due d__law_due ["text"] spDue) (g__law_due : mg "_law_due" = some (.ref f__law_due)) (k__law_due : PySem.W.keepIn K (.ref f__law_due) = true) (b__law_due : Binds K d__law_due ["text"] [])
    (m_isinstance : mg "isinstance" = none) (m_int : mg "int" = none) (m_str : mg "str" = none) : FnOk P w K mg base CX0 (k + 9) f fd ["text"] (spText T) := by
  obtain ⟨pS, gR, fdR, St, GR, bR, kR⟩ := R.ex
  obtain ⟨gS, fdS, ws, wf, GS, bS⟩ := S.ex
  have g_BadText := E1.at_
  refine F.ok sc__law_text_right (fun vs H Q E h => ?_) (fun A outer s H vs Q E hr h => ?_)
  · obtain ⟨z, rfl, _⟩ := h
    rfl
  · obtain ⟨z, rfl, hl, tabs, q⟩ := h
    have nd := sc__law_text_right.nd
    refine ⟨_, (pss_cons (ps_par (i := 1) (j := 2) (by rfl) nd rfl rfl (by decide) rfl rfl (pa_cons (pe_call G__law_due (hr.mono (by omega)) (by rfl) g__law_due k__law_due b__law_due .nil pass0 (pa_cons (pv 0) pa_nil)) (pa_cons (pe_heard Hd (by rfl) TB (by rfl) hmT hu (k := k + 6) (hr.mono (by omega)) (LamX.lamS_by (sc := defScope s__law_text_right) (by decide +kernel)) (by rfl) (fun _ _ _ _ _ => rfl) (fun _ _ _ _ E' _ _ hr' => (pe_stat (E := E') (pe_glob (v := .ref CW) (by rfl) gW rfl) St GR (hr'.mono (by omega)) bR .nil (passes_call (takes_of rfl rfl rfl rfl) fun _ _ _ _ q => q) (pa_cons (pv 0) pa_nil)))) pa_nil)) (by rfl))
      (pss_cons (ps_if (pt_val (pe_callB call_isi (by rfl) m_isinstance boot_isinstance (pa_cons (pv 1) (pa_cons (pe_bltn (v := .ty "int") (by rfl) m_int PyProof.Rows.boot_int rfl) pa_nil)))) (pss_one (ps_ret (pe_and (pe_callB call_isErr (by rfl) m_isinstance boot_isinstance (pa_cons (pv 2) (pa_cons (pe_glob (v := .ref CT) (by rfl) g_BadText rfl) pa_nil))) (pe_and (pe_cmpR op_eq (pe_errF (pv 2)) (pv 1) (nomark _)) (pe_and (pe_cmpR op_notIB (pe_errF (pv 2)) pe_bl (nomark _)) (pe_one (pe_cmpR op_notIB (pe_errF (pv 2)) pe_bl (nomark _)))))))) pss_nil)
      (pss_cons (ps_if (pt_cmpR op_notN (pv 2) pe_non (nomark _)) (pss_one (ps_ret pe_bl)) pss_nil)
      (pss_cons (ps_set (i := 3) nd rfl (.inl rfl) (pe_statK (pe_glob (v := .ref CW) (by rfl) gW rfl) St GR (hr.mono (by omega)) kR passL (pk_cons (pv 0) pk_nil)))
      (pss_one (ps_ret (pe_and (pe_callB call_isi (by rfl) m_isinstance boot_isinstance (pa_cons (pv 3) (pa_cons (pe_glob (v := .ref CW) (by rfl) gW rfl) pa_nil))) (pe_and (pe_cmpR op_eq (pe_fld (pv 3) rfl) (pv 1) (nomark _)) (pe_one (pe_cmpR op_eq (pe_callTy (call_strOwn ws wf GS (hr.mono (by omega)) bS pass0) (by rfl) m_str PyProof.Rows.boot_str (pa_cons (pv 3) pa_nil)) (pv 0) (nomark _))))))))))), ?_⟩
    refine ⟨.str z, rfl, z, rfl, by omega, fun H0 s0 => ?_⟩
    refine ⟨tabs_same tabs s0, fun H1 e1 t1 => ?_⟩
    have e01 : LamX.ExtN H H1 := (extN_same s0).trans e1
    refine ⟨rfl, .str z, rfl, .str z, rfl, .inl ⟨_, rfl⟩, fun z' hz => ?_, fun nz => (nz _ rfl).elim⟩
    cases hz
    refine ⟨by omega, fun en H2 d s2 hd2 => ?_, fun l el many H2 d s2 hd2 => ?_, fun l el one a H2 na2 s2 wa => ?_⟩
    · refine ⟨true, xm, (fun z => nomatch z), fun _ => ⟨CT, d, rfl, rfl, fun a ha => ?_⟩⟩
      have ne : a ≠ d := fun q => by
        rw [q, upd_same] at ha
        cases ha
      have hA : upd (upd H2 d (.xd [("item", .int 0)])) a (ErrO CT d a) a = some (ErrO CT d a) := upd_same
      have hD : upd (upd H2 d (.xd [("item", .int 0)])) a (ErrO CT d a) d = some (.xd [("item", .int 0)]) := by
        rw [upd_ne (Ne.symm ne), upd_same]
      have s3 : Same H1 (upd (upd H2 d (.xd [("item", .int 0)])) a (ErrO CT d a)) := s2.trans ((same_new hd2).trans (same_new ha))
      have fld := xd_fld "item" (V.int 0)
      have ed : dueV z = .int 0 := by
        unfold dueV
        rw [en]
      refine ⟨_, _, rfl, ?_⟩
      rw [ed]
      refine ⟨.int 0, rfl, .int 0, .ty "int", .type "int", .type "int", true, rfl, .ty "int", .base (.int 0), kit_ty (by decide +kernel), true, rfl, iteT ?_⟩
      refine ⟨.ref a, rfl, a, CT, d, CT, _, true, rfl, hA, hD, E1.ec, kit_self, true, rfl, iteT ?_⟩
      refine ⟨.ref a, rfl, a, CT, d, _, .int 0, rfl, hA, hD, E1.ec, E1.no, fld, .int 0, rfl, rfl, true, ?_, iteT ?_⟩
      · rw [decide_eq_true rfl]
      refine ⟨.ref a, rfl, a, CT, d, _, .int 0, rfl, hA, hD, E1.ec, E1.no, fld, 0, false, rfl, rfl, true, rfl, iteT ?_⟩
      refine ⟨.ref a, rfl, a, CT, d, _, .int 0, rfl, hA, hD, E1.ec, E1.no, fld, 0, true, rfl, rfl, ?_⟩
      exact q _ (e01.trans (extN_same s3)) (tabs_same t1 s3)
    · refine ⟨true, xm, (fun z => nomatch z), fun _ => ⟨CT, d, rfl, rfl, fun a ha => ?_⟩⟩
      have ne : a ≠ d := fun q => by
        rw [q, upd_same] at ha
        cases ha
      have hA : upd (upd H2 d (.xd [("item", .int 1)])) a (ErrO CT d a) a = some (ErrO CT d a) := upd_same
      have hD : upd (upd H2 d (.xd [("item", .int 1)])) a (ErrO CT d a) d = some (.xd [("item", .int 1)]) := by
        rw [upd_ne (Ne.symm ne), upd_same]
      have s3 : Same H1 (upd (upd H2 d (.xd [("item", .int 1)])) a (ErrO CT d a)) := s2.trans ((same_new hd2).trans (same_new ha))
      have fld := xd_fld "item" (V.int 1)
      have ed : dueV z = .int 1 := by
        unfold dueV
        rw [el]
        exact if_neg many
      refine ⟨_, _, rfl, ?_⟩
      rw [ed]
      refine ⟨.int 1, rfl, .int 1, .ty "int", .type "int", .type "int", true, rfl, .ty "int", .base (.int 1), kit_ty (by decide +kernel), true, rfl, iteT ?_⟩
      refine ⟨.ref a, rfl, a, CT, d, CT, _, true, rfl, hA, hD, E1.ec, kit_self, true, rfl, iteT ?_⟩
      refine ⟨.ref a, rfl, a, CT, d, _, .int 1, rfl, hA, hD, E1.ec, E1.no, fld, .int 1, rfl, rfl, true, ?_, iteT ?_⟩
      · rw [decide_eq_true rfl]
      refine ⟨.ref a, rfl, a, CT, d, _, .int 1, rfl, hA, hD, E1.ec, E1.no, fld, 1, false, rfl, rfl, true, rfl, iteT ?_⟩
      refine ⟨.ref a, rfl, a, CT, d, _, .int 1, rfl, hA, hD, E1.ec, E1.no, fld, 1, true, rfl, rfl, ?_⟩
      exact q _ (e01.trans (extN_same s3)) (tabs_same t1 s3)
    · refine ⟨_, _, rfl, ?_⟩
      have ed : dueV z = .str l := by
        unfold dueV
        rw [el]
        exact if_pos one
      rw [ed]
      refine ⟨.str l, rfl, .str l, .ty "int", .type "str", .type "int", false, rfl, .ty "int", .base (.str l), kit_ty (by decide +kernel), false, rfl, iteF ?_⟩
      refine ⟨_, rfl, rfl, false, ?_, iteF ?_⟩
      · rw [decide_eq_true rfl]
        rfl
      refine ⟨rfl, .str z, rfl, .str z, rfl, .inl ⟨_, rfl⟩, fun z' hz => ?_, fun nz => (nz _ rfl).elim⟩
      cases hz
      refine ⟨by omega, (fun en => by rw [el] at en; cases en), (fun l' el' many => (many one).elim), fun l' el' _ b H3 nb s3 wb => ?_⟩
      rw [el] at el'
      cases el'
      obtain ⟨dx, hb⟩ := wb
      have ty := isC_ty cl ic (show WordAt CW H3 b l from ⟨dx, hb⟩)
      refine ⟨.ref b, rfl, .ref b, .ref CW, .ref CW, .ref CW, true, rfl, .own CW, ty, kit_self, true, rfl, iteT ?_⟩
      refine ⟨.ref b, rfl, b, CW, dx, _, .str l, rfl, hb, cl, na, rfl, .str l, rfl, rfl, true, ?_, iteT ?_⟩
      · rw [decide_eq_true rfl]
      refine ⟨.ref b, rfl, b, dx, _, rfl, hb, b, l, rfl, ⟨dx, hb⟩, strOf l, rfl, .str z, rfl, rfl, ?_⟩
      rw [due_text el one, decide_eq_true rfl]
      have s4 := s2.trans s3
      exact q _ (e01.trans (extN_same s4)) (tabs_same t1 s4)
end
end K06
-- P16
namespace K06
open PySem PySem.Spec PyProof.Rows L2 SB
/-- a row without a fault that isn't empty is one item, and is read as itself -/
theorem row_items {z : Str} (h : fault z.cps.toList = none) : items z = [z] := by
  refine items_free fun hm => ?_
  have := letters_of _ _ _ h 32 hm
  exact absurd this (by decide +kernel)
theorem row_hd {z : Str} (h : fault z.cps.toList = none) : hd z = z := by
  unfold hd
  rw [row_items h]
  rfl
theorem row_dash {z : Str} (h : fault z.cps.toList = none) : z ≠ "-" := by
  rintro rfl
  exact absurd h (by decide +kernel)
theorem row_word {z : Str} (h : fault z.cps.toList = none) (n : z ≠ "") (l : z.length ≤ 4000) : wordOf z = some z := by
  unfold wordOf
  rw [if_neg (row_dash h), if_neg]
  rintro (q | q | q)
  · exact n q
  · omega
  · exact q h
theorem row_long {z : Str} (h : fault z.cps.toList = none) (l : 4000 < z.length) : wordOf z = none := by
  unfold wordOf
  rw [if_neg (row_dash h), if_pos (.inr (.inl l))]
section
variable {P : Program} {w : World} {K : PySem.W.Frag} {mg : Str → Option Value} {base : Heap}
def spLong (T : List (Addr × Str)) : Sp := fun vs H Q _ => ∃ z : Str, vs = [.str z] ∧ z.length ≤ 9000 ∧ z ≠ "" ∧ fault z.cps.toList = none ∧ LamX.Tabs T H ∧ ∀ H', LamX.ExtN H H' → LamX.Tabs T H' → Q (.bl true) H'
theorem ok_law_long_right {T : List (Addr × Str)} {f c Pt CB CT CW fT : Addr} {fd : FuncData} {k : Nat} (F : FunT K "_law_long_right" "_law_long_right" s__law_long_right f c fd) (Hd : Heard K mg CB)
    (TB : LamX.TabB base mg c Pt) (hmT : (Pt, lq "_law_long_right") ∈ T) (hu : ∀ p ∈ T, p.1 = Pt → p.2 = lq "_law_long_right")
    (R : ReadOk P w K mg base CW CT (k + 6)) (gW : mg "Word" = some (.ref CW)) (cl : Cls K CW) (ic : IsC K CW) (na : NoAttr K CW "letters")
    (E1 : Err1 K mg "BadText" "item" CT fT) (xm : PySem.W.exmOne K (.ref CT) (.ref CB) = some true)
    (m_isinstance : mg "isinstance" = none) (m_len : mg "len" = none) : FnOk P w K mg base CX0 (k + 9) f fd ["text"] (spLong T) := by
  obtain ⟨pS, gR, fdR, St, GR, bR, kR⟩ := R.ex
  have g_BadText := E1.at_
  refine F.ok sc__law_long_right (fun vs H Q E h => ?_) (fun A outer s H vs Q E hr h => ?_)
  · obtain ⟨z, rfl, _⟩ := h
    rfl
  · obtain ⟨z, rfl, hl, nz, fz, tabs, q⟩ := h
    have nd := sc__law_long_right.nd
    refine ⟨_, (pss_cons (ps_set (i := 1) nd rfl (.inl rfl) (pe_heard Hd (by rfl) TB (by rfl) hmT hu (k := k + 6) (hr.mono (by omega)) (LamX.lamS_by (sc := defScope s__law_long_right) (by decide +kernel)) (by rfl) (fun _ _ _ _ _ => rfl) (fun _ _ _ _ E' _ _ hr' => (pe_stat (E := E') (pe_glob (v := .ref CW) (by rfl) gW rfl) St GR (hr'.mono (by omega)) bR .nil (passes_call (takes_of rfl rfl rfl rfl) fun _ _ _ _ q => q) (pa_cons (pv 0) pa_nil)))))
      (pss_cons (ps_if (pt_cmpR op_gt (pe_callB call_len (by rfl) m_len PySem.boot_len (pa_cons (pv 0) pa_nil)) pe_int (nomark _)) (pss_one (ps_ret (pe_and (pe_callB call_isErr (by rfl) m_isinstance boot_isinstance (pa_cons (pv 1) (pa_cons (pe_glob (v := .ref CT) (by rfl) g_BadText rfl) pa_nil))) (pe_one (pe_cmpR op_eq (pe_errF (pv 1)) pe_int (nomark _)))))) pss_nil)
      (pss_one (ps_ret (pe_and (pe_cmpR op_isN (pv 1) pe_non (nomark _)) (pe_one (pe_cmpR op_eq (pe_fld (pe_stat (pe_glob (v := .ref CW) (by rfl) gW rfl) St GR (hr.mono (by omega)) bR .nil passL (pa_cons (pv 0) pa_nil)) rfl) (pv 0) (nomark _)))))))), ?_⟩
    refine ⟨tabs, fun H1 e1 t1 => ?_⟩
    refine ⟨rfl, .str z, rfl, .str z, rfl, .inl ⟨_, rfl⟩, fun z' hz => ?_, fun nz => (nz _ rfl).elim⟩
    cases hz
    have zs : z.length ≤ sizeLine := by
      rw [sizeLine_eq]
      omega
    have one : (items z).length = 1 := by
      rw [row_items fz]
      rfl
    refine ⟨by omega, fun en H2 d s2 hd2 => ?_, fun l el many => (many one).elim, fun l el _ a H2 na2 s2 wa => ?_⟩
    · refine ⟨true, xm, (fun z => nomatch z), fun _ => ⟨CT, d, rfl, rfl, fun a ha => ?_⟩⟩
      have ne : a ≠ d := fun q => by
        rw [q, upd_same] at ha
        cases ha
      have hA : upd (upd H2 d (.xd [("item", .int 0)])) a (ErrO CT d a) a = some (ErrO CT d a) := upd_same
      have hD : upd (upd H2 d (.xd [("item", .int 0)])) a (ErrO CT d a) d = some (.xd [("item", .int 0)]) := by
        rw [upd_ne (Ne.symm ne), upd_same]
      have s3 : Same H1 (upd (upd H2 d (.xd [("item", .int 0)])) a (ErrO CT d a)) := s2.trans ((same_new hd2).trans (same_new ha))
      have fld := xd_fld "item" (V.int 0)
      have ll : 4000 < z.length := by
        rcases Nat.lt_or_ge 4000 z.length with q | q
        · exact q
        · rw [row_hd fz, row_word fz nz q] at en
          cases en
      refine ⟨.str z, rfl, .str z, z.length, rfl, ⟨zs, rfl⟩, _, _, rfl, rfl, true, ?_, iteT ?_⟩
      · exact congrArg V.bl (decide_eq_true (by omega))
      refine ⟨.ref a, rfl, a, CT, d, CT, _, true, rfl, hA, hD, E1.ec, kit_self, true, rfl, iteT ?_⟩
      refine ⟨.ref a, rfl, a, CT, d, _, .int 0, rfl, hA, hD, E1.ec, E1.no, fld, rfl, ?_⟩
      rw [decide_eq_true rfl]
      exact q _ (e1.trans (extN_same s3)) (tabs_same t1 s3)
    · have ll : z.length ≤ 4000 := by
        rcases Nat.lt_or_ge 4000 z.length with q | q
        · rw [row_hd fz, row_long fz q] at el
          cases el
        · exact q
      rw [row_hd fz, row_word fz nz ll] at el
      cases el
      refine ⟨.str z, rfl, .str z, z.length, rfl, ⟨zs, rfl⟩, _, _, rfl, rfl, false, ?_, iteF ?_⟩
      · exact congrArg V.bl (decide_eq_false (by omega))
      refine ⟨.non, rfl, rfl, true, rfl, iteT ?_⟩
      refine ⟨rfl, .str z, rfl, .str z, rfl, .inl ⟨_, rfl⟩, fun z' hz => ?_, fun nz => (nz _ rfl).elim⟩
      cases hz
      refine ⟨by omega, (fun en => by rw [row_hd fz, row_word fz nz ll] at en; cases en), (fun l' el' many => (many one).elim), fun l' el' _ b H3 nb s3 wb => ?_⟩
      rw [row_hd fz, row_word fz nz ll] at el'
      cases el'
      obtain ⟨dx, hb⟩ := wb
      refine ⟨b, CW, dx, _, .str z, rfl, hb, cl, na, rfl, .str z, rfl, rfl, ?_⟩
      rw [decide_eq_true rfl]
      have s4 := s2.trans s3
      exact q _ (e1.trans (extN_same s4)) (tabs_same t1 s4)
end
end K06
-- R11
namespace SB
open PySem PySem.Spec PyProof.Rows L2
section
variable {X : Cx}
/-- an expression, with a word between it and what follows -/
def tMid (t : TE) : TE := fun σ H Q => ∃ R : V → Hp → Prop, t σ H R ∧ ∀ v H', R v H' → Q v H'
theorem pe_mid {e : Expr} {t : TE} (h : PE X e t) : PE X e (tMid t) := by
  refine ⟨fun pins s σ H Q I hm => ?_⟩
  obtain ⟨R, hR, hq⟩ := hm
  refine thn (h.run pins s σ H R I hR) fun u s1 hh => ?_
  obtain ⟨v, H1, I1, r1, q1⟩ := hh
  exact ⟨v, H1, I1, r1, hq v H1 q1⟩
/-- a text times an int -/
theorem op_repS : OpR X (binaryOp .Mult) (fun x y H Q => ∃ (z : Str) (n : Int), x = .str z ∧ y = .int n ∧ MulOk z n ∧ Q (.str (Txt.mul z n)) H) := by
  intro pins s σ H x y v u Q I rx ry h
  obtain ⟨z, n, rfl, rfl, ok, q⟩ := h
  obtain ⟨t, rfl⟩ := rx
  obtain ⟨t', rfl⟩ := ry
  exact PySem.SB.mul ok fun t2 tk => ⟨.str (Txt.mul z n), H, I.tok _, ⟨_, rfl⟩, q⟩
end
def longs : List Str := ["A", "dC", "aB"]
theorem long_ok : ∀ z ∈ longs, ∀ n ∈ ([4000, 4001] : List Int), MulOk z n ∧ (Txt.mul z n).length ≤ 9000 ∧ fault (cutS (Txt.mul z n) none (some n)).cps.toList = none ∧ cutS (Txt.mul z n) none (some n) ≠ "" := by
  unfold MulOk
  decide +kernel
end SB
-- P17
namespace K06
open PySem PySem.Spec PyProof.Rows L2 SB
theorem pen_ext {N : Int} {H H' : Hp} {p : Addr} (h : PenAt N H p) (e : LamX.ExtN H H') : PenAt N H' p := by
  obtain ⟨q, ns, i, j, h1, h2, h3, h4⟩ := h
  exact ⟨q, ns, i, j, e _ _ h1 (fun _ z => nomatch z), e _ _ h2 (fun _ z => nomatch z), h3, h4⟩
theorem tabs_kept {T : List (Addr × Str)} {N : Int} {H H' : Hp} {p : Addr} (t : LamX.Tabs T H) (h : PenAt N H p) (k : Kept p H H') : LamX.Tabs T H' := by
  obtain ⟨q, ns, i, j, h1, _⟩ := h
  refine fun r hr => ?_
  obtain ⟨ps, a1, a2, a3⟩ := t r hr
  refine ⟨ps, k _ _ a1 (fun e => by rw [e, h1] at a1; cases a1), a2, fun pos cv hc => ?_⟩
  obtain ⟨c, e1, e2⟩ := a3 pos cv hc
  refine ⟨c, e1, k _ _ e2 (fun e => ?_)⟩
  rw [e, h1] at e2
  unfold LamX.CodeO at e2
  cases e2
theorem row_strOf {z : Str} (fz : fault z.cps.toList = none) (l : z.length ≤ 4000) : (items (strOf z)).length = 1 ∧ wordOf (hd (strOf z)) = some z ∧ (strOf z).length ≤ z.length + 1 := by
  unfold strOf
  by_cases e : z = ""
  · subst e
    rw [if_pos rfl]
    have h1 : items ("-" : Str) = [("-" : Str)] := items_free (by decide +kernel)
    refine ⟨by rw [h1]; rfl, ?_, by decide +kernel⟩
    unfold hd
    rw [h1]
    exact if_pos rfl
  · rw [if_neg e]
    refine ⟨by rw [row_items fz]; rfl, ?_, by omega⟩
    rw [row_hd fz]
    exact row_word fz e l
theorem tabs_same' {T : List (Addr × Str)} {H H' : Hp} (t : LamX.Tabs T H) (s : Same H H') : LamX.Tabs T H' := t.ext s
theorem odd_any {K : PySem.W.Frag} {CW : Addr} {H : Hp} {l u x d : Addr} {xv : V} (h1 : H l = some (.lst [.str "A"])) (h2 : H u = some (.tup [.str "A"])) (h3 : WordAt CW H x "A") (h4 : H d = some (.dK [])) (cl : Cls K CW) (ic : IsC K CW)
    (hx : xv ∈ [V.non, .int 0, .bl true, .ref l, .ref u, .ref x, .ref d, .int 5]) : AnyV K H xv ∧ ∀ z : Str, xv ≠ .str z := by
  simp only [List.mem_cons, List.not_mem_nil, or_false] at hx
  rcases hx with rfl | rfl | rfl | rfl | rfl | rfl | rfl | rfl
  · exact ⟨.inr ⟨_, .base .non, kit_ty (by decide +kernel)⟩, fun z q => nomatch q⟩
  · exact ⟨.inr ⟨_, .base (.int _), kit_ty (by decide +kernel)⟩, fun z q => nomatch q⟩
  · exact ⟨.inr ⟨_, .base (.bl _), kit_ty (by decide +kernel)⟩, fun z q => nomatch q⟩
  · exact ⟨.inr ⟨_, .base (.lst h1), kit_ty (by decide +kernel)⟩, fun z q => nomatch q⟩
  · exact ⟨.inr ⟨_, .base (.tup h2), kit_ty (by decide +kernel)⟩, fun z q => nomatch q⟩
  · exact ⟨.inr ⟨_, isC_ty cl ic h3, ic.ns⟩, fun z q => nomatch q⟩
  · exact ⟨.inr ⟨_, .base (.dK h4), kit_ty (by decide +kernel)⟩, fun z q => nomatch q⟩
  · exact ⟨.inr ⟨_, .base (.int _), kit_ty (by decide +kernel)⟩, fun z q => nomatch q⟩
def bads : List Str := ["-", "-A", "- "]
theorem bads_ok : ∀ z ∈ bads, z.length ≤ 4000 ∧ fault z.cps.toList = some 0 := by decide +kernel
section
variable {P : Program} {w : World} {K : PySem.W.Frag} {mg : Str → Option Value} {base : Heap}
def spLaw (K : PySem.W.Frag) (T : List (Addr × Str)) : Sp := fun vs H Q _ => ∃ (a : Addr) (ns : List Int), vs = [.ref a] ∧ SqL K H a (ns.map V.int) ∧ LamX.Tabs T H ∧ ∀ H', Q (.bl true) H'
theorem ok_law {T : List (Addr × Str)} {f c Pt CB CT CB2 CW fW fT fB2 fE f__law_pen f__law_row f__law_pick f__law_draw f__law_spoiled f__law_text_right f__law_long_right : Addr} {fd fdW fdE d__law_pen d__law_row d__law_pick d__law_draw d__law_spoiled d__law_text_right d__law_long_right : FuncData} {k : Nat} (F : FunT K "law" "law" s_law f c fd) (Hd : Heard K mg CB)
    (TB : LamX.TabB base mg c Pt) (hmT : (Pt, lq "law") ∈ T) (hu : ∀ p ∈ T, p.1 = Pt → p.2 = lq "law")
    (R : ReadOk P w K mg base CW CT (k + 6)) (S : StrOk P w K mg base CW (k + 1)) (gW : mg "Word" = some (.ref CW)) (cl : Cls K CW) (ic : IsC K CW) (na : NoAttr K CW "letters")
    (M : Mk K CW fW) (GW : FnOk P w K mg base (L2.CX P w) (k + 3) fW fdW ["self", "letters"] (spWordInit K CW CB2)) (bW : Binds K fdW ["self", "letters"] [])
    (EqW : EqC K CW fE) (GE : FnOk P w K mg base CX0 (k + 1) fE fdE ["self", "other"] (spEq CW)) (bE : Binds K fdE ["self", "other"] [])
    (E1 : Err1 K mg "BadText" "item" CT fT) (xm : PySem.W.exmOne K (.ref CT) (.ref CB) = some true)
    (E2 : Err1 K mg "BadWord" "at" CB2 fB2) (xm2 : PySem.W.exmOne K (.ref CB2) (.ref CB) = some true)
    (G__law_pen : FnOk P w K mg base CX0 (k + 1) f__law_pen d__law_pen ["script"] (spPen K)) (g__law_pen : mg "_law_pen" = some (.ref f__law_pen)) (k__law_pen : PySem.W.keepIn K (.ref f__law_pen) = true) (b__law_pen : Binds K d__law_pen ["script"] [])
    (G__law_row : FnOk P w K mg base CX0 (k + 3) f__law_row d__law_row ["pen", "most"] spRow) (g__law_row : mg "_law_row" = some (.ref f__law_row)) (k__law_row : PySem.W.keepIn K (.ref f__law_row) = true) (b__law_row : Binds K d__law_row ["pen", "most"] [])
    (G__law_pick : FnOk P w K mg base CX0 (k + 2) f__law_pick d__law_pick ["pen", "some"] (spPick K)) (g__law_pick : mg "_law_pick" = some (.ref f__law_pick)) (k__law_pick : PySem.W.keepIn K (.ref f__law_pick) = true) (b__law_pick : Binds K d__law_pick ["pen", "some"] [])
    (G__law_draw : FnOk P w K mg base CX0 (k + 1) f__law_draw d__law_draw ["pen", "many"] spDraw) (g__law_draw : mg "_law_draw" = some (.ref f__law_draw)) (k__law_draw : PySem.W.keepIn K (.ref f__law_draw) = true) (b__law_draw : Binds K d__law_draw ["pen", "many"] [])
    (G__law_spoiled : FnOk P w K mg base CX0 (k + 3) f__law_spoiled d__law_spoiled ["pen", "text"] spSpoiled) (g__law_spoiled : mg "_law_spoiled" = some (.ref f__law_spoiled)) (k__law_spoiled : PySem.W.keepIn K (.ref f__law_spoiled) = true) (b__law_spoiled : Binds K d__law_spoiled ["pen", "text"] [])
    (G__law_text_right : FnOk P w K mg base CX0 (k + 9) f__law_text_right d__law_text_right ["text"] (spText T)) (g__law_text_right : mg "_law_text_right" = some (.ref f__law_text_right)) (k__law_text_right : PySem.W.keepIn K (.ref f__law_text_right) = true) (b__law_text_right : Binds K d__law_text_right ["text"] [])
    (G__law_long_right : FnOk P w K mg base CX0 (k + 9) f__law_long_right d__law_long_right ["text"] (spLong T)) (g__law_long_right : mg "_law_long_right" = some (.ref f__law_long_right)) (k__law_long_right : PySem.W.keepIn K (.ref f__law_long_right) = true) (b__law_long_right : Binds K d__law_long_right ["text"] [])
    (m_isinstance : mg "isinstance" = none) (m_str : mg "str" = none) (m_range : mg "range" = none) : FnOk P w K mg base CX0 (k + 10) f fd ["script"] (spLaw K T) := by
  obtain ⟨pS, gR, fdR, St, GR, bR, kR⟩ := R.ex
  obtain ⟨gS, fdS, ws, wf, GS, bS⟩ := S.ex
  have g_BadText := E1.at_
  have g_BadWord := E2.at_
  refine F.ok sc_law (fun vs H Q E h => ?_) (fun A outer s H vs Q E hr h => ?_)
  · obtain ⟨a, ns, rfl, _⟩ := h
    rfl
  · obtain ⟨a, ns, rfl, hS, tabs, q⟩ := h
    have nd := sc_law.nd
    refine ⟨_, (pss_cons (ps_set (i := 7) nd rfl (.inr rfl) (pe_call G__law_pen (hr.mono (by omega)) (by rfl) g__law_pen k__law_pen b__law_pen .nil pass0 (pa_cons (pv 0) pa_nil)))
      (pss_cons (ps_for PassesOwn.never rfl (pi_range1 (by rfl) m_range (pa_cons pe_int pa_nil)) (pg_name (i := 1) nd rfl (.inl rfl)) (pss_cons (ps_set (i := 2) nd rfl (.inl rfl) (pe_call G__law_row (hr.mono (by omega)) (by rfl) g__law_row k__law_row b__law_row .nil pass0 (pa_cons (pv 7) (pa_cons pe_int pa_nil))))
      (pss_cons (ps_set (i := 3) nd rfl (.inl rfl) (pe_make M GW (hr.mono (by omega)) (by rfl) gW bW .nil passL (pa_cons (pv 2) pa_nil)))
      (pss_cons (ps_if (PW.pt (pw_or (pt_cmpR op_ne (pe_callTy (call_strOwn ws wf GS (hr.mono (by omega)) bS pass0) (by rfl) m_str PyProof.Rows.boot_str (pa_cons (pv 3) pa_nil)) (pe_mid (pe_ifExp (pt_cmpR op_ne (pv 2) pe_str (nomark _)) (pv 2) pe_str)) (nomark _)) (pw_or1 (pt_cmpR (op_neOwn EqW GE (hr.mono (by omega)) bE pass0) (pe_stat (pe_glob (v := .ref CW) (by rfl) gW rfl) St GR (hr.mono (by omega)) bR .nil passL (pa_cons (pe_callTy (call_strOwn ws wf GS (hr.mono (by omega)) bS pass0) (by rfl) m_str PyProof.Rows.boot_str (pa_cons (pv 3) pa_nil)) pa_nil)) (pv 3) (nomark _))))) (pss_one (ps_ret pe_bl)) pss_nil)
      (pss_one (ps_if (PW.pt (pw_or (pt_not (pt_val (pe_call G__law_text_right (hr.mono (by omega)) (by rfl) g__law_text_right k__law_text_right b__law_text_right .nil pass0 (pa_cons (pe_call G__law_spoiled (hr.mono (by omega)) (by rfl) g__law_spoiled k__law_spoiled b__law_spoiled .nil pass0 (pa_cons (pv 7) (pa_cons (pe_callTy (call_strOwn ws wf GS (hr.mono (by omega)) bS pass0) (by rfl) m_str PyProof.Rows.boot_str (pa_cons (pv 3) pa_nil)) pa_nil))) pa_nil)))) (pw_or1 (pt_not (pt_val (pe_call G__law_text_right (hr.mono (by omega)) (by rfl) g__law_text_right k__law_text_right b__law_text_right .nil pass0 (pa_cons (pe_callTy (call_strOwn ws wf GS (hr.mono (by omega)) bS pass0) (by rfl) m_str PyProof.Rows.boot_str (pa_cons (pv 3) pa_nil)) pa_nil))))))) (pss_one (ps_ret pe_bl)) pss_nil))))))
      (pss_cons (ps_set (i := 6) nd rfl (.inr rfl) (pe_call G__law_pick (hr.mono (by omega)) (by rfl) g__law_pick k__law_pick b__law_pick .nil pass0 (pa_cons (pv 7) (pa_cons (pe_lst (pa_cons pe_non (pa_cons pe_int (pa_cons pe_bl (pa_cons (pe_lst (pa_cons pe_str pa_nil)) (pa_cons (pe_tup (pa_cons pe_str pa_nil)) (pa_cons (pe_make M GW (hr.mono (by omega)) (by rfl) gW bW .nil passL (pa_cons pe_str pa_nil)) (pa_cons pe_dnewK (pa_cons pe_int pa_nil))))))))) pa_nil))))
      (pss_cons (ps_set (i := 4) nd rfl (.inl rfl) (pe_heard Hd (by rfl) TB (by rfl) hmT hu (k := k + 6) (hr.mono (by omega)) (LamX.lamS_by (sc := defScope s_law) (by decide +kernel)) (by rfl) (fun _ _ _ _ _ => rfl) (fun _ _ _ _ E' _ _ hr' => (pe_stat (E := E') (pe_glob (v := .ref CW) (by rfl) gW rfl) St GR (hr'.mono (by omega)) bR .nil (passes_call (takes_of rfl rfl rfl rfl) fun _ _ _ _ q => q) (pa_cons (pv 6) pa_nil)))))
      (pss_cons (ps_if (PW.pt (pw_or (pt_not (pt_val (pe_callB call_isErr (by rfl) m_isinstance boot_isinstance (pa_cons (pv 4) (pa_cons (pe_glob (v := .ref CT) (by rfl) g_BadText rfl) pa_nil))))) (pw_or (pt_cmpR op_ne (pe_errF (pv 4)) pe_int (nomark _)) (pw_or1 (pt_cmpR op_isIB (pe_errF (pv 4)) pe_bl (nomark _)))))) (pss_one (ps_ret pe_bl)) pss_nil)
      (C8.pss_cut (ps_if (pt_cmpR op_eq (pe_call G__law_draw (hr.mono (by omega)) (by rfl) g__law_draw k__law_draw b__law_draw .nil pass0 (pa_cons (pv 7) (pa_cons pe_int pa_nil))) pe_int (nomark _)) (pss_cons (ps_set (i := 5) nd rfl (.inl rfl) (pe_op op_add pe_int (pe_call G__law_draw (hr.mono (by omega)) (by rfl) g__law_draw k__law_draw b__law_draw .nil pass0 (pa_cons (pv 7) (pa_cons pe_int pa_nil)))))
      (pss_one (ps_if (pt_not (pt_val (pe_call G__law_long_right (hr.mono (by omega)) (by rfl) g__law_long_right k__law_long_right b__law_long_right .nil pass0 (pa_cons (pe_slice sl_str (pe_op op_repS (pe_call G__law_pick (hr.mono (by omega)) (by rfl) g__law_pick k__law_pick b__law_pick .nil pass0 (pa_cons (pv 7) (pa_cons (pe_lst (pa_cons pe_str (pa_cons pe_str (pa_cons pe_str pa_nil)))) pa_nil))) (pv 5)) po_none (po_some (pv 5))) pa_nil)))) (pss_one (ps_ret pe_bl)) pss_nil))) pss_nil)
      (pss_cons (ps_set (i := 4) nd rfl (.inl rfl) (pe_heard Hd (by rfl) TB (by rfl) hmT hu (k := k + 6) (hr.mono (by omega)) (LamX.lamS_by (sc := defScope s_law) (by decide +kernel)) (by rfl) (fun _ _ _ _ _ => rfl) (fun _ _ _ _ E' _ _ hr' => (pe_make (E := E') M GW (hr'.mono (by omega)) (by rfl) gW bW .nil (passes_call (takes_of rfl rfl rfl rfl) fun _ _ _ _ q => q) (pa_cons (pe_call G__law_pick (hr'.mono (by omega)) (by rfl) g__law_pick k__law_pick b__law_pick .nil pass0 (pa_cons (pv 7) (pa_cons (pe_lst (pa_cons pe_str (pa_cons pe_str (pa_cons pe_str pa_nil)))) pa_nil))) pa_nil)))))
      (pss_one (ps_ret (pe_and (pe_callB call_isErr (by rfl) m_isinstance boot_isinstance (pa_cons (pv 4) (pa_cons (pe_glob (v := .ref CB2) (by rfl) g_BadWord rfl) pa_nil))) (pe_and (pe_cmpR op_eq (pe_errF (pv 4)) pe_int (nomark _)) (pe_and (pe_call G__law_text_right (hr.mono (by omega)) (by rfl) g__law_text_right k__law_text_right b__law_text_right .nil pass0 (pa_cons pe_str pa_nil)) (pe_one (pe_call G__law_text_right (hr.mono (by omega)) (by rfl) g__law_text_right k__law_text_right b__law_text_right .nil pass0 (pa_cons pe_str pa_nil))))))))))))))), ?_⟩
    refine ⟨.ref a, rfl, a, ns, rfl, hS, fun p H1 np s1 p1 => ?_⟩
    have t1 := tabs_same tabs s1
    refine ⟨9, rfl, by decide, by decide, for_range (lo := 0) (n := 9) (fun i σ H' => ∃ y1 y2 y3, σ = [some (.ref a), y1, y2, y3, none, none, none, some (.ref p)] ∧ PenAt (14 * (i : Int)) H' p ∧ LamX.Tabs T H')
      ⟨none, none, none, rfl, p1.mono (by decide), t1⟩ (fun i σ H2 hi hPv => ?_) (fun σ H2 hPv => ?_)⟩
    · obtain ⟨y1, y2, y3, rfl, p2, t2⟩ := hPv
      refine ⟨.ref p, rfl, p, _, 8, rfl, p2, by decide, by decide, by omega, fun z H3 rz k3 p3 => ?_⟩
      obtain ⟨fz, lz⟩ := rz
      have lz : z.length ≤ 8 := lz
      have t3 := tabs_kept t2 p2 k3
      refine ⟨.str z, rfl, fun x dx nx nd' ne => ⟨x, dx, .str z, rfl, upd_same, .inl ⟨_, rfl⟩, fun z' hz' => ?_, fun nz => (nz _ rfl).elim⟩⟩
      cases hz'
      refine ⟨by omega, (fun i hi => by rw [fz] at hi; cases hi), fun _ H4 sm => ⟨rfl, ?_⟩⟩
      obtain ⟨s4, w4⟩ := made_word (z := z) nx nd' sm
      obtain ⟨dx', hx⟩ := w4
      generalize upd H4 x (HO.ins CW dx [("letters", V.str z)]) = H5 at s4 hx ⊢
      obtain ⟨one, wo, ls⟩ := row_strOf fz (by omega)
      refine ⟨.ref x, rfl, x, dx', _, rfl, hx, x, z, rfl, ⟨dx', hx⟩, strOf z, rfl, ?_⟩
      refine ⟨fun v H' => v = .str (strOf z) ∧ H' = H5, ⟨.str z, rfl, rfl, _, rfl, ?_⟩, ?_⟩
      · by_cases e : z = ""
        · rw [decide_eq_true (congrArg V.str e)]
          refine iteF ⟨?_, rfl⟩
          unfold strOf
          rw [if_pos e]
        · rw [decide_eq_false fun q => e (V.str.inj q)]
          refine iteT ⟨.str z, rfl, ?_, rfl⟩
          unfold strOf
          rw [if_neg e]
      rintro v H' ⟨rfl, rfl⟩
      refine ⟨rfl, _, rfl, ?_⟩
      rw [decide_eq_true rfl]
      refine iteF ?_
      have t5 := tabs_same t3 s4
      have p5 := p3.same s4
      refine ⟨rfl, .ref x, rfl, x, dx', _, rfl, hx, x, z, rfl, ⟨dx', hx⟩, strOf z, rfl, .str (strOf z), rfl, .inl ⟨_, rfl⟩, fun z' hz' => ?_, fun nz => (nz _ rfl).elim⟩
      cases hz'
      refine ⟨by omega, (fun en => by rw [wo] at en; cases en), (fun l' el' many => (many one).elim), fun l' el' _ b H6 nb s6 wb => ?_⟩
      rw [wo] at el'
      cases el'
      obtain ⟨dxb, hb⟩ := wb
      have hx6 := s6 _ _ hx
      refine ⟨.ref x, rfl, b, x, dxb, dx', _, _, rfl, rfl, hb, hx6, b, x, z, z, rfl, ⟨dxb, hb⟩, ⟨dx', hx6⟩, by omega, by omega, fz, fz, fun H7 s7 => ⟨_, rfl, _, rfl, ?_⟩⟩
      rw [decide_eq_true rfl]
      refine iteF ?_
      have hx7 := s7 _ _ hx6
      have t7 := tabs_same t5 (s6.trans s7)
      have p7 := p5.same (s6.trans s7)
      -- a spoiled one, and the very one
      refine ⟨.ref p, rfl, .ref x, rfl, x, dx', _, rfl, hx7, x, z, rfl, ⟨dx', hx7⟩, strOf z, rfl, p, _, strOf z, rfl, p7, by omega, by omega, fun g H8 lg k8 p8 => ?_⟩
      have t8 := tabs_kept t7 p7 k8
      have xp : x ≠ p := by
        rintro rfl
        obtain ⟨_, _, _, _, e, _⟩ := p7
        rw [hx7] at e
        cases e
      have hx8 := k8 _ _ hx7 xp
      refine ⟨g, rfl, by omega, t8, fun H9 e9 t9 => ⟨true, rfl, iteF ?_⟩⟩
      have hx9 := e9 _ _ hx8 (fun _ z => nomatch z)
      refine ⟨.ref x, rfl, x, dx', _, rfl, hx9, x, z, rfl, ⟨dx', hx9⟩, strOf z, rfl, strOf z, rfl, by omega, t9, fun H10 e10 t10 => ⟨true, rfl, iteF ?_⟩⟩
      exact ⟨_, _, _, rfl, (pen_ext (pen_ext p8 e9) e10).mono (by omega), t10⟩
    · obtain ⟨y1, y2, y3, rfl, p2, t2⟩ := hPv
      have ne_p : ∀ {H : Hp} {N : Int} {b : Addr}, PenAt N H p → H b = none → b ≠ p := fun h hb e => by
        obtain ⟨_, _, _, _, z, _⟩ := h
        rw [e, z] at hb
        cases hb
      refine ⟨.ref p, rfl, by show 1 ≤ sizeLine; decide, fun l1 hl1 => ⟨by show 1 ≤ sizeLine; decide, fun u1 hu1 => ?_⟩⟩
      have sl1 := same_new (o := .lst [.str "A"]) hl1
      have su1 := same_new (o := .tup [.str "A"]) hu1
      refine fun x dx nx nd' ne => ⟨x, dx, .str "A", rfl, upd_same, .inl ⟨_, rfl⟩, fun z' hz' => ?_, fun nz => (nz _ rfl).elim⟩
      cases hz'
      have fA : fault ("A" : Str).cps.toList = none := by decide +kernel
      refine ⟨by decide +kernel, (fun i hi => by rw [fA] at hi; cases hi), fun _ H4 sm => ⟨rfl, ?_⟩⟩
      obtain ⟨s4, w4⟩ := made_word (z := "A") nx nd' sm
      obtain ⟨dx', hx⟩ := w4
      generalize upd H4 x (HO.ins CW dx [("letters", V.str "A")]) = H5 at s4 hx ⊢
      refine fun d hd => ⟨by show 8 ≤ sizeLine; decide, fun L hL => ?_⟩
      have sd := same_new (o := .dK []) hd
      have sL := same_new (o := .lst [V.non, .int 0, .bl true, .ref l1, .ref u1, .ref x, .ref d, .int 5]) hL
      have sa : Same H2 _ := sl1.trans (su1.trans (s4.trans (sd.trans sL)))
      have o1 := sL _ _ (sd _ _ (s4 _ _ (su1 _ _ upd_same)))
      have o2 := sL _ _ (sd _ _ (s4 _ _ upd_same))
      have o3 := sL _ _ (sd _ _ hx)
      have o4 := sL _ _ upd_same
      have q2 := p2.same sa
      have r2 := tabs_same t2 sa
      refine ⟨p, L, _, _, rfl, q2, by decide, .inl (.inl upd_same), fun e => ne_p (p2.same (sl1.trans (su1.trans (s4.trans sd)))) hL e, by show 0 < 8; decide, by show 8 ≤ 100000; decide, fun xv H6 hxv k6 p6 => ?_⟩
      have r6 := tabs_kept r2 q2 k6
      have n1 := k6 _ _ o1 (ne_p p2 hl1)
      have n2 := k6 _ _ o2 (ne_p (p2.same sl1) hu1)
      have n3 := k6 _ _ o3 (ne_p (p2.same (sl1.trans su1)) nx)
      have n4 := k6 _ _ o4 (ne_p (p2.same (sl1.trans (su1.trans s4))) hd)
      refine ⟨r6, fun H7 e7 t7 => ?_⟩
      have p7 := pen_ext p6 e7
      have oa := odd_any (e7 _ _ n1 (fun _ z => nomatch z)) (e7 _ _ n2 (fun _ z => nomatch z)) ⟨_, e7 _ _ n3 (fun _ z => nomatch z)⟩ (e7 _ _ n4 (fun _ z => nomatch z)) cl ic hxv
      refine ⟨rfl, xv, rfl, xv, rfl, oa.1, fun z hz => (oa.2 z hz).elim, fun _ dd hdd => ?_⟩
      refine ⟨true, xm, (fun z => nomatch z), fun _ => ⟨CT, dd, rfl, rfl, fun ea hea => ?_⟩⟩
      have nea : ea ≠ dd := fun q => by
        rw [q, upd_same] at hea
        cases hea
      have hA : upd (upd H7 dd (.xd [("item", .int 0)])) ea (ErrO CT dd ea) ea = some (ErrO CT dd ea) := upd_same
      have hD : upd (upd H7 dd (.xd [("item", .int 0)])) ea (ErrO CT dd ea) dd = some (.xd [("item", .int 0)]) := by
        rw [upd_ne (Ne.symm nea), upd_same]
      have s8 : Same H7 (upd (upd H7 dd (.xd [("item", .int 0)])) ea (ErrO CT dd ea)) := (same_new hdd).trans (same_new hea)
      have fld := xd_fld "item" (V.int 0)
      refine ⟨.ref ea, rfl, ea, CT, dd, CT, _, true, rfl, hA, hD, E1.ec, kit_self, true, rfl, iteF ?_⟩
      refine ⟨.ref ea, rfl, ea, CT, dd, _, .int 0, rfl, hA, hD, E1.ec, E1.no, fld, rfl, _, rfl, ?_⟩
      rw [decide_eq_true rfl]
      refine iteF ?_
      refine ⟨.ref ea, rfl, ea, CT, dd, _, .int 0, rfl, hA, hD, E1.ec, E1.no, fld, _, _, rfl, rfl, _, rfl, iteF ?_⟩
      have p8 := p7.same s8
      have t8 := tabs_same t7 s8
      generalize upd (upd H7 dd (.xd [("item", .int 0)])) ea (ErrO CT dd ea) = H8 at p8 t8 ⊢
      refine ⟨fun σ' H' => ∃ y5 N, σ' = [some (.ref a), y1, y2, y3, some (.ref ea), y5, some xv, some (.ref p)] ∧ PenAt N H' p ∧ N ≤ 1000 ∧ LamX.Tabs T H', ?_, ?_⟩
      · refine ⟨.ref p, rfl, p, _, 12, rfl, p8, by decide, by decide, by decide, fun d9 H9 d90 d91 k9 p9 => ?_⟩
        have t9 := tabs_kept t8 p8 k9
        refine ⟨rfl, _, rfl, ite2 (fun e => ?_) (fun e => ?_)⟩
        · refine ⟨.ref p, rfl, p, _, 2, rfl, p9, by decide, by decide, by decide, fun m H10 m0 m1 k10 p10 => ?_⟩
          have t10 := tabs_kept t9 p9 k10
          refine ⟨_, _, rfl, rfl, .ref p, rfl, by show 3 ≤ sizeLine; decide, fun b hb => ?_⟩
          have sb := same_new (o := .lst (longs.map V.str)) hb
          have p11 := p10.same sb
          have t11 := tabs_same t10 sb
          refine ⟨p, b, _, longs.map V.str, rfl, p11, by decide, .inl (.inl upd_same), ne_p p10 hb, by decide, by decide, fun y H12 hy k12 p12 => ?_⟩
          have t12 := tabs_kept t11 p11 k12
          obtain ⟨z, hz, rfl⟩ := List.mem_map.mp hy
          have hn : (4000 + m) ∈ ([4000, 4001] : List Int) := by
            have : m = 0 ∨ m = 1 := by omega
            rcases this with q | q
            · rw [q]
              decide
            · rw [q]
              decide
          obtain ⟨ok, lz, fz, nz⟩ := long_ok z hz (4000 + m) hn
          refine ⟨.int (4000 + m), rfl, z, 4000 + m, rfl, rfl, ok, .int (4000 + m), rfl, 4000 + m, rfl, Txt.mul z (4000 + m), rfl, by rw [sizeLine_eq]; omega, ?_⟩
          have lc := cutS_length (Txt.mul z (4000 + m)) none (some (4000 + m))
          refine ⟨_, rfl, by omega, nz, fz, t12, fun H13 e13 t13 => ⟨true, rfl, iteF ?_⟩⟩
          exact ⟨_, _, rfl, pen_ext p12 e13, by decide, t13⟩
        · exact ⟨_, _, rfl, p9, by decide, t9⟩
      · rintro σ' H9 ⟨y5, N, rfl, p9, hN, t9⟩
        refine ⟨t9, fun H10 e10 t10 => ?_⟩
        have p10 := pen_ext p9 e10
        refine ⟨.ref p, rfl, by show 3 ≤ sizeLine; decide, fun b hb => ?_⟩
        have sb := same_new (o := .lst (bads.map V.str)) hb
        have p11 := p10.same sb
        have t11 := tabs_same t10 sb
        refine ⟨p, b, _, bads.map V.str, rfl, p11, by omega, .inl (.inl upd_same), ne_p p10 hb, by decide, by decide, fun y H12 hy k12 p12 => ?_⟩
        have t12 := tabs_kept t11 p11 k12
        obtain ⟨z, hz, rfl⟩ := List.mem_map.mp hy
        obtain ⟨lz, fz⟩ := bads_ok z hz
        refine fun x dx nx nd' ne => ⟨x, dx, .str z, rfl, upd_same, .inl ⟨_, rfl⟩, fun z' hz' => ?_, fun nz => (nz _ rfl).elim⟩
        cases hz'
        refine ⟨lz, fun i hi H13 dd s13 hdd => ?_, (fun fn => by rw [fz] at fn; cases fn)⟩
        rw [fz] at hi
        cases hi
        refine ⟨true, xm2, (fun z => nomatch z), fun _ => ⟨CB2, dd, rfl, rfl, fun ea hea => ?_⟩⟩
        have nea : ea ≠ dd := fun q => by
          rw [q, upd_same] at hea
          cases hea
        have hA : upd (upd H13 dd (.xd [("at", .int 0)])) ea (ErrO CB2 dd ea) ea = some (ErrO CB2 dd ea) := upd_same
        have hD : upd (upd H13 dd (.xd [("at", .int 0)])) ea (ErrO CB2 dd ea) dd = some (.xd [("at", .int 0)]) := by
          rw [upd_ne (Ne.symm nea), upd_same]
        have s14 : Same H13 (upd (upd H13 dd (.xd [("at", .int 0)])) ea (ErrO CB2 dd ea)) := (same_new hdd).trans (same_new hea)
        have fld := xd_fld "at" (V.int 0)
        have sA : Same H12 H13 := (same_new nd').trans ((same_new (by rw [upd_ne (Ne.symm ne)]; exact nx)).trans s13)
        have t14 := tabs_same t12 (sA.trans s14)
        refine ⟨.ref ea, rfl, ea, CB2, dd, CB2, _, true, rfl, hA, hD, E2.ec, kit_self, true, rfl, iteT ?_⟩
        refine ⟨.ref ea, rfl, ea, CB2, dd, _, .int 0, rfl, hA, hD, E2.ec, E2.no, fld, rfl, true, ?_, iteT ?_⟩
        · rw [decide_eq_true rfl]
        refine ⟨"", rfl, by decide +kernel, t14, fun H15 e15 t15 => ⟨true, rfl, iteT ?_⟩⟩
        exact ⟨"-", rfl, by decide +kernel, t15, fun H16 _ _ => q H16⟩
end
end K06
-- P18
namespace K06
open PySem PySem.Spec PyProof.Rows L2 SB
theorem all_mk {w : World} {K : PySem.W.Frag} {h : Heap} {mg : Str → Option Value} {fa : Addr} (X : K.In h) (G : h.Ns mainGlobals mg) (hfa : mg "law" = some (.ref fa))
    {CB CW : Addr} {tL tM : Tok} {f_first_fault : Addr} {od_first_fault an_first_fault : Option Addr} {sl_first_fault : Array (Option Value)} {oc_first_fault kV_first_fault dc_first_fault pm_first_fault ct_first_fault cd_first_fault : Value} {f_items_of : Addr} {od_items_of an_items_of : Option Addr} {sl_items_of : Array (Option Value)} {oc_items_of kV_items_of dc_items_of pm_items_of ct_items_of cd_items_of : Value} {f_word_in : Addr} {od_word_in an_word_in : Option Addr} {sl_word_in : Array (Option Value)} {oc_word_in kV_word_in dc_word_in pm_word_in ct_word_in cd_word_in : Value} {f__law_pen : Addr} {od__law_pen an__law_pen : Option Addr} {sl__law_pen : Array (Option Value)} {oc__law_pen kV__law_pen dc__law_pen pm__law_pen ct__law_pen cd__law_pen : Value} {f__law_draw : Addr} {od__law_draw an__law_draw : Option Addr} {sl__law_draw : Array (Option Value)} {oc__law_draw kV__law_draw dc__law_draw pm__law_draw ct__law_draw cd__law_draw : Value} {f__law_pick : Addr} {od__law_pick an__law_pick : Option Addr} {sl__law_pick : Array (Option Value)} {oc__law_pick kV__law_pick dc__law_pick pm__law_pick ct__law_pick cd__law_pick : Value} {f__law_heard : Addr} {od__law_heard an__law_heard : Option Addr} {sl__law_heard : Array (Option Value)} {oc__law_heard kV__law_heard dc__law_heard pm__law_heard ct__law_heard cd__law_heard : Value} {f__law_undo : Addr} {od__law_undo an__law_undo : Option Addr} {sl__law_undo : Array (Option Value)} {oc__law_undo kV__law_undo dc__law_undo pm__law_undo ct__law_undo cd__law_undo : Value} {f__law_row : Addr} {od__law_row an__law_row : Option Addr} {sl__law_row : Array (Option Value)} {oc__law_row kV__law_row dc__law_row pm__law_row ct__law_row cd__law_row : Value} {f__law_due : Addr} {od__law_due an__law_due : Option Addr} {sl__law_due : Array (Option Value)} {oc__law_due kV__law_due dc__law_due pm__law_due ct__law_due cd__law_due : Value} {f__law_spoiled : Addr} {od__law_spoiled an__law_spoiled : Option Addr} {sl__law_spoiled : Array (Option Value)} {oc__law_spoiled kV__law_spoiled dc__law_spoiled pm__law_spoiled ct__law_spoiled cd__law_spoiled : Value} {f__law_text_right : Addr} {od__law_text_right an__law_text_right : Option Addr} {sl__law_text_right : Array (Option Value)} {oc__law_text_right kV__law_text_right dc__law_text_right pm__law_text_right ct__law_text_right : Value} {u__law_text_right P__law_text_right : Addr} {qc__law_text_right : Value} {qd__law_text_right : Option Addr} {qv__law_text_right : Array Value} {qs__law_text_right : Array (Option Value)} {f__law_long_right : Addr} {od__law_long_right an__law_long_right : Option Addr} {sl__law_long_right : Array (Option Value)} {oc__law_long_right kV__law_long_right dc__law_long_right pm__law_long_right ct__law_long_right : Value} {u__law_long_right P__law_long_right : Addr} {qc__law_long_right : Value} {qd__law_long_right : Option Addr} {qv__law_long_right : Array Value} {qs__law_long_right : Array (Option Value)} {f_law : Addr} {od_law an_law : Option Addr} {sl_law : Array (Option Value)} {oc_law kV_law dc_law pm_law ct_law : Value} {u_law P_law : Addr} {qc_law : Value} {qd_law : Option Addr} {qv_law : Array Value} {qs_law : Array (Option Value)} {f_BT f_BW f_WI f_WR f_WS f_WE : Addr} {CT : Addr} {nm_CT q_CT : Str} {N_CT : Addr} {bs_CT : List Value} {sn_CT : List Str} {sub_CT : List Value} {ab_CT : Bool} {col_CT : Option Bool} {dd_CT : Option Addr} {m0_CT m1_CT m2_CT m3_CT m5_CT : Option Value} {bm_CT : List Value} {C2 : Addr} {nm_C2 q_C2 : Str} {N_C2 : Addr} {bs_C2 : List Value} {sn_C2 : List Str} {sub_C2 : List Value} {ab_C2 : Bool} {col_C2 : Option Bool} {dd_C2 : Option Addr} {m0_C2 m1_C2 m2_C2 m3_C2 m5_C2 : Option Value} {bm_C2 : List Value} {nmW qW : Str} {NW : Addr} {bsW : List Value} {hdW : Bool} {snW : List Str} {subW : List Value} {abW : Bool} {colW : Option Bool} {ddW : Option Addr} {w0 w1 w2 w3 w5 : Option Value} {newW : String} {pR : Addr} {rsR : List Value}  {od_BT an_BT : Option Addr} {sl_BT : Array (Option Value)} {oc_BT kV_BT dc_BT pm_BT ct_BT cd_BT : Value}  {od_BW an_BW : Option Addr} {sl_BW : Array (Option Value)} {oc_BW kV_BW dc_BW pm_BW ct_BW cd_BW : Value}  {od_WI an_WI : Option Addr} {sl_WI : Array (Option Value)} {oc_WI kV_WI dc_WI pm_WI ct_WI cd_WI : Value} {T_WI : Addr} {nT_WI : Nat} {cT_WI : Value} {dT_WI : Option Addr} {sT_WI : Array (Option Value)} {tt_WI : Tok}  {od_WR an_WR : Option Addr} {sl_WR : Array (Option Value)} {oc_WR kV_WR dc_WR pm_WR ct_WR cd_WR : Value}  {od_WS an_WS : Option Addr} {sl_WS : Array (Option Value)} {oc_WS kV_WS dc_WS pm_WS ct_WS cd_WS : Value}  {od_WE an_WE : Option Addr} {sl_WE : Array (Option Value)} {oc_WE kV_WE dc_WE pm_WE ct_WE cd_WE : Value}
    (g_CB : PySem.W.nsIn K mainGlobals "BallError" = some (some (.ref CB)))
    (g_CW : PySem.W.nsIn K mainGlobals "Word" = some (some (.ref CW)))
    (g_L : PySem.W.nsIn K mainGlobals "LETTERS" = some (some (.str "ABCDabcd" tL)))
    (g_M : PySem.W.nsIn K mainGlobals "MOST_LETTERS" = some (some (.int 4000 tM)))
    (z_len : PySem.W.nsIn K mainGlobals "len" = some none)
    (z_isinstance : PySem.W.nsIn K mainGlobals "isinstance" = some none)
    (z_str : PySem.W.nsIn K mainGlobals "str" = some none)
    (z_int : PySem.W.nsIn K mainGlobals "int" = some none)
    (z_range : PySem.W.nsIn K mainGlobals "range" = some none)
    (z_abs : PySem.W.nsIn K mainGlobals "abs" = some none)
    (z_list : PySem.W.nsIn K mainGlobals "list" = some none)
    (z_enumerate : PySem.W.nsIn K mainGlobals "enumerate" = some none)
    (cg : PySem.W.specialIn K (.builtin "object.__class__") "__get__" = some (some (.builtin "getset_descriptor.__get__")))
    (ct : PySem.W.takesIn K (.builtin "object.__class__") = some true)
    (a_first_fault : PySem.W.nsIn K mainGlobals "first_fault" = some (some (.ref f_first_fault)))
    (l_first_fault : K.lookup f_first_fault = some ⟨oc_first_fault, od_first_fault, .func (PySem.W.fnOf "first_fault" "first_fault" (defArgs s_first_fault) (defBody s_first_fault) (defScope s_first_fault) .none kV_first_fault dc_first_fault pm_first_fault an_first_fault cd_first_fault ct_first_fault), sl_first_fault⟩)
    (c_first_fault : PySem.W.codeIn K cd_first_fault "first_fault" = true)
    (k_first_fault : PySem.W.keepIn K (.ref f_first_fault) = true)
    (a_items_of : PySem.W.nsIn K mainGlobals "items_of" = some (some (.ref f_items_of)))
    (l_items_of : K.lookup f_items_of = some ⟨oc_items_of, od_items_of, .func (PySem.W.fnOf "items_of" "items_of" (defArgs s_items_of) (defBody s_items_of) (defScope s_items_of) .none kV_items_of dc_items_of pm_items_of an_items_of cd_items_of ct_items_of), sl_items_of⟩)
    (c_items_of : PySem.W.codeIn K cd_items_of "items_of" = true)
    (k_items_of : PySem.W.keepIn K (.ref f_items_of) = true)
    (a_word_in : PySem.W.nsIn K mainGlobals "word_in" = some (some (.ref f_word_in)))
    (l_word_in : K.lookup f_word_in = some ⟨oc_word_in, od_word_in, .func (PySem.W.fnOf "word_in" "word_in" (defArgs s_word_in) (defBody s_word_in) (defScope s_word_in) .none kV_word_in dc_word_in pm_word_in an_word_in cd_word_in ct_word_in), sl_word_in⟩)
    (c_word_in : PySem.W.codeIn K cd_word_in "word_in" = true)
    (k_word_in : PySem.W.keepIn K (.ref f_word_in) = true)
    (a__law_pen : PySem.W.nsIn K mainGlobals "_law_pen" = some (some (.ref f__law_pen)))
    (l__law_pen : K.lookup f__law_pen = some ⟨oc__law_pen, od__law_pen, .func (PySem.W.fnOf "_law_pen" "_law_pen" (defArgs s__law_pen) (defBody s__law_pen) (defScope s__law_pen) .none kV__law_pen dc__law_pen pm__law_pen an__law_pen cd__law_pen ct__law_pen), sl__law_pen⟩)
    (c__law_pen : PySem.W.codeIn K cd__law_pen "_law_pen" = true)
    (k__law_pen : PySem.W.keepIn K (.ref f__law_pen) = true)
    (a__law_draw : PySem.W.nsIn K mainGlobals "_law_draw" = some (some (.ref f__law_draw)))
    (l__law_draw : K.lookup f__law_draw = some ⟨oc__law_draw, od__law_draw, .func (PySem.W.fnOf "_law_draw" "_law_draw" (defArgs s__law_draw) (defBody s__law_draw) (defScope s__law_draw) .none kV__law_draw dc__law_draw pm__law_draw an__law_draw cd__law_draw ct__law_draw), sl__law_draw⟩)
    (c__law_draw : PySem.W.codeIn K cd__law_draw "_law_draw" = true)
    (k__law_draw : PySem.W.keepIn K (.ref f__law_draw) = true)
    (a__law_pick : PySem.W.nsIn K mainGlobals "_law_pick" = some (some (.ref f__law_pick)))
    (l__law_pick : K.lookup f__law_pick = some ⟨oc__law_pick, od__law_pick, .func (PySem.W.fnOf "_law_pick" "_law_pick" (defArgs s__law_pick) (defBody s__law_pick) (defScope s__law_pick) .none kV__law_pick dc__law_pick pm__law_pick an__law_pick cd__law_pick ct__law_pick), sl__law_pick⟩)
    (c__law_pick : PySem.W.codeIn K cd__law_pick "_law_pick" = true)
    (k__law_pick : PySem.W.keepIn K (.ref f__law_pick) = true)
    (a__law_heard : PySem.W.nsIn K mainGlobals "_law_heard" = some (some (.ref f__law_heard)))
    (l__law_heard : K.lookup f__law_heard = some ⟨oc__law_heard, od__law_heard, .func (PySem.W.fnOf "_law_heard" "_law_heard" (defArgs s__law_heard) (defBody s__law_heard) (defScope s__law_heard) .none kV__law_heard dc__law_heard pm__law_heard an__law_heard cd__law_heard ct__law_heard), sl__law_heard⟩)
    (c__law_heard : PySem.W.codeIn K cd__law_heard "_law_heard" = true)
    (k__law_heard : PySem.W.keepIn K (.ref f__law_heard) = true)
    (a__law_undo : PySem.W.nsIn K mainGlobals "_law_undo" = some (some (.ref f__law_undo)))
    (l__law_undo : K.lookup f__law_undo = some ⟨oc__law_undo, od__law_undo, .func (PySem.W.fnOf "_law_undo" "_law_undo" (defArgs s__law_undo) (defBody s__law_undo) (defScope s__law_undo) .none kV__law_undo dc__law_undo pm__law_undo an__law_undo cd__law_undo ct__law_undo), sl__law_undo⟩)
    (c__law_undo : PySem.W.codeIn K cd__law_undo "_law_undo" = true)
    (k__law_undo : PySem.W.keepIn K (.ref f__law_undo) = true)
    (a__law_row : PySem.W.nsIn K mainGlobals "_law_row" = some (some (.ref f__law_row)))
    (l__law_row : K.lookup f__law_row = some ⟨oc__law_row, od__law_row, .func (PySem.W.fnOf "_law_row" "_law_row" (defArgs s__law_row) (defBody s__law_row) (defScope s__law_row) .none kV__law_row dc__law_row pm__law_row an__law_row cd__law_row ct__law_row), sl__law_row⟩)
    (c__law_row : PySem.W.codeIn K cd__law_row "_law_row" = true)
    (k__law_row : PySem.W.keepIn K (.ref f__law_row) = true)
    (a__law_due : PySem.W.nsIn K mainGlobals "_law_due" = some (some (.ref f__law_due)))
    (l__law_due : K.lookup f__law_due = some ⟨oc__law_due, od__law_due, .func (PySem.W.fnOf "_law_due" "_law_due" (defArgs s__law_due) (defBody s__law_due) (defScope s__law_due) .none kV__law_due dc__law_due pm__law_due an__law_due cd__law_due ct__law_due), sl__law_due⟩)
    (c__law_due : PySem.W.codeIn K cd__law_due "_law_due" = true)
    (k__law_due : PySem.W.keepIn K (.ref f__law_due) = true)
    (a__law_spoiled : PySem.W.nsIn K mainGlobals "_law_spoiled" = some (some (.ref f__law_spoiled)))
    (l__law_spoiled : K.lookup f__law_spoiled = some ⟨oc__law_spoiled, od__law_spoiled, .func (PySem.W.fnOf "_law_spoiled" "_law_spoiled" (defArgs s__law_spoiled) (defBody s__law_spoiled) (defScope s__law_spoiled) .none kV__law_spoiled dc__law_spoiled pm__law_spoiled an__law_spoiled cd__law_spoiled ct__law_spoiled), sl__law_spoiled⟩)
    (c__law_spoiled : PySem.W.codeIn K cd__law_spoiled "_law_spoiled" = true)
    (k__law_spoiled : PySem.W.keepIn K (.ref f__law_spoiled) = true)
    (a__law_text_right : PySem.W.nsIn K mainGlobals "_law_text_right" = some (some (.ref f__law_text_right)))
    (l__law_text_right : K.lookup f__law_text_right = some ⟨oc__law_text_right, od__law_text_right, .func (PySem.W.fnOf "_law_text_right" "_law_text_right" (defArgs s__law_text_right) (defBody s__law_text_right) (defScope s__law_text_right) .none kV__law_text_right dc__law_text_right pm__law_text_right an__law_text_right (.ref u__law_text_right) ct__law_text_right), sl__law_text_right⟩)
    (c__law_text_right : PySem.W.codeIn K (.ref u__law_text_right) "_law_text_right" = true)
    (k__law_text_right : PySem.W.keepIn K (.ref f__law_text_right) = true)
    (q__law_text_right : K.lookup u__law_text_right = some ⟨qc__law_text_right, qd__law_text_right, .fields qv__law_text_right, qs__law_text_right⟩)
    (p__law_text_right : (qv__law_text_right[11]? : Option Value) = some (.ref P__law_text_right))
    (h__law_text_right : PySem.W.codeHdIn K u__law_text_right P__law_text_right = true)
    (n__law_text_right : K.lookup P__law_text_right = none)
    (t__law_text_right : h.get? P__law_text_right = some { cls := .none, data := .fields #[] })
    (a__law_long_right : PySem.W.nsIn K mainGlobals "_law_long_right" = some (some (.ref f__law_long_right)))
    (l__law_long_right : K.lookup f__law_long_right = some ⟨oc__law_long_right, od__law_long_right, .func (PySem.W.fnOf "_law_long_right" "_law_long_right" (defArgs s__law_long_right) (defBody s__law_long_right) (defScope s__law_long_right) .none kV__law_long_right dc__law_long_right pm__law_long_right an__law_long_right (.ref u__law_long_right) ct__law_long_right), sl__law_long_right⟩)
    (c__law_long_right : PySem.W.codeIn K (.ref u__law_long_right) "_law_long_right" = true)
    (k__law_long_right : PySem.W.keepIn K (.ref f__law_long_right) = true)
    (q__law_long_right : K.lookup u__law_long_right = some ⟨qc__law_long_right, qd__law_long_right, .fields qv__law_long_right, qs__law_long_right⟩)
    (p__law_long_right : (qv__law_long_right[11]? : Option Value) = some (.ref P__law_long_right))
    (h__law_long_right : PySem.W.codeHdIn K u__law_long_right P__law_long_right = true)
    (n__law_long_right : K.lookup P__law_long_right = none)
    (t__law_long_right : h.get? P__law_long_right = some { cls := .none, data := .fields #[] })
    (a_law : PySem.W.nsIn K mainGlobals "law" = some (some (.ref f_law)))
    (l_law : K.lookup f_law = some ⟨oc_law, od_law, .func (PySem.W.fnOf "law" "law" (defArgs s_law) (defBody s_law) (defScope s_law) .none kV_law dc_law pm_law an_law (.ref u_law) ct_law), sl_law⟩)
    (c_law : PySem.W.codeIn K (.ref u_law) "law" = true)
    (k_law : PySem.W.keepIn K (.ref f_law) = true)
    (q_law : K.lookup u_law = some ⟨qc_law, qd_law, .fields qv_law, qs_law⟩)
    (p_law : (qv_law[11]? : Option Value) = some (.ref P_law))
    (h_law : PySem.W.codeHdIn K u_law P_law = true)
    (n_law : K.lookup P_law = none)
    (t_law : h.get? P_law = some { cls := .none, data := .fields #[] })
    (g_CT : PySem.W.nsIn K mainGlobals "BadText" = some (some (.ref CT)))
    (x_CT : K.lookup CT = some (excClassObj nm_CT q_CT CT N_CT bs_CT bm_CT true sn_CT sub_CT ab_CT col_CT dd_CT m0_CT m1_CT m2_CT m3_CT m5_CT "ValueError.__new__"))
    (bm1_CT : PySem.HandSPX.refsVE bm_CT = true)
    (sa_CT : PySem.W.findIn K (.ref CT) "__setattr__" = some (some (.builtin "object.__setattr__")))
    (ex_CT : PySem.W.subIn K (.ref CT) (.type "BaseException") = some true)
    (ty_CT : PySem.W.typeIn K (.ref CT) = some (.type "type"))
    (kC_CT : PySem.W.keepIn K (.ref CT) = true)
    (cs_CT : (PySem.W.clsIn K CT).isSome = true)
    (ow_CT : PySem.W.hasDictIn K CT = true)
    (ga_CT : PySem.W.findIn K (.ref CT) "__getattribute__" = some (some (.builtin "BaseException.__getattribute__")))
    (gt_CT : PySem.W.findIn K (.ref CT) "__getattr__" = some none)
    (ca_CT : PySem.W.findIn K (.ref CT) "__class__" = some (some (.builtin "object.__class__")))
    (mr_CT : PySem.W.mroIn K CT (.type "object") = some true)
    (ii_CT : PySem.W.findIn K (.ref CT) "__init__" = some (some (.ref f_BT)))
    (no_CT : PySem.W.findIn K (.ref CT) "item" = some none)
    (xm_CT : PySem.W.exmOne K (.ref CT) (.ref CB) = some true)
    (ti_CT : PySem.W.typeIn K (.ref f_BT) = some (.type "function"))
    (g_C2 : PySem.W.nsIn K mainGlobals "BadWord" = some (some (.ref C2)))
    (x_C2 : K.lookup C2 = some (excClassObj nm_C2 q_C2 C2 N_C2 bs_C2 bm_C2 true sn_C2 sub_C2 ab_C2 col_C2 dd_C2 m0_C2 m1_C2 m2_C2 m3_C2 m5_C2 "ValueError.__new__"))
    (bm1_C2 : PySem.HandSPX.refsVE bm_C2 = true)
    (sa_C2 : PySem.W.findIn K (.ref C2) "__setattr__" = some (some (.builtin "object.__setattr__")))
    (ex_C2 : PySem.W.subIn K (.ref C2) (.type "BaseException") = some true)
    (ty_C2 : PySem.W.typeIn K (.ref C2) = some (.type "type"))
    (kC_C2 : PySem.W.keepIn K (.ref C2) = true)
    (cs_C2 : (PySem.W.clsIn K C2).isSome = true)
    (ow_C2 : PySem.W.hasDictIn K C2 = true)
    (ga_C2 : PySem.W.findIn K (.ref C2) "__getattribute__" = some (some (.builtin "BaseException.__getattribute__")))
    (gt_C2 : PySem.W.findIn K (.ref C2) "__getattr__" = some none)
    (ca_C2 : PySem.W.findIn K (.ref C2) "__class__" = some (some (.builtin "object.__class__")))
    (mr_C2 : PySem.W.mroIn K C2 (.type "object") = some true)
    (ii_C2 : PySem.W.findIn K (.ref C2) "__init__" = some (some (.ref f_BW)))
    (no_C2 : PySem.W.findIn K (.ref C2) "at" = some none)
    (xm_C2 : PySem.W.exmOne K (.ref C2) (.ref CB) = some true)
    (ti_C2 : PySem.W.typeIn K (.ref f_BW) = some (.type "function"))
    (w_pg : PySem.W.plainGet K CW Str.empty = true)
    (w_hd : PySem.W.hasDictIn K CW = true)
    (w_po : PySem.W.plainOver K CW = true)
    (w_sa : PySem.W.findIn K (.ref CW) "__setattr__" = some (some (.builtin "object.__setattr__")))
    (w_ca : PySem.W.findIn K (.ref CW) "__class__" = some (some (.builtin "object.__class__")))
    (w_mr : PySem.W.mroIn K CW (.type "object") = some true)
    (w_ns : PySem.W.kitOne K (.ref CW) (.type "str") = some false)
    (w_na : PySem.W.findIn K (.ref CW) "letters" = some none)
    (w_mk : PySem.W.makesIn K CW = true)
    (w_ii : PySem.W.findIn K (.ref CW) "__init__" = some (some (.ref f_WI)))
    (w_if : PySem.W.isFn K (.ref f_WI) = true)
    (w_kp : PySem.W.keepIn K (.ref CW) = true)
    (w_ob : K.lookup CW = some (excClassObj nmW qW CW NW bsW [.type "object"] hdW snW subW abW colW ddW w0 w1 w2 w3 w5 newW))
    (w_nk : PySem.W.nsOkIn K NW = true)
    (w_e1 : PySem.W.nsIn K NW "__eq__" = some (some (.ref f_WE)))
    (w_e2 : PySem.W.nsIn K NW "__ne__" = some none)
    (w_ef : PySem.W.findIn K (.ref CW) "__eq__" = some (some (.ref f_WE)))
    (w_en : PySem.W.isFn K (.ref f_WE) = true)
    (w_sf : PySem.W.findIn K (.ref CW) "__str__" = some (some (.ref f_WS)))
    (w_sn : PySem.W.isFn K (.ref f_WS) = true)
    (w_r0 : PySem.W.nsIn K NW "read" = some (some (.ref pR)))
    (w_ra : PySem.W.readsIn K CW (.type "type") = true)
    (w_rb : PySem.W.findCls K (.ref CW) (.type "type") "read" = some (.get (.builtin "staticmethod.__get__") (.ref pR) .none (.ref CW)))
    (w_r2 : PySem.W.specialIn K (.ref CW) "__getattribute__" = some (some (.builtin "type.__getattribute__")))
    (w_r3 : PySem.W.recIn K pR "staticmethod" = some (.ref f_WR :: rsR))
    (l_BT : K.lookup f_BT = some ⟨oc_BT, od_BT, .func (PySem.W.fnOf "__init__" "BadText.__init__" (defArgs s_BadText_init) (defBody s_BadText_init) (defScope s_BadText_init) .none kV_BT dc_BT pm_BT an_BT cd_BT ct_BT), sl_BT⟩)
    (c_BT : PySem.W.codeIn K cd_BT "BadText.__init__" = true)
    (k_BT : PySem.W.keepIn K (.ref f_BT) = true)
    (l_BW : K.lookup f_BW = some ⟨oc_BW, od_BW, .func (PySem.W.fnOf "__init__" "BadWord.__init__" (defArgs s_BadWord_init) (defBody s_BadWord_init) (defScope s_BadWord_init) .none kV_BW dc_BW pm_BW an_BW cd_BW ct_BW), sl_BW⟩)
    (c_BW : PySem.W.codeIn K cd_BW "BadWord.__init__" = true)
    (k_BW : PySem.W.keepIn K (.ref f_BW) = true)
    (l_WI : K.lookup f_WI = some ⟨oc_WI, od_WI, .func (PySem.W.fnOf "__init__" "Word.__init__" (defArgs s_Word_init) (defBody s_Word_init) (defScope s_Word_init) (.ref T_WI) kV_WI dc_WI pm_WI an_WI cd_WI ct_WI), sl_WI⟩)
    (d_WI : K.lookup T_WI = some ⟨cT_WI, dT_WI, .seq [.str "" tt_WI].toArray nT_WI, sT_WI⟩)
    (c_WI : PySem.W.codeIn K cd_WI "Word.__init__" = true)
    (k_WI : PySem.W.keepIn K (.ref f_WI) = true)
    (l_WR : K.lookup f_WR = some ⟨oc_WR, od_WR, .func (PySem.W.fnOf "read" "Word.read" (defArgs s_Word_read) (defBody s_Word_read) (defScope s_Word_read) .none kV_WR dc_WR pm_WR an_WR cd_WR ct_WR), sl_WR⟩)
    (c_WR : PySem.W.codeIn K cd_WR "Word.read" = true)
    (k_WR : PySem.W.keepIn K (.ref f_WR) = true)
    (l_WS : K.lookup f_WS = some ⟨oc_WS, od_WS, .func (PySem.W.fnOf "__str__" "Word.__str__" (defArgs s_Word_str) (defBody s_Word_str) (defScope s_Word_str) .none kV_WS dc_WS pm_WS an_WS cd_WS ct_WS), sl_WS⟩)
    (c_WS : PySem.W.codeIn K cd_WS "Word.__str__" = true)
    (k_WS : PySem.W.keepIn K (.ref f_WS) = true)
    (l_WE : K.lookup f_WE = some ⟨oc_WE, od_WE, .func (PySem.W.fnOf "__eq__" "Word.__eq__" (defArgs s_Word_eq) (defBody s_Word_eq) (defScope s_Word_eq) .none kV_WE dc_WE pm_WE an_WE cd_WE ct_WE), sl_WE⟩)
    (c_WE : PySem.W.codeIn K cd_WE "Word.__eq__" = true)
    (k_WE : PySem.W.keepIn K (.ref f_WE) = true)
    (ne1 : P__law_text_right ≠ P__law_long_right) (ne2 : P__law_text_right ≠ P_law) (ne3 : P__law_long_right ≠ P_law) :
    LamX.LawAtS PySem.Challenge.rw_sevenball_k06_texts_of_words w K CX0 10 63 "script" mg fa h := by
  have e := hfa.symm.trans (PySem.W.mg_of X G a_law)
  cases e
  have F_first_fault := fun_mk (st := s_first_fault) l_first_fault c_first_fault k_first_fault
  have F_items_of := fun_mk (st := s_items_of) l_items_of c_items_of k_items_of
  have F_word_in := fun_mk (st := s_word_in) l_word_in c_word_in k_word_in
  have F_pen := fun_mk (st := s__law_pen) l__law_pen c__law_pen k__law_pen
  have F_draw := fun_mk (st := s__law_draw) l__law_draw c__law_draw k__law_draw
  have F_pick := fun_mk (st := s__law_pick) l__law_pick c__law_pick k__law_pick
  have F_heard := fun_mk (st := s__law_heard) l__law_heard c__law_heard k__law_heard
  have F_undo := fun_mk (st := s__law_undo) l__law_undo c__law_undo k__law_undo
  have F_row := fun_mk (st := s__law_row) l__law_row c__law_row k__law_row
  have F_due := fun_mk (st := s__law_due) l__law_due c__law_due k__law_due
  have F_spoiled := fun_mk (st := s__law_spoiled) l__law_spoiled c__law_spoiled k__law_spoiled
  have F_BT := fun_mk (st := s_BadText_init) l_BT c_BT k_BT
  have F_BW := fun_mk (st := s_BadWord_init) l_BW c_BW k_BW
  have F_WR := fun_mk (st := s_Word_read) l_WR c_WR k_WR
  have F_WS := fun_mk (st := s_Word_str) l_WS c_WS k_WS
  have F_WE := fun_mk (st := s_Word_eq) l_WE c_WE k_WE
  have T_tr := funT_mk (st := s__law_text_right) l__law_text_right c__law_text_right k__law_text_right
  have T_lr := funT_mk (st := s__law_long_right) l__law_long_right c__law_long_right k__law_long_right
  have T_law := funT_mk (st := s_law) l_law c_law k_law
  have F_WI : FunD K "__init__" "Word.__init__" (defArgs s_Word_init) (defBody s_Word_init) (defScope s_Word_init) [.str ""] [] f_WI _ :=
    ⟨⟨_, _, _, _, _, _, _, _, _, _, rfl, l_WI, c_WI, .inr ⟨fun z => (nomatch z), T_WI, _, _, _, rfl, d_WI, rfl, .cons ⟨_, rfl⟩ .nil⟩, .inl rfl⟩, k_WI⟩
  have E1 : Err1 K mg "BadText" "item" CT f_BT := { ox := ⟨⟨_, _, _, _, _, _, _, _, _, _, _, _, _, _, _, x_CT, bm1_CT⟩, sa_CT, ex_CT, ty_CT, kC_CT⟩, ec := ⟨cs_CT, ow_CT, ga_CT, gt_CT, ex_CT, ca_CT, cg, ct, mr_CT⟩, iC := ii_CT, tI := ti_CT, no := no_CT, at_ := PySem.W.mg_of X G g_CT }
  have E2 : Err1 K mg "BadWord" "at" C2 f_BW := { ox := ⟨⟨_, _, _, _, _, _, _, _, _, _, _, _, _, _, _, x_C2, bm1_C2⟩, sa_C2, ex_C2, ty_C2, kC_C2⟩, ec := ⟨cs_C2, ow_C2, ga_C2, gt_C2, ex_C2, ca_C2, cg, ct, mr_C2⟩, iC := ii_C2, tI := ti_C2, no := no_C2, at_ := PySem.W.mg_of X G g_C2 }
  have cl : Cls K CW := ⟨w_pg, w_hd, w_po, w_sa⟩
  have ic : IsC K CW := ⟨w_ca, cg, ct, w_mr, w_ns⟩
  have M : Mk K CW f_WI := ⟨w_mk, w_ii, w_if, w_kp⟩
  have EqW : EqC K CW f_WE := ⟨⟨_, _, _, _, _, _, _, _, _, _, _, _, _, _, _, _, w_ob, w_nk, w_e1, w_e2⟩, w_ef, w_en⟩
  have St : Stat K CW "read" pR f_WR := ⟨⟨_, w_ra, w_rb⟩, w_r2, ⟨_, w_r3⟩, F_WR.kp⟩
  have gW := PySem.W.mg_of X G g_CW
  have none := fun {x : Str} (z : PySem.W.nsIn K mainGlobals x = some Option.none) => PySem.W.mg_none_of X G z
  have m_len := none z_len
  have m_isinstance := none z_isinstance
  have m_str := none z_str
  have m_int := none z_int
  have m_range := none z_range
  have m_abs := none z_abs
  have m_list := none z_list
  have m_enumerate := none z_enumerate
  have mL : ∃ t, mg "LETTERS" = some (.str "ABCDabcd" t) := ⟨_, PySem.W.mg_of X G g_L⟩
  have mM : ∃ t, mg "MOST_LETTERS" = some (.int 4000 t) := ⟨_, PySem.W.mg_of X G g_M⟩
  have b_first_fault := F_first_fault.binds (ps := ["letters"]) fun _ _ _ _ _ _ us hl => match us, hl with | [_], _ => rfl
  have b_items_of := F_items_of.binds (ps := ["text"]) fun _ _ _ _ _ _ us hl => match us, hl with | [_], _ => rfl
  have b_word_in := F_word_in.binds (ps := ["item"]) fun _ _ _ _ _ _ us hl => match us, hl with | [_], _ => rfl
  have b_pen := F_pen.binds (ps := ["script"]) fun _ _ _ _ _ _ us hl => match us, hl with | [_], _ => rfl
  have b_draw := F_draw.binds (ps := ["pen", "many"]) fun _ _ _ _ _ _ us hl => match us, hl with | [_, _], _ => rfl
  have b_pick := F_pick.binds (ps := ["pen", "some"]) fun _ _ _ _ _ _ us hl => match us, hl with | [_, _], _ => rfl
  have b_heard := F_heard.binds (ps := ["ask"]) fun _ _ _ _ _ _ us hl => match us, hl with | [_], _ => rfl
  have b_undo := F_undo.binds (ps := ["letter"]) fun _ _ _ _ _ _ us hl => match us, hl with | [_], _ => rfl
  have b_row := F_row.binds (ps := ["pen", "most"]) fun _ _ _ _ _ _ us hl => match us, hl with | [_, _], _ => rfl
  have b_due := F_due.binds (ps := ["text"]) fun _ _ _ _ _ _ us hl => match us, hl with | [_], _ => rfl
  have b_spoiled := F_spoiled.binds (ps := ["pen", "text"]) fun _ _ _ _ _ _ us hl => match us, hl with | [_, _], _ => rfl
  have b_tr := T_tr.fn.binds (ps := ["text"]) fun _ _ _ _ _ _ us hl => match us, hl with | [_], _ => rfl
  have b_lr := T_lr.fn.binds (ps := ["text"]) fun _ _ _ _ _ _ us hl => match us, hl with | [_], _ => rfl
  have b_BT := F_BT.binds (ps := ["self", "item"]) fun _ _ _ _ _ _ us hl => match us, hl with | [_, _], _ => rfl
  have b_BW := F_BW.binds (ps := ["self", "at"]) fun _ _ _ _ _ _ us hl => match us, hl with | [_, _], _ => rfl
  have b_WR := F_WR.binds (ps := ["text"]) fun _ _ _ _ _ _ us hl => match us, hl with | [_], _ => rfl
  have b_WS := F_WS.binds (ps := ["self"]) fun _ _ _ _ _ _ us hl => match us, hl with | [_], _ => rfl
  have b_WE := F_WE.binds (ps := ["self", "other"]) fun _ _ _ _ _ _ us hl => match us, hl with | [_, _], _ => rfl
  have kb_WR := read_kw F_WR
  obtain ⟨ds1, v1, b_WI⟩ := F_WI.binds1 (ps := ["self", "letters"]) 2 1 (fun z => (nomatch z)) rfl fun _ _ _ _ _ _ _ us its h1 h2 => match us, its, h1, h2 with | [_, _], [_], _, _ => ⟨_, rfl, rfl⟩
  obtain ⟨ds2, v2, b_WI0⟩ := F_WI.binds1 (ps := ["self", "letters"]) 1 0 (fun z => (nomatch z)) rfl fun _ _ _ _ _ _ _ us its h1 h2 => match us, its, h1, h2 with | [_], [_], _, _ => ⟨_, rfl, rfl⟩
  have n1 : ds1 = [] := by
    cases v1
    rfl
  subst n1
  obtain ⟨tE, rfl, rE⟩ : ∃ tE, ds2 = [tE] ∧ RelV (.str "") tE := by
    cases v2 with
    | cons r q =>
      cases q
      exact ⟨_, rfl, r⟩
  have xm1 := xm_CT
  have xm2 := xm_C2
  refine ⟨PySem.W.fnOf "law" "law" (defArgs s_law) (defBody s_law) (defScope s_law) .none kV_law dc_law pm_law an_law (.ref u_law) ct_law, [(u__law_text_right, P__law_text_right), (u__law_long_right, P__law_long_right), (u_law, P_law)], spLaw K [(P__law_text_right, lq "_law_text_right"), (P__law_long_right, lq "_law_long_right"), (P_law, lq "law")], ?_, ?_, ?_, fun s u => ?_, ?_, fun base kb nb tb => ?_⟩
  · intro p hp
    simp only [List.mem_cons, List.not_mem_nil, or_false] at hp
    rcases hp with rfl | rfl | rfl
    · exact t__law_text_right
    · exact t__law_long_right
    · exact t_law
  · intro p hp
    simp only [List.mem_cons, List.not_mem_nil, or_false] at hp
    rcases hp with rfl | rfl | rfl
    · exact n__law_text_right
    · exact n__law_long_right
    · exact n_law
  · intro p hp
    simp only [List.mem_cons, List.not_mem_nil, or_false] at hp
    rcases hp with rfl | rfl | rfl
    · exact PySem.W.codeHd_of_K X h__law_text_right
    · exact PySem.W.codeHd_of_K X h__law_long_right
    · exact PySem.W.codeHd_of_K X h_law
  · exact .of_eq rfl
  · intro H a ns _ _ hT hS
    refine ⟨a, ns, rfl, hS, ?_, fun _ => rfl⟩
    have one := fun p hp => hT p hp
    intro p hp
    simp only [List.mem_cons, List.not_mem_nil, or_false] at hp
    rcases hp with rfl | rfl | rfl
    · exact .nil (one (u__law_text_right, P__law_text_right) (by simp))
    · exact .nil (one (u__law_long_right, P__law_long_right) (by simp))
    · exact .nil (one (u_law, P_law) (by simp))
  · have in1 : (P__law_text_right, lq "_law_text_right") ∈ [(P__law_text_right, lq "_law_text_right"), (P__law_long_right, lq "_law_long_right"), (P_law, lq "law")] := by simp
    have in2 : (P__law_long_right, lq "_law_long_right") ∈ [(P__law_text_right, lq "_law_text_right"), (P__law_long_right, lq "_law_long_right"), (P_law, lq "law")] := by simp
    have in3 : (P_law, lq "law") ∈ [(P__law_text_right, lq "_law_text_right"), (P__law_long_right, lq "_law_long_right"), (P_law, lq "law")] := by simp
    have un : ∀ q ∈ [(P__law_text_right, lq "_law_text_right"), (P__law_long_right, lq "_law_long_right"), (P_law, lq "law")], (q.1 = P__law_text_right → q.2 = lq "_law_text_right") ∧ (q.1 = P__law_long_right → q.2 = lq "_law_long_right") ∧ (q.1 = P_law → q.2 = lq "law") := by
      intro q hq
      simp only [List.mem_cons, List.not_mem_nil, or_false] at hq
      rcases hq with rfl | rfl | rfl
      · exact ⟨fun _ => rfl, fun z => absurd z ne1, fun z => absurd z ne2⟩
      · exact ⟨fun z => absurd z.symm ne1, fun _ => rfl, fun z => absurd z ne3⟩
      · exact ⟨fun z => absurd z.symm ne2, fun z => absurd z.symm ne3, fun _ => rfl⟩
    have Hd : Heard K mg CB := ⟨⟨_, _, F_heard, b_heard, PySem.W.mg_of X G a__law_heard⟩, PySem.W.mg_of X G g_CB⟩
    have GW := ok_Word_init (P := PySem.Challenge.rw_sevenball_k06_texts_of_words.prog) (w := w) (base := base) (k := 0) F_WI E2 F_BW b_BW F_first_fault b_first_fault (PySem.W.mg_of X G a_first_fault) cl w_na m_isinstance m_str m_len m_enumerate mL mM
    have GN := ok_word_in (P := PySem.Challenge.rw_sevenball_k06_texts_of_words.prog) (w := w) (base := base) (k := 0) F_word_in M GW gW b_WI b_WI0 rE F_first_fault b_first_fault (PySem.W.mg_of X G a_first_fault) m_len m_enumerate mL mM
    have GI := ok_items_of (P := PySem.Challenge.rw_sevenball_k06_texts_of_words.prog) (w := w) (base := base) (k := 2) F_items_of E1 F_BT b_BT m_isinstance m_str
    have GR := ok_Word_read (k := 0) F_WR E1 F_BT b_BT GI b_items_of (PySem.W.mg_of X G a_items_of) k_items_of GN b_word_in (PySem.W.mg_of X G a_word_in) k_word_in m_len
    have R : ReadOk PySem.Challenge.rw_sevenball_k06_texts_of_words.prog w K mg base CW CT 6 := ⟨_, _, _, St, GR, b_WR, kb_WR⟩
    have GS := ok_Word_str (P := PySem.Challenge.rw_sevenball_k06_texts_of_words.prog) (w := w) (base := base) (k := 0) F_WS cl w_na m_str
    have S : StrOk PySem.Challenge.rw_sevenball_k06_texts_of_words.prog w K mg base CW 1 := ⟨_, _, w_sf, w_sn, GS, b_WS⟩
    have GE := ok_Word_eq (P := PySem.Challenge.rw_sevenball_k06_texts_of_words.prog) (w := w) (base := base) (k := 0) F_WE cl ic w_na gW m_isinstance m_len
    have Gpen := ok_law_pen (P := PySem.Challenge.rw_sevenball_k06_texts_of_words.prog) (w := w) (base := base) (k := 0) F_pen m_list
    have Gdraw1 := ok_law_draw (P := PySem.Challenge.rw_sevenball_k06_texts_of_words.prog) (w := w) (base := base) (k := 0) F_draw m_int m_len m_abs
    have Gdraw2 := ok_law_draw (P := PySem.Challenge.rw_sevenball_k06_texts_of_words.prog) (w := w) (base := base) (k := 1) F_draw m_int m_len m_abs
    have gdraw := PySem.W.mg_of X G a__law_draw
    have gpick := PySem.W.mg_of X G a__law_pick
    have gundo := PySem.W.mg_of X G a__law_undo
    have Gpick := ok_law_pick (k := 0) F_pick Gdraw1 gdraw k__law_draw b_draw m_len
    have Gundo := ok_law_undo (P := PySem.Challenge.rw_sevenball_k06_texts_of_words.prog) (w := w) (mg := mg) (base := base) (k := 1) F_undo
    have Grow := ok_law_row (k := 0) F_row Gdraw2 gdraw k__law_draw b_draw Gpick gpick k__law_pick b_pick Gundo gundo k__law_undo b_undo m_range
    have Gdue := ok_law_due (k := 0) F_due Gundo gundo k__law_undo b_undo m_range m_len
    have Gspoil := ok_law_spoiled (k := 0) F_spoiled Gdraw2 gdraw k__law_draw b_draw Gpick gpick k__law_pick b_pick m_len
    have Gtr := ok_law_text_right (k := 0) T_tr Hd (tb (u__law_text_right, P__law_text_right) (by simp)) in1 (fun q hq => (un q hq).1) R S gW cl ic w_na E1 xm1 Gdue (PySem.W.mg_of X G a__law_due) k__law_due b_due m_isinstance m_int m_str
    have Glr := ok_law_long_right (k := 0) T_lr Hd (tb (u__law_long_right, P__law_long_right) (by simp)) in2 (fun q hq => (un q hq).2.1) R gW cl ic w_na E1 xm1 m_isinstance m_len
    exact ok_law (k := 0) T_law Hd (tb (u_law, P_law) (by simp)) in3 (fun q hq => (un q hq).2.2) R S gW cl ic w_na M GW b_WI EqW GE b_WE E1 xm1 E2 xm2
      Gpen (PySem.W.mg_of X G a__law_pen) k__law_pen b_pen Grow (PySem.W.mg_of X G a__law_row) k__law_row b_row Gpick gpick k__law_pick b_pick Gdraw1 gdraw k__law_draw b_draw Gspoil (PySem.W.mg_of X G a__law_spoiled) k__law_spoiled b_spoiled
      Gtr (PySem.W.mg_of X G a__law_text_right) k__law_text_right b_tr Glr (PySem.W.mg_of X G a__law_long_right) k__law_long_right b_lr m_isinstance m_str m_range

end K06
-- E06
open PySem PySem.W PyProof.Rows
set_option maxHeartbeats 0 in
theorem PySem.Challenge.cw_sevenball_k06_texts_of_words_holds : PySem.Challenge.rw_sevenball_k06_texts_of_words.Holds := by
  w_on; o_law; k_head; (case hw => w_witness2)
  k_fill
  refine LamX.walk_ofTs (l := PySem.Challenge.rw_sevenball_k06_texts_of_words) (n := 63) (k := 10) (x := "script") (CX := fun _ => L2.CX0) rfl (by decide) rfl ⟨rfl, by decide, by decide⟩ (fun w h Y => PySem.W.km_in_of Y) ?F (fun _ _ _ _ _ h => h)
  case F =>
    intro w mg fa h Y KX G hmg
    refine' K06.all_mk KX G hmg ?g_CB ?g_CW ?g_L ?g_M ?z_len ?z_isinstance ?z_str ?z_int ?z_range ?z_abs ?z_list ?z_enumerate ?cg ?ct ?a_first_fault ?l_first_fault ?c_first_fault ?k_first_fault ?a_items_of ?l_items_of ?c_items_of ?k_items_of ?a_word_in ?l_word_in ?c_word_in ?k_word_in ?a__law_pen ?l__law_pen ?c__law_pen ?k__law_pen ?a__law_draw ?l__law_draw ?c__law_draw ?k__law_draw ?a__law_pick ?l__law_pick ?c__law_pick ?k__law_pick ?a__law_heard ?l__law_heard ?c__law_heard ?k__law_heard ?a__law_undo ?l__law_undo ?c__law_undo ?k__law_undo ?a__law_row ?l__law_row ?c__law_row ?k__law_row ?a__law_due ?l__law_due ?c__law_due ?k__law_due ?a__law_spoiled ?l__law_spoiled ?c__law_spoiled ?k__law_spoiled ?a__law_text_right ?l__law_text_right ?c__law_text_right ?k__law_text_right ?q__law_text_right ?p__law_text_right ?h__law_text_right ?n__law_text_right ?t__law_text_right ?a__law_long_right ?l__law_long_right ?c__law_long_right ?k__law_long_right ?q__law_long_right ?p__law_long_right ?h__law_long_right ?n__law_long_right ?t__law_long_right ?a_law ?l_law ?c_law ?k_law ?q_law ?p_law ?h_law ?n_law ?t_law ?g_CT ?x_CT ?bm1_CT ?sa_CT ?ex_CT ?ty_CT ?kC_CT ?cs_CT ?ow_CT ?ga_CT ?gt_CT ?ca_CT ?mr_CT ?ii_CT ?no_CT ?xm_CT ?ti_CT ?g_C2 ?x_C2 ?bm1_C2 ?sa_C2 ?ex_C2 ?ty_C2 ?kC_C2 ?cs_C2 ?ow_C2 ?ga_C2 ?gt_C2 ?ca_C2 ?mr_C2 ?ii_C2 ?no_C2 ?xm_C2 ?ti_C2 ?w_pg ?w_hd ?w_po ?w_sa ?w_ca ?w_mr ?w_ns ?w_na ?w_mk ?w_ii ?w_if ?w_kp ?w_ob ?w_nk ?w_e1 ?w_e2 ?w_ef ?w_en ?w_sf ?w_sn ?w_r0 ?w_ra ?w_rb ?w_r2 ?w_r3 ?l_BT ?c_BT ?k_BT ?l_BW ?c_BW ?k_BW ?l_WI ?d_WI ?c_WI ?k_WI ?l_WR ?c_WR ?k_WR ?l_WS ?c_WS ?k_WS ?l_WE ?c_WE ?k_WE ?ne1 ?ne2 ?ne3
    (case g_CB => first | k_is | kernel_rfl)
    (case g_CW => first | k_is | kernel_rfl)
    (case g_L => first | k_is | kernel_rfl)
    (case g_M => first | k_is | kernel_rfl)
    (case z_len => first | k_is | kernel_rfl)
    (case z_isinstance => first | k_is | kernel_rfl)
    (case z_str => first | k_is | kernel_rfl)
    (case z_int => first | k_is | kernel_rfl)
    (case z_range => first | k_is | kernel_rfl)
    (case z_abs => first | k_is | kernel_rfl)
    (case z_list => first | k_is | kernel_rfl)
    (case z_enumerate => first | k_is | kernel_rfl)
    (case cg => first | k_is | kernel_rfl)
    (case ct => first | k_is | kernel_rfl)
    (case a_first_fault => first | k_is | kernel_rfl)
    (case l_first_fault => first | k_is | kernel_rfl)
    (case c_first_fault => first | k_is | kernel_rfl)
    (case k_first_fault => first | k_is | kernel_rfl)
    (case a_items_of => first | k_is | kernel_rfl)
    (case l_items_of => first | k_is | kernel_rfl)
    (case c_items_of => first | k_is | kernel_rfl)
    (case k_items_of => first | k_is | kernel_rfl)
    (case a_word_in => first | k_is | kernel_rfl)
    (case l_word_in => first | k_is | kernel_rfl)
    (case c_word_in => first | k_is | kernel_rfl)
    (case k_word_in => first | k_is | kernel_rfl)
    (case a__law_pen => first | k_is | kernel_rfl)
    (case l__law_pen => first | k_is | kernel_rfl)
    (case c__law_pen => first | k_is | kernel_rfl)
    (case k__law_pen => first | k_is | kernel_rfl)
    (case a__law_draw => first | k_is | kernel_rfl)
    (case l__law_draw => first | k_is | kernel_rfl)
    (case c__law_draw => first | k_is | kernel_rfl)
    (case k__law_draw => first | k_is | kernel_rfl)
    (case a__law_pick => first | k_is | kernel_rfl)
    (case l__law_pick => first | k_is | kernel_rfl)
    (case c__law_pick => first | k_is | kernel_rfl)
    (case k__law_pick => first | k_is | kernel_rfl)
    (case a__law_heard => first | k_is | kernel_rfl)
    (case l__law_heard => first | k_is | kernel_rfl)
    (case c__law_heard => first | k_is | kernel_rfl)
    (case k__law_heard => first | k_is | kernel_rfl)
    (case a__law_undo => first | k_is | kernel_rfl)
    (case l__law_undo => first | k_is | kernel_rfl)
    (case c__law_undo => first | k_is | kernel_rfl)
    (case k__law_undo => first | k_is | kernel_rfl)
    (case a__law_row => first | k_is | kernel_rfl)
    (case l__law_row => first | k_is | kernel_rfl)
    (case c__law_row => first | k_is | kernel_rfl)
    (case k__law_row => first | k_is | kernel_rfl)
    (case a__law_due => first | k_is | kernel_rfl)
    (case l__law_due => first | k_is | kernel_rfl)
    (case c__law_due => first | k_is | kernel_rfl)
    (case k__law_due => first | k_is | kernel_rfl)
    (case a__law_spoiled => first | k_is | kernel_rfl)
    (case l__law_spoiled => first | k_is | kernel_rfl)
    (case c__law_spoiled => first | k_is | kernel_rfl)
    (case k__law_spoiled => first | k_is | kernel_rfl)
    (case a__law_text_right => first | k_is | kernel_rfl)
    (case l__law_text_right => first | k_is | kernel_rfl)
    (case c__law_text_right => first | k_is | kernel_rfl)
    (case k__law_text_right => first | k_is | kernel_rfl)
    (case q__law_text_right => first | k_is | kernel_rfl)
    (case p__law_text_right => rfl)
    (case h__law_text_right => first | k_is | kernel_rfl)
    (case n__law_text_right => first | k_is | kernel_rfl)
    (case t__law_text_right => exact PySem.W.km_tabs_of Y _ (by k_mem))
    (case a__law_long_right => first | k_is | kernel_rfl)
    (case l__law_long_right => first | k_is | kernel_rfl)
    (case c__law_long_right => first | k_is | kernel_rfl)
    (case k__law_long_right => first | k_is | kernel_rfl)
    (case q__law_long_right => first | k_is | kernel_rfl)
    (case p__law_long_right => rfl)
    (case h__law_long_right => first | k_is | kernel_rfl)
    (case n__law_long_right => first | k_is | kernel_rfl)
    (case t__law_long_right => exact PySem.W.km_tabs_of Y _ (by k_mem))
    (case a_law => first | k_is | kernel_rfl)
    (case l_law => first | k_is | kernel_rfl)
    (case c_law => first | k_is | kernel_rfl)
    (case k_law => first | k_is | kernel_rfl)
    (case q_law => first | k_is | kernel_rfl)
    (case p_law => rfl)
    (case h_law => first | k_is | kernel_rfl)
    (case n_law => first | k_is | kernel_rfl)
    (case t_law => exact PySem.W.km_tabs_of Y _ (by k_mem))
    (case g_CT => first | k_is | kernel_rfl)
    (case x_CT => first | k_is | kernel_rfl)
    (case bm1_CT => decide +kernel)
    (case sa_CT => first | k_is | kernel_rfl)
    (case ex_CT => first | k_is | kernel_rfl)
    (case ty_CT => first | k_is | kernel_rfl)
    (case kC_CT => first | k_is | kernel_rfl)
    (case cs_CT => first | k_is | kernel_rfl)
    (case ow_CT => first | k_is | kernel_rfl)
    (case ga_CT => first | k_is | kernel_rfl)
    (case gt_CT => first | k_is | kernel_rfl)
    (case ca_CT => first | k_is | kernel_rfl)
    (case mr_CT => first | k_is | kernel_rfl)
    (case ii_CT => first | k_is | kernel_rfl)
    (case no_CT => first | k_is | kernel_rfl)
    (case xm_CT => first | k_is | kernel_rfl)
    (case ti_CT => first | k_is | kernel_rfl)
    (case g_C2 => first | k_is | kernel_rfl)
    (case x_C2 => first | k_is | kernel_rfl)
    (case bm1_C2 => decide +kernel)
    (case sa_C2 => first | k_is | kernel_rfl)
    (case ex_C2 => first | k_is | kernel_rfl)
    (case ty_C2 => first | k_is | kernel_rfl)
    (case kC_C2 => first | k_is | kernel_rfl)
    (case cs_C2 => first | k_is | kernel_rfl)
    (case ow_C2 => first | k_is | kernel_rfl)
    (case ga_C2 => first | k_is | kernel_rfl)
    (case gt_C2 => first | k_is | kernel_rfl)
    (case ca_C2 => first | k_is | kernel_rfl)
    (case mr_C2 => first | k_is | kernel_rfl)
    (case ii_C2 => first | k_is | kernel_rfl)
    (case no_C2 => first | k_is | kernel_rfl)
    (case xm_C2 => first | k_is | kernel_rfl)
    (case ti_C2 => first | k_is | kernel_rfl)
    (case w_pg => first | k_is | kernel_rfl)
    (case w_hd => first | k_is | kernel_rfl)
    (case w_po => first | k_is | kernel_rfl)
    (case w_sa => first | k_is | kernel_rfl)
    (case w_ca => first | k_is | kernel_rfl)
    (case w_mr => first | k_is | kernel_rfl)
    (case w_ns => first | k_is | kernel_rfl)
    (case w_na => first | k_is | kernel_rfl)
    (case w_mk => first | k_is | kernel_rfl)
    (case w_ii => first | k_is | kernel_rfl)
    (case w_if => first | k_is | kernel_rfl)
    (case w_kp => first | k_is | kernel_rfl)
    (case w_ob => first | k_is | kernel_rfl)
    (case w_nk => first | k_is | kernel_rfl)
    (case w_e1 => first | k_is | kernel_rfl)
    (case w_e2 => first | k_is | kernel_rfl)
    (case w_ef => first | k_is | kernel_rfl)
    (case w_en => first | k_is | kernel_rfl)
    (case w_sf => first | k_is | kernel_rfl)
    (case w_sn => first | k_is | kernel_rfl)
    (case w_r0 => first | k_is | kernel_rfl)
    (case w_ra => first | k_is | kernel_rfl)
    (case w_rb => first | k_is | kernel_rfl)
    (case w_r2 => first | k_is | kernel_rfl)
    (case w_r3 => first | k_is | kernel_rfl)
    (case l_BT => first | k_is | kernel_rfl)
    (case c_BT => first | k_is | kernel_rfl)
    (case k_BT => first | k_is | kernel_rfl)
    (case l_BW => first | k_is | kernel_rfl)
    (case c_BW => first | k_is | kernel_rfl)
    (case k_BW => first | k_is | kernel_rfl)
    (case l_WI => first | k_is | kernel_rfl)
    (case d_WI => first | k_is | kernel_rfl)
    (case c_WI => first | k_is | kernel_rfl)
    (case k_WI => first | k_is | kernel_rfl)
    (case l_WR => first | k_is | kernel_rfl)
    (case c_WR => first | k_is | kernel_rfl)
    (case k_WR => first | k_is | kernel_rfl)
    (case l_WS => first | k_is | kernel_rfl)
    (case c_WS => first | k_is | kernel_rfl)
    (case k_WS => first | k_is | kernel_rfl)
    (case l_WE => first | k_is | kernel_rfl)
    (case c_WE => first | k_is | kernel_rfl)
    (case k_WE => first | k_is | kernel_rfl)
    (case ne1 => decide); (case ne2 => decide); (case ne3 => decide)
