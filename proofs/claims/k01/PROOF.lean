import PyProof.Rows.All
import PySem.Challenge.RW_sevenball_k01_words_made_and_refused
import HandS.ForMost
import HandS.Exc
import HandS.TryOnly
import HandS.ExcIs
import HandS.ExcField
import HandS.ExcInit
import HandS.IsInst
import HandS.Lambda
import HandS.EndTab
import KE.KExcIs
import KE.GoesMore
import HandS.Walk
import HandS.ClsMeth
import PyProof.InstNe
import KE.KCallOwn
import HandS.Style
import HandS.WordsExc
import HandS.Codes
import PyProof.StrBlock2
import HandS.Text
import HandS.Defaults
import HandS.RaiseMore
import HandS.Replace
import HandS.IterNext
import KE.KOwnIter
import HandS.MakeKwOnly
import PyProof.SliceStr2
set_option Elab.async false
set_option linter.all false
set_option maxRecDepth 100000
set_option maxHeartbeats 4000000
-- R1
namespace SB
open PySem PySem.Spec PyProof.Rows L2

/-! ### an error that was caught and is kept as a value -/
/-- at a: an error of the class at C; its own dict is at d -/
def ErrO (C d a : Addr) : HO := .ext fun h => ∃ (oe : Obj) (fv : Array Value),
  h.get? a = some oe ∧ oe.cls = .ref C ∧ oe.dict = some d ∧ oe.data = .fields fv
section
variable {X : Cx} {pins : List (Addr × Obj)} {σ : L2.St} {H : Hp} {s : Shared} {a C d : Addr} {oe : Obj} {fv : Array Value}
/-- what stands there untracked, made since the entry, is tracked from now on -/
theorem track_err (I : Inv X pins σ H s) (ha : s.heap.get? a = some oe) (hn : H a = none)
    (new : X.s_0.heap.get? a = none) (hc : oe.cls = .ref C) (hd : oe.dict = some d) (hf : oe.data = .fields fv)
    (nL : a ≠ X.env.locals) (np : ∀ p ∈ X.pn ++ pins, p.1 ≠ a) :
    Inv X pins σ (upd H a (ErrO C d a)) s := by
  have ne0 : ∀ b o, X.s_0.heap.get? b = some o → b ≠ a := fun b o e z => by
    rw [z, new] at e
    cases e
  have neH : ∀ b o, H b = some o → b ≠ a := fun b o e => ne_of_none e hn
  have neC : ∀ x c, X.env.cells.lookup x = some c → c ≠ a := fun x c e z => by
    obtain ⟨v, o, ho, hv⟩ := I.cell x c e
    rw [z, ha] at ho
    cases ho
    rw [hf] at hv
    cases hv
  have at_ : ∀ b, b ≠ a → upd H a (ErrO C d a) b = H b := fun b h => upd_ne h
  refine { ok := I.ok, os := I.os, bare := I.bare, base := ?_, loc := I.loc, cell := I.cell, free := ?_, freeC := ?_, pin := ?_, hok := ?_, len := I.len }
  · have u := I.base
    refine { keep := u.keep, slot := u.slot, free := ?_, there := u.there, tups := ?_, frzs := ?_, tbls := ?_ }
    · intro b o e n hx
      rw [at_ b (ne0 b o e)]
      exact u.free b o e n hx
    · intro b xs e
      have q := u.tups b xs e
      rw [at_ b (neH b _ q)]
      exact q
    · intro b o w e
      have q := u.frzs b o w e
      rw [at_ b (neH b _ q)]
      exact q
    · intro b ps e
      obtain ⟨m, q⟩ := u.tbls b ps e
      exact ⟨m, by rw [at_ b (neH b _ q)]; exact q⟩
  · rw [at_ _ (Ne.symm nL)]
    exact I.free
  · intro x c e
    rw [at_ c (neC x c e)]
    exact I.freeC x c e
  · intro p hp
    obtain ⟨e1, e2, e3⟩ := I.pin p hp
    exact ⟨e1, by rw [at_ _ (np p hp)]; exact e2, e3⟩
  · intro b u e
    by_cases hb : b = a
    · subst hb
      rw [upd_same] at e
      cases e
      exact ⟨⟨oe, fv, ha, hc, hd, hf⟩, ⟨oe, ha⟩, fun h1 h2 ⟨o, v, q1, q2⟩ k => ⟨o, v, k o q1, q2⟩⟩
    · rw [at_ b hb] at e
      exact (I.hok b u e).stay (fun c v _ q => q) (fun c q => by rw [at_ c (neH c _ q)]; exact q) fun c xs q => by rw [at_ c (neH c _ q)]; exact q
end

/-- what the clause «except x as n: y = n» wishes: slot i is n's, slot j is y's -/
def wKeep (K : PySem.W.Frag) (c : Value) (i j m : Nat) (D : Ends) : WX := fun cls d σ H =>
  ∃ b, PySem.W.exmOne K cls c = some b ∧ (b = false → False) ∧
    (b = true → ∃ C dd, cls = .ref C ∧ d = some dd ∧
      ∀ a, H a = none → σ.length = m → D.nx ((σ.set j (some (.ref a))).set i none) (upd H a (ErrO C dd a)))
end SB
-- R2
namespace SB
open PySem PySem.Spec PyProof.Rows L2
section
variable {X : Cx} {x n y : Str} {c : Value} {i j : Nat} {body : List Stmt} {np p1 p2 pos pos1 pos' : Pos} {tb : WX → TS}
/-- try: body / except x as n: y = n — the error is kept as a value -/
theorem ps_try_keep (hstk : X.stack = X.env :: X.outer) (hfrm : X.env.frame = some X.env.locals) (nd : X.N.Nodup)
    (hi : X.N[i]? = some n) (hj : X.N[j]? = some y) (hij : i ≠ j) (kn : X.env.kindOf n = some .local) (ky : X.env.kindOf y = some .local) (nm : Names X x c) (hex : X.ex = [])
    (hb : ∀ (W : WX) (pn : List (Addr × Obj)) (xe : Value → Shared → Prop), Takes (X.tr pn xe) W →
      PassesOwn (model X.prog X.w) X.A X.env xe → PSs (X.tr pn xe) body (tb W))
    (hns : (n == ("__debug__" : Str)) = false := by decide) (hnc : (n == ("__classdict__" : Str)) = false := by decide)
    (hsw : ∀ (a : Addr) (pn : List (Addr × Obj)), PG (X.suite a pn) (.Name y p1) (gName j)) :
    PS X (.Try body [.ExceptHandler (some (.Name x np)) (some n) [.Assign [.Name y p1] (.Name n p2) pos1] pos'] [] [] pos)
      (fun D σ H => tb (wKeep X.K c i j X.N.length D) D σ H) := by
  constructor
  intro pins s σ H D I h
  have ok := I.ok
  have frames : X.A.frames = some (X.env :: X.outer) := by
    rw [ok.frames, hstk]
  have locN : Loc X.env.scope n := .inl kn
  apply wpAny_Try_except
  let hand : List ExceptHandler := [.ExceptHandler (some (.Name x np)) (some n) [.Assign [.Name y p1] (.Name n p2) pos1] pos']
  let away : Value → Shared → Prop := fun e t1 => wpAny (model X.prog X.w) X.A (noteFrame e X.env)
    (fun _ t2 => wpAny (model X.prog X.w) X.A (setFlight e none)
      (fun _ t3 => wpAny (model X.prog X.w) X.A (handleBy e X.env hand) (SP X pins D) X.xe t3) X.xe t2) X.xe t1
  have taken : Takes (X.tr (X.pn ++ pins) away) (wKeep X.K c i j X.N.length D) := by
    rintro u s' ⟨a, B, sI, pins', σ', H', cls, d, rfl, J', nb, up, sky, na, os, ag, b, hb1, hno, hyes⟩
    have J : Inv X pins σ' H' sI := J'.ofTry ok
    rw [show (X.tr (X.pn ++ pins) away).stack = X.env :: X.outer from hstk] at sky
    show wpAny (model X.prog X.w) X.A (noteFrame (.ref a) X.env) _ X.xe s'
    refine Sky.land Zc.steady frames hfrm sky fun g3 fly3 up3 => ?_
    have J3 : Inv X pins σ' H' { s' with heap := g3 } := J.landed nb fly3.1 (up.trans up3) os ag
    obtain ⟨o3, v3, at3, z3, dat3⟩ := fly3.there
    have notF : a ∉ frs (X.env :: X.outer) := fun hm => by
      obtain ⟨_, o', e', hnf⟩ := fly3.2.2.1.mem hm
      have at3' : g3.get? a = some o3 := at3
      rw [at3'] at e'
      cases e'
      exact hnf _ dat3
    have nL : a ≠ X.env.locals := fun z => notF (List.mem_filterMap.mpr ⟨X.env, List.mem_cons_self, by rw [hfrm, z]⟩)
    have nF : a ∉ X.fs := fun hm => by
      obtain ⟨e, he, q⟩ := List.mem_filterMap.mp hm
      exact notF (List.mem_filterMap.mpr ⟨e, List.mem_cons_of_mem _ he, q⟩)
    have gone : B.get? a = none := fly3.2.1
    have newI : sI.heap.get? a = none := by
      cases q : sI.heap.get? a with
      | none => rfl
      | some o =>
        have z := nb a o q (by rw [show (X.tr (X.pn ++ pins) away).stack = X.env :: X.outer from hstk]; exact notF)
        rw [gone] at z
        cases z
    have new0 : X.s_0.heap.get? a = none := by
      cases q : X.s_0.heap.get? a with
      | none => rfl
      | some o =>
        obtain ⟨o', z⟩ := J.base.there a o q (by rw [hex]; exact fun z => nomatch z)
        rw [newI] at z
        cases z
    have pinsNe : ∀ p ∈ X.pn ++ pins, p.1 ≠ a := fun p hp z => by
      have q := (J.pin p hp).1
      rw [z, newI] at q
      cases q
    have S3 := J3.suite at3 dat3 na nL nF
    refine wpAny_handleBy_cons (codeAny_handlers_test ?_) (by intro q; cases q)
    have ty : PySem.W.Looks (model X.prog X.w) g3 (typeOf (.ref a)) cls := fun A Q E s k q =>
      wpAny_typeOf_ref (k _ _ at3) (by rw [z3.1]; exact q)
    have mt := PySem.W.exm_one (M := model X.prog X.w) J3.kIn ty hb1
    have asked : ∀ {Q : Value → Shared → Prop} {E : Value → Shared → Prop}, Q c { s' with heap := g3 } →
        wpAny (model X.prog X.w) (X.A.mark (some (.ref a))) (eval (.Name x np) X.env) Q E { s' with heap := g3 } := by
      intro Q E q
      obtain ⟨hg, hdbg, hm⟩ := nm
      rcases hm with hm | ⟨hm, hv, hnn⟩
      · exact ld_glob (X := X.suite a ((a, o3) :: (X.pn ++ pins))) S3 hg hm q hdbg
      · exact ld_blt (X := X.suite a ((a, o3) :: (X.pn ++ pins))) S3 hg hm hv q hnn hdbg
    refine asked (mt.here ?_)
    cases b with
    | false => exact (hno rfl).elim
    | true =>
      obtain ⟨C, dd, rfl, rfl, kept⟩ := hyes rfl
      refine codeAny_handlers_suite_as ?_
      refine HandSPX.lands_againZ fly3 fun g4 fly4 up4 => ?_
      have J4 : Inv X pins σ' H' { s' with heap := g4 } := J.landed nb fly4.1 ((up.trans up3).trans up4) os ag
      obtain ⟨o4, v4, at4, z4, dat4⟩ := fly4.there
      have S4 := J4.suite at4 dat4 na nL nF
      refine store_ok (X := X.suite a ((a, o4) :: (X.pn ++ pins))) (v := .ref a) S4 nd hi locN rfl (fun s5 S5 => ?_) (.inr kn)
      have len : σ'.length = X.N.length := J.len
      have hin : i < σ'.length := by
        rw [len]
        exact (List.getElem?_eq_some_iff.mp hi).1
      have suite : PSs (X.suite a ((a, o4) :: (X.pn ++ pins))) [.Assign [.Name y p1] (.Name n p2) pos1] (tAsg (tVar i) (gName j)) :=
        pss_one (ps_asg (pe_var hi (.inl kn) hns hnc) (hsw a _))
      let D5 : Ends := { nx := fun σ6 H6 => σ6 = (σ'.set i (some (.ref a))).set j (some (.ref a)) ∧ H6 = H', rt := fun _ _ => False, bk := fun _ _ => False, ct := fun _ _ => False }
      have start : tAsg (tVar i) (gName j) D5 (σ'.set i (some (.ref a))) H' := by
        refine ⟨.ref a, ?_, rfl, rfl⟩
        rw [List.getElem?_set_self hin]
      refine wpAny_mono (suite.run [] s5 _ H' D5 S5 start) (fun f s6 hsp => ?_) (fun _ _ z => False.elim z)
      cases f with
      | next =>
        obtain ⟨σ6, H6, S6, e1, e2⟩ := hsp
        subst e1 e2
        have at6 : s6.heap.get? a = some o4 := (S6.pin (a, o4) (List.mem_append_left _ List.mem_cons_self)).1
        have J6 := S6.unsuite ok
        have free6 : H6 a = none := na
        have held : Inv X ((a, o4) :: pins) ((σ'.set i (some (.ref a))).set j (some (.ref a))) H6 s6 := J6.pins_of fun p hp => by
          rcases List.mem_cons.mp hp with e | e
          · rw [e]
            exact ⟨at6, free6, nL, nF, fun v z => by rw [dat4] at z; cases z⟩
          · exact J6.pin p (List.mem_append_right _ e)
        refine gone_ok held nd hi kn fun s7 J7 => ?_
        have at7 : s7.heap.get? a = some o4 := (J7.pin (a, o4) (List.mem_append_right _ List.mem_cons_self)).1
        have J8 : Inv X pins ((((σ'.set i (some (.ref a))).set j (some (.ref a)))).set i none) H6 s7 :=
          J7.pins_of fun p hp => J7.pin p (List.mem_append_right _ (List.mem_cons_of_mem _ hp))
        have J9 := track_err J8 at7 free6 new0 z4.1 z4.2 dat4 nL pinsNe
        have es : (((σ'.set i (some (.ref a))).set j (some (.ref a)))).set i none = (σ'.set j (some (.ref a))).set i none := by
          rw [List.set_comm _ _ (Ne.symm hij), List.set_set, List.set_comm _ _ hij]
        rw [es] at J9
        exact ⟨_, _, J9, kept a na len⟩
      | brk =>
        obtain ⟨_, _, _, z⟩ := hsp
        exact z.elim
      | cont =>
        obtain ⟨_, _, _, z⟩ := hsp
        exact z.elim
      | ret u =>
        obtain ⟨_, _, _, _, _, z⟩ := hsp
        exact z.elim
  refine wpAny_mono ((hb (wKeep X.K c i j X.N.length D) (X.pn ++ pins) away taken PassesOwn.looking).run [] s σ H D (I.toTry _) h) (fun f s1 hsp => ?_) (fun e s1 he => he)
  cases f with
  | next =>
    obtain ⟨σ', H', J', q⟩ := hsp
    exact wpAny_execs_nil ⟨σ', H', J'.ofTry ok, q⟩
  | brk =>
    obtain ⟨σ', H', J', q⟩ := hsp
    exact ⟨σ', H', J'.ofTry ok, q⟩
  | cont =>
    obtain ⟨σ', H', J', q⟩ := hsp
    exact ⟨σ', H', J'.ofTry ok, q⟩
  | ret u =>
    obtain ⟨v, σ', H', J', r, q⟩ := hsp
    exact ⟨v, σ', H', J'.ofTry ok, r, q⟩
end
end SB
-- R3
namespace SB
open PySem PySem.Spec PyProof.Rows L2
/-- heard: what comes of a() is dropped; an own error that it raises is handed back as a value -/
def THeard (K : PySem.W.Frag) (CB : Addr) : (XK → Hp → VK → Prop) → Hp → VK → Prop := fun tl H Q =>
  tl (fun cls d H' => ∃ b, PySem.W.exmOne K cls (.ref CB) = some b ∧ (b = false → False) ∧
    (b = true → ∃ C dd, cls = .ref C ∧ d = some dd ∧ ∀ a, H' a = none → Q (.ref a) (upd H' a (ErrO C dd a)))) H (fun _ H' => Q .non H')
def hearScope : Scope := { kind := .function, names := [("ask", .local), ("caught", .local), ("error", .local), ("BallError", .globalImplicit)], isGenerator := false, isCoroutine := false, more := [] }
def hearBody (c1 c2 c3 c4 c5 c6 c7 c8 c9 c10 c11 c12 c13 c14 : Pos) : List Stmt :=
  [.Assign [.Name "caught" c1] (.Constant .none 0 c2) c3,
   .Try [.Expr (.Call (.Name "ask" c4) [] [] c5) c6] [.ExceptHandler (some (.Name "BallError" c7)) (some "error") [.Assign [.Name "caught" c8] (.Name "error" c9) c10] c11] [] [] c12,
   .Return (some (.Name "caught" c13)) c14]
section
variable {X : Cx}
theorem heard_gives {x q : Str} {g CB : Addr} {cdg : Value} {c1 c2 c3 c4 c5 c6 c7 c8 c9 c10 c11 c12 c13 c14 : Pos} (hmb : X.mg "BallError" = some (.ref CB)) :
    LamX.GivesTo X ["ask", "caught", "error"] x hearScope g cdg (hearBody c1 c2 c3 c4 c5 c6 c7 c8 c9 c10 c11 c12 c13 c14) "ask" q (THeard X.K CB) := by
  intro f c' s H Q tl act hc h
  have nd : (["ask", "caught", "error"] : List Str).Nodup := by decide +kernel
  refine ⟨_, pss_cons (ps_set (i := 1) nd rfl (.inl rfl) pe_non)
    (pss_cons (ps_try_keep (c := .ref CB) (i := 2) (j := 1) (tb := fun W D σ H => ∃ Ech : XK, (∀ cls d σ' H', Ech cls d H' → W cls d σ' H') ∧ σ[0]? = some (some (.ref f)) ∧ H c' = some (LamX.CodeO c' q) ∧ tl Ech H (fun _ H1 => D.nx σ H1))
      rfl rfl nd rfl rfl (by decide) rfl rfl ⟨rfl, by decide, .inl hmb⟩ rfl (fun W pn xe tk _ => ?_) (by decide) (by decide) (fun a pn => pg_name nd rfl (.inl rfl)))
    (pss_one (ps_ret (pv 1)))), ?_⟩
  · refine ⟨fun pins s' σ H' D I h' => ?_⟩
    obtain ⟨Ech, hW, h1, h2, h3⟩ := h'
    have hp := act W pn xe Ech c4 c5 tk hW
    have hq := pss_one (ps_expr (pos := c6) hp)
    exact hq.run pins s' σ H' D I ⟨h1, h2, h3⟩
  · show tAsg _ _ _ _ _
    refine ⟨fun cls d H' => ∃ b, PySem.W.exmOne X.K cls (.ref CB) = some b ∧ (b = false → False) ∧
      (b = true → ∃ C dd, cls = .ref C ∧ d = some dd ∧ ∀ a, H' a = none → Q (.ref a) (upd H' a (ErrO C dd a))), ?_, rfl, hc, ?_⟩
    · rintro cls d σ' H' ⟨b, e1, e2, e3⟩
      refine ⟨b, e1, e2, fun hb => ?_⟩
      obtain ⟨C, dd, k1, k2, k3⟩ := e3 hb
      refine ⟨C, dd, k1, k2, fun a ha hl => ?_⟩
      have hl' : σ'.length = 3 := hl
      match σ', hl' with
      | [u0, u1, u2], _ => exact ⟨.ref a, rfl, k3 a ha⟩
    · have same : (fun (_ : V) (H1 : Hp) => Q .non H1) = fun (_ : V) (H1 : Hp) => tRet (tVar 1) { nx := fun _ H' => Q .non H', rt := Q } (List.set (L2.start ["ask", "caught", "error"] [V.ref f]) 1 (some V.non)) H1 := by
        funext u H1
        refine propext ⟨fun z => ⟨.non, rfl, z⟩, ?_⟩
        rintro ⟨v, e, z⟩
        have e' : (some (some V.non) : Option (Option V)) = some (some v) := e
        cases e'
        exact z
      unfold THeard at h
      rw [same] at h
      exact h
end
end SB
-- R4
namespace SB
open PySem PySem.Spec PyProof.Rows L2
/-- what the class of a kept error must say -/
structure ErrC (K : PySem.W.Frag) (C : Addr) : Prop where
  cls : (PySem.W.clsIn K C).isSome = true
  own : PySem.W.hasDictIn K C = true
  ga : PySem.W.findIn K (.ref C) "__getattribute__" = some (some (.builtin "BaseException.__getattribute__"))
  gt : PySem.W.findIn K (.ref C) "__getattr__" = some none
  sub : PySem.W.subIn K (.ref C) (.type "BaseException") = some true
  ca : PySem.W.findIn K (.ref C) "__class__" = some (some (.builtin "object.__class__"))
  cg : PySem.W.specialIn K (.builtin "object.__class__") "__get__" = some (some (.builtin "getset_descriptor.__get__"))
  ct : PySem.W.takesIn K (.builtin "object.__class__") = some true
  mr : PySem.W.mroIn K C (.type "object") = some true
section
variable {X : Cx} {pins : List (Addr × Obj)} {σ : L2.St} {H : Hp} {s : Shared} {a C d : Addr} {fs : List (Str × V)}
theorem err_at (I : Inv X pins σ H s) (h : H a = some (ErrO C d a)) (hd : H d = some (.xd fs)) :
    ∃ oe od, PySem.W.InstAt s.heap a oe C (some od) ∧ ∃ mA : Str → Option Value, (∀ f : Str, RelO (fs.lookup f) (mA f)) ∧ ∀ f : Str, PySem.W.lookIn f od = some (mA f) := by
  obtain ⟨⟨oe, fv, e1, e2, e3, e4⟩, _⟩ := I.hok a _ h
  have hx : ObjOk X.prog X.w H s.heap d (.xd fs) := I.hok d _ hd
  obtain ⟨mA, hns, hr⟩ := hx
  obtain ⟨od, ho, hl⟩ := lookIn_ns hns
  refine ⟨oe, od, ⟨e1, e2, ?_, ?_⟩, mA, hr, hl⟩
  · unfold PySem.W.notCls
    rw [e4] <;> trivial
  · rw [e3]
    exact ho
/-- isinstance(e, D), e a kept error -/
def rIsErr (K : PySem.W.Frag) : List V → Hp → VK → Prop := fun xs H Q => ∃ (a C d D : Addr) (fs : List (Str × V)) (b : Bool),
  xs = [.ref a, .ref D] ∧ H a = some (ErrO C d a) ∧ H d = some (.xd fs) ∧ ErrC K C ∧ PySem.W.kitOne K (.ref C) (.ref D) = some b ∧ Q (.bl b) H
theorem call_isErr : CallR X (.builtin "isinstance") (rIsErr X.K) := by
  intro pins s σ H xs us Q I r h
  obtain ⟨a, C, d, D, fs, b, rfl, ea, ed, T, e, q⟩ := h
  obtain ⟨u1, u2, rfl, r1, r2⟩ := vals2 r
  cases (show u1 = Value.ref a from r1)
  cases (show u2 = Value.ref D from r2)
  obtain ⟨oe, od, J, _⟩ := err_at I ea ed
  exact PySem.W.kia_one (PySem.W.kitx_exc T.cls T.ga T.gt T.sub T.ca T.cg T.ct T.mr) I.kIn J e (fun z => nomatch z) fun tk => ⟨.bl b, H, I.tok tk, rfl, q⟩
/-- e.f, e a kept error -/
def tErrF (K : PySem.W.Frag) (te : TE) (f : Str) : TE := fun σ H Q => te σ H fun x H1 => ∃ (a C d : Addr) (fs : List (Str × V)) (v : V),
  x = .ref a ∧ H1 a = some (ErrO C d a) ∧ H1 d = some (.xd fs) ∧ ErrC K C ∧ PySem.W.findIn K (.ref C) f = some none ∧ fs.lookup f = some v ∧ Q v H1
theorem pe_errF {e : Expr} {te : TE} {pos : Pos} {f : Str} (he : PE X e te) (hb : attributeBase e f X.env (eval e X.env) = eval e X.env := by rfl) :
    PE X (.Attribute e f pos) (tErrF X.K te f) := by
  constructor
  intro pins s σ H Q I h
  refine attr_of hb (thn (he.run pins s σ H _ I h) fun u s1 hh => ?_)
  obtain ⟨x, H1, I1, rx, a, C, d, fs, v, rfl, ea, ed, T, hn, hl, q⟩ := hh
  obtain rfl : u = Value.ref a := rx
  obtain ⟨oe, od, J, mA, hr, look⟩ := err_at I1 ea ed
  obtain ⟨w, hw, rw_⟩ := RelO.some_of (v := v) (o := mA f) (by rw [← hl]; exact hr f)
  exact HandSPX.exc_get I1.kIn J T.ga T.gt T.sub (PySem.W.findObj_own T.own hn rfl (by rw [look, hw])) (handed_of rw_) ⟨v, H1, I1.tok _, rw_, q⟩
end
end SB
-- R5
namespace SB
open PySem PySem.Spec PyProof.Rows L2
/-! ### enumerate of a text -/
/-- the signs of x, each in a new pair with its place -/
def Ies (x : Str) : It :=
  ⟨fun i _ => i < x.cps.size, fun i H v H' => ∃ (T : Addr) (c : Nat), v = .ref T ∧ H T = none ∧ x.cps[i]? = some c ∧ H' = upd H T (.tup [.int (i : Nat), .str ⟨#[c]⟩]), fun i _ => i = x.cps.size⟩
theorem turn_enumS {P : Program} {w : World} {K : PySem.W.Frag} {elts : List Expr} {kk : Nat} {tpos : Pos} (x : Str) (t : Tok) (e it : Addr) (hne : e ≠ it) :
    Turn P w K (.Tuple elts kk tpos) (Ies x) [e, it] e (fun i h => (∃ old, IsEnum h e it ((i : Nat) : Int) old) ∧ h.IsStrIter it (strIterType x) x t i) where
  mem := by simp
  obj := fun i h st b hb => by
    obtain ⟨⟨old, he⟩, ⟨o, ho, hc, hd⟩⟩ := st
    have which : b = e ∨ b = it := by simpa using hb
    rcases which with z | z
    · subst z
      exact ⟨_, he, fun v q => nomatch q⟩
    · subst z
      exact ⟨o, ho, fun v q => by rw [hd] at q; cases q⟩
  keep := fun i h h' st k => by
    obtain ⟨⟨old, he⟩, o, ho, r⟩ := st
    exact ⟨⟨old, k e (by simp) _ he⟩, o, k it (by simp) o ho, r⟩
  item := by
    intro X hP hw hK hc i pins s σ H E I hf st hg
    subst hP hw hK
    obtain ⟨⟨old, he⟩, hit⟩ := st
    have hel : e < s.heap.objs.size := Heap.lt_size he
    have hil : it < s.heap.objs.size := by
      obtain ⟨o, q, _⟩ := hit
      exact Heap.lt_size q
    have D := Draws.text (prog := X.prog) (w := X.w) (A := X.A.in1) (I.ok.hd hc) it x t
    refine wpAny_pyNext_enum_itemD D he hit hg hne (by simpa using hne) fun v h' tk hv ho hit' hT hsz hk => ?_
    obtain ⟨c, u, hcx, rfl⟩ := hv
    refine ⟨_, rfl, wpAny_letOwnedTupleGo_enum (s := { s with heap := h', toks := tk + 1 }) ho fun h2 he2 sb => ?_⟩
    have hT2 : h2.get? s.heap.objs.size = some { cls := .type "tuple", data := .seq #[.int i tk, .str ⟨#[c]⟩ u] } := (sb.2 _ (Nat.ne_of_gt hel)).trans hT
    have new : ObjOk X.prog X.w (upd H s.heap.objs.size (.tup [.int (i : Nat), .str ⟨#[c]⟩])) h2 s.heap.objs.size (.tup [.int (i : Nat), .str ⟨#[c]⟩]) :=
      ⟨by show 2 ≤ sizeLine; decide, [.int i tk, .str ⟨#[c]⟩ u], .cons ⟨_, rfl⟩ (.cons ⟨_, rfl⟩ .nil), ⟨_, hT2, rfl, _, rfl⟩⟩
    have I1 : Inv X pins σ (upd H s.heap.objs.size (.tup [.int (i : Nat), .str ⟨#[c]⟩])) { s with heap := h2, toks := tk + 1 } := by
      refine I.turnedNew (ch := [e, it]) (fun b ob hb q => ?_) hf (Nat.le_refl _) new
      have n1 : b ≠ e := fun z => hb (by simp [z])
      have n2 : b ≠ it := fun z => hb (by simp [z])
      exact (sb.2 b n1).trans (hk b ob n1 n2 q)
    refine ⟨.ref s.heap.objs.size, _, I1, rfl, ⟨_, c, rfl, I.hok.fresh (Nat.le_refl _), hcx, rfl⟩, ⟨⟨.str ⟨#[c]⟩ u, ?_⟩, ?_⟩, fun b hb => ?_⟩
    · have e1 : ((i + 1 : Nat) : Int) = (i : Int) + 1 := by omega
      rw [e1]
      exact he2
    · obtain ⟨o, q, r⟩ := hit'
      exact ⟨o, (sb.2 it (Ne.symm hne)).trans q, r⟩
    · have which : b = e ∨ b = it := by simpa using hb
      have lt : b < s.heap.objs.size := by
        rcases which with z | z
        · rw [z]
          exact hel
        · rw [z]
          exact hil
      rw [upd_ne (Nat.ne_of_lt lt)]
      exact (hf b hb).1
  done := by
    intro X hP hw hK hc i pins s σ H E I hf st hg
    subst hP hw hK
    obtain ⟨⟨old, he⟩, hit⟩ := st
    obtain ⟨f0, f1, f2, f3, f4, f5⟩ := hf it (by simp)
    have D := Draws.text (prog := X.prog) (w := X.w) (A := X.A.in1) (I.ok.hd hc) it x t
    have hg' : i = x.cps.size := hg
    rw [hg'] at hit
    refine wpAny_pyNext_enum_endD D he hit fun h' eb => ⟨rfl, I.turned (t' := s.toks) (fun b o hb q => eb b o hb q) f0 f1 f3 f4 f5⟩
  self := fun A i s Q E st h => by
    obtain ⟨⟨_, he⟩, _⟩ := st
    exact wpAny_pyIter_enum he h
def iEnumS (ta : TA) : TI := fun σ H R => ta σ H fun vs H1 => ∃ x, vs = [.str x] ∧ R (Ies x) H1
theorem pi_enumS {X : Cx} {e : Expr} {ta : TA} {p pos tpos : Pos} {elts : List Expr} {kk : Nat} (hg : Gl X "enumerate") (hm : X.mg "enumerate" = none) (ha : PA X [e] ta)
    (hs : starEach [e] X.env = [(false, eval e X.env)] := by rfl) : PI X (.Tuple elts kk tpos) (.Call (.Name "enumerate" p) [e] [] pos) (iEnumS ta) := by
  constructor
  intro pins s σ H R I h
  refine Call_ (ld_blt I hg hm boot_enumerate (PyProof.Rows.callWith_type1 (thn (ha.run pos pins s σ H _ I h) fun us s1 hh => ?_) hs rfl))
  obtain ⟨vs, H1, I1, r1, x, ex, q⟩ := hh
  subst ex
  obtain ⟨u, rfl, r⟩ := vals1 r1
  obtain ⟨t, rfl⟩ := r
  refine call_enumerate_str fun h' he hit hsz hk => wpAny_pyIter_enum he ?_
  have I2 : Inv X pins σ H1 { s1 with heap := h' } := I1.kept (t' := s1.toks) hk
  refine ⟨s1.heap.objs.size + 1, [s1.heap.objs.size + 1, s1.heap.objs.size], _, _, H1, rfl, I2, turn_enumS x t _ _ (Nat.succ_ne_self _), ⟨⟨.none, he⟩, hit⟩, fun b hb => ?_, q⟩
  have which : b = s1.heap.objs.size + 1 ∨ b = s1.heap.objs.size := by simpa using hb
  have le : s1.heap.objs.size ≤ b := by
    rcases which with z | z
    · rw [z]
      exact Nat.le_succ _
    · rw [z]
      exact Nat.le_refl _
  exact I1.fpOk le (I1.hok.fresh le)
end SB
-- R6
namespace SB
open PySem PySem.Spec PyProof.Rows L2
section
variable {X : Cx}
/-- x.swapcase() -/
theorem mt_swapcase : MtR X "str.swapcase" (fun x xs H Q => ∃ a, x = .str a ∧ xs = [] ∧ a.length ≤ 5592405 ∧ Q (.str (Txt.swapcase a)) H) :=
  mt0 (C := fun a => a.length ≤ 5592405) (g := fun a => .str (Txt.swapcase a)) fun a t s Q hc h =>
    PyProof.Rows.SCL.swapcase hc fun _ => h _ (s.toks + 1) ⟨_, rfl⟩
theorem pe_swap {o : Expr} {ot : TE} {apos pos : Pos} (ho : PE X o ot) (hbase : attributeBase o "swapcase" X.env (eval o X.env) = eval o X.env := by rfl) (hline : (apos.endLine == pos.line) = true := by rfl) : True := trivial
end
/-- C.m is a staticmethod: its record at p, its def at g -/
structure Stat (K : PySem.W.Frag) (C : Addr) (m : Str) (p g : Addr) : Prop where
  rd : ∃ mc, PySem.W.readsIn K C mc = true ∧ PySem.W.findCls K (.ref C) mc m = some (.get (.builtin "staticmethod.__get__") (.ref p) .none (.ref C))
  ga : PySem.W.specialIn K (.ref C) "__getattribute__" = some (some (.builtin "type.__getattribute__"))
  rc : ∃ rest, PySem.W.recIn K p "staticmethod" = some (.ref g :: rest)
  kp : PySem.W.keepIn K (.ref g) = true
section
variable {X : Cx} {CX : CXT} {k : Nat} {C p g : Addr} {fd : FuncData} {ps : List Str} {sp : Sp} {dvs : List V} {ds : List Value} {E : XK} {o e : Expr} {es : List Expr} {m : Str} {pos apos : Pos} {ta : TE} {t : TA} {pl : Sem Bool}
theorem stat_ok {A : Around} {E : Value → Shared → Prop} {pins : List (Addr × Obj)} {σ : L2.St} {H : Hp} {s : Shared} {pl : Sem Bool} {Q : Value × List Value → Shared → Prop} (I : Inv X pins σ H s) (c : Stat X.K C m p g)
    (h : ∀ s', Inv X pins σ H s' → Q (.ref g, []) s') : wpAny (model X.prog X.w) A (getMethod (.ref C) m pl) Q E s := by
  obtain ⟨mc, hrd, hat⟩ := c.rd
  obtain ⟨rest, hp⟩ := c.rc
  refine PySem.W.method_cls I.kIn c.ga (PySem.W.cls_bind I.kIn hrd hat ?_)
  refine wpAny_call (PySem.W.sm_get (s := { s with toks := s.toks + 1 }) I.kIn hp (PySem.W.handed_on rfl ?_))
  exact h _ (I.tok _)
def tStat (C : Addr) (sp : Sp) (dvs : List V) (E : XK) (ta : TE) (t : TA) : TE := fun σ H Q => ta σ H fun x H1 => x = .ref C ∧ t σ H1 fun vs H2 => sp (vs ++ dvs) H2 Q E
/-- C.m(e, ..), m a staticmethod -/
theorem pe_stat (he : PE X o ta) (c : Stat X.K C m p g) (F : FnOk X.prog X.w X.K X.mg X.base CX k g fd ps sp) (hr : Room k X.A) (hb : Binds X.K fd ps ds) (hd : Vals dvs ds) (hx : Passes CX X E) (ha : PA X (e :: es) t)
    (hst : starEach (e :: es) X.env = (false, eval e X.env) :: starEach es X.env := by rfl) (hpl : (backTo pos (starEach es X.env)).any (·.1) = false := by rfl)
    (ht : eval (.Call (.Attribute o m apos) (e :: es) [] pos) X.env = (do
      let ov ← eval o X.env
      standAt apos.atName
      let (f, first) ← holding [ov] (getMethod ov m pl)
      callWith pos f first (backTo pos (starEach (e :: es) X.env)) (backToKw pos (keywordEach [] X.env))) := by rfl) :
    PE X (.Call (.Attribute o m apos) (e :: es) [] pos) (tStat C sp dvs E ta t) := by
  constructor
  intro pins s σ H Q I h
  refine PySem.W.methodCall_KW (pl := pl) (thn (he.run pins s σ H _ I h) fun u s1 hh => ?_) ht
  obtain ⟨x, H1, I1, rx, rfl, q⟩ := hh
  obtain rfl : u = Value.ref C := rx
  refine stat_ok I1 c fun s2 I2 => ?_
  refine PySem.W.callWith_K (first := []) (h₀ := X.base) I.ok.mod.kin c.kp (thn (ha.run pos pins s2 σ H1 _ I2 q) fun us s3 h3 => ?_) hst hpl
  obtain ⟨vs, H2, I3, r, q2⟩ := h3
  exact ⟨I3.kIn, run_fn F hr hb hd hx I3 r q2⟩
end
end SB
-- R7
namespace SB
open PySem PySem.Spec PyProof.Rows L2
section
variable {X : Cx} {CX : CXT} {k : Nat} {C p g : Addr} {fd : FuncData} {ps ks : List Str} {sp : Sp} {E : XK} {o e : Expr} {kws : List Keyword} {m : Str} {pos apos : Pos} {ta : TE} {t tk : TA} {pl : Sem Bool}
variable {gg : List Value → List Value → List Value} {gV : List V → List V → List V}
def tStatK (C : Addr) (sp : Sp) (gV : List V → List V → List V) (E : XK) (ta : TE) (tk : TA) : TE := fun σ H Q => ta σ H fun x H1 => x = .ref C ∧ tk σ H1 fun zs H2 => sp (gV [] zs) H2 Q E
/-- C.m(k = e, ..), m a staticmethod -/
theorem pe_statK (he : PE X o ta) (c : Stat X.K C m p g) (F : FnOk X.prog X.w X.K X.mg X.base CX k g fd ps sp) (hr : Room k X.A) (hb : KBinds X.K fd ps ks gg gV) (hx : Passes CX X E) (hkw : PK X kws tk)
    (hall : (backToKw pos (keywordEach kws X.env)).all (·.1.isSome) = true := by rfl) (hks : (backToKw pos (keywordEach kws X.env)).filterMap (·.1) = ks := by rfl)
    (hpl : ((backTo pos (starEach [] X.env)).any (·.1) || (backToKw pos (keywordEach kws X.env)).any (·.1.isNone)) = false := by rfl)
    (ht : eval (.Call (.Attribute o m apos) [] kws pos) X.env = (do
      let ov ← eval o X.env
      standAt apos.atName
      let (f, first) ← holding [ov] (getMethod ov m pl)
      callWith pos f first (backTo pos (starEach [] X.env)) (backToKw pos (keywordEach kws X.env))) := by rfl) :
    PE X (.Call (.Attribute o m apos) [] kws pos) (tStatK C sp gV E ta tk) := by
  constructor
  intro pins s σ H Q I h
  refine PySem.W.methodCall_KW (pl := pl) (thn (he.run pins s σ H _ I h) fun u s1 hh => ?_) ht
  obtain ⟨x, H1, I1, rx, rfl, q⟩ := hh
  obtain rfl : u = Value.ref C := rx
  refine stat_ok I1 c fun s2 I2 => ?_
  refine PySem.W.callWith_KW0 (first := []) (h₀ := X.base) I.ok.mod.kin c.kp hall ?_ hpl
  refine thn (hkw.run pos pins s2 σ H1 _ I2 q) fun ws s3 h3 => ?_
  obtain ⟨zs, H2, I3, rz, q2⟩ := h3
  refine ⟨I3.kIn, ?_⟩
  rw [hks]
  exact run_fnk (us := []) (vs := []) F hr hb hx I3 .nil rz q2
end
end SB
-- R8
namespace SB
open PySem PySem.Spec PyProof.Rows L2
/-- a class over object alone that tells __eq__ and no __ne__ -/
structure EqC (K : PySem.W.Frag) (C f : Addr) : Prop where
  obj : ∃ (nm q : Str) (N : Addr) (bs : List Value) (hdct : Bool) (sn : List Str) (sub : List Value) (ab : Bool) (col : Option Bool) (dd : Option Addr) (k0 k1 k2 k3 k5 : Option Value) (newId : String),
    K.lookup C = some (excClassObj nm q C N bs [.type "object"] hdct sn sub ab col dd k0 k1 k2 k3 k5 newId) ∧ PySem.W.nsOkIn K N = true ∧
    PySem.W.nsIn K N "__eq__" = some (some (.ref f)) ∧ PySem.W.nsIn K N "__ne__" = some none
  find : PySem.W.findIn K (.ref C) "__eq__" = some (some (.ref f))
  fn : PySem.W.isFn K (.ref f) = true
theorem ns_has {K : PySem.W.Frag} {h : Heap} {N : Addr} {mm : Str → Option Value} {x : Str} {v : Value} (KX : K.In h) (G : h.Ns N mm) (e : PySem.W.nsIn K N x = some (some v)) : mm x = some v := by
  obtain ⟨ob, es, ep, at_, dat, _, look⟩ := G
  unfold PySem.W.nsIn at e
  split at e
  · rename_i lk
    have same := KX _ _ lk
    rw [at_] at same
    cases same
    cases dat
    split at e
    · rename_i en he
      cases e
      rw [← look]
      unfold nsFind findBy
      rw [← Array.find?_toList, he]
      rfl
    · split at e <;> cases e
  · cases e
section
variable {X : Cx} {CX : CXT} {k : Nat} {C f : Addr} {fd : FuncData} {ps : List Str} {sp : Sp} {E : XK}
/-- a def called from somewhere within a builtin, around A -/
theorem run_at {A : Around} {pins : List (Addr × Obj)} {σ : L2.St} {H : Hp} {s : Shared} {Q : VK} {us : List Value} {vs : List V} (F : FnOk X.prog X.w X.K X.mg X.base CX k f fd ps sp) (hr : Room k A) (e0 : Env0 X.prog X.w X.K X.mg X.base A X.stack s H) (hb : Binds X.K fd ps []) (hx : Passes CX X E)
    (I : Inv X pins σ H s) (r : Vals vs us) (h : sp vs H Q E) : wpAny (model X.prog X.w) A (call (.ref f) us) (EP X pins σ Q) X.xe s := by
  have hl : (us ++ []).length = ps.length := by
    rw [List.append_nil, ← r.length]
    exact F.len _ _ _ _ h
  have bd := hb s us I.kIn hl
  rw [List.append_nil] at bd
  refine wpAny_call (codeAny_mono (F.run A X.stack s H ⟨us, []⟩ us vs Q E hr e0 bd r h) fun r s' hq => ?_)
  rcases r with e | fl
  · exact hx pins σ H s e s' I hq
  · rcases fl with u | _ | _ | _
    · first
        | exact I.after hq
        | exact hq.elim
    all_goals
      first
        | exact I.after hq
        | exact False.elim hq
theorem run_in1 {pins : List (Addr × Obj)} {σ : L2.St} {H : Hp} {s : Shared} {Q : VK} {us : List Value} {vs : List V} (F : FnOk X.prog X.w X.K X.mg X.base CX k f fd ps sp) (hr : Room (k + 1) X.A) (hb : Binds X.K fd ps []) (hx : Passes CX X E)
    (I : Inv X pins σ H s) (r : Vals vs us) (h : sp vs H Q E) : wpAny (model X.prog X.w) X.A.in1 (call (.ref f) us) (EP X pins σ Q) X.xe s :=
  run_at F hr.in1 I.env0.in1 hb hx I r h
theorem run_in2 {pins : List (Addr × Obj)} {σ : L2.St} {H : Hp} {s : Shared} {Q : VK} {us : List Value} {vs : List V} (F : FnOk X.prog X.w X.K X.mg X.base CX k f fd ps sp) (hr : Room (k + 2) X.A) (hb : Binds X.K fd ps []) (hx : Passes CX X E)
    (I : Inv X pins σ H s) (r : Vals vs us) (h : sp vs H Q E) : wpAny (model X.prog X.w) X.A.in1.in1 (call (.ref f) us) (EP X pins σ Q) X.xe s :=
  run_at F (Room.in1 (Room.in1 hr)) I.env0.in1.in1 hb hx I r h
def rNeOwn (C : Addr) (sp : Sp) (E : XK) : R2 := fun x y H Q => ∃ (a b dx dy : Addr) (fs gs : List (Str × V)), x = .ref a ∧ y = .ref b ∧ H a = some (.ins C dx fs) ∧ H b = some (.ins C dy gs) ∧
  sp [x, y] H (fun v H' => ∃ r, v = .bl r ∧ Q (.bl (!r)) H') E
/-- x != y by the own __eq__ of both -/
theorem op_neOwn (T : EqC X.K C f) (F : FnOk X.prog X.w X.K X.mg X.base CX k f fd ps sp) (hr : Room (k + 1) X.A) (hb : Binds X.K fd ps []) (hx : Passes CX X E) : OpR X (compareOp .NotEq) (rNeOwn C sp E) := by
  intro pins s σ H x y u v Q I rx ry h
  obtain ⟨a, b, dx, dy, fs, gs, rfl, rfl, ea, eb, q⟩ := h
  obtain rfl : u = Value.ref a := rx
  obtain rfl : v = Value.ref b := ry
  obtain ⟨nm, qn, N, bs, hdct, sn, sub, ab, col, dd, k0, k1, k2, k3, k5, newId, lk, ok, e1, e2⟩ := T.obj
  have KX := I.kIn
  obtain ⟨_, _, _, oa, _⟩ := (show ObjOk X.prog X.w H s.heap a (.ins C dx fs) from I.hok a _ ea)
  obtain ⟨_, _, _, ob, _⟩ := (show ObjOk X.prog X.w H s.heap b (.ins C dy gs) from I.hok b _ eb)
  have hns : s.heap.Ns N (s.heap.nsMap N) := .of_isNs (PySem.W.isNs_of_in KX ok)
  have m1 : s.heap.nsMap N "__eq__" = some (.ref f) := ns_has KX hns e1
  have m2 : s.heap.nsMap N "__ne__" = none := PySem.W.ns_none_of KX hns e2
  have ft : ∃ of, s.heap.get? f = some of ∧ of.cls = .type "function" := by
    obtain ⟨o, ho, hc⟩ := Option.map_eq_some_iff.mp (show (X.K.lookup f).map (·.cls) = some (.type "function") from beq_iff_eq.mp T.fn)
    exact ⟨o, KX _ _ ho, hc⟩
  obtain ⟨of, hf, hfc⟩ := ft
  have own : s.heap.OwnEqNoNe a C f "object" [.type "object"] :=
    ⟨_, of, nm, qn, N, bs, hdct, sn, sub, ab, col, dd, k0, k1, k2, k3, k5, newId, _, _, oa, rfl, KX _ _ lk, hns, m1, hf, hfc, PySem.F.mro_object, rfl, m2⟩
  have un := hr.un
  obtain ⟨hp, g, d, t, os⟩ := s
  refine compareOp_ne_ownEq PySem.F.cmp_object own ob rfl (by omega) ?_
  refine thn (run_in1 (us := [.ref a, .ref b]) (vs := [.ref a, .ref b]) F hr hb hx I (.cons rfl (.cons rfl .nil)) q) fun u s1 hh => ?_
  obtain ⟨w, H1, I1, r1, r, rfl, q1⟩ := hh
  obtain rfl : u = Value.bool r := r1
  exact ⟨r, rfl, .bl (!r), H1, I1, rfl, q1⟩
end
end SB
-- R9
namespace SB
open PySem PySem.Spec PyProof.Rows L2
section
variable {X : Cx} {CX : CXT} {k : Nat} {C f : Addr} {fd : FuncData} {ps : List Str} {sp : Sp} {E : XK} {pins : List (Addr × Obj)} {σ : L2.St} {H : Hp} {s : Shared}
theorem inst_of {a dx : Addr} {fs : List (Str × V)} (I : Inv X pins σ H s) (ea : H a = some (.ins C dx fs)) : ∃ od, PySem.W.InstAt s.heap a (PySem.W.instObj C dx) C (some od) := by
  obtain ⟨mA, O, _⟩ := ins_get I.hok ea
  obtain ⟨od, J, _⟩ := O.look
  exact ⟨od, J⟩
/-- str(x) by the own __str__ -/
def rStrOwn (C : Addr) (sp : Sp) (E : XK) : List V → Hp → VK → Prop := fun xs H Q => ∃ (a dx : Addr) (fs : List (Str × V)), xs = [.ref a] ∧ H a = some (.ins C dx fs) ∧
  sp [.ref a] H (fun v H' => ∃ z, v = .str z ∧ Q (.str z) H') E
theorem call_strOwn (hs : PySem.W.findIn X.K (.ref C) "__str__" = some (some (.ref f))) (hf : PySem.W.isFn X.K (.ref f) = true) (F : FnOk X.prog X.w X.K X.mg X.base CX k f fd ps sp) (hr : Room (k + 2) X.A) (hb : Binds X.K fd ps []) (hx : Passes CX X E) :
    CallR X (.type "str") (rStrOwn C sp E) := by
  intro pins s σ H xs us Q I r h
  obtain ⟨a, dx, fs, rfl, ea, q⟩ := h
  obtain ⟨u, rfl, ru⟩ := vals1 r
  obtain rfl : u = Value.ref a := ru
  obtain ⟨od, J⟩ := inst_of I ea
  have un := (Room.in1 (Room.in1 hr)).units0
  refine PySem.W.kso_call un I.kIn J hs hf ?_
  refine thn (run_in2 (us := [.ref a]) (vs := [.ref a]) F hr hb hx I (.cons rfl .nil) q) fun u s1 hh => ?_
  obtain ⟨w, H1, I1, r1, z, rfl, q1⟩ := hh
  obtain ⟨t, rfl⟩ := r1
  exact ⟨.str z, H1, I1, ⟨t, rfl⟩, q1⟩
/-- an int is no bool -/
theorem op_isIB : OpR X (compareOp .Is) (fun x y H Q => ∃ (i : Int) (b : Bool), x = .int i ∧ y = .bl b ∧ Q (.bl false) H) := by
  intro pins s σ H x y v u Q I rx ry h
  obtain ⟨i, b, rfl, rfl, q⟩ := h
  obtain ⟨t, rfl⟩ := rx
  obtain rfl : u = Value.bool b := ry
  exact wpAny_is_other rfl (fun z => nomatch z) ⟨.bl false, H, I, rfl, q⟩
theorem op_notIB : OpR X (compareOp .IsNot) (fun x y H Q => ∃ (i : Int) (b : Bool), x = .int i ∧ y = .bl b ∧ Q (.bl true) H) := by
  intro pins s σ H x y v u Q I rx ry h
  obtain ⟨i, b, rfl, rfl, q⟩ := h
  obtain ⟨t, rfl⟩ := rx
  obtain rfl : u = Value.bool b := ry
  exact wpAny_isNot_other rfl (fun z => nomatch z) ⟨.bl true, H, I, rfl, q⟩
end
end SB
-- R10
namespace SB
open PySem PySem.Spec PyProof.Rows L2
/-- __init__(self, f): self.f = f, of an own error class -/
def spErr1 (K : PySem.W.Frag) (g : Str) : Sp := fun vs H Q _ => ∃ (a C : Addr) (y : V), vs = [.ref a, y] ∧ OexC K C ∧ PySem.W.findIn K (.ref C) g = some none ∧ H a = some (exo a C none) ∧
  ∀ dx, H dx = none → dx ≠ a → Q .non (upd (upd H dx (exd dx [(g, y)])) a (exo a C (some dx)))
/-- what is told of an own error class x of one field g: its class at C, its __init__ at fI -/
structure Err1 (K : PySem.W.Frag) (mg : Str → Option Value) (x g : Str) (C fI : Addr) : Prop where
  ox : OexC K C
  ec : ErrC K C
  iC : PySem.W.findIn K (.ref C) "__init__" = some (some (.ref fI))
  tI : PySem.W.typeIn K (.ref fI) = some (.type "function")
  no : PySem.W.findIn K (.ref C) g = some none
  at_ : mg x = some (.ref C)
theorem heap_raised {H : Hp} {a d : Addr} {o1 o2 o3 o4 : HO} (ha : H a = none) (hd : (upd H a o1) d = none) (ne : d ≠ a) : upd (del (upd (upd (upd H a o1) d o2) a o3) a) d o4 = upd H d o4 := by
  funext b
  by_cases e1 : b = d
  · subst e1
    rw [upd_same, upd_same]
  · rw [upd_ne e1, upd_ne e1]
    by_cases e2 : b = a
    · subst e2
      rw [del_same, ha]
    · rw [del_ne e2, upd_ne e2, upd_ne e1, upd_ne e2]
section
variable {X : Cx} {x g : Str} {C fI : Addr} {k : Nat} {fd : FuncData} {ps : List Str} {W : WX} {e : Expr} {te : TE} {p pos pos2 : Pos} {CX : CXT}
/-- raise x(e) -/
theorem ps_raise1 (T : Err1 X.K X.mg x g C fI) (F : FnOk X.prog X.w X.K X.mg X.base CX k fI fd ps (spErr1 X.K g)) (hb : Binds X.K fd ps []) (hr : Room (k + 1) X.A) (hc : X.calm = true) (tk : Takes X W) (hx : Passes CX X (fun _ _ _ => False)) (he : PE X e te) (hg : Gl X x := by rfl)
    (hs : starEach (e :: []) X.env = (false, eval e X.env) :: starEach [] X.env := by rfl) (hpl : (backTo pos (starEach [] X.env)).any (·.1) = false := by rfl) (hdb : (x == ("__debug__" : Str)) = false := by decide) :
    PS X (.Raise (some (.Call (.Name x p) [e] [] pos)) none pos2) (fun _ σ H => tMkO C (spErr1 X.K g) [] (tCons te tNil) σ H fun cls d H' => W cls d σ H') :=
  ps_raise (pos := pos2) hc tk (pmk_oex (pos := pos) (p := p) T.ox T.iC T.tI F hr hb .nil hx hg T.at_ (pa_cons he pa_nil hs) hdb hs hpl)
end
/-- what such a raise asks, once its argument is there -/
theorem raised1 {K : PySem.W.Frag} {mg : Str → Option Value} {x g : Str} {C fI : Addr} {H : Hp} {y : V} {Q : XK} (T : Err1 K mg x g C fI) (h : ∀ d, H d = none → Q (.ref C) (some d) (upd H d (.xd [(g, y)]))) :
    ([y] : List V).length ≤ 1000 ∧ ∀ a, H a = none → spErr1 K g (.ref a :: ([y] ++ [])) (upd H a (exo a C none)) (fun v H2 => v = .non ∧ ∃ (d : Addr) (fs : List (Str × V)), H2 a = some (exo a C (some d)) ∧ H2 d = some (exd d fs) ∧ H d = none ∧ Q (.ref C) (some d) (upd (del H2 a) d (.xd fs))) (fun _ _ _ => False) := by
  refine ⟨by show 1 ≤ 1000; decide, fun a ha => ⟨a, C, y, rfl, T.ox, T.no, upd_same, fun dx hd ne => ⟨rfl, dx, [(g, y)], upd_same, ?_, ?_, ?_⟩⟩⟩
  · rw [upd_ne ne, upd_same]
  · rw [upd_ne ne] at hd
    exact hd
  · rw [heap_raised ha hd ne]
    refine h dx ?_
    rw [upd_ne ne] at hd
    exact hd
theorem init1_sp {K : PySem.W.Frag} {g : Str} {vs : List V} {H : Hp} {Q : VK} {E : XK} (h : spErr1 K g vs H Q E) : vs.length = 2 := by
  obtain ⟨a, C, y, rfl, _⟩ := h
  rfl
/-- the reading of self.f = f -/
theorem init1_read {K : PySem.W.Frag} {g : Str} {vs : List V} {H : Hp} {Q : VK} {E : XK} {N : List Str} (hN : N.length = 2) (h : spErr1 K g vs H Q E) : tOst K g (tVar 0) (tVar 1) { nx := fun _ H' => Q .non H', rt := Q } (L2.start N vs) H := by
  obtain ⟨a, C, y, rfl, T, hn, ha, q⟩ := h
  match N, hN with
  | [_, _], _ => exact ⟨y, rfl, .ref a, rfl, a, C, rfl, T, hn, .inl ⟨ha, fun dx h1 h2 => q dx h1 h2⟩⟩
end SB
-- M1
namespace SB
open PySem PySem.Spec PyProof.Rows L2
/-! ### letters as codes; rows of letters -/
def T (l : List Nat) : Str := ⟨l.toArray⟩
/-- the code of the letter that undoes one -/
def up (c : Nat) : Nat := if 97 ≤ c then c - 32 else c + 32
def letters8 : List Nat := [65, 66, 67, 68, 97, 98, 99, 100]
def isL (c : Nat) : Bool := decide (c ∈ letters8)
/-- the first place at which no sign can stand, from place i on, prev being ahead -/
def faultFrom (prev : Option Nat) (i : Nat) : List Nat → Option Nat
  | [] => none
  | c :: r => if isL c = false ∨ some (up c) = prev then some i else faultFrom (some c) (i + 1) r
def fault (l : List Nat) : Option Nat := faultFrom none 0 l
theorem T_cps (l : List Nat) : (T l).cps.toList = l := rfl
theorem letters_T : ("ABCDabcd" : Str) = T letters8 := by decide +kernel
theorem swap_up : ∀ c, isL c = true → Txt.swapcase ⟨#[c]⟩ = ⟨#[up c]⟩ := by
  intro c h
  have h' : c ∈ letters8 := of_decide_eq_true h
  have all : ∀ c ∈ letters8, Txt.swapcase ⟨#[c]⟩ = ⟨#[up c]⟩ := by decide +kernel
  exact all c h'
/-- one sign as a text -/
abbrev s1 (c : Nat) : Str := ⟨#[c]⟩
def prevT : Option Nat → Str
  | none => T []
  | some c => s1 c
theorem s1_inj {a b : Nat} (h : s1 a = s1 b) : a = b := by
  have := congrArg Str.cps h
  simpa using this
theorem eq_prev (c : Nat) (p : Option Nat) : decide (V.str (s1 c) = V.str (prevT p)) = decide (some c = p) := by
  cases p with
  | none =>
    refine (decide_eq_false ?_).trans (decide_eq_false (by simp)).symm
    intro z
    have := congrArg Str.cps (V.str.inj z)
    simp [prevT, T] at this
  | some d =>
    by_cases e : c = d
    · subst e
      simp [prevT]
    · refine (decide_eq_false ?_).trans (decide_eq_false (by simpa using e)).symm
      intro z
      exact e (s1_inj (V.str.inj z))
end SB
-- M2
namespace SB
open PySem PySem.Spec PyProof.Rows L2
/-- the items of a text -/
def items (z : Str) : List Str := Txt.split z " "
theorem blank_T : (" " : Str) = ⟨#[32]⟩ := by decide +kernel
theorem items_pos (z : Str) : 1 ≤ (items z).length := split_pos z " "
theorem items_one {z : Str} (h : (items z).length = 1) : items z = [z] := by
  have j : Str.join " " (items z) = z   := StrLaws.join_split z " "
  match e : items z, h with
  | [a], _ =>
    rw [e] at j
    exact congrArg (fun a => [a]) j
theorem items_free {z : Str} (h : (32 : Nat) ∉ z.cps.toList) : items z = [z] := by
  refine items_one ?_
  have l := split_len z 32
  unfold items
  rw [blank_T]
  have c0 : ∀ l : List Nat, (32 : Nat) ∉ l → cnt 32 l = 0 := by
    intro l
    induction l with
    | nil => intro _; rfl
    | cons a r ih =>
      intro hn
      rw [cnt_cons, ih fun z => hn (List.mem_cons_of_mem _ z), if_neg fun z => hn (by rw [z]; exact List.mem_cons_self)]
      rfl
  rw [c0 _ h] at l
  omega
theorem items_short {z a : Str} (h : a ∈ items z) : a.length ≤ z.length := part_short h
/-- of a row without a fault each sign is a letter -/
theorem letters_of : ∀ (l : List Nat) (p : Option Nat) (i : Nat), faultFrom p i l = none → ∀ c ∈ l, isL c = true
  | [], _, _, _, c, hc => nomatch hc
  | a :: r, p, i, h, c, hc => by
    have h' : (if isL a = false ∨ some (up a) = p then some i else faultFrom (some a) (i + 1) r) = none := h
    by_cases e : isL a = false ∨ some (up a) = p
    · rw [if_pos e] at h'
      cases h'
    · rw [if_neg e] at h'
      rcases List.mem_cons.mp hc with q | q
      · rw [q]
        cases z : isL a with
        | true => rfl
        | false => exact (e (.inl z)).elim
      · exact letters_of r _ _ h' c q
theorem letter_lt : ∀ c, isL c = true → c < 128 := by
  intro c h
  have h' : c ∈ letters8 := of_decide_eq_true h
  have all : ∀ c ∈ letters8, c < 128 := by decide +kernel
  exact all c h'
theorem ok_word {z : Str} (h : fault z.cps.toList = none) : (z.cps.all fun c => decide (c < 0x110000)) = true := by
  rw [← Array.all_toList, List.all_eq_true]
  intro c hc
  have := letter_lt c (letters_of _ _ _ h c hc)
  exact decide_eq_true (by omega)
theorem shaped_word {z : Str} (n : Int) (h : fault z.cps.toList = none) : SeqAt.shaped (.tuple [.int n, .str z]) = true := by
  have e : PyData.canLay0 (.tuple [.int n, .str z]) = true := by
    show (true && ((z.cps.all fun c => decide (c < 0x110000)) && true)) = true
    rw [ok_word h]
    rfl
  unfold SeqAt.shaped
  rw [e]
  rfl
end SB
-- M3
namespace SB
open PySem PySem.Spec PyProof.Rows L2
/-! ### the pen of a law -/
/-- what is tracked stays, but for p -/
def Kept (p : Addr) (H H' : Hp) : Prop := ∀ b o, H b = some o → b ≠ p → H' b = some o
theorem Kept.refl (p : Addr) (H : Hp) : Kept p H H := fun _ _ h _ => h
theorem Kept.trans {p : Addr} {H H1 H2 : Hp} (a : Kept p H H1) (b : Kept p H1 H2) : Kept p H H2 := fun c o h n => b c o (a c o h n) n
theorem Kept.of {p : Addr} {H H' : Hp} (s : Same H H') : Kept p H H' := fun b o h _ => s b o h
theorem Kept.write {p : Addr} {H H' : Hp} {o : HO} (k : Kept p H H') : Kept p H (upd H' p o) := fun b u h n => by
  rw [upd_ne n]
  exact k b u h n
/-- a list of three at p: the script's ints, how many cells were read, what is left of a great one -/
def PenAt (N : Int) (H : Hp) (p : Addr) : Prop := ∃ (q : Addr) (ns : List Int) (i j : Int), H p = some (.lst [.ref q, .int i, .int j]) ∧ H q = some (.lst (ns.map V.int)) ∧ 0 ≤ i ∧ i ≤ N
theorem pen_ne {H : Hp} {p q : Addr} {ns : List Int} {i j : Int} (h : H p = some (.lst [.ref q, .int i, .int j])) (h' : H q = some (.lst (ns.map V.int))) : q ≠ p := by
  rintro rfl
  rw [h] at h'
  have e := HO.lst.inj (Option.some.inj h')
  cases ns with
  | nil => cases e
  | cons a r => cases e
theorem PenAt.mono {N M : Int} {H : Hp} {p : Addr} (h : PenAt N H p) (le : N ≤ M) : PenAt M H p := by
  obtain ⟨q, ns, i, j, h1, h2, h3, h4⟩ := h
  exact ⟨q, ns, i, j, h1, h2, h3, by omega⟩
theorem PenAt.same {N : Int} {H H' : Hp} {p : Addr} (h : PenAt N H p) (s : Same H H') : PenAt N H' p := by
  obtain ⟨q, ns, i, j, h1, h2, h3, h4⟩ := h
  exact ⟨q, ns, i, j, s _ _ h1, s _ _ h2, h3, h4⟩
theorem shaped_nums (ns : List Int) : SeqAt.shaped (.list (ns.map PyData.int)) = true := by
  have lay : ∀ l : List Int, PyData.canLayAll0 (l.map PyData.int) = true := by
    intro l
    induction l with
    | nil => rfl
    | cons a r ih => exact ih
  have dep : ∀ l : List Int, PyData.depthAll (l.map PyData.int) ≤ 1 := by
    intro l
    induction l with
    | nil => exact Nat.zero_le _
    | cons a r ih =>
      show max _ _ ≤ 1
      refine Nat.max_le.mpr ⟨?_, ih⟩
      simp [PyData.depth]
  unfold SeqAt.shaped
  have e1 : PyData.canLay0 (.list (ns.map PyData.int)) = true := lay ns
  rw [e1]
  refine decide_eq_true ?_
  have := dep ns
  have e2 : PyData.depth (.list (ns.map PyData.int)) = PyData.depthAll (ns.map PyData.int) + 1 := by
    simp [PyData.depth]
  rw [e2]
  omega
theorem dp_nums {K : PySem.W.Frag} {H : Hp} : ∀ ns : List Int, DpAll K H (ns.map V.int) (ns.map PyData.int)
  | [] => .nil
  | a :: r => .cons (.int a) (dp_nums r)
theorem eqv_empty (ns : List Int) : PyData.eqv (.list (ns.map PyData.int)) (.list []) = decide (ns = []) := by
  cases ns with
  | nil => rfl
  | cons a r => rfl
theorem cut_nums (ns : List Int) (lo hi : Option Int) : ∃ ms : List Int, cutV (ns.map V.int) lo hi = ms.map V.int ∧ ms.length ≤ ns.length := by
  refine ⟨(ns.drop (HT.sIx (ns.map V.int).length 0 lo)).take (HT.sIx (ns.map V.int).length (ns.map V.int).length hi - HT.sIx (ns.map V.int).length 0 lo), ?_, ?_⟩
  · unfold cutV
    rw [← List.map_drop, ← List.map_take]
  · rw [List.length_take, List.length_drop]
    omega
theorem bound3 {u i a b c : Int} (u0 : 0 ≤ u) (u1 : u < 2147483648) (i0 : 0 ≤ i) (i1 : i ≤ 100000) (a0 : 0 ≤ a) (a1 : a ≤ 100000) (b0 : 0 ≤ b) (b1 : b ≤ 1000000) (c0 : 0 ≤ c) (c1 : c ≤ 1000000) :
    (u * (2 * i + a) + b * i * i + c).natAbs < 2 ^ 64 := by
  have h1 : u * (2 * i + a) ≤ 2147483648 * 300000 := Int.mul_le_mul (by omega) (by omega) (by omega) (by omega)
  have h2 : 0 ≤ u * (2 * i + a) := Int.mul_nonneg u0 (by omega)
  have h3 : b * i ≤ 1000000 * 100000 := Int.mul_le_mul b1 i1 i0 (by omega)
  have h4 : 0 ≤ b * i := Int.mul_nonneg b0 i0
  have h5 : b * i * i ≤ 1000000 * 100000 * 100000 := Int.mul_le_mul h3 i1 i0 (by omega)
  have h6 : 0 ≤ b * i * i := Int.mul_nonneg h4 i0
  omega
end SB
-- M4
namespace SB
open PySem PySem.Spec PyProof.Rows L2
theorem up_up : ∀ c, isL c = true → up (up c) = c := by
  intro c h
  have h' : c ∈ letters8 := of_decide_eq_true h
  have all : ∀ c ∈ letters8, up (up c) = c := by decide +kernel
  exact all c h'
theorem up_isL : ∀ c, isL c = true → isL (up c) = true := by
  intro c h
  have h' : c ∈ letters8 := of_decide_eq_true h
  have all : ∀ c ∈ letters8, isL (up c) = true := by decide +kernel
  exact all c h'
theorem faultFrom_snoc : ∀ (l : List Nat) (c : Nat) (p : Option Nat) (i : Nat), faultFrom p i l = none → isL c = true → (∀ d, (l.getLast?.or p) = some d → some (up c) ≠ some d) → faultFrom p i (l ++ [c]) = none
  | [], c, p, i, _, hc, hd => by
    show (if isL c = false ∨ some (up c) = p then some i else faultFrom (some c) (i + 1) []) = none
    rw [if_neg]
    · rfl
    · rintro (z | z)
      · rw [hc] at z
        cases z
      · exact hd (up c) z.symm rfl
  | a :: r, c, p, i, h, hc, hd => by
    have h' : (if isL a = false ∨ some (up a) = p then some i else faultFrom (some a) (i + 1) r) = none := h
    by_cases e : isL a = false ∨ some (up a) = p
    · rw [if_pos e] at h'
      cases h'
    · rw [if_neg e] at h'
      show (if isL a = false ∨ some (up a) = p then some i else faultFrom (some a) (i + 1) (r ++ [c])) = none
      rw [if_neg e]
      refine faultFrom_snoc r c (some a) (i + 1) h' hc fun d hd2 => hd d ?_
      cases r with
      | nil => simpa using hd2
      | cons b r2 =>
        have q : ((b :: r2).getLast?.or (some a)) = some d := hd2
        rw [List.getLast?_cons_cons]
        cases e2 : (b :: r2).getLast? with
        | none => simp at e2
        | some v =>
          rw [e2] at q
          simpa using q
theorem fault_snoc {l : List Nat} {c : Nat} (h : fault l = none) (hc : isL c = true) (hd : ∀ d, l.getLast? = some d → c ≠ up d) : fault (l ++ [c]) = none := by
  refine faultFrom_snoc l c none 0 h hc fun d e z => ?_
  have e' : l.getLast? = some d := by simpa using e
  have z' : up c = d := Option.some.inj z
  refine hd d e' ?_
  rw [← z', up_up c hc]
theorem last_split {l : List Nat} {d : Nat} (h : l.getLast? = some d) : ∃ r, l = r ++ [d] := by
  rw [List.getLast?_eq_some_iff] at h
  exact h
theorem str_empty {z : Str} : z = "" ↔ z.cps.toList = [] := by
  constructor
  · rintro rfl
    rfl
  · intro h
    cases z with
    | mk a =>
      have : a = #[] := by simpa using h
      subst this
      rfl
theorem app_codes (a b : Str) : (a ++ b).cps.toList = a.cps.toList ++ b.cps.toList := by
  rw [Str.cps_append, Array.toList_append]
theorem len_codes (z : Str) : z.length = z.cps.toList.length := rfl
end SB
-- M5
namespace SB
open PySem PySem.Spec PyProof.Rows L2
/-- whether each sign is a letter -/
theorem all_or (l : List Nat) : (l.filter fun c => !isL c) = [] ↔ ∀ c ∈ l, isL c = true := by
  rw [List.filter_eq_nil_iff]
  constructor
  · intro h c hc
    have := h c hc
    simpa using this
  · intro h c hc
    rw [h c hc]
    decide
/-- no letter stands behind the one that it undoes -/
def flat (l : List Nat) (n : Nat) : Prop := ∀ j c d, j + 1 < n → l[j]? = some d → l[j + 1]? = some c → c ≠ up d
theorem flat_mono {l : List Nat} {n m : Nat} (h : flat l n) (le : m ≤ n) : flat l m := fun j c d hj => h j c d (by omega)
theorem faultFrom_flat : ∀ (l : List Nat) (p : Option Nat) (i : Nat), (∀ c ∈ l, isL c = true) → (faultFrom p i l = none ↔ (∀ c, l[0]? = some c → some (up c) ≠ p) ∧ flat l l.length)
  | [], p, i, _ => by
    refine ⟨fun _ => ⟨fun c h => (nomatch h), fun j c d h => absurd h (by simp)⟩, fun _ => rfl⟩
  | a :: r, p, i, h => by
    have ha : isL a = true := h a List.mem_cons_self
    have ih := faultFrom_flat r (some a) (i + 1) fun c hc => h c (List.mem_cons_of_mem _ hc)
    have e : faultFrom p i (a :: r) = if isL a = false ∨ some (up a) = p then some i else faultFrom (some a) (i + 1) r := rfl
    rw [e]
    by_cases q : some (up a) = p
    · rw [if_pos (.inr q)]
      refine ⟨fun z => (nomatch z), fun z => (z.1 a rfl q).elim⟩
    · rw [if_neg (by rintro (z | z); rw [ha] at z; cases z; exact q z), ih]
      constructor
      · rintro ⟨h1, h2⟩
        refine ⟨fun c hc => by cases hc; exact q, fun j c d hj hd hc => ?_⟩
        cases j with
        | zero =>
          have hd' : a = d := by simpa using hd
          have hc' : r[0]? = some c := hc
          subst hd'
          intro z
          refine h1 c hc' ?_
          rw [z, up_up a ha]
        | succ j =>
          refine h2 j c d ?_ hd hc
          have : j + 1 + 1 < r.length + 1 := hj
          omega
      · rintro ⟨_, h2⟩
        refine ⟨fun c hc z => ?_, fun j c d hj hd hc => h2 (j + 1) c d (by show j + 1 + 1 < r.length + 1; omega) hd hc⟩
        have z' : up c = a := Option.some.inj z
        have cL : isL c = true := h c (List.mem_cons_of_mem _ (List.mem_of_getElem? hc))
        refine h2 0 c a ?_ rfl hc ?_
        · show 0 + 1 < r.length + 1
          have : 0 < r.length := (List.getElem?_eq_some_iff.mp hc).1
          omega
        · rw [← z', up_up c cL]
theorem fault_iff (l : List Nat) : fault l = none ↔ (∀ c ∈ l, isL c = true) ∧ flat l l.length := by
  constructor
  · intro h
    have hL := letters_of l none 0 h
    exact ⟨hL, ((faultFrom_flat l none 0 hL).mp h).2⟩
  · rintro ⟨hL, hf⟩
    exact (faultFrom_flat l none 0 hL).mpr ⟨fun c _ z => (nomatch z), hf⟩
end SB
-- R11
namespace SB
open PySem PySem.Spec PyProof.Rows L2
section
variable {X : Cx}
/-- an expression, with a word between it and what follows -/
def tMid (t : TE) : TE := fun σ H Q => ∃ R : V → Hp → Prop, t σ H R ∧ ∀ v H', R v H' → Q v H'
theorem pe_mid {e : Expr} {t : TE} (h : PE X e t) : PE X e (tMid t) := by
  refine ⟨fun pins s σ H Q I hm => ?_⟩
  obtain ⟨R, hR, hq⟩ := hm
  refine thn (h.run pins s σ H R I hR) fun u s1 hh => ?_
  obtain ⟨v, H1, I1, r1, q1⟩ := hh
  exact ⟨v, H1, I1, r1, hq v H1 q1⟩
/-- a text times an int -/
theorem op_repS : OpR X (binaryOp .Mult) (fun x y H Q => ∃ (z : Str) (n : Int), x = .str z ∧ y = .int n ∧ MulOk z n ∧ Q (.str (Txt.mul z n)) H) := by
  intro pins s σ H x y v u Q I rx ry h
  obtain ⟨z, n, rfl, rfl, ok, q⟩ := h
  obtain ⟨t, rfl⟩ := rx
  obtain ⟨t', rfl⟩ := ry
  exact PySem.SB.mul ok fun t2 tk => ⟨.str (Txt.mul z n), H, I.tok _, ⟨_, rfl⟩, q⟩
end
def longs : List Str := ["A", "dC", "aB"]
theorem long_ok : ∀ z ∈ longs, ∀ n ∈ ([4000, 4001] : List Int), MulOk z n ∧ (Txt.mul z n).length ≤ 9000 ∧ fault (cutS (Txt.mul z n) none (some n)).cps.toList = none ∧ cutS (Txt.mul z n) none (some n) ≠ "" := by
  unfold MulOk
  decide +kernel
end SB
-- R12
namespace SB
open PySem PySem.Spec PyProof.Rows L2
/-- __init__(self, f, g): self.f = f; self.g = g, of an own error class -/
def spErr2 (K : PySem.W.Frag) (f g : Str) : Sp := fun vs H Q _ => ∃ (a C : Addr) (y z : V), vs = [.ref a, y, z] ∧ OexC K C ∧ PySem.W.findIn K (.ref C) f = some none ∧ PySem.W.findIn K (.ref C) g = some none ∧ H a = some (exo a C none) ∧
  ∀ dx, H dx = none → dx ≠ a → Q .non (upd (upd (upd H dx (exd dx [(f, y)])) a (exo a C (some dx))) dx (exd dx [(g, z), (f, y)]))
structure Err2 (K : PySem.W.Frag) (mg : Str → Option Value) (x f g : Str) (C fI : Addr) : Prop where
  ox : OexC K C
  ec : ErrC K C
  iC : PySem.W.findIn K (.ref C) "__init__" = some (some (.ref fI))
  tI : PySem.W.typeIn K (.ref fI) = some (.type "function")
  nf : PySem.W.findIn K (.ref C) f = some none
  ng : PySem.W.findIn K (.ref C) g = some none
  at_ : mg x = some (.ref C)
theorem heap_raised2 {H : Hp} {a d : Addr} {o1 o2 o3 o4 o5 : HO} (ha : H a = none) (ne : d ≠ a) : upd (del (upd (upd (upd (upd H a o1) d o2) a o3) d o4) a) d o5 = upd H d o5 := by
  funext b
  by_cases e1 : b = d
  · subst e1
    rw [upd_same, upd_same]
  · rw [upd_ne e1, upd_ne e1]
    by_cases e2 : b = a
    · subst e2
      rw [del_same, ha]
    · rw [del_ne e2, upd_ne e1, upd_ne e2, upd_ne e1, upd_ne e2]
section
variable {X : Cx} {x f g : Str} {C fI : Addr} {k : Nat} {fd : FuncData} {ps : List Str} {W : WX} {e e2 : Expr} {te te2 : TE} {p pos pos2 : Pos} {CX : CXT}
/-- raise x(e, e2) -/
theorem ps_raise2 (T : Err2 X.K X.mg x f g C fI) (F : FnOk X.prog X.w X.K X.mg X.base CX k fI fd ps (spErr2 X.K f g)) (hb : Binds X.K fd ps []) (hr : Room (k + 1) X.A) (hc : X.calm = true) (tk : Takes X W) (hx : Passes CX X (fun _ _ _ => False)) (he : PE X e te) (he2 : PE X e2 te2) (hg : Gl X x := by rfl)
    (hs : starEach (e :: e2 :: []) X.env = (false, eval e X.env) :: starEach [e2] X.env := by rfl) (hs2 : starEach [e2] X.env = (false, eval e2 X.env) :: starEach [] X.env := by rfl) (hpl : (backTo pos (starEach [e2] X.env)).any (·.1) = false := by rfl) (hdb : (x == ("__debug__" : Str)) = false := by decide) :
    PS X (.Raise (some (.Call (.Name x p) [e, e2] [] pos)) none pos2) (fun _ σ H => tMkO C (spErr2 X.K f g) [] (tCons te (tCons te2 tNil)) σ H fun cls d H' => W cls d σ H') :=
  ps_raise (pos := pos2) hc tk (pmk_oex (pos := pos) (p := p) T.ox T.iC T.tI F hr hb .nil hx hg T.at_ (pa_cons he (pa_cons he2 pa_nil hs2) hs) hdb hs hpl)
end
/-- what such a raise asks, once its arguments are there -/
theorem raised2 {K : PySem.W.Frag} {mg : Str → Option Value} {x f g : Str} {C fI : Addr} {H : Hp} {y z : V} {Q : XK} (T : Err2 K mg x f g C fI) (h : ∀ d, H d = none → Q (.ref C) (some d) (upd H d (.xd [(g, z), (f, y)]))) :
    ([y, z] : List V).length ≤ 1000 ∧ ∀ a, H a = none → spErr2 K f g (.ref a :: ([y, z] ++ [])) (upd H a (exo a C none)) (fun v H2 => v = .non ∧ ∃ (d : Addr) (fs : List (Str × V)), H2 a = some (exo a C (some d)) ∧ H2 d = some (exd d fs) ∧ H d = none ∧ Q (.ref C) (some d) (upd (del H2 a) d (.xd fs))) (fun _ _ _ => False) := by
  refine ⟨by show 2 ≤ 1000; decide, fun a ha => ⟨a, C, y, z, rfl, T.ox, T.nf, T.ng, upd_same, fun dx hd ne => ⟨rfl, dx, [(g, z), (f, y)], ?_, upd_same, ?_, ?_⟩⟩⟩
  · rw [upd_ne (Ne.symm ne), upd_same]
  · rw [upd_ne ne] at hd
    exact hd
  · rw [heap_raised2 ha ne]
    refine h dx ?_
    rw [upd_ne ne] at hd
    exact hd
theorem init2_sp {K : PySem.W.Frag} {f g : Str} {vs : List V} {H : Hp} {Q : VK} {E : XK} (h : spErr2 K f g vs H Q E) : vs.length = 3 := by
  obtain ⟨a, C, y, z, rfl, _⟩ := h
  rfl
/-- the reading of self.f = f; self.g = g -/
theorem init2_read {K : PySem.W.Frag} {f g : Str} {vs : List V} {H : Hp} {Q : VK} {E : XK} {N : List Str} (hN : N.length = 3) (h : spErr2 K f g vs H Q E) : tSeq (tOst K f (tVar 0) (tVar 1)) (tOst K g (tVar 0) (tVar 2)) { nx := fun _ H' => Q .non H', rt := Q } (L2.start N vs) H := by
  obtain ⟨a, C, y, z, rfl, T, hf, hg, ha, q⟩ := h
  match N, hN with
  | [_, _, _], _ =>
    refine ⟨y, rfl, .ref a, rfl, a, C, rfl, T, hf, .inl ⟨ha, fun dx h1 h2 => ?_⟩⟩
    refine ⟨z, rfl, .ref a, rfl, a, C, rfl, T, hg, .inr ⟨dx, [(f, y)], upd_same, ?_, by show 1 ≤ 900; decide, q dx h1 h2⟩⟩
    rw [upd_ne h2, upd_same]
end SB
-- K01T
namespace K01
open PySem PySem.Spec PyProof.Rows L2 SB
def topS (i : Nat) : Stmt := PySem.Challenge.pw_sevenball_k01_words_made_and_refused.main.body.getD i (.Pass ⟨0, 0, 0, 0⟩)
abbrev s__wall : Stmt := topS 0
theorem sc__wall : FnScope ["k"] ["k"] (defScope s__wall) := ⟨rfl, rfl, rfl, by decide +kernel, rfl, by decide +kernel, by decide +kernel⟩
abbrev s_BadNumber_init : Stmt := inClass (topS 3) 0
theorem sc_BadNumber_init : FnScope ["self", "part"] ["self", "part"] (defScope s_BadNumber_init) := ⟨rfl, rfl, rfl, by decide +kernel, rfl, by decide +kernel, by decide +kernel⟩
abbrev s_BadWord_init : Stmt := inClass (topS 4) 0
theorem sc_BadWord_init : FnScope ["self", "at"] ["self", "at"] (defScope s_BadWord_init) := ⟨rfl, rfl, rfl, by decide +kernel, rfl, by decide +kernel, by decide +kernel⟩
abbrev s_TooMany_init : Stmt := inClass (topS 5) 0
theorem sc_TooMany_init : FnScope ["self", "what", "most"] ["self", "what", "most"] (defScope s_TooMany_init) := ⟨rfl, rfl, rfl, by decide +kernel, rfl, by decide +kernel, by decide +kernel⟩
abbrev s_BadText_init : Stmt := inClass (topS 6) 0
theorem sc_BadText_init : FnScope ["self", "item"] ["self", "item"] (defScope s_BadText_init) := ⟨rfl, rfl, rfl, by decide +kernel, rfl, by decide +kernel, by decide +kernel⟩
abbrev s_is_integer : Stmt := topS 9
theorem sc_is_integer : FnScope ["value"] ["value"] (defScope s_is_integer) := ⟨rfl, rfl, rfl, by decide +kernel, rfl, by decide +kernel, by decide +kernel⟩
abbrev s_is_within : Stmt := topS 10
theorem sc_is_within : FnScope ["value", "least", "most"] ["value", "least", "most"] (defScope s_is_within) := ⟨rfl, rfl, rfl, by decide +kernel, rfl, by decide +kernel, by decide +kernel⟩
abbrev s_first_fault : Stmt := topS 13
theorem sc_first_fault : FnScope ["letters", "before", "at", "letter"] ["letters"] (defScope s_first_fault) := ⟨rfl, rfl, rfl, by decide +kernel, rfl, by decide +kernel, by decide +kernel⟩
abbrev s_first_stranger : Stmt := topS 14
theorem sc_first_stranger : FnScope ["letters", "at", "letter"] ["letters"] (defScope s_first_stranger) := ⟨rfl, rfl, rfl, by decide +kernel, rfl, by decide +kernel, by decide +kernel⟩
abbrev s_struck : Stmt := topS 15
theorem sc_struck : FnScope ["letters", "left", "letter"] ["letters"] (defScope s_struck) := ⟨rfl, rfl, rfl, by decide +kernel, rfl, by decide +kernel, by decide +kernel⟩
abbrev s_joined : Stmt := topS 16
theorem sc_joined : FnScope ["one", "other", "size", "most", "gone"] ["one", "other"] (defScope s_joined) := ⟨rfl, rfl, rfl, by decide +kernel, rfl, by decide +kernel, by decide +kernel⟩
abbrev s_undone : Stmt := topS 17
theorem sc_undone : FnScope ["letters"] ["letters"] (defScope s_undone) := ⟨rfl, rfl, rfl, by decide +kernel, rfl, by decide +kernel, by decide +kernel⟩
abbrev s_items_of : Stmt := topS 19
theorem sc_items_of : FnScope ["text"] ["text"] (defScope s_items_of) := ⟨rfl, rfl, rfl, by decide +kernel, rfl, by decide +kernel, by decide +kernel⟩
abbrev s_Word_init : Stmt := inClass (topS 21) 0
theorem sc_Word_init : FnScope ["self", "letters", "at"] ["self", "letters"] (defScope s_Word_init) := ⟨rfl, rfl, rfl, by decide +kernel, rfl, by decide +kernel, by decide +kernel⟩
abbrev s_Word_of : Stmt := inClass (topS 21) 1
theorem sc_Word_of : FnScope ["letters", "at"] ["letters"] (defScope s_Word_of) := ⟨rfl, rfl, rfl, by decide +kernel, rfl, by decide +kernel, by decide +kernel⟩
abbrev s_Word_read : Stmt := inClass (topS 21) 2
theorem sc_Word_read : FnScope ["text", "items", "word"] ["text"] (defScope s_Word_read) := ⟨rfl, rfl, rfl, by decide +kernel, rfl, by decide +kernel, by decide +kernel⟩
abbrev s_Word_str : Stmt := inClass (topS 21) 3
theorem sc_Word_str : FnScope ["self"] ["self"] (defScope s_Word_str) := ⟨rfl, rfl, rfl, by decide +kernel, rfl, by decide +kernel, by decide +kernel⟩
abbrev s_Word_mul : Stmt := inClass (topS 21) 4
theorem sc_Word_mul : FnScope ["self", "other"] ["self", "other"] (defScope s_Word_mul) := ⟨rfl, rfl, rfl, by decide +kernel, rfl, by decide +kernel, by decide +kernel⟩
abbrev s_Word_invert : Stmt := inClass (topS 21) 5
theorem sc_Word_invert : FnScope ["self"] ["self"] (defScope s_Word_invert) := ⟨rfl, rfl, rfl, by decide +kernel, rfl, by decide +kernel, by decide +kernel⟩
abbrev s_Word_power : Stmt := inClass (topS 21) 6
theorem sc_Word_power : FnScope ["self", "many"] ["self", "many"] (defScope s_Word_power) := ⟨rfl, rfl, rfl, by decide +kernel, rfl, by decide +kernel, by decide +kernel⟩
abbrev s_Word_len : Stmt := inClass (topS 21) 7
theorem sc_Word_len : FnScope ["self"] ["self"] (defScope s_Word_len) := ⟨rfl, rfl, rfl, by decide +kernel, rfl, by decide +kernel, by decide +kernel⟩
abbrev s_Word_iter : Stmt := inClass (topS 21) 8
theorem sc_Word_iter : FnScope ["self"] ["self"] (defScope s_Word_iter) := ⟨rfl, rfl, rfl, by decide +kernel, rfl, by decide +kernel, by decide +kernel⟩
abbrev s_Word_getitem : Stmt := inClass (topS 21) 9
theorem sc_Word_getitem : FnScope ["self", "at"] ["self", "at"] (defScope s_Word_getitem) := ⟨rfl, rfl, rfl, by decide +kernel, rfl, by decide +kernel, by decide +kernel⟩
abbrev s_Word_eq : Stmt := inClass (topS 21) 10
theorem sc_Word_eq : FnScope ["self", "other"] ["self", "other"] (defScope s_Word_eq) := ⟨rfl, rfl, rfl, by decide +kernel, rfl, by decide +kernel, by decide +kernel⟩
abbrev s_Word_lt : Stmt := inClass (topS 21) 11
theorem sc_Word_lt : FnScope ["self", "other"] ["self", "other"] (defScope s_Word_lt) := ⟨rfl, rfl, rfl, by decide +kernel, rfl, by decide +kernel, by decide +kernel⟩
abbrev s_Word_le : Stmt := inClass (topS 21) 12
theorem sc_Word_le : FnScope ["self", "other"] ["self", "other"] (defScope s_Word_le) := ⟨rfl, rfl, rfl, by decide +kernel, rfl, by decide +kernel, by decide +kernel⟩
abbrev s_Word_gt : Stmt := inClass (topS 21) 13
theorem sc_Word_gt : FnScope ["self", "other"] ["self", "other"] (defScope s_Word_gt) := ⟨rfl, rfl, rfl, by decide +kernel, rfl, by decide +kernel, by decide +kernel⟩
abbrev s_Word_ge : Stmt := inClass (topS 21) 14
theorem sc_Word_ge : FnScope ["self", "other"] ["self", "other"] (defScope s_Word_ge) := ⟨rfl, rfl, rfl, by decide +kernel, rfl, by decide +kernel, by decide +kernel⟩
abbrev s_Word_begins : Stmt := inClass (topS 21) 15
theorem sc_Word_begins : FnScope ["self", "other"] ["self", "other"] (defScope s_Word_begins) := ⟨rfl, rfl, rfl, by decide +kernel, rfl, by decide +kernel, by decide +kernel⟩
abbrev s_Word_ends : Stmt := inClass (topS 21) 16
theorem sc_Word_ends : FnScope ["self", "other"] ["self", "other"] (defScope s_Word_ends) := ⟨rfl, rfl, rfl, by decide +kernel, rfl, by decide +kernel, by decide +kernel⟩
abbrev s_Word_fits : Stmt := inClass (topS 21) 17
theorem sc_Word_fits : FnScope ["self", "other"] ["self", "other"] (defScope s_Word_fits) := ⟨rfl, rfl, rfl, by decide +kernel, rfl, by decide +kernel, by decide +kernel⟩
abbrev s_Word_meet : Stmt := inClass (topS 21) 18
theorem sc_Word_meet : FnScope ["self", "other"] ["self", "other"] (defScope s_Word_meet) := ⟨rfl, rfl, rfl, by decide +kernel, rfl, by decide +kernel, by decide +kernel⟩
abbrev s_Word_root : Stmt := inClass (topS 21) 19
theorem sc_Word_root : FnScope ["self"] ["self"] (defScope s_Word_root) := ⟨rfl, rfl, rfl, by decide +kernel, rfl, by decide +kernel, by decide +kernel⟩
abbrev s_Word_core : Stmt := inClass (topS 21) 20
theorem sc_Word_core : FnScope ["self"] ["self"] (defScope s_Word_core) := ⟨rfl, rfl, rfl, by decide +kernel, rfl, by decide +kernel, by decide +kernel⟩
abbrev s_word_in : Stmt := topS 22
theorem sc_word_in : FnScope ["item"] ["item"] (defScope s_word_in) := ⟨rfl, rfl, rfl, by decide +kernel, rfl, by decide +kernel, by decide +kernel⟩
abbrev s__law_pen : Stmt := topS 24
theorem sc__law_pen : FnScope ["script"] ["script"] (defScope s__law_pen) := ⟨rfl, rfl, rfl, by decide +kernel, rfl, by decide +kernel, by decide +kernel⟩
abbrev s__law_draw : Stmt := topS 25
theorem sc__law_draw : FnScope ["pen", "many", "digit", "spot", "cell", "great", "mixed"] ["pen", "many"] (defScope s__law_draw) := ⟨rfl, rfl, rfl, by decide +kernel, rfl, by decide +kernel, by decide +kernel⟩
abbrev s__law_pick : Stmt := topS 26
theorem sc__law_pick : FnScope ["pen", "some"] ["pen", "some"] (defScope s__law_pick) := ⟨rfl, rfl, rfl, by decide +kernel, rfl, by decide +kernel, by decide +kernel⟩
abbrev s__law_heard : Stmt := topS 27
theorem sc__law_heard : FnScope ["ask", "caught", "error"] ["ask"] (defScope s__law_heard) := ⟨rfl, rfl, rfl, by decide +kernel, rfl, by decide +kernel, by decide +kernel⟩
abbrev s__law_drawn : Stmt := topS 28
theorem sc__law_drawn : FnScope ["pen", "many", "kind", "turn"] ["pen"] (defScope s__law_drawn) := ⟨rfl, rfl, rfl, by decide +kernel, rfl, by decide +kernel, by decide +kernel⟩
abbrev s__law_undo : Stmt := topS 29
theorem sc__law_undo : FnScope ["sign", "known"] ["sign"] (defScope s__law_undo) := ⟨rfl, rfl, rfl, by decide +kernel, rfl, by decide +kernel, by decide +kernel⟩
abbrev s__law_wrong : Stmt := topS 30
theorem sc__law_wrong : FnScope ["text", "at"] ["text"] (defScope s__law_wrong) := ⟨rfl, rfl, rfl, by decide +kernel, rfl, by decide +kernel, by decide +kernel⟩
abbrev s__law_odd : Stmt := topS 31
theorem sc__law_odd : FnScope ["text", "at"] ["text"] (defScope s__law_odd) := ⟨rfl, rfl, rfl, by decide +kernel, rfl, by decide +kernel, by decide +kernel⟩
abbrev s__law_left : Stmt := topS 32
theorem sc__law_left : FnScope ["text", "left", "at"] ["text"] (defScope s__law_left) := ⟨rfl, rfl, rfl, by decide +kernel, rfl, by decide +kernel, by decide +kernel⟩
abbrev s__law_is : Stmt := topS 33
theorem sc__law_is : FnScope ["word", "text", "letter", "sign"] ["word", "text"] (defScope s__law_is) := ⟨rfl, rfl, rfl, by decide +kernel, rfl, by decide +kernel, by decide +kernel⟩
abbrev s__law_is_bad : Stmt := topS 34
theorem sc__law_is_bad : FnScope ["caught", "at"] ["caught", "at"] (defScope s__law_is_bad) := ⟨rfl, rfl, rfl, by decide +kernel, rfl, by decide +kernel, by decide +kernel⟩
abbrev s__law_text_right : Stmt := topS 35
theorem sc__law_text_right : FnScope ["text", "wrong", "odd", "left"] ["text"] (defScope s__law_text_right) := ⟨rfl, rfl, rfl, by decide +kernel, rfl, by decide +kernel, by decide +kernel⟩
abbrev s__law_long_right : Stmt := topS 36
theorem sc__law_long_right : FnScope ["pen", "unit", "extra", "fine", "heard", "caught", "at", "more", "spoiled", "sign"] ["pen"] (defScope s__law_long_right) := ⟨rfl, rfl, rfl, by decide +kernel, rfl, by decide +kernel, by decide +kernel⟩
abbrev s_law : Stmt := topS 37
theorem sc_law : FnScope ["script", "pen", "kept", "turn", "text", "heard", "caught", "odd", "word"] ["script"] (defScope s_law) := ⟨rfl, rfl, rfl, by decide +kernel, rfl, by decide +kernel, by decide +kernel⟩
end K01
-- K01A
namespace K01
open PySem PySem.Spec PyProof.Rows L2 SB
theorem walk_enumS {z : Str} : Walk (Ies z) z.cps.size (fun _ => True) (fun i H v H' => ∃ (T : Addr) (c : Nat), v = .ref T ∧ H T = none ∧ z.cps[i]? = some c ∧ H' = upd H T (.tup [.int (i : Nat), .str ⟨#[c]⟩])) :=
  ⟨fun _ _ hi _ => hi, fun _ _ => rfl, fun _ _ _ _ _ _ y => y⟩
theorem same_new {H : Hp} {p : Addr} {o : HO} (h : H p = none) : Same H (upd H p o) := fun b x e => by
  rw [upd_ne (ne_of_none e h)]
  exact e
theorem drop_at {z : Str} {i c : Nat} (h : z.cps[i]? = some c) : z.cps.toList.drop i = c :: z.cps.toList.drop (i + 1) := by
  have h' : z.cps.toList[i]? = some c := by rw [Array.getElem?_toList]; exact h
  obtain ⟨lt, e⟩ := List.getElem?_eq_some_iff.mp h'
  rw [List.drop_eq_getElem_cons lt, e]
section
variable {P : Program} {w : World} {K : PySem.W.Frag} {mg : Str → Option Value} {base : Heap}
def vFault (l : List Nat) : V := match fault l with | none => .non | some i => .int (i : Nat)
def spFault : Sp := fun vs H Q _ => ∃ z : Str, vs = [.str z] ∧ ∀ H', Same H H' → Q (vFault z.cps.toList) H'
theorem ok_first_fault {f : Addr} {fd : FuncData} {k : Nat} (F : Fun K "first_fault" "first_fault" s_first_fault f fd) (me : mg "enumerate" = none) (mL : ∃ t, mg "LETTERS" = some (.str "ABCDabcd" t)) :
    FnOk P w K mg base CX0 (k + 1) f fd ["letters"] spFault := by
  obtain ⟨tL, mL⟩ := mL
  refine F.ok sc_first_fault (fun vs H Q E h => ?_) (fun cdv A outer s H vs Q E hr h => ?_)
  · obtain ⟨z, rfl, _⟩ := h
    rfl
  · obtain ⟨z, rfl, q⟩ := h
    refine ⟨_, pss_cons (ps_set (i := 1) sc_first_fault.nd rfl (.inl rfl) pe_str)
      (pss_cons (ps_for PassesOwn.never rfl (pi_enumS (by rfl) me (pa_cons (pv 0) pa_nil))
          (pg_tup rfl (pgs_cons (pg_name (i := 2) sc_first_fault.nd rfl (.inl rfl)) (pgs_cons (pg_name (i := 3) sc_first_fault.nd rfl (.inl rfl)) pgs_nil)))
        (pss_cons (ps_if (PW.pt (pw_or (pt_cmpR op_notIn_sign (pv 3) (pe_glob (v := .str "ABCDabcd") (by rfl) mL ⟨_, rfl⟩) rfl)
            (pw_or1 (pt_cmpR op_eq (pe_m0 PySem.F.slot_str_swapcase PySem.F.type_str_swapcase mt_swapcase (pv 3)) (pv 1) (nomark _)))))
          (pss_one (ps_ret (pv 2))) pss_nil)
        (pss_one (ps_set (i := 1) sc_first_fault.nd rfl (.inl rfl) (pv 3)))))
      (pss_one (ps_ret pe_non))), ?_⟩
    refine ⟨.str z, rfl, z, rfl, for_it walk_enumS (fun i σ H1 => ∃ p y2 y3, σ = [some (.str z), some (.str (prevT p)), y2, y3] ∧ Same H H1 ∧ faultFrom p i (z.cps.toList.drop i) = fault z.cps.toList)
      ⟨none, none, none, rfl, Same.refl H, rfl⟩ (fun _ _ _ _ _ => trivial) (fun i x σ H1 H2 hi hP hY => ?_) (fun σ H1 hP => ?_)⟩
    · obtain ⟨p, y2, y3, rfl, sm, ef⟩ := hP
      obtain ⟨T, c, rfl, nT, hc, rfl⟩ := hY
      rw [drop_at hc] at ef
      refine ⟨T, _, rfl, .inl (.inl upd_same), rfl, _, _, rfl, _, _, rfl, rfl, ?_⟩
      have sm2 : Same H (upd H1 T (.tup [.int (i : Nat), .str ⟨#[c]⟩])) := sm.trans (same_new nT)
      have mem : decide (c ∈ (Str.ofString "ABCDabcd").cps.toList) = isL c := by
        rw [letters_T]
        rfl
      refine ⟨.str ⟨#[c]⟩, rfl, c, _, rfl, rfl, _, rfl, ?_⟩
      rw [mem]
      by_cases hL : isL c = true
      · rw [hL]
        refine iteF ?_
        refine ⟨.str ⟨#[c]⟩, rfl, ⟨_, rfl⟩, _, rfl, rfl, (by show 1 ≤ 5592405; decide), .str (prevT p), rfl, rfl, _, rfl, ?_⟩
        rw [swap_up c hL, eq_prev]
        refine ite2 (fun hp => ?_) (fun hp => ?_)
        · have e : fault z.cps.toList = some i := by
            rw [← ef]
            exact if_pos (.inr (of_decide_eq_true hp))
          refine ⟨_, rfl, ?_⟩
          have r := q _ sm2
          unfold vFault at r
          rw [e] at r
          exact r
        · refine ⟨_, rfl, some c, _, _, rfl, sm2, ?_⟩
          have n : ¬ (isL c = false ∨ some (up c) = p) := by
            rintro (z1 | z2)
            · rw [hL] at z1
              cases z1
            · exact hp (decide_eq_true z2)
          rw [← ef]
          exact (if_neg n).symm
      · have hL' : isL c = false := by simpa using hL
        rw [hL']
        refine iteT (iteT ?_)
        have e : fault z.cps.toList = some i := by
          rw [← ef]
          exact if_pos (.inl hL')
        refine ⟨_, rfl, ?_⟩
        have r := q _ sm2
        unfold vFault at r
        rw [e] at r
        exact r
    · obtain ⟨p, y2, y3, rfl, sm, ef⟩ := hP
      have e : fault z.cps.toList = none := by
        rw [← ef, show z.cps.size = z.cps.toList.length from rfl, List.drop_length]
        rfl
      have r := q _ sm
      unfold vFault at r
      rw [e] at r
      exact r
theorem ok_BadWord_init {f : Addr} {fd : FuncData} {k : Nat} (F : Fun K "__init__" "BadWord.__init__" s_BadWord_init f fd) : FnOk P w K mg base CX0 (k + 1) f fd ["self", "at"] (spErr1 K "at") := by
  refine F.ok sc_BadWord_init (fun vs H Q E h => init1_sp h) (fun cdv A outer s H vs Q E hr h => ?_)
  exact ⟨_, pss_one (ps_ost (pv 0) (pv 1)), init1_read rfl h⟩
/-- any value, and whether it is a text -/
def AnyV (K : PySem.W.Frag) (H : Hp) (x : V) : Prop := (∃ z : Str, x = .str z) ∨ ∃ t, TyX K H x t ∧ PySem.W.kitOne K t (.type "str") = some false
theorem isStr_of {K : PySem.W.Frag} {H : Hp} {x : V} (h : AnyV K H x) : ∃ t b, TyX K H x t ∧ PySem.W.kitOne K t (.type "str") = some b ∧ (b = true → ∃ z : Str, x = .str z) ∧ (b = false → ∀ z : Str, x ≠ .str z) := by
  rcases h with ⟨z, rfl⟩ | ⟨t, ty, e⟩
  · exact ⟨.type "str", true, .base (.str z), kit_ty (by decide +kernel), fun _ => ⟨z, rfl⟩, fun z => nomatch z⟩
  · refine ⟨t, false, ty, e, (fun z => nomatch z), fun _ z hz => ?_⟩
    subst hz
    cases ty with
    | base b =>
      cases b
      have z : PySem.W.kitOne K (.type "str") (.type "str") = some true := kit_ty (by decide +kernel)
      rw [z] at e
      cases e
theorem ok_TooMany_init {f : Addr} {fd : FuncData} {k : Nat} (F : Fun K "__init__" "TooMany.__init__" s_TooMany_init f fd) : FnOk P w K mg base CX0 (k + 1) f fd ["self", "what", "most"] (spErr2 K "what" "most") := by
  refine F.ok sc_TooMany_init (fun vs H Q E h => init2_sp h) (fun cdv A outer s H vs Q E hr h => ?_)
  exact ⟨_, pss_cons (ps_ost (pv 0) (pv 1)) (pss_one (ps_ost (pv 0) (pv 2))), init2_read rfl h⟩
/-- a Word of the letters z at a -/
def WordAt (CW : Addr) (H : Hp) (a : Addr) (z : Str) : Prop := ∃ dx, H a = some (.ins CW dx [("letters", .str z)])
theorem same_made {H H' : Hp} {x dx C : Addr} {o : HO} (nx : H x = none) (nd : H dx = none) (s : Same (upd (upd H dx (.own x)) x (.ins C dx [])) H') : Same H (upd H' x o) := fun b u e => by
  have bx : b ≠ x := ne_of_none e nx
  have bd : b ≠ dx := ne_of_none e nd
  rw [upd_ne bx]
  refine s b u ?_
  rw [upd_ne bx, upd_ne bd]
  exact e
def spWordI (K : PySem.W.Frag) (CW CB CM : Addr) : Sp := fun vs H Q E => ∃ (a dx : Addr) (x : V), vs = [.ref a, x] ∧ H a = some (.ins CW dx []) ∧ AnyV K H x ∧
  (∀ z : Str, x = .str z → z.length ≤ 100000 ∧
    (∀ i, fault z.cps.toList = some i → ∀ H' d, Same H H' → H' d = none → E (.ref CB) (some d) (upd H' d (.xd [("at", .int (i : Nat))]))) ∧
    (fault z.cps.toList = none → 4000 < z.length → ∀ H' d, Same H H' → H' d = none → E (.ref CM) (some d) (upd H' d (.xd [("most", .int 4000), ("what", .str "letters")]))) ∧
    (fault z.cps.toList = none → z.length ≤ 4000 → ∀ H', Same H H' → Q .non (upd H' a (.ins CW dx [("letters", .str z)])))) ∧
  ((∀ z : Str, x ≠ .str z) → ∀ d, H d = none → E (.ref CB) (some d) (upd H d (.xd [("at", .int 0)])))
theorem ok_Word_init {f CW CB CM fB fF fM : Addr} {fd fdB fdF fdM : FuncData} {k : Nat} (F : FunD K "__init__" "Word.__init__" (defArgs s_Word_init) (defBody s_Word_init) (defScope s_Word_init) [.str ""] [] f fd) (T : Err1 K mg "BadWord" "at" CB fB) (FB : Fun K "__init__" "BadWord.__init__" s_BadWord_init fB fdB) (bB : Binds K fdB ["self", "at"] [])
    (TM : Err2 K mg "TooMany" "what" "most" CM fM) (FM : Fun K "__init__" "TooMany.__init__" s_TooMany_init fM fdM) (bM : Binds K fdM ["self", "what", "most"] []) (FF : Fun K "first_fault" "first_fault" s_first_fault fF fdF) (bF : Binds K fdF ["letters"] []) (gF : mg "first_fault" = some (.ref fF)) (cl : Cls K CW) (na : NoAttr K CW "letters")
    (mi : mg "isinstance" = none) (ms : mg "str" = none) (ml : mg "len" = none) (me : mg "enumerate" = none) (mL : ∃ t, mg "LETTERS" = some (.str "ABCDabcd" t)) (mM : ∃ t, mg "MOST_LETTERS" = some (.int 4000 t)) :
    FnOk P w K mg base (L2.CX P w) (k + 3) f fd ["self", "letters"] (spWordI K CW CB CM) := by
  obtain ⟨tM, mM⟩ := mM
  refine FunD.ok F sc_Word_init (fun vs H Q E h => ?_) (fun cdv A outer s H vs Q E hr h => ?_)
  · obtain ⟨a, dx, x, rfl, _⟩ := h
    rfl
  · obtain ⟨a, dx, x, rfl, ha, hx, yes, no⟩ := h
    have nd := sc_Word_init.nd
    have GF : FnOk P w K mg base CX0 (k + 2) fF fdF ["letters"] spFault := ok_first_fault (k := k + 1) FF me mL
    refine ⟨_, pss_cons (ps_if (pt_not (pt_val (pe_callB call_isi (by rfl) mi boot_isinstance (pa_cons (pv 1) (pa_cons (pe_bltn (v := .ty "str") (by rfl) ms PyProof.Rows.boot_str rfl) pa_nil)))))
        (pss_one (ps_raise1 T (ok_BadWord_init (k := k) FB) bB (hr.mono (by omega)) rfl (takes_of rfl rfl rfl rfl) pass0 pe_int)) pss_nil)
      (pss_cons (ps_set (i := 2) nd rfl (.inl rfl) (pe_call GF hr (by rfl) gF FF.kp bF .nil pass0 (pa_cons (pv 1) pa_nil)))
      (pss_cons (ps_if (pt_cmpR op_notN (pv 2) pe_non (nomark _))
        (pss_one (ps_raise1 T (ok_BadWord_init (k := k) FB) bB (hr.mono (by omega)) rfl (takes_of rfl rfl rfl rfl) pass0 (pv 2))) pss_nil)
      (pss_cons (ps_if (pt_cmpR op_gt (pe_callB call_len (by rfl) ml PySem.boot_len (pa_cons (pv 1) pa_nil)) (pe_glob (v := .int 4000) (by rfl) mM ⟨_, rfl⟩) (nomark _))
        (pss_one (ps_raise2 TM (ok_TooMany_init (k := k) FM) bM (hr.mono (by omega)) rfl (takes_of rfl rfl rfl rfl) pass0 pe_str (pe_glob (v := .int 4000) (by rfl) mM ⟨_, rfl⟩))) pss_nil)
      (pss_one (ps_fld (pv 0) (pv 1) rfl))))), ?_⟩
    obtain ⟨t, b, ty, ek, h1, h2⟩ := isStr_of hx
    refine ⟨x, rfl, x, .ty "str", t, .type "str", b, rfl, .ty "str", ty, ek, b, rfl, ?_⟩
    cases b with
    | false =>
      refine iteT ?_
      exact raised1 T fun d hd => no (h2 rfl) d hd
    | true =>
      obtain ⟨z, rfl⟩ := h1 rfl
      refine iteF ?_
      obtain ⟨hl, bad, long, good⟩ := yes z rfl
      refine ⟨.str z, rfl, z, rfl, fun H1 sm => ?_⟩
      refine ⟨_, rfl, rfl, _, rfl, ?_⟩
      cases e : fault z.cps.toList with
      | some i =>
        have ev : vFault z.cps.toList = .int (i : Nat) := by
          unfold vFault
          rw [e]
        rw [ev]
        refine iteT ?_
        refine ⟨_, rfl, ?_⟩
        exact raised1 T fun d hd => bad i e H1 d sm hd
      | none =>
        have ev : vFault z.cps.toList = .non := by
          unfold vFault
          rw [e]
        rw [ev]
        refine iteF ?_
        refine ⟨.str z, rfl, .str z, z.length, rfl, ⟨by rw [sizeLine_eq]; omega, rfl⟩, _, _, rfl, rfl, _, rfl, ?_⟩
        by_cases le : z.length ≤ 4000
        · have nb : decide ((4000 : Int) < (z.length : Int)) = false := decide_eq_false (by omega)
          rw [nb]
          refine iteF ?_
          exact ⟨.str z, rfl, .ref a, rfl, a, CW, dx, [], rfl, sm _ _ ha, cl, na, by decide, good e le H1 sm⟩
        · have nb : decide ((4000 : Int) < (z.length : Int)) = true := decide_eq_true (by omega)
          rw [nb]
          refine iteT ?_
          exact raised2 TM fun d hd => long e (by omega) H1 d sm hd
end
end K01
-- M6
namespace SB
open PySem PySem.Spec PyProof.Rows L2
/-! ### what is left of a row of letters, once they undo one another -/
def push (l : List Nat) (c : Nat) : List Nat := if l.getLast? = some (up c) then l.dropLast else l ++ [c]
def strike (l : List Nat) : List Nat := l.foldl push []
def allL (l : List Nat) : Prop := ∀ c ∈ l, isL c = true
theorem allL_take {l : List Nat} (h : allL l) (n : Nat) : allL (l.take n) := fun c hc => h c (List.mem_of_mem_take hc)
theorem allL_drop {l : List Nat} (h : allL l) (n : Nat) : allL (l.drop n) := fun c hc => h c (List.mem_of_mem_drop hc)
theorem allL_app {a b : List Nat} (h : allL a) (k : allL b) : allL (a ++ b) := fun c hc => (List.mem_append.mp hc).elim (h c) (k c)
theorem allL_left {a b : List Nat} (h : allL (a ++ b)) : allL a := fun c hc => h c (List.mem_append_left _ hc)
theorem allL_right {a b : List Nat} (h : allL (a ++ b)) : allL b := fun c hc => h c (List.mem_append_right _ hc)
/-- a row is whole: letters, none behind the one that it undoes -/
def Fine (l : List Nat) : Prop := allL l ∧ flat l l.length
theorem fine_iff (l : List Nat) : fault l = none ↔ Fine l := fault_iff l
theorem fine_nil : Fine [] := ⟨fun c h => (nomatch h), fun j c d h => absurd h (by simp)⟩
theorem fine_pre {a b : List Nat} (h : Fine (a ++ b)) : Fine a := by
  refine ⟨allL_left h.1, fun j c d hj e1 e2 => h.2 j c d (by rw [List.length_append]; omega) ?_ ?_⟩
  · rw [List.getElem?_append_left (by omega)]
    exact e1
  · rw [List.getElem?_append_left (by omega)]
    exact e2
theorem fine_dropLast {l : List Nat} (h : Fine l) : Fine l.dropLast := by
  cases e : l.getLast? with
  | none =>
    rw [List.getLast?_eq_none_iff] at e
    subst e
    exact h
  | some d =>
    obtain ⟨r, rfl⟩ := last_split e
    rw [List.dropLast_concat]
    exact fine_pre h
theorem fine_snoc {l : List Nat} {c : Nat} (h : Fine l) (hc : isL c = true) (n : l.getLast? ≠ some (up c)) : Fine (l ++ [c]) := by
  rw [← fine_iff] at h ⊢
  refine fault_snoc h hc fun d hd e => n ?_
  have dL : isL d = true := letters_of _ _ _ h d (List.mem_of_getLast? hd)
  rw [hd, e, up_up d dL]
theorem fine_push {l : List Nat} {c : Nat} (h : Fine l) (hc : isL c = true) : Fine (push l c) := by
  unfold push
  by_cases e : l.getLast? = some (up c)
  · rw [if_pos e]
    exact fine_dropLast h
  · rw [if_neg e]
    exact fine_snoc h hc e
theorem fine_fold : ∀ (b s : List Nat), Fine s → allL b → Fine (b.foldl push s)
  | [], _, hs, _ => hs
  | c :: r, s, hs, hb => fine_fold r (push s c) (fine_push hs (hb c List.mem_cons_self)) fun d hd => hb d (List.mem_cons_of_mem _ hd)
theorem fine_strike {l : List Nat} (h : allL l) : Fine (strike l) := fine_fold l [] fine_nil h
theorem len_fold : ∀ (b s : List Nat), (b.foldl push s).length ≤ s.length + b.length
  | [], s => Nat.le_refl _
  | c :: r, s => by
    have h := len_fold r (push s c)
    have h2 : (push s c).length ≤ s.length + 1 := by
      unfold push
      split
      · rw [List.length_dropLast]
        omega
      · rw [List.length_append]
        exact Nat.le_refl _
    show (r.foldl push (push s c)).length ≤ s.length + (r.length + 1)
    omega
theorem len_strike (l : List Nat) : (strike l).length ≤ l.length := by
  have := len_fold l []
  simpa [strike] using this
theorem strike_snoc (l : List Nat) (c : Nat) : strike (l ++ [c]) = push (strike l) c := by
  unfold strike
  rw [List.foldl_append]
  rfl
theorem push_fine {l : List Nat} {c : Nat} (h : Fine (l ++ [c])) : push l c = l ++ [c] := by
  unfold push
  rw [if_neg]
  intro e
  obtain ⟨r, rfl⟩ := last_split e
  have q := h.2 r.length c (up c) (by simp) (by simp) (by simp)
  have cL : isL c = true := h.1 c (by simp)
  exact q (up_up c cL).symm
theorem fold_fine : ∀ (b s : List Nat), Fine (s ++ b) → b.foldl push s = s ++ b
  | [], s, _ => (List.append_nil s).symm
  | c :: r, s, h => by
    have h1 : s ++ c :: r = (s ++ [c]) ++ r := by simp
    have h2 : Fine (s ++ [c]) := by
      rw [h1] at h
      exact fine_pre h
    show r.foldl push (push s c) = s ++ c :: r
    rw [push_fine h2, h1]
    rw [h1] at h
    exact fold_fine r (s ++ [c]) h
theorem strike_fine {l : List Nat} (h : Fine l) : strike l = l := by
  have := fold_fine l [] h
  simpa [strike] using this
theorem push_push {s : List Nat} {x y : Nat} (hs : Fine s) (hy : isL y = true) (e : x = up y) : push (push s x) y = s := by
  subst e
  have uy : isL (up y) = true := up_isL y hy
  by_cases c : s.getLast? = some (up (up y))
  · have e1 : push s (up y) = s.dropLast := by
      unfold push
      rw [if_pos c]
    rw [up_up y hy] at c
    obtain ⟨r, rfl⟩ := last_split c
    rw [e1, List.dropLast_concat]
    exact push_fine hs
  · have e1 : push s (up y) = s ++ [up y] := by
      unfold push
      rw [if_neg c]
    rw [e1]
    unfold push
    rw [if_pos (by simp), List.dropLast_concat]
theorem strike_pair {a b : List Nat} {x y : Nat} (h : allL (a ++ x :: y :: b)) (e : x = up y) : strike (a ++ x :: y :: b) = strike (a ++ b) := by
  unfold strike
  rw [List.foldl_append, List.foldl_append]
  show b.foldl push (push (push (a.foldl push []) x) y) = b.foldl push (a.foldl push [])
  rw [push_push (fine_fold a [] fine_nil (allL_left h)) (h y (by simp)) e]
theorem str_ext {a b : Str} (h : a.cps.toList = b.cps.toList) : a = b := by
  cases a
  cases b
  simp only [Str.mk.injEq]
  exact Array.toList_inj.mp h
theorem join_codes (e : Str) (he : e.cps.toList = []) : ∀ l : List Nat, (Str.join e (l.map s1)).cps.toList = l
  | [] => rfl
  | [c] => rfl
  | c :: d :: r => by
    have ih := join_codes e he (d :: r)
    show ((s1 c ++ e) ++ Str.join e ((d :: r).map s1)).cps.toList = _
    rw [app_codes, app_codes, ih, he]
    rfl
theorem join_one (l : List Nat) : Txt.join "" (l.map s1) = T l := by
  refine str_ext ?_
  unfold Txt.join
  rw [StrLaws.glued_eq_join, join_codes _ (by rfl)]
  rfl
theorem join_sum (l : List Nat) : ((l.map s1).map (·.length)).sum = l.length := by
  induction l with
  | nil => rfl
  | cons a r ih =>
    rw [List.map_cons, List.map_cons, List.sum_cons, ih, List.length_cons]
    show 1 + r.length = r.length + 1
    omega
/-- the first sign that is no letter -/
def strange (i : Nat) : List Nat → Option Nat
  | [] => none
  | c :: r => if isL c = false then some i else strange (i + 1) r
theorem strange_none : ∀ (l : List Nat) (i : Nat), strange i l = none ↔ allL l
  | [], i => ⟨fun _ c h => (nomatch h), fun _ => rfl⟩
  | c :: r, i => by
    show (if isL c = false then some i else strange (i + 1) r) = none ↔ _
    by_cases e : isL c = false
    · rw [if_pos e]
      refine ⟨fun z => (nomatch z), fun h => ?_⟩
      rw [h c List.mem_cons_self] at e
      cases e
    · rw [if_neg e, strange_none r (i + 1)]
      constructor
      · intro h d hd
        rcases List.mem_cons.mp hd with q | q
        · rw [q]
          simpa using e
        · exact h d q
      · intro h d hd
        exact h d (List.mem_cons_of_mem _ hd)
end SB
-- K01B
namespace K01
open PySem PySem.Spec PyProof.Rows L2 SB
theorem in_letters (c : Nat) : decide (c ∈ (Str.ofString "ABCDabcd").cps.toList) = isL c := by
  rw [letters_T]
  rfl
def vs1 (l : List Nat) : List V := l.map fun c => V.str (s1 c)
theorem vs1_last {l : List Nat} {d : Nat} (h : l.getLast? = some d) : atI (vs1 l) (-1) = some (.str (s1 d)) := by
  obtain ⟨r, rfl⟩ := last_split h
  unfold vs1
  rw [List.map_append]
  exact atI_last _ _
section
variable {P : Program} {w : World} {K : PySem.W.Frag} {mg : Str → Option Value} {base : Heap}
def vStrange (l : List Nat) : V := match strange 0 l with | none => .non | some i => .int (i : Nat)
def spStrange : Sp := fun vs H Q _ => ∃ z : Str, vs = [.str z] ∧ ∀ H', Same H H' → Q (vStrange z.cps.toList) H'
theorem ok_first_stranger {f : Addr} {fd : FuncData} {k : Nat} (F : Fun K "first_stranger" "first_stranger" s_first_stranger f fd) (m_enumerate : mg "enumerate" = none) (mL : ∃ t, mg "LETTERS" = some (.str "ABCDabcd" t)) :
    FnOk P w K mg base CX0 (k + 1) f fd ["letters"] spStrange := by
  obtain ⟨tL, mL⟩ := mL
  refine F.ok sc_first_stranger (fun vs H Q E h => ?_) (fun cdv A outer s H vs Q E hr h => ?_)
  · obtain ⟨z, rfl, _⟩ := h
    rfl
  · obtain ⟨z, rfl, q⟩ := h
    have nd := sc_first_stranger.nd
    refine ⟨_, (pss_cons (ps_for PassesOwn.never rfl (pi_enumS (by rfl) m_enumerate (pa_cons (pv 0) pa_nil)) (pg_tup rfl (pgs_cons (pg_name (i := 1) nd rfl (.inl rfl)) (pgs_cons (pg_name (i := 2) nd rfl (.inl rfl)) pgs_nil))) (pss_one (ps_if (pt_cmpR op_notIn_sign (pv 2) (pe_glob (v := .str "ABCDabcd") (by rfl) mL ⟨_, rfl⟩) rfl) (pss_one (ps_ret (pv 1))) pss_nil)))
      (pss_one (ps_ret pe_non))), ?_⟩
    refine ⟨.str z, rfl, z, rfl, for_it walk_enumS (fun i σ H1 => ∃ y1 y2, σ = [some (.str z), y1, y2] ∧ Same H H1 ∧ strange i (z.cps.toList.drop i) = strange 0 z.cps.toList)
      ⟨none, none, rfl, Same.refl H, rfl⟩ (fun _ _ _ _ _ => trivial) (fun i x σ H1 H2 hi hP hY => ?_) (fun σ H1 hP => ?_)⟩
    · obtain ⟨y1, y2, rfl, sm, ef⟩ := hP
      obtain ⟨T, c, rfl, nT, hc, rfl⟩ := hY
      rw [drop_at hc] at ef
      have sm2 : Same H (upd H1 T (.tup [.int (i : Nat), .str ⟨#[c]⟩])) := sm.trans (same_new nT)
      refine ⟨T, _, rfl, .inl (.inl upd_same), rfl, _, _, rfl, _, _, rfl, rfl, .str (s1 c), rfl, c, _, rfl, rfl, _, rfl, ?_⟩
      rw [in_letters]
      cases hL : isL c with
      | true =>
        refine iteF ⟨_, _, rfl, sm2, ?_⟩
        rw [← ef]
        exact (if_neg (by rw [hL]; decide)).symm
      | false =>
        refine iteT ⟨_, rfl, ?_⟩
        have e : strange 0 z.cps.toList = some i := by
          rw [← ef]
          exact if_pos hL
        have r := q _ sm2
        unfold vStrange at r
        rw [e] at r
        exact r
    · obtain ⟨y1, y2, rfl, sm, ef⟩ := hP
      have e : strange 0 z.cps.toList = none := by
        rw [← ef, show z.cps.size = z.cps.toList.length from rfl, List.drop_length]
        rfl
      have r := q _ sm
      unfold vStrange at r
      rw [e] at r
      exact r
def spStruck : Sp := fun vs H Q _ => ∃ z : Str, vs = [.str z] ∧ z.length ≤ 1000000 ∧ allL z.cps.toList ∧ ∀ H', Same H H' → Q (.str (T (strike z.cps.toList))) H'
theorem ok_struck {f : Addr} {fd : FuncData} {k : Nat} (F : Fun K "struck" "struck" s_struck f fd) : FnOk P w K mg base CX0 (k + 1) f fd ["letters"] spStruck := by
  refine F.ok sc_struck (fun vs H Q E h => ?_) (fun cdv A outer s H vs Q E hr h => ?_)
  · obtain ⟨z, rfl, _⟩ := h
    rfl
  · obtain ⟨z, rfl, hl, hL, q⟩ := h
    have nd := sc_struck.nd
    refine ⟨_, (pss_cons (ps_set (i := 1) nd rfl (.inl rfl) (pe_lst pa_nil))
      (pss_cons (ps_for PassesOwn.never rfl (pi_str (pv 0)) (pg_name (i := 2) nd rfl (.inl rfl)) (pss_one (ps_if (PW.pt (pw_and (pt_truth (pv 1) (by intro _; rfl)) (pw_and1 (pt_cmpR op_eq (pe_ix ix_list (pv 1) (pe_un un_neg pe_int) (fun _ _ => rfl)) (pe_m0 PySem.F.slot_str_swapcase PySem.F.type_str_swapcase mt_swapcase (pv 2)) (nomark _))))) (pss_one (ps_expr (pe_bm0 PySem.F.plainAttrs_list PySem.F.slot_list_pop PySem.F.type_list_pop mt_pop (pv 1)))) (pss_one (ps_expr (pe_bm PySem.F.plainAttrs_list PySem.F.slot_list_append PySem.F.type_list_append mt_append (pv 1) (pa_cons (pv 2) pa_nil)))))))
      (pss_one (ps_ret (pe_join pe_str (pv 1)))))), ?_⟩
    refine ⟨Nat.zero_le _, fun D hD => ?_⟩
    refine ⟨.str z, rfl, z, rfl, for_it walk_str (fun i σ H1 => ∃ y2, σ = [some (.str z), some (.ref D), y2] ∧ Same H H1 ∧ H1 D = some (.lst (vs1 (strike (z.cps.toList.take i)))))
      ⟨none, rfl, same_new hD, upd_same⟩ (fun _ _ _ _ _ => trivial) (fun i x σ Ha Hb hi hP hY => ?_) (fun σ H1 hP => ?_)⟩
    · obtain ⟨y2, rfl, sm, hD1⟩ := hP
      obtain ⟨rfl, c, hc, rfl⟩ := hY
      have hc' : z.cps.toList[i]? = some c := by
        rw [Array.getElem?_toList]
        exact hc
      have cL : isL c = true := hL c (List.mem_of_getElem? hc')
      have st : strike (z.cps.toList.take (i + 1)) = push (strike (z.cps.toList.take i)) c := by
        rw [List.take_add_one, hc']
        exact strike_snoc _ _
      rw [st]
      have ln := len_strike (z.cps.toList.take i)
      have lt : (z.cps.toList.take i).length ≤ z.cps.toList.length := by
        rw [List.length_take]
        omega
      have small : (vs1 (strike (z.cps.toList.take i))).length < sizeLine := by
        unfold vs1
        rw [List.length_map, sizeLine_eq]
        rw [len_codes] at hl
        omega
      generalize strike (z.cps.toList.take i) = l at hD1 small ⊢
      have keep : ∀ o, Same H (upd Hb D o) := fun o b u e => by
        rw [upd_ne (ne_of_none e hD)]
        exact sm b u e
      cases hlast : l.getLast? with
      | none =>
        have el : l = [] := List.getLast?_eq_none_iff.mp hlast
        subst el
        refine ⟨.ref D, rfl, _, .inl ⟨_, .inl (.inl hD1), rfl⟩, iteF ?_⟩
        refine ⟨.ref D, rfl, .inl ⟨rfl, _, .inl (.inl hD1)⟩, .str (s1 c), rfl, D, _, _, rfl, rfl, hD1, small, ?_⟩
        exact ⟨_, rfl, keep _, upd_same⟩
      | some d =>
        have ne : vs1 l ≠ [] := by
          intro e
          have : l = [] := by simpa [vs1] using e
          rw [this] at hlast
          cases hlast
        have te : (!(vs1 l).isEmpty) = true := by
          cases e : vs1 l with
          | nil => exact (ne e).elim
          | cons a r => rfl
        refine ⟨.ref D, rfl, _, .inl ⟨_, .inl (.inl hD1), rfl⟩, ?_⟩
        rw [te]
        refine iteT ?_
        refine ⟨.ref D, rfl, 1, rfl, D, _, -1, .str (s1 d), rfl, rfl, .inl (.inl hD1), vs1_last hlast, .str (s1 c), rfl, ⟨_, rfl⟩, s1 c, rfl, rfl, (by show 1 ≤ 5592405; decide), rfl, ?_⟩
        rw [swap_up c cL]
        by_cases e : d = up c
        · rw [decide_eq_true (congrArg (fun c => V.str (s1 c)) e)]
          have ep : push l c = l.dropLast := by
            unfold push
            rw [if_pos (by rw [hlast, e])]
          refine ⟨_, rfl, iteT ?_⟩
          refine ⟨.ref D, rfl, .inl ⟨rfl, _, .inl (.inl hD1)⟩, D, _, .str (s1 d), rfl, rfl, hD1, ?_, ?_⟩
          · obtain ⟨r, rfl⟩ := last_split hlast
            unfold vs1
            simp
          · refine ⟨_, rfl, keep _, ?_⟩
            rw [upd_same, ep]
            unfold vs1
            rw [List.map_dropLast]
        · rw [decide_eq_false fun q => e (s1_inj (V.str.inj q))]
          have ep : push l c = l ++ [c] := by
            unfold push
            rw [if_neg (by rw [hlast]; exact fun q => e (Option.some.inj q))]
          refine ⟨_, rfl, iteF ?_⟩
          refine ⟨.ref D, rfl, .inl ⟨rfl, _, .inl (.inl hD1)⟩, .str (s1 c), rfl, D, _, _, rfl, rfl, hD1, small, ?_⟩
          refine ⟨_, rfl, keep _, ?_⟩
          rw [upd_same, ep]
          unfold vs1
          rw [List.map_append]
          rfl
    · obtain ⟨y2, rfl, sm, hD1⟩ := hP
      have full : z.cps.toList.take z.cps.size = z.cps.toList := List.take_of_length_le (by simp)
      rw [full] at hD1
      have ln := len_strike z.cps.toList
      rw [len_codes] at hl
      have ev : vs1 (strike z.cps.toList) = ((strike z.cps.toList).map s1).map V.str := by
        unfold vs1
        rw [List.map_map]
        rfl
      rw [ev] at hD1
      refine ⟨⟨_, rfl⟩, .ref D, rfl, "", D, (strike z.cps.toList).map s1, rfl, rfl, .inl (.inl (.inl hD1)), ?_, ?_⟩
      · rw [join_sum]
        show _ + _ * 0 ≤ 16777216
        omega
      · rw [SB.join_one]
        exact q _ sm
end
end K01
-- K01C
namespace K01
open PySem PySem.Spec PyProof.Rows L2 SB
theorem made_word {H H1 : Hp} {x dx CW : Addr} {z : Str} (nx : H x = none) (nd : H dx = none) (s : Same (upd (upd H dx (.own x)) x (.ins CW dx [])) H1) :
    Same H (upd H1 x (.ins CW dx [("letters", .str z)])) ∧ WordAt CW (upd H1 x (.ins CW dx [("letters", .str z)])) x z := ⟨same_made nx nd s, dx, upd_same⟩
/-- what stood before the making stands behind it -/
theorem same_make {H H1 : Hp} {x dx CW : Addr} (nx : H x = none) (nd : H dx = none) (ne : dx ≠ x) (s : Same (upd (upd H dx (.own x)) x (.ins CW dx [])) H1) : Same H H1 :=
  (same_new nd).trans ((same_new (by rw [upd_ne (Ne.symm ne)]; exact nx)).trans s)
section
variable {P : Program} {w : World} {K : PySem.W.Frag} {mg : Str → Option Value} {base : Heap}
def spOf (K : PySem.W.Frag) (CW CB CM : Addr) : Sp := fun vs H Q E => ∃ (x : V), vs = [x] ∧ AnyV K H x ∧
  (∀ z : Str, x = .str z → z.length ≤ 100000 ∧
    (∀ i, strange 0 z.cps.toList = some i → ∀ H' d, Same H H' → H' d = none → E (.ref CB) (some d) (upd H' d (.xd [("at", .int (i : Nat))]))) ∧
    (allL z.cps.toList → 4000 < (strike z.cps.toList).length → ∀ H' d, Same H H' → H' d = none → E (.ref CM) (some d) (upd H' d (.xd [("most", .int 4000), ("what", .str "letters")]))) ∧
    (allL z.cps.toList → (strike z.cps.toList).length ≤ 4000 → ∀ a H', H a = none → Same H H' → WordAt CW H' a (T (strike z.cps.toList)) → Q (.ref a) H')) ∧
  ((∀ z : Str, x ≠ .str z) → ∀ d, H d = none → E (.ref CB) (some d) (upd H d (.xd [("at", .int 0)])))
theorem ok_Word_of {f CW CB CM fB fS fG fW : Addr} {fd fdB fdS fdG fdW : FuncData} {k : Nat} (F : Fun K "of" "Word.of" s_Word_of f fd) (T : Err1 K mg "BadWord" "at" CB fB) (FB : Fun K "__init__" "BadWord.__init__" s_BadWord_init fB fdB) (bB : Binds K fdB ["self", "at"] [])
    (GS : FnOk P w K mg base CX0 (k + 3) fS fdS ["letters"] spStrange) (bS : Binds K fdS ["letters"] []) (gS : mg "first_stranger" = some (.ref fS)) (kS : PySem.W.keepIn K (.ref fS) = true)
    (GG : FnOk P w K mg base CX0 (k + 3) fG fdG ["letters"] spStruck) (bG : Binds K fdG ["letters"] []) (gG : mg "struck" = some (.ref fG)) (kG : PySem.W.keepIn K (.ref fG) = true)
    (M : Mk K CW fW) (GW : FnOk P w K mg base (L2.CX P w) (k + 3) fW fdW ["self", "letters"] (spWordI K CW CB CM)) (gW : mg "Word" = some (.ref CW)) (bW : Binds K fdW ["self", "letters"] [])
    (mi : mg "isinstance" = none) (ms : mg "str" = none) :
    FnOk P w K mg base (L2.CX P w) (k + 5) f fd ["letters"] (spOf K CW CB CM) := by
  refine F.okX sc_Word_of (fun vs H Q E h => ?_) (fun cdv A outer s H vs Q E hr h => ?_)
  · obtain ⟨x, rfl, _⟩ := h
    rfl
  · obtain ⟨x, rfl, hx, yes, no⟩ := h
    have nd := sc_Word_of.nd
    refine ⟨_, pss_cons (ps_if (pt_not (pt_val (pe_callB call_isi (by rfl) mi boot_isinstance (pa_cons (pv 0) (pa_cons (pe_bltn (v := .ty "str") (by rfl) ms PyProof.Rows.boot_str rfl) pa_nil)))))
        (pss_one (ps_raise1 T (ok_BadWord_init (k := k) FB) bB (hr.mono (by omega)) rfl (takes_of rfl rfl rfl rfl) pass0 pe_int)) pss_nil)
      (pss_cons (ps_set (i := 1) nd rfl (.inl rfl) (pe_call GS (hr.mono (by omega)) (by rfl) gS kS bS .nil pass0 (pa_cons (pv 0) pa_nil)))
      (pss_cons (ps_if (pt_cmpR op_notN (pv 1) pe_non (nomark _))
        (pss_one (ps_raise1 T (ok_BadWord_init (k := k) FB) bB (hr.mono (by omega)) rfl (takes_of rfl rfl rfl rfl) pass0 (pv 1))) pss_nil)
      (pss_one (ps_ret (pe_make M GW (hr.mono (by omega)) (by rfl) gW bW .nil (E := E) (passes_call (takes_of rfl rfl rfl rfl) fun _ _ _ _ q => q) (pa_cons (pe_call GG (hr.mono (by omega)) (by rfl) gG kG bG .nil pass0 (pa_cons (pv 0) pa_nil)) pa_nil)))))), ?_⟩
    obtain ⟨t, b, ty, ek, h1, h2⟩ := isStr_of hx
    refine ⟨x, rfl, x, .ty "str", t, .type "str", b, rfl, .ty "str", ty, ek, b, rfl, ?_⟩
    cases b with
    | false =>
      refine iteT ?_
      exact raised1 T fun d hd => no (h2 rfl) d hd
    | true =>
      obtain ⟨z, rfl⟩ := h1 rfl
      refine iteF ?_
      obtain ⟨hl, bad, long, good⟩ := yes z rfl
      refine ⟨.str z, rfl, z, rfl, fun H1 sm => ?_⟩
      refine ⟨_, rfl, rfl, _, rfl, ?_⟩
      cases e : strange 0 z.cps.toList with
      | some i =>
        have ev : vStrange z.cps.toList = .int (i : Nat) := by
          unfold vStrange
          rw [e]
        rw [ev]
        refine iteT ?_
        refine ⟨_, rfl, ?_⟩
        exact raised1 T fun d hd => bad i e H1 d sm hd
      | none =>
        have ev : vStrange z.cps.toList = .non := by
          unfold vStrange
          rw [e]
        rw [ev]
        refine iteF ?_
        have hL := (strange_none _ _).mp e
        have ln := len_strike z.cps.toList
        have lz : (SB.T (strike z.cps.toList)).length = (strike z.cps.toList).length := rfl
        have cz : (SB.T (strike z.cps.toList)).cps.toList = strike z.cps.toList := rfl
        have fz : fault (SB.T (strike z.cps.toList)).cps.toList = none := (fine_iff _).mpr (fine_strike hL)
        rw [len_codes] at hl
        refine ⟨.str z, rfl, z, rfl, by rw [len_codes]; omega, hL, fun H2 sm2 => ?_⟩
        refine fun x dx nx nd' ne => ⟨x, dx, .str (SB.T (strike z.cps.toList)), rfl, upd_same, .inl ⟨_, rfl⟩, fun z' hz' => ?_, fun nz => (nz _ rfl).elim⟩
        cases hz'
        refine ⟨by omega, (fun i hi => by rw [fz] at hi; cases hi), fun _ l4 H3 d s3 hd => ?_, fun _ l4 H3 s3 => ⟨rfl, ?_⟩⟩
        · exact long hL (by omega) H3 d (sm.trans (sm2.trans (same_make nx nd' ne s3))) hd
        · obtain ⟨s4, w4⟩ := made_word (z := SB.T (strike z.cps.toList)) nx nd' s3
          exact good hL (by omega) x _ (sm.free (sm2.free nx)) (sm.trans (sm2.trans s4)) w4
end
end K01
-- M7
namespace SB
open PySem PySem.Spec PyProof.Rows L2
/-- a pen whose script's ints stand at l -/
def PenQ (l : Addr) (N : Int) (H : Hp) (p : Addr) : Prop := ∃ (ns : List Int) (i j : Int), H p = some (.lst [.ref l, .int i, .int j]) ∧ H l = some (.lst (ns.map V.int)) ∧ 0 ≤ i ∧ i ≤ N
section
variable {N M : Int} {H H' : Hp} {p l b : Addr}
theorem PenQ.mono (h : PenQ l N H p) (le : N ≤ M) : PenQ l M H p := by
  obtain ⟨ns, i, j, h1, h2, h3, h4⟩ := h
  exact ⟨ns, i, j, h1, h2, h3, by omega⟩
theorem PenQ.same (h : PenQ l N H p) (s : Same H H') : PenQ l N H' p := by
  obtain ⟨ns, i, j, h1, h2, h3, h4⟩ := h
  exact ⟨ns, i, j, s _ _ h1, s _ _ h2, h3, h4⟩
theorem PenQ.ne_p (h : PenQ l N H p) (e : H b = none) : b ≠ p := fun q => by
  obtain ⟨_, _, _, z, _⟩ := h
  rw [q, z] at e
  cases e
theorem PenQ.ne_l (h : PenQ l N H p) (e : H b = none) : b ≠ l := fun q => by
  obtain ⟨_, _, _, _, z, _⟩ := h
  rw [q, z] at e
  cases e
theorem PenQ.lp (h : PenQ l N H p) : l ≠ p := by
  obtain ⟨ns, i, j, h1, h2, _⟩ := h
  exact pen_ne h1 h2
/-- written elsewhere -/
theorem PenQ.write {o : HO} (h : PenQ l N H p) (np : b ≠ p) (nl : b ≠ l) : PenQ l N (upd H b o) p := by
  obtain ⟨ns, i, j, h1, h2, h3, h4⟩ := h
  refine ⟨ns, i, j, ?_, ?_, h3, h4⟩
  · rw [upd_ne (Ne.symm np)]
    exact h1
  · rw [upd_ne (Ne.symm nl)]
    exact h2
/-- what isn't a list isn't the pen -/
theorem PenQ.not_p {o : HO} (h : PenQ l N H p) (e : H b = some o) (n : ∀ xs, o ≠ .lst xs) : b ≠ p := fun q => by
  obtain ⟨_, _, _, z, _⟩ := h
  rw [q, z] at e
  exact n _ (Option.some.inj e).symm
theorem Kept.new {H1 : Hp} {o : HO} (k : Kept p H H1) (n : H b = none) : Kept p H (upd H1 b o) := fun c u e m => by
  rw [upd_ne (ne_of_none e n)]
  exact k c u e m
end
end SB
-- K01D1
namespace K01
open PySem PySem.Spec PyProof.Rows L2 SB
section
variable {P : Program} {w : World} {K : PySem.W.Frag} {mg : Str → Option Value} {base : Heap}
def spPen (K : PySem.W.Frag) : Sp := fun vs H Q _ => ∃ (a : Addr) (ns : List Int), vs = [.ref a] ∧ SqL K H a (ns.map V.int) ∧ ∀ p l H', H p = none → H l = none → Same H H' → PenQ l 0 H' p → Q (.ref p) H'
theorem ok_law_pen {f : Addr} {fd : FuncData} {k : Nat} (F : Fun K "_law_pen" "_law_pen" s__law_pen f fd) (ml : mg "list" = none) : FnOk P w K mg base CX0 (k + 1) f fd ["script"] (spPen K) := by
  refine F.ok sc__law_pen (fun vs H Q E h => ?_) (fun cdv A outer s H vs Q E hr h => ?_)
  · obtain ⟨a, ns, rfl, _⟩ := h
    rfl
  · obtain ⟨a, ns, rfl, hS, q⟩ := h
    refine ⟨_, pss_one (ps_ret (pe_lst (pa_cons (pe_callTy call_list_of (by rfl) ml PyProof.Rows.boot_list (pa_cons (pe_slice sl_list (pv 0) po_none (po_some pe_int)) pa_nil)) (pa_cons pe_int (pa_cons pe_int pa_nil))))), ?_⟩
    refine ⟨.ref a, rfl, 63, rfl, a, _, rfl, hS, fun c nc => ?_⟩
    obtain ⟨ms, em, lm⟩ := cut_nums ns none (some 63)
    rw [em]
    refine ⟨c, _, rfl, .inl (.inl (.inl upd_same)), fun l hl => ⟨by show 3 ≤ sizeLine; decide, fun p hp => ?_⟩⟩
    have s1 : Same H (upd H c (.lst (ms.map V.int))) := same_new nc
    have s2 := same_new (o := .lst (ms.map V.int)) hl
    have s3 := same_new (o := .lst [.ref l, .int 0, .int 0]) hp
    refine q p l _ (s1.free (s2.free hp)) (s1.free hl) (s1.trans (s2.trans s3)) ⟨ms, 0, 0, upd_same, s3 _ _ upd_same, by omega, by omega⟩
end
end K01
-- K01D2
namespace K01
open PySem PySem.Spec PyProof.Rows L2 SB
section
variable {P : Program} {w : World} {K : PySem.W.Frag} {mg : Str → Option Value} {base : Heap}
def spDraw : Sp := fun vs H Q _ => ∃ (p l : Addr) (N m : Int), vs = [.ref p, .int m] ∧ PenQ l N H p ∧ N ≤ 100000 ∧ 0 < m ∧ m ≤ 100000 ∧
  ∀ (d : Int) H', 0 ≤ d → d < m → Kept p H H' → PenQ l (N + 1) H' p → Q (.int d) H'
theorem mod_ok (i m : Int) (h : 0 < m) : 0 ≤ i % m ∧ i % m < m := ⟨Int.emod_nonneg _ (by omega), Int.emod_lt_of_pos _ h⟩
theorem ok_law_draw {f : Addr} {fd : FuncData} {k : Nat} (F : Fun K "_law_draw" "_law_draw" s__law_draw f fd) (m_int : mg "int" = none) (m_len : mg "len" = none) (m_abs : mg "abs" = none) : FnOk P w K mg base CX0 (k + 1) f fd ["pen", "many"] spDraw := by
  refine F.ok sc__law_draw (fun vs H Q E h => ?_) (fun cdv A outer s H vs Q E hr h => ?_)
  · obtain ⟨p, l, N, m, rfl, _⟩ := h
    rfl
  · obtain ⟨p, l, N, m, rfl, hP, hN, m0, m1, q⟩ := h
    have nd := sc__law_draw.nd
    refine ⟨_, (pss_cons (ps_if (pt_cmpR op_gt (pe_ix ix_list (pv 0) pe_int (fun _ _ => rfl)) pe_int (nomark _)) (pss_cons (ps_set (i := 2) nd rfl (.inl rfl) (pe_op op_mod (pe_callTy call_int1 (by rfl) m_int PyProof.Rows.boot_int (pa_cons (pe_ix ix_list (pv 0) pe_int (fun _ _ => rfl)) pa_nil)) (pv 1)))
      (pss_cons (ps_asg (pe_op op_fdiv (pe_callTy call_int1 (by rfl) m_int PyProof.Rows.boot_int (pa_cons (pe_ix ix_list (pv 0) pe_int (fun _ _ => rfl)) pa_nil)) (pv 1)) (pg_sub (pv 0) pe_int set_list))
      (pss_one (ps_ret (pv 2))))) pss_nil)
      (pss_cons (ps_set (i := 3) nd rfl (.inl rfl) (pe_ix ix_list (pv 0) pe_int (fun _ _ => rfl)))
      (pss_cons (ps_asg (pe_op op_add (pv 3) pe_int) (pg_sub (pv 0) pe_int set_list))
      (pss_cons (ps_set (i := 4) nd rfl (.inl rfl) (pe_op op_add (pe_op op_mul pe_int (pv 3)) pe_int))
      (C8.pss_cut (ps_if (pt_cmpR (op_neD hr.units) (pe_ix ix_list (pv 0) pe_int (fun _ _ => rfl)) (pe_lst pa_nil) (nomark _)) (pss_one (ps_set (i := 4) nd rfl (.inl rfl) (pe_ix ix_list (pe_ix ix_list (pv 0) pe_int (fun _ _ => rfl)) (pe_op op_mod (pe_callTy call_int1 (by rfl) m_int PyProof.Rows.boot_int (pa_cons (pv 3) pa_nil)) (pe_callB call_len_seq (by rfl) m_len PySem.boot_len (pa_cons (pe_ix ix_list (pv 0) pe_int (fun _ _ => rfl)) pa_nil))) (fun _ _ => rfl)))) pss_nil)
      (pss_cons (ps_if (PW.pt (pw_and (pt_cmpR op_lt (pv 3) (pe_callB call_len_seq (by rfl) m_len PySem.boot_len (pa_cons (pe_ix ix_list (pv 0) pe_int (fun _ _ => rfl)) pa_nil)) (nomark _)) (pw_and1 (pt_cmpR op_ge (pe_callB call_abs (by rfl) m_abs PyProof.Rows.boot_abs (pa_cons (pv 4) pa_nil)) (pe_op op_pow pe_int pe_int) (nomark _))))) (pss_cons (ps_set (i := 5) nd rfl (.inl rfl) (pe_op op_add (pe_op op_mul pe_int (pe_op op_sub (pe_callB call_abs (by rfl) m_abs PyProof.Rows.boot_abs (pa_cons (pv 4) pa_nil)) (pe_op op_pow pe_int pe_int))) (pe_callTy call_int1 (by rfl) m_int PyProof.Rows.boot_int (pa_cons (pe_cmpR op_lt (pv 4) pe_int (nomark _)) pa_nil))))
      (pss_cons (ps_asg (pe_op op_fdiv (pe_callTy call_int1 (by rfl) m_int PyProof.Rows.boot_int (pa_cons (pv 5) pa_nil)) (pv 1)) (pg_sub (pv 0) pe_int set_list))
      (pss_one (ps_ret (pe_op op_mod (pe_callTy call_int1 (by rfl) m_int PyProof.Rows.boot_int (pa_cons (pv 5) pa_nil)) (pv 1)))))) pss_nil)
      (pss_cons (ps_set (i := 6) nd rfl (.inl rfl) (pe_op op_mod (pe_callTy call_int1 (by rfl) m_int PyProof.Rows.boot_int (pa_cons (pe_op op_pow (pe_op op_add (pe_op op_add (pe_op op_mod (pe_callTy call_int1 (by rfl) m_int PyProof.Rows.boot_int (pa_cons (pv 4) pa_nil)) pe_int) (pe_op op_mul pe_int (pv 3))) pe_int) pe_int) pa_nil)) pe_int))
      (pss_cons (ps_set (i := 6) nd rfl (.inl rfl) (pe_op op_mod (pe_callTy call_int1 (by rfl) m_int PyProof.Rows.boot_int (pa_cons (pe_op op_pow (pe_op op_add (pe_op op_add (pe_op op_mul (pv 6) (pe_op op_add (pe_op op_mul pe_int (pv 3)) pe_int)) (pe_op op_mul (pe_op op_mul pe_int (pv 3)) (pv 3))) pe_int) pe_int) pa_nil)) pe_int))
      (pss_one (ps_ret (pe_op op_mod (pe_callTy call_int1 (by rfl) m_int PyProof.Rows.boot_int (pa_cons (pe_op op_fdiv (pv 6) pe_int) pa_nil)) (pv 1)))))))))))), ?_⟩
    obtain ⟨ns, i, j, hp, hl, i0, i1⟩ := hP
    have lp : l ≠ p := pen_ne hp hl
    have L0 : SqL K H p [.ref l, .int i, .int j] := .inl (.inl hp)
    have mm : (0 : Int) < m ∧ m < 1073741824 := ⟨m0, by omega⟩
    refine ⟨.ref p, rfl, p, _, 2, .int j, rfl, rfl, L0, atI_nat (j := 2) rfl, j, 0, rfl, rfl, _, rfl, ite2 (fun e => ?_) (fun e => ?_)⟩
    · -- what is left of a great cell
      refine ⟨.ref p, rfl, p, _, 2, .int j, rfl, rfl, L0, atI_nat (j := 2) rfl, .inl ⟨j, rfl, .int m, rfl, j, m, rfl, rfl, m0, ?_⟩⟩
      refine ⟨.ref p, rfl, p, _, 2, .int j, rfl, rfl, L0, atI_nat (j := 2) rfl, .inl ⟨j, rfl, .int m, rfl, j, m, rfl, rfl, mm, ?_⟩⟩
      refine ⟨.ref p, rfl, p, _, 2, 2, rfl, rfl, hp, rfl, ?_⟩
      refine ⟨.int (j % m), rfl, ?_⟩
      obtain ⟨d0, d1⟩ := mod_ok j m m0
      refine q _ _ d0 d1 (Kept.write (Kept.refl p H)) ⟨ns, i, j / m, upd_same, ?_, i0, by omega⟩
      rw [upd_ne lp]
      exact hl
    · refine ⟨.ref p, rfl, p, _, 1, .int i, rfl, rfl, L0, atI_nat (j := 1) rfl, ?_⟩
      refine ⟨.int i, rfl, i, 1, rfl, rfl, .ref p, rfl, p, _, 1, 1, rfl, rfl, hp, rfl, ?_⟩
      have hp1 : upd H p (.lst [.ref l, .int (i + 1), .int j]) p = some (.lst [.ref l, .int (i + 1), .int j]) := upd_same
      have hl1 : upd H p (.lst [.ref l, .int (i + 1), .int j]) l = some (.lst (ns.map V.int)) := by
        rw [upd_ne lp]
        exact hl
      have K1 : Kept p H (upd H p (.lst [.ref l, .int (i + 1), .int j])) := Kept.write (Kept.refl p H)
      have L1 : SqL K (upd H p (.lst [.ref l, .int (i + 1), .int j])) p [.ref l, .int (i + 1), .int j] := .inl (.inl hp1)
      have M1 : SqL K (upd H p (.lst [.ref l, .int (i + 1), .int j])) l (ns.map V.int) := .inl (.inl hl1)
      refine ⟨.int i, rfl, 69119, i, rfl, rfl, .inl ⟨by decide, by decide⟩, _, 1213, rfl, rfl, ?_⟩
      refine ⟨fun σ' H' => ∃ (c : Int), σ' = [some (.ref p), some (.int m), none, some (.int i), some (.int c), none, none] ∧ H' p = some (.lst [.ref l, .int (i + 1), .int j]) ∧ H' l = some (.lst (ns.map V.int)) ∧ Kept p H H', ?_, ?_⟩
      · -- cell
        refine ⟨.ref p, rfl, p, _, 0, .ref l, rfl, rfl, L1, atI_nat (j := 0) rfl, Nat.zero_le _, fun b hb => ?_⟩
        have sb := same_new (o := .lst []) hb
        have L2' : SqL K (upd (upd H p (.lst [.ref l, .int (i + 1), .int j])) b (.lst [])) p [.ref l, .int (i + 1), .int j] := .inl (.inl (sb _ _ hp1))
        have M2 : SqL K (upd (upd H p (.lst [.ref l, .int (i + 1), .int j])) b (.lst [])) l (ns.map V.int) := .inl (.inl (sb _ _ hl1))
        refine ⟨.list (ns.map PyData.int), .list [], .lst M2 (dp_nums ns), .lst (.inl (.inl upd_same)) .nil, shaped_nums ns, rfl, ?_⟩
        rw [eqv_empty]
        by_cases en : ns = []
        · rw [decide_eq_true en]
          refine ⟨false, rfl, iteF ?_⟩
          exact ⟨_, rfl, sb _ _ hp1, sb _ _ hl1, K1.trans (Kept.of sb)⟩
        · rw [decide_eq_false en]
          refine ⟨true, rfl, iteT ?_⟩
          have pos : 0 < ns.length := List.length_pos_iff.mpr en
          have zl : ((ns.map V.int).length : Int) = (ns.length : Int) := by rw [List.length_map]
          obtain ⟨r0, r1⟩ := mod_ok i (ns.length : Int) (by omega)
          have rt : (i % (ns.length : Int)).toNat < ns.length := by omega
          refine ⟨.ref p, rfl, p, _, 0, .ref l, rfl, rfl, L2', atI_nat (j := 0) rfl, .int i, rfl, .inl ⟨i, rfl, ?_⟩⟩
          refine ⟨.ref p, rfl, p, _, 0, .ref l, rfl, rfl, L2', atI_nat (j := 0) rfl, l, _, rfl, .inl M2, i, _, rfl, rfl, ?_, ?_⟩
          · rw [zl]
            omega
          · refine ⟨l, _, _, .int (ns[(i % (ns.length : Int)).toNat]), rfl, rfl, M2, at_of (j := (i % (ns.length : Int)).toNat) (by rw [zl]; omega) ?_, ?_⟩
            · rw [List.getElem?_map, List.getElem?_eq_getElem rt]
              rfl
            · exact ⟨_, rfl, sb _ _ hp1, sb _ _ hl1, K1.trans (Kept.of sb)⟩
      · rintro σ' H2 ⟨c, rfl, hp2, hl2, K2⟩
        have L2' : SqL K H2 p [.ref l, .int (i + 1), .int j] := .inl (.inl hp2)
        have M2 : SqL K H2 l (ns.map V.int) := .inl (.inl hl2)
        have zl : ((ns.map V.int).length : Int) = (ns.length : Int) := by rw [List.length_map]
        -- the rest behind a cell that isn't great
        refine ⟨.int i, rfl, .ref p, rfl, p, _, 0, .ref l, rfl, rfl, L2', atI_nat (j := 0) rfl, l, _, rfl, .inl M2, i, _, rfl, rfl, _, rfl, ?_⟩
        have out : ∀ r : Int, Q (.int (r % m)) H2 := fun r => by
          obtain ⟨d0, d1⟩ := mod_ok r m m0
          exact q _ _ d0 d1 K2 ⟨ns, i + 1, j, hp2, hl2, by omega, by omega⟩
        have ten : CPow 10 18 := ⟨by decide, by decide, by decide⟩
        refine ite2 (fun e1 => ⟨.int c, rfl, c, rfl, 10, 18, rfl, rfl, ten, _, _, rfl, rfl, _, rfl, ite2 (fun e2 => ?great) (fun e2 => ?t1)⟩) (fun e1 => iteF ?t2)
        case great =>
          refine ⟨.int c, rfl, c, rfl, 10, 18, rfl, rfl, ten, _, _, rfl, rfl, 2, _, rfl, rfl, .inl ⟨by decide, by decide⟩, .int c, rfl, c, 0, rfl, rfl, .inr ⟨_, rfl, _, _, rfl, rfl, ?_⟩⟩
          refine ⟨_, rfl, .inl ⟨_, rfl, .int m, rfl, _, m, rfl, rfl, mm, ?_⟩⟩
          refine ⟨.ref p, rfl, p, _, 2, 2, rfl, rfl, hp2, rfl, ?_⟩
          refine ⟨_, rfl, .inl ⟨_, rfl, .int m, rfl, _, m, rfl, rfl, m0, ?_⟩⟩
          obtain ⟨d0, d1⟩ := mod_ok ((fun i j => i + j) 0 0) m m0
          refine q _ _ (mod_ok _ m m0).1 (mod_ok _ m m0).2 (Kept.write K2) ⟨ns, i + 1, _, upd_same, ?_, by omega, by omega⟩
          rw [upd_ne lp]
          exact hl2
        all_goals
          obtain ⟨c0, c1⟩ := mod_ok c 2147483477 (by decide)
          refine ⟨.int c, rfl, .inl ⟨c, rfl, c, 2147483477, rfl, rfl, (by show (0 : Int) < 2147483477; decide), ?_⟩⟩
          refine ⟨.int i, rfl, _, i, rfl, rfl, .inl ⟨by decide, by decide⟩, _, _, rfl, rfl, _, _, rfl, rfl, _, 5, rfl, rfl, ⟨by decide, by decide, by omega⟩, ?_⟩
          obtain ⟨u0, u1⟩ := mod_ok ((c % 2147483477 + 58417 * i + 941) ^ Int.toNat 5) 2147483587 (by decide)
          refine .inl ⟨_, rfl, _, _, rfl, rfl, (by show (0 : Int) < 2147483587; decide), ?_⟩
          refine ⟨_, rfl, .int i, rfl, _, i, rfl, rfl, .inl ⟨by decide, by decide⟩, _, _, rfl, rfl, ?_⟩
          show rI CMul (fun i j => V.int (i * j)) (.int ((c % 2147483477 + 58417 * i + 941) ^ Int.toNat 5 % 2147483587)) (.int (2 * i + 171)) H2 _
          refine ⟨_, _, rfl, rfl, .inl ⟨by omega, by omega⟩, .int i, rfl, _, i, rfl, rfl, .inl ⟨by decide, by decide⟩, .int i, rfl, _, i, rfl, rfl, .inr ⟨by omega, by omega⟩, _, _, rfl, rfl, _, _, rfl, rfl, _, 3, rfl, rfl, ⟨by decide, by decide, bound3 u0 (by omega) i0 (by omega) (by decide) (by decide) (by decide) (by decide) (by decide) (by decide)⟩, ?_⟩
          refine .inl ⟨_, rfl, _, _, rfl, rfl, (by show (0 : Int) < 2147483629; decide), ?_⟩
          exact ⟨_, rfl, _, 32, rfl, rfl, ⟨by decide, by decide⟩, .inl ⟨_, rfl, .int m, rfl, _, m, rfl, rfl, m0, out _⟩⟩
end
end K01
-- R13
namespace SB
open PySem PySem.Spec PyProof.Rows L2
section
variable {X : Cx}
/-- one rule or the other -/
theorem ix_or {r1 r2 : R2} (h1 : IxR X r1) (h2 : IxR X r2) : IxR X (fun x y H Q => r1 x y H Q ∨ r2 x y H Q) := by
  intro value slice pins s σ H x y v u Q I rx ry h hs
  rcases h with h | h
  · exact h1 value slice pins s σ H x y v u Q I rx ry h hs
  · exact h2 value slice pins s σ H x y v u Q I rx ry h hs
theorem call_or {f : Value} {r1 r2 : List V → Hp → VK → Prop} (h1 : CallR X f r1) (h2 : CallR X f r2) : CallR X f (fun xs H Q => r1 xs H Q ∨ r2 xs H Q) := by
  intro pins s σ H xs us Q I r h
  rcases h with h | h
  · exact h1 pins s σ H xs us Q I r h
  · exact h2 pins s σ H xs us Q I r h
theorem op_or {op : Value → Value → Sem Value} {r1 r2 : R2} (h1 : OpR X op r1) (h2 : OpR X op r2) : OpR X op (fun x y H Q => r1 x y H Q ∨ r2 x y H Q) := by
  intro pins s σ H x y v u Q I rx ry h
  rcases h with h | h
  · exact h1 pins s σ H x y v u Q I rx ry h
  · exact h2 pins s σ H x y v u Q I rx ry h
end
end SB
-- K01D3
namespace K01
open PySem PySem.Spec PyProof.Rows L2 SB
theorem kept_seq {K : PySem.W.Frag} {H H' : Hp} {p a : Addr} {xs : List V} (k : Kept p H H') (n : a ≠ p) (h : SqL K H a xs) : SqL K H' a xs := by
  rcases h with (h | ⟨o, h⟩) | h
  · exact .inl (.inl (k _ _ h n))
  · exact .inl (.inr ⟨o, k _ _ h n⟩)
  · exact .inr h
/-- what one picks from: a list, or the signs of a text -/
def PickOf (K : PySem.W.Frag) (p : Addr) (H : Hp) (y : V) (xs : List V) : Prop := (∃ a, y = .ref a ∧ SqL K H a xs ∧ a ≠ p) ∨ ∃ z : Str, y = .str z ∧ xs = z.cps.toList.map fun c => V.str (s1 c)
section
variable {P : Program} {w : World} {K : PySem.W.Frag} {mg : Str → Option Value} {base : Heap}
def spPick (K : PySem.W.Frag) : Sp := fun vs H Q _ => ∃ (p l : Addr) (y : V) (N : Int) (xs : List V), vs = [.ref p, y] ∧ PenQ l N H p ∧ N ≤ 100000 ∧ PickOf K p H y xs ∧ 0 < xs.length ∧ xs.length ≤ 100000 ∧
  ∀ x H', x ∈ xs → Kept p H H' → PenQ l (N + 1) H' p → Q x H'
theorem ok_law_pick {f f__law_draw : Addr} {fd d__law_draw : FuncData} {k : Nat} (F : Fun K "_law_pick" "_law_pick" s__law_pick f fd)
    (G__law_draw : FnOk P w K mg base CX0 (k + 1) f__law_draw d__law_draw ["pen", "many"] spDraw) (g__law_draw : mg "_law_draw" = some (.ref f__law_draw)) (k__law_draw : PySem.W.keepIn K (.ref f__law_draw) = true) (b__law_draw : Binds K d__law_draw ["pen", "many"] [])
    (m_len : mg "len" = none) : FnOk P w K mg base CX0 (k + 2) f fd ["pen", "some"] (spPick K) := by
  refine F.ok sc__law_pick (fun vs H Q E h => ?_) (fun cdv A outer s H vs Q E hr h => ?_)
  · obtain ⟨p, l, a, N, xs, rfl, _⟩ := h
    rfl
  · obtain ⟨p, l, y, N, xs, rfl, hP, hN, hS, l0, l1, q⟩ := h
    have nd := sc__law_pick.nd
    refine ⟨_, (pss_one (ps_ret (pe_ix (ix_or ix_list ix_str) (pv 1) (pe_call G__law_draw (hr.mono (by omega)) (by rfl) g__law_draw k__law_draw b__law_draw .nil pass0 (pa_cons (pv 0) (pa_cons (pe_callB (call_or call_len_seq call_len) (by rfl) m_len PySem.boot_len (pa_cons (pv 1) pa_nil)) pa_nil))) (fun _ _ => rfl)))), ?_⟩
    rcases hS with ⟨a, rfl, hS, ne⟩ | ⟨z, rfl, rfl⟩
    · refine ⟨.ref a, rfl, .ref p, rfl, .ref a, rfl, .inl ⟨a, xs, rfl, .inl hS, p, l, N, (xs.length : Int), rfl, hP, hN, by omega, by omega, fun d H' d0 d1 kp pn => ?_⟩⟩
      have dl : d.toNat < xs.length := by omega
      refine .inl ⟨a, xs, d, xs[d.toNat], rfl, rfl, kept_seq kp ne hS, at_of (j := d.toNat) (by omega) (List.getElem?_eq_getElem dl), ?_⟩
      exact q _ H' (List.getElem_mem dl) kp pn
    · rw [List.length_map] at l0 l1
      have zs : z.length ≤ sizeLine := by
        rw [sizeLine_eq]
        show z.cps.toList.length ≤ _
        omega
      refine ⟨.str z, rfl, .ref p, rfl, .str z, rfl, .inr ⟨.str z, z.length, rfl, ⟨zs, rfl⟩, p, l, N, (z.length : Int), rfl, hP, hN, by show (0 : Int) < (z.cps.toList.length : Int); omega, by show (z.cps.toList.length : Int) ≤ 100000; omega, fun d H' d0 d1 kp pn => ?_⟩⟩
      have dl : d.toNat < z.cps.toList.length := by
        have : (z.length : Int) = (z.cps.toList.length : Int) := rfl
        omega
      have ha : atI z.cps.toList d = some z.cps.toList[d.toNat] := by
        have h := atI_nat (List.getElem?_eq_getElem dl)
        rwa [show ((d.toNat : Nat) : Int) = d by omega] at h
      refine .inr ⟨z, d, z.cps.toList[d.toNat], rfl, rfl, zs, ha, ?_⟩
      exact q _ H' (List.mem_map.mpr ⟨_, List.getElem_mem dl, rfl⟩) kp pn
end
end K01
-- K01E1
namespace K01
open PySem PySem.Spec PyProof.Rows L2 SB
def kinds : List Str := ["ABCDabcd", "Aa", "ABab", "ABCDabcdE", "ABCDabcd -", "Dd"]
def manys : List Int := [0, 1, 2, 3, 5, 8, 40]
theorem kinds_ok : ∀ kz ∈ kinds, 0 < kz.cps.toList.length ∧ kz.cps.toList.length ≤ 10 := by decide +kernel
theorem manys_ok : ∀ m ∈ manys, 0 ≤ m ∧ m ≤ 40 := by decide
theorem occ_letter : ∀ c, isL c = true → ∃ i rest, Builtin.Str.occurrences "ABCDabcd" (s1 c) 0 (Str.length "ABCDabcd") 1 = i :: rest ∧ (("ABCDabcd" : Str).cps.toList)[(i + 4) % 8]? = some (up c) := by
  intro c h
  have h' : c ∈ letters8 := of_decide_eq_true h
  have all : ∀ c ∈ letters8, Builtin.Str.occurrences "ABCDabcd" (s1 c) 0 (Str.length "ABCDabcd") 1 = [letters8.idxOf c] ∧ ((("ABCDabcd" : Str).cps.toList)[(letters8.idxOf c + 4) % 8]? = some (up c)) := by decide +kernel
  exact ⟨_, [], (all c h').1, (all c h').2⟩
/-- the sign that undoes one; one that is no letter undoes itself -/
def undo (c : Nat) : Nat := if isL c = true then up c else c
section
variable {P : Program} {w : World} {K : PySem.W.Frag} {mg : Str → Option Value} {base : Heap}
def spDrawn : Sp := fun vs H Q _ => ∃ (p l : Addr) (N : Int), vs = [.ref p] ∧ PenQ l N H p ∧ N ≤ 90000 ∧ ∀ z H', z.length ≤ 40 → Kept p H H' → PenQ l (N + 42) H' p → Q (.str z) H'
theorem ok_law_drawn {f f__law_pick : Addr} {fd d__law_pick : FuncData} {k : Nat} (F : Fun K "_law_drawn" "_law_drawn" s__law_drawn f fd)
    (G__law_pick : FnOk P w K mg base CX0 (k + 2) f__law_pick d__law_pick ["pen", "some"] (spPick K)) (g__law_pick : mg "_law_pick" = some (.ref f__law_pick)) (k__law_pick : PySem.W.keepIn K (.ref f__law_pick) = true) (b__law_pick : Binds K d__law_pick ["pen", "some"] [])
    (m_range : mg "range" = none) : FnOk P w K mg base CX0 (k + 3) f fd ["pen"] spDrawn := by
  refine F.ok sc__law_drawn (fun vs H Q E h => ?_) (fun cdv A outer s H vs Q E hr h => ?_)
  · obtain ⟨p, l, N, rfl, _⟩ := h
    rfl
  · obtain ⟨p, l, N, rfl, hP, hN, q⟩ := h
    have nd := sc__law_drawn.nd
    refine ⟨_, (pss_cons (ps_set (i := 1) nd rfl (.inl rfl) (pe_call G__law_pick (hr.mono (by omega)) (by rfl) g__law_pick k__law_pick b__law_pick .nil pass0 (pa_cons (pv 0) (pa_cons (pe_lst (pa_cons pe_int (pa_cons pe_int (pa_cons pe_int (pa_cons pe_int (pa_cons pe_int (pa_cons pe_int (pa_cons pe_int pa_nil)))))))) pa_nil))))
      (pss_cons (ps_set (i := 2) nd rfl (.inr rfl) (pe_call G__law_pick (hr.mono (by omega)) (by rfl) g__law_pick k__law_pick b__law_pick .nil pass0 (pa_cons (pv 0) (pa_cons (pe_lst (pa_cons pe_str (pa_cons pe_str (pa_cons pe_str (pa_cons pe_str (pa_cons pe_str (pa_cons pe_str pa_nil))))))) pa_nil))))
      (pss_one (ps_ret (pe_join pe_str (pe_lc (own := [("turn", 3)]) (g := gName 3) (by rfl) nd (pi_range1 (by rfl) m_range (pa_cons (pv 1) pa_nil)) (blkOk_by (own := [("turn", 3)]) (N := ["pen", "many", "kind", "turn"]) (sc := defScope s__law_drawn) (by decide +kernel)) (fun _ _ _ _ _ => pg_name (i := 3) nd rfl (Or.inl rfl)) (fun _ _ _ _ _ => pts_nil) (fun _ _ _ _ _ => (pe_call G__law_pick (hr.mono (by omega)) (by rfl) g__law_pick k__law_pick b__law_pick .nil pass0 (pa_cons (pv 0) (pa_cons (pv 2) pa_nil)))))))))), ?_⟩
    refine ⟨.ref p, rfl, by show 7 ≤ sizeLine; decide, fun a ha => ?_⟩
    have sa := same_new (o := .lst (manys.map V.int)) ha
    refine ⟨p, l, .ref a, N, manys.map V.int, rfl, hP.same sa, by omega, .inl ⟨a, rfl, .inl (.inl upd_same), hP.ne_p ha⟩, by decide, by decide, fun x H1 hx k1 p1 => ?_⟩
    obtain ⟨m, hm, rfl⟩ := List.mem_map.mp hx
    obtain ⟨m0, m1⟩ := manys_ok m hm
    refine ⟨.ref p, rfl, by show 6 ≤ sizeLine; decide, fun b hb => ?_⟩
    have sb := same_new (o := .lst (kinds.map V.str)) hb
    refine ⟨p, l, .ref b, _, kinds.map V.str, rfl, p1.same sb, by omega, .inl ⟨b, rfl, .inl (.inl upd_same), p1.ne_p hb⟩, by decide, by decide, fun x H2 hx k2 p2 => ?_⟩
    obtain ⟨kz, hkz, rfl⟩ := List.mem_map.mp hx
    obtain ⟨kl, kr⟩ := kinds_ok kz hkz
    have kk : Kept p H H2 := (Kept.of sa).trans (k1.trans ((Kept.of sb).trans k2))
    refine ⟨⟨_, rfl⟩, .int m, rfl, m, rfl, by omega, by omega, fun D hD => lc_it walk_range (fun i H' => ∃ cs : List Nat, cs.length = i ∧ H' D = some (.lst (vs1 cs)) ∧ Kept p H2 H' ∧ PenQ l (N + 2 + i) H' p) ⟨[], rfl, upd_same, Kept.of (same_new hD), (p2.same (same_new hD)).mono (by omega)⟩ (fun _ _ _ _ => trivial) (fun i x Ha Hb hi hPc hY => ?_) (fun H3 hPc => ?_)⟩
    · obtain ⟨cs, ll, hl, k3, p3⟩ := hPc
      obtain ⟨rfl, rfl⟩ := hY
      have nD := p2.ne_p hD
      refine ⟨rfl, .ref p, rfl, .str kz, rfl, p, l, .str kz, _, _, rfl, p3, by omega, .inr ⟨kz, rfl, rfl⟩, by rw [List.length_map]; exact kl, by rw [List.length_map]; omega, fun x H4 hx k4 p4 => ?_⟩
      obtain ⟨c, _, rfl⟩ := List.mem_map.mp hx
      refine ⟨_, k4 _ _ hl nD, ?_, cs ++ [c], ?_, ?_, ?_, ?_⟩
      · unfold vs1
        rw [List.length_map, sizeLine_eq]
        omega
      · rw [List.length_append, ll]
        rfl
      · rw [upd_same]
        unfold vs1
        rw [List.map_append]
        rfl
      · intro b u e n
        rw [upd_ne (ne_of_none e hD)]
        exact k4 _ _ (k3 _ _ e n) n
      · exact (p4.write nD (p2.ne_l hD)).mono (by omega)
    · obtain ⟨cs, ll, hl, k3, p3⟩ := hPc
      have ev : vs1 cs = (cs.map s1).map V.str := by
        unfold vs1
        rw [List.map_map]
        rfl
      rw [ev] at hl
      refine ⟨"", D, cs.map s1, rfl, rfl, .inl (.inl (.inl hl)), ?_, ?_⟩
      · rw [join_sum]
        show _ + _ * 0 ≤ 16777216
        omega
      · rw [SB.join_one]
        refine q _ _ ?_ (kk.trans k3) (p3.mono (by omega))
        show cs.length ≤ 40
        omega
end
end K01
-- K01E2
namespace K01
open PySem PySem.Spec PyProof.Rows L2 SB
def faultI (l : List Nat) : Int := match fault l with | some i => (i : Nat) | none => -1
def strangeI (l : List Nat) : Int := match strange 0 l with | some i => (i : Nat) | none => -1
def prevAt (l : List Nat) : Nat → Option Nat
  | 0 => none
  | i + 1 => l[i]?
section
variable {P : Program} {w : World} {K : PySem.W.Frag} {mg : Str → Option Value} {base : Heap}
def spUndo : Sp := fun vs H Q _ => ∃ c, vs = [.str (s1 c)] ∧ Q (.str (s1 (undo c))) H
theorem ok_law_undo {f : Addr} {fd : FuncData} {k : Nat} (F : Fun K "_law_undo" "_law_undo" s__law_undo f fd) : FnOk P w K mg base CX0 (k + 1) f fd ["sign"] spUndo := by
  refine F.ok sc__law_undo (fun vs H Q E h => ?_) (fun cdv A outer s H vs Q E hr h => ?_)
  · obtain ⟨c, rfl, _⟩ := h
    rfl
  · obtain ⟨c, rfl, q⟩ := h
    have nd := sc__law_undo.nd
    refine ⟨_, (pss_cons (ps_set (i := 1) nd rfl (.inl rfl) pe_str)
      (pss_one (ps_ret (pe_ifExp (pt_cmpR op_in_sign (pv 0) (pv 1) rfl) (pe_ix ix_str (pv 1) (pe_op op_mod (pe_op op_add (pe_m1 PySem.F.slot_str_index PySem.F.type_str_index mt_sindex (pv 1) (pv 0)) pe_int) pe_int) (fun _ _ => rfl)) (pv 0))))), ?_⟩
    refine ⟨.str (s1 c), rfl, .str "ABCDabcd", rfl, c, _, rfl, rfl, _, rfl, ?_⟩
    rw [in_letters]
    unfold undo at q
    cases hL : isL c with
    | true =>
      rw [if_pos hL] at q
      obtain ⟨i, rest, e1, e2⟩ := occ_letter c hL
      refine iteT ⟨.str "ABCDabcd", rfl, .str "ABCDabcd", rfl, ⟨_, rfl⟩, .str (s1 c), rfl, _, _, i, rest, rfl, rfl, e1, ?_⟩
      refine ⟨_, _, rfl, rfl, _, 8, rfl, rfl, by show (0 : Int) < 8; decide, ?_⟩
      refine ⟨"ABCDabcd", _, up c, rfl, rfl, by decide +kernel, ?_, q⟩
      have em : (((i : Nat) : Int) + 4) % 8 = (((i + 4) % 8 : Nat) : Int) := by omega
      rw [em]
      exact atI_nat e2
    | false =>
      rw [if_neg (by rw [hL]; decide)] at q
      exact iteF ⟨_, rfl, q⟩
def spOdd : Sp := fun vs H Q _ => ∃ z : Str, vs = [.str z] ∧ z.length ≤ 100000 ∧ Q (.int (strangeI z.cps.toList)) H
theorem ok_law_odd {f : Addr} {fd : FuncData} {k : Nat} (F : Fun K "_law_odd" "_law_odd" s__law_odd f fd) (m_range : mg "range" = none) (m_len : mg "len" = none) : FnOk P w K mg base CX0 (k + 1) f fd ["text"] spOdd := by
  refine F.ok sc__law_odd (fun vs H Q E h => ?_) (fun cdv A outer s H vs Q E hr h => ?_)
  · obtain ⟨z, rfl, _⟩ := h
    rfl
  · obtain ⟨z, rfl, hl, q⟩ := h
    have nd := sc__law_odd.nd
    refine ⟨_, (pss_cons (ps_for PassesOwn.never rfl (pi_range1 (by rfl) m_range (pa_cons (pe_callB call_len (by rfl) m_len PySem.boot_len (pa_cons (pv 0) pa_nil)) pa_nil)) (pg_name (i := 1) nd rfl (.inl rfl)) (pss_one (ps_if (pt_cmpR op_notIn_sign (pe_ix ix_str (pv 0) (pv 1) (fun _ _ => rfl)) pe_str rfl) (pss_one (ps_ret (pv 1))) pss_nil)))
      (pss_one (ps_ret (pe_un un_neg pe_int)))), ?_⟩
    have zs : z.length ≤ sizeLine := by
      rw [sizeLine_eq]
      omega
    refine ⟨.str z, rfl, .str z, z.length, rfl, ⟨zs, rfl⟩, z.length, rfl, by omega, by omega, for_range (lo := 0) (n := z.length) (fun i σ H' => ∃ y1, σ = [some (.str z), y1] ∧ H' = H ∧ strange i (z.cps.toList.drop i) = strange 0 z.cps.toList)
      ⟨none, rfl, rfl, rfl⟩ (fun i σ H' hi hPv => ?_) (fun σ H' hPv => ?_)⟩
    · obtain ⟨y1, rfl, rfl, ef⟩ := hPv
      obtain ⟨c, hc⟩ : ∃ c, z.cps.toList[i]? = some c := ⟨_, List.getElem?_eq_getElem (show i < z.cps.toList.length from hi)⟩
      have hc' : z.cps[i]? = some c := by
        rw [Array.getElem?_toList] at hc
        exact hc
      rw [drop_at hc'] at ef
      have ac : atI z.cps.toList (0 + (i : Int)) = some c := by
        rw [Int.zero_add]
        exact atI_nat hc
      refine ⟨.str z, rfl, .int (0 + (i : Int)), rfl, z, _, c, rfl, rfl, zs, ac, c, _, rfl, rfl, _, rfl, ?_⟩
      rw [in_letters]
      cases hL : isL c with
      | true =>
        refine iteF ⟨_, rfl, rfl, ?_⟩
        rw [← ef]
        exact (if_neg (by rw [hL]; decide)).symm
      | false =>
        refine iteT ⟨_, rfl, ?_⟩
        have e : strange 0 z.cps.toList = some i := by
          rw [← ef]
          exact if_pos hL
        unfold strangeI at q
        rw [e] at q
        rw [Int.zero_add]
        exact q
    · obtain ⟨y1, rfl, rfl, ef⟩ := hPv
      have e : strange 0 z.cps.toList = none := by
        rw [← ef, show z.length = z.cps.toList.length from rfl, List.drop_length]
        rfl
      unfold strangeI at q
      rw [e] at q
      exact ⟨1, rfl, q⟩
theorem undo_iff {c d : Nat} (hc : isL c = true) (hd : isL d = true) : c = undo d ↔ some (up c) = some d := by
  unfold undo
  rw [if_pos hd]
  constructor
  · rintro rfl
    rw [up_up d hd]
  · intro h
    have h' := Option.some.inj h
    rw [← h', up_up c hc]
def spWrong : Sp := fun vs H Q _ => ∃ z : Str, vs = [.str z] ∧ z.length ≤ 100000 ∧ Q (.int (faultI z.cps.toList)) H
theorem ok_law_wrong {f f__law_undo : Addr} {fd d__law_undo : FuncData} {k : Nat} (F : Fun K "_law_wrong" "_law_wrong" s__law_wrong f fd)
    (G__law_undo : FnOk P w K mg base CX0 (k + 1) f__law_undo d__law_undo ["sign"] spUndo) (g__law_undo : mg "_law_undo" = some (.ref f__law_undo)) (k__law_undo : PySem.W.keepIn K (.ref f__law_undo) = true) (b__law_undo : Binds K d__law_undo ["sign"] [])
    (m_range : mg "range" = none) (m_len : mg "len" = none) : FnOk P w K mg base CX0 (k + 2) f fd ["text"] spWrong := by
  refine F.ok sc__law_wrong (fun vs H Q E h => ?_) (fun cdv A outer s H vs Q E hr h => ?_)
  · obtain ⟨z, rfl, _⟩ := h
    rfl
  · obtain ⟨z, rfl, hl, q⟩ := h
    have nd := sc__law_wrong.nd
    refine ⟨_, (pss_cons (ps_for PassesOwn.never rfl (pi_range1 (by rfl) m_range (pa_cons (pe_callB call_len (by rfl) m_len PySem.boot_len (pa_cons (pv 0) pa_nil)) pa_nil)) (pg_name (i := 1) nd rfl (.inl rfl)) (pss_one (ps_if (PW.pt (pw_or (pt_cmpR op_notIn_sign (pe_ix ix_str (pv 0) (pv 1) (fun _ _ => rfl)) pe_str rfl) (pw_or1 (PW.pt (pw_and (pt_cmpR op_gt (pv 1) pe_int (nomark _)) (pw_and1 (pt_cmpR op_eq (pe_ix ix_str (pv 0) (pv 1) (fun _ _ => rfl)) (pe_call G__law_undo (hr.mono (by omega)) (by rfl) g__law_undo k__law_undo b__law_undo .nil pass0 (pa_cons (pe_ix ix_str (pv 0) (pe_op op_sub (pv 1) pe_int) (fun _ _ => rfl)) pa_nil)) (nomark _)))))))) (pss_one (ps_ret (pv 1))) pss_nil)))
      (pss_one (ps_ret (pe_un un_neg pe_int)))), ?_⟩
    have zs : z.length ≤ sizeLine := by
      rw [sizeLine_eq]
      omega
    refine ⟨.str z, rfl, .str z, z.length, rfl, ⟨zs, rfl⟩, z.length, rfl, by omega, by omega, for_range (lo := 0) (n := z.length) (fun i σ H' => ∃ y1, σ = [some (.str z), y1] ∧ H' = H ∧ (∀ d, prevAt z.cps.toList i = some d → isL d = true) ∧ faultFrom (prevAt z.cps.toList i) i (z.cps.toList.drop i) = fault z.cps.toList)
      ⟨none, rfl, rfl, fun d h => (nomatch h), rfl⟩ (fun i σ H' hi hPv => ?_) (fun σ H' hPv => ?_)⟩
    · obtain ⟨y1, rfl, rfl, pL, ef⟩ := hPv
      obtain ⟨c, hc⟩ : ∃ c, z.cps.toList[i]? = some c := ⟨_, List.getElem?_eq_getElem (show i < z.cps.toList.length from hi)⟩
      have hc' : z.cps[i]? = some c := by
        rw [Array.getElem?_toList] at hc
        exact hc
      rw [drop_at hc'] at ef
      have ac : atI z.cps.toList (0 + (i : Int)) = some c := by
        rw [Int.zero_add]
        exact atI_nat hc
      have found : (isL c = false ∨ some (up c) = prevAt z.cps.toList i) → Q (.int (0 + (i : Int))) H' := fun h => by
        have e : fault z.cps.toList = some i := by
          rw [← ef]
          exact if_pos h
        unfold faultI at q
        rw [e] at q
        rw [Int.zero_add]
        exact q
      have on : isL c = true → some (up c) ≠ prevAt z.cps.toList i → ∃ y1, [some (V.str z), some (.int (0 + (i : Int)))] = [some (.str z), y1] ∧ H' = H' ∧ (∀ d, prevAt z.cps.toList (i + 1) = some d → isL d = true) ∧ faultFrom (prevAt z.cps.toList (i + 1)) (i + 1) (z.cps.toList.drop (i + 1)) = fault z.cps.toList := fun hL n => by
        have ep : prevAt z.cps.toList (i + 1) = some c := hc
        refine ⟨_, rfl, rfl, fun d hd => ?_, ?_⟩
        · rw [ep] at hd
          cases hd
          exact hL
        · rw [ep, ← ef]
          refine (if_neg ?_).symm
          rintro (z1 | z2)
          · rw [hL] at z1
            cases z1
          · exact n z2
      refine ⟨.str z, rfl, .int (0 + (i : Int)), rfl, z, _, c, rfl, rfl, zs, ac, c, _, rfl, rfl, _, rfl, ?_⟩
      rw [in_letters]
      cases hL : isL c with
      | false => exact iteT (iteT ⟨_, rfl, found (.inl hL)⟩)
      | true =>
        refine iteF ?_
        refine ⟨.int (0 + (i : Int)), rfl, _, _, rfl, rfl, _, rfl, ?_⟩
        cases i with
        | zero => exact iteF (iteF (on hL fun z => nomatch z))
        | succ j =>
          obtain ⟨d, hd⟩ : ∃ d, z.cps.toList[j]? = some d := ⟨_, List.getElem?_eq_getElem (show j < z.cps.toList.length from Nat.lt_of_succ_lt hi)⟩
          have dL := pL d hd
          have ad : atI z.cps.toList (0 + ((j + 1 : Nat) : Int) - 1) = some d := by
            rw [show (0 + ((j + 1 : Nat) : Int) - 1) = ((j : Nat) : Int) by omega]
            exact atI_nat hd
          have gt : decide ((0 : Int) < 0 + ((j + 1 : Nat) : Int)) = true := decide_eq_true (by omega)
          show if decide ((0 : Int) < 0 + ((j + 1 : Nat) : Int)) = true then _ else _
          rw [gt]
          refine iteT ?_
          refine ⟨.str z, rfl, .int (0 + ((j + 1 : Nat) : Int)), rfl, z, _, c, rfl, rfl, zs, ac, .str z, rfl, .int (0 + ((j + 1 : Nat) : Int)), rfl, _, 1, rfl, rfl, z, _, d, rfl, rfl, zs, ad, d, rfl, rfl, _, rfl, ?_⟩
          by_cases e : c = undo d
          · rw [decide_eq_true (congrArg (fun c => V.str (s1 c)) e)]
            refine iteT ⟨_, rfl, found (.inr ?_)⟩
            show some (up c) = z.cps.toList[j]?
            rw [hd]
            exact (undo_iff hL dL).mp e
          · rw [decide_eq_false fun q => e (s1_inj (V.str.inj q))]
            refine iteF (on hL ?_)
            show some (up c) ≠ z.cps.toList[j]?
            rw [hd]
            exact fun q => e ((undo_iff hL dL).mpr q)
    · obtain ⟨y1, rfl, rfl, pL, ef⟩ := hPv
      have e : fault z.cps.toList = none := by
        rw [← ef, show z.length = z.cps.toList.length from rfl, List.drop_length]
        rfl
      unfold faultI at q
      rw [e] at q
      exact ⟨1, rfl, q⟩
end
end K01
-- M8
namespace SB
open PySem PySem.Spec PyProof.Rows L2
theorem cut_take (z : Str) (k : Nat) : (cutS z none (some (k : Int))).cps.toList = z.cps.toList.take k := by
  unfold cutS
  rw [HT.sIx_nat, HT.sIx_none]
  show ((z.cps.toList.drop 0).take (min k z.length - 0)) = _
  rw [List.drop_zero, Nat.sub_zero]
  by_cases h : k ≤ z.length
  · rw [Nat.min_eq_left h]
  · have h1 : z.cps.toList.length ≤ z.length := Nat.le_refl _
    rw [Nat.min_eq_right (by omega), List.take_of_length_le h1, List.take_of_length_le (by omega)]
theorem cut_drop (z : Str) (k : Nat) : (cutS z (some (k : Int)) none).cps.toList = z.cps.toList.drop k := by
  unfold cutS
  rw [HT.sIx_nat, HT.sIx_none]
  show ((z.cps.toList.drop (min k z.length)).take (z.length - min k z.length)) = _
  have hl : z.cps.toList.length = z.length := rfl
  by_cases h : k ≤ z.length
  · rw [Nat.min_eq_left h]
    exact List.take_of_length_le (by rw [List.length_drop]; omega)
  · rw [Nat.min_eq_right (by omega), Nat.sub_self, List.take_zero, List.drop_of_length_le (by omega)]
theorem at_split {l : List Nat} {a c d : Nat} (hc : l[a]? = some c) (hd : l[a + 1]? = some d) : l = l.take a ++ c :: d :: l.drop (a + 2) := by
  obtain ⟨h1, e1⟩ := List.getElem?_eq_some_iff.mp hc
  obtain ⟨h2, e2⟩ := List.getElem?_eq_some_iff.mp hd
  have s1 : l.drop a = c :: l.drop (a + 1) := by rw [List.drop_eq_getElem_cons h1, e1]
  have s2 : l.drop (a + 1) = d :: l.drop (a + 2) := by rw [List.drop_eq_getElem_cons h2, e2]
  rw [← s2, ← s1, List.take_append_drop]
theorem flat_cut {l : List Nat} {a : Nat} (h : flat l (a + 1)) (n : a ≤ l.length) : flat (l.take a ++ l.drop (a + 2)) (a - 1 + 1) := by
  intro j c d hj hd hc
  have j1 : j + 1 < a := by omega
  rw [List.getElem?_append_left (by rw [List.length_take]; omega), List.getElem?_take_of_lt (by omega)] at hd hc
  exact h j c d (by omega) hd hc
theorem flat_next {l : List Nat} {a c d : Nat} (hL : allL l) (h : flat l (a + 1)) (hc : l[a]? = some c) (hd : l[a + 1]? = some d) (n : c ≠ up d) : flat l (a + 1 + 1) := by
  intro j x y hj hy hx
  by_cases e : j = a
  · subst e
    rw [hc] at hy
    rw [hd] at hx
    cases hy
    cases hx
    intro q
    refine n ?_
    rw [q, up_up c (hL c (List.mem_of_getElem? hc))]
  · exact h j x y (by omega) hy hx
end SB
-- K01E3
namespace K01
open PySem PySem.Spec PyProof.Rows L2 SB
section
variable {P : Program} {w : World} {K : PySem.W.Frag} {mg : Str → Option Value} {base : Heap}
def spLeft : Sp := fun vs H Q _ => ∃ z : Str, vs = [.str z] ∧ z.length ≤ 100000 ∧ allL z.cps.toList ∧ Q (.str (T (strike z.cps.toList))) H
theorem ok_law_left {f f__law_undo : Addr} {fd d__law_undo : FuncData} {k : Nat} (F : Fun K "_law_left" "_law_left" s__law_left f fd)
    (G__law_undo : FnOk P w K mg base CX0 (k + 1) f__law_undo d__law_undo ["sign"] spUndo) (g__law_undo : mg "_law_undo" = some (.ref f__law_undo)) (k__law_undo : PySem.W.keepIn K (.ref f__law_undo) = true) (b__law_undo : Binds K d__law_undo ["sign"] [])
    (m_max : mg "max" = none) (m_len : mg "len" = none) : FnOk P w K mg base CX0 (k + 2) f fd ["text"] spLeft := by
  refine F.ok sc__law_left (fun vs H Q E h => ?_) (fun cdv A outer s H vs Q E hr h => ?_)
  · obtain ⟨z, rfl, _⟩ := h
    rfl
  · obtain ⟨z, rfl, hl, hL, q⟩ := h
    have nd := sc__law_left.nd
    refine ⟨_, (pss_cons (ps_par (i := 1) (j := 2) (by rfl) nd rfl rfl (by decide) rfl rfl (pa_cons (pv 0) (pa_cons pe_int pa_nil)) (by rfl))
      (pss_cons (ps_while PassesOwn.never (pt_cmpR op_lt (pe_op op_add (pv 2) pe_int) (pe_callB call_len (by rfl) m_len PySem.boot_len (pa_cons (pv 1) pa_nil)) (nomark _)) (pss_one (ps_if (pt_cmpR op_eq (pe_ix ix_str (pv 1) (pv 2) (fun _ _ => rfl)) (pe_call G__law_undo (hr.mono (by omega)) (by rfl) g__law_undo k__law_undo b__law_undo .nil pass0 (pa_cons (pe_ix ix_str (pv 1) (pe_op op_add (pv 2) pe_int) (fun _ _ => rfl)) pa_nil)) (nomark _)) (pss_one (ps_par (i := 1) (j := 2) (by rfl) nd rfl rfl (by decide) rfl rfl (pa_cons (pe_op op_add_str (pe_slice sl_str (pv 1) po_none (po_some (pv 2))) (pe_slice sl_str (pv 1) (po_some (pe_op op_add (pv 2) pe_int)) po_none)) (pa_cons (pe_callB (call_max2 rfl) (by rfl) m_max (by decide +kernel) (pa_cons pe_int (pa_cons (pe_op op_sub (pv 2) pe_int) pa_nil))) pa_nil)) (by rfl))) (pss_one (ps_set (i := 2) nd rfl (.inl rfl) (pe_op op_add (pv 2) pe_int))))))
      (pss_one (ps_ret (pv 1))))), ?_⟩
    refine ⟨.str z, rfl, _, _, rfl, ?_⟩
    refine ⟨fun m σ H' => ∃ (y : Str) (a : Nat), σ = [some (.str z), some (.str y), some (.int (a : Nat))] ∧ H' = H ∧ allL y.cps.toList ∧ strike y.cps.toList = strike z.cps.toList ∧ flat y.cps.toList (a + 1) ∧ y.length ≤ z.length ∧ m + a = 2 * y.length + 2,
      ⟨2 * z.length + 2, z, 0, rfl, rfl, hL, rfl, fun j c d hj => absurd hj (by omega), Nat.le_refl _, rfl⟩, ?_⟩
    rintro m σ H' ⟨y, a, rfl, rfl, yL, ys, yf, yl, em⟩
    have zs : y.length ≤ sizeLine := by
      rw [sizeLine_eq]
      omega
    have hlen : y.cps.toList.length = y.length := rfl
    refine ⟨.int (a : Nat), rfl, _, _, rfl, rfl, .str y, rfl, .str y, y.length, rfl, ⟨zs, rfl⟩, _, _, rfl, rfl, _, rfl, ite2 (fun e => ?_) (fun e => ?_)⟩
    · have lt : a + 1 < y.length := by
        have := of_decide_eq_true e
        omega
      obtain ⟨c, hc⟩ : ∃ c, y.cps.toList[a]? = some c := ⟨_, List.getElem?_eq_getElem (by omega)⟩
      obtain ⟨d, hd⟩ : ∃ d, y.cps.toList[a + 1]? = some d := ⟨_, List.getElem?_eq_getElem (by omega)⟩
      have dL : isL d = true := yL d (List.mem_of_getElem? hd)
      have ad : atI y.cps.toList (((a : Nat) : Int) + 1) = some d := by
        rw [show (((a : Nat) : Int) + 1) = ((a + 1 : Nat) : Int) by omega]
        exact atI_nat hd
      refine ⟨fun σ' H'' => ∃ m', m' < m ∧ _, fun σ' H'' h => h, ?_⟩
      refine ⟨.str y, rfl, .int (a : Nat), rfl, y, _, c, rfl, rfl, zs, atI_nat hc, .str y, rfl, .int (a : Nat), rfl, _, _, rfl, rfl, y, _, d, rfl, rfl, zs, ad, d, rfl, rfl, _, rfl, ?_⟩
      have eu : undo d = up d := if_pos dL
      rw [eu]
      by_cases ec : c = up d
      · rw [decide_eq_true (congrArg (fun c => V.str (s1 c)) ec)]
        have sp := at_split hc hd
        have cl := cutS_length y none (some ((a : Nat) : Int))
        have cr := cutS_length y (some ((a : Nat) + 2 : Int)) none
        have a2 : ((a : Nat) : Int) + 2 = ((a + 2 : Nat) : Int) := by omega
        have sm : (cutS y none (some ((a : Nat) : Int))).length + (cutS y (some ((a : Nat) + 2 : Int)) none).length ≤ sizeLine := by
          rw [sizeLine_eq]
          omega
        refine iteT ⟨.str y, rfl, .int (a : Nat), rfl, _, rfl, y, rfl, zs, .str y, rfl, .int (a : Nat), rfl, _, _, rfl, rfl, _, rfl, y, rfl, zs, _, _, rfl, rfl, sm, .int (a : Nat), rfl, _, _, rfl, rfl, _, _, rfl, _, _, rfl, ?_⟩
        have ecodes : (cutS y none (some ((a : Nat) : Int)) ++ cutS y (some ((a : Nat) + 2 : Int)) none).cps.toList = y.cps.toList.take a ++ y.cps.toList.drop (a + 2) := by
          rw [app_codes, a2, cut_take, cut_drop]
        have emax : (if ((a : Nat) : Int) - 1 > 0 then ((a : Nat) : Int) - 1 else 0) = ((a - 1 : Nat) : Int) := by
          split <;> omega
        have lcodes : (cutS y none (some ((a : Nat) : Int)) ++ cutS y (some ((a : Nat) + 2 : Int)) none).length = y.length - 2 := by
          rw [len_codes, ecodes, List.length_append, List.length_take, List.length_drop]
          omega
        have yL2 : allL (y.cps.toList.take a ++ c :: d :: y.cps.toList.drop (a + 2)) := by
          rw [← sp]
          exact yL
        refine ⟨2 * (y.length - 2) + 2 - (a - 1), by omega, cutS y none (some ((a : Nat) : Int)) ++ cutS y (some ((a : Nat) + 2 : Int)) none, a - 1, ?_, rfl, ?_, ?_, ?_, ?_, ?_⟩
        · show [some (V.str z), some (V.str _), some (V.int (if ((a : Nat) : Int) - 1 > 0 then ((a : Nat) : Int) - 1 else 0))] = _
          rw [emax]
        · rw [ecodes]
          exact allL_app (allL_take yL a) (allL_drop yL (a + 2))
        · rw [ecodes, ← ys]
          conv => rhs; rw [sp]
          exact (strike_pair yL2 ec).symm
        · rw [ecodes]
          exact flat_cut yf (by omega)
        · omega
        · omega
      · rw [decide_eq_false fun q => ec (s1_inj (V.str.inj q))]
        refine iteF ⟨.int (a : Nat), rfl, _, _, rfl, rfl, m - 1, by omega, y, a + 1, rfl, rfl, yL, ys, flat_next yL yf hc hd ec, yl, by omega⟩
    · have ge : ¬ a + 1 < y.length := fun h => e (decide_eq_true (by omega))
      have fy : Fine y.cps.toList := ⟨yL, flat_mono yf (by omega)⟩
      have ey : y = SB.T (strike z.cps.toList) := str_ext (by rw [← ys, strike_fine fy]; rfl)
      refine ⟨.str y, rfl, ?_⟩
      rw [ey]
      exact q
end
end K01
-- R14
namespace SB
open PySem PySem.Spec PyProof.Rows L2
/-! ### a class whose __iter__ hands the iterator of a text out -/
/-- at it: the iterator of the text z, none taken -/
def SItO (it : Addr) (z : Str) : HO := .ext fun h => ∃ t : Tok, h.get? it = some { cls := .type (strIterType z), data := .fields #[.str z t, .int 0 0] }
theorem sit_type (z : Str) : strIterType z = "str_ascii_iterator" ∨ strIterType z = "str_iterator" := by
  unfold strIterType
  split
  · exact .inl rfl
  · exact .inr rfl
theorem sit_ok {P : Program} {w : World} {H : Hp} {h : Heap} {it : Addr} {z : Str} {t : Tok} (e : h.get? it = some { cls := .type (strIterType z), data := .fields #[.str z t, .int 0 0] }) : ObjOk P w H h it (SItO it z) :=
  ⟨⟨t, e⟩, ⟨_, e⟩, fun h1 h2 q k => by
    obtain ⟨t2, e2⟩ := q
    exact ⟨t2, k _ e2⟩⟩
theorem sit_next {M : Model} {A : Around} {E : Value → Shared → Prop} {Q : Value → Shared → Prop} {s : Shared} {it : Addr} {z : Str} {t : Tok} (h : s.heap.get? it = some { cls := .type (strIterType z), data := .fields #[.str z t, .int 0 0] })
    (q : Q (.ref it) s) : PySem.W.OwitIt M A Q E (.ref it) s := by
  have ty : s.TypeIs (.ref it) (strIterType z) := ⟨_, h, rfl⟩
  unfold PySem.W.OwitIt
  rcases sit_type z with e | e
  · rw [e] at ty
    exact wpAny_specialOf ty F.slot_str_ascii_iterator_next.lookup q
  · rw [e] at ty
    exact wpAny_specialOf ty F.slot_str_iterator_next.lookup q
section
variable {X : Cx} {pins : List (Addr × Obj)} {σ : L2.St} {H : Hp} {s : Shared}
/-- iter(z), z a text -/
theorem call_iterS : CallR X (.builtin "iter") (fun xs H Q => ∃ z : Str, xs = [.str z] ∧ ∀ it, H it = none → X.s_0.heap.objs.size ≤ it → Q (.ref it) (upd H it (SItO it z))) := by
  intro pins s σ H xs us Q I r h
  obtain ⟨z, rfl, q⟩ := h
  obtain ⟨u, rfl, t, rfl⟩ := vals1 r
  refine Calls.call_function_entry (id := "iter") (by decide +kernel) (by decide +kernel) PySem.W.kdk_entry_iter (PySem.W.kdk_args_iter (Value.str z t)) ?_
  unfold Builtin.«iter»
  refine wpAny_bind (m := someArgs "iter" 1 2 ⟨[Value.str z t], []⟩) (wpAny_of_eq (a := [Value.str z t]) (by first | rfl | kernel_rfl!) ?_)
  show wpAny _ _ (pyIter (.str z t) >>= _) _ _ _
  refine wpAny_bind (wpAny_pyIter_strU (wpAny_pure ⟨.ref s.heap.objs.size, rfl, ?_⟩))
  have at_ : (s.heap.push { cls := .type (strIterType z), data := .fields #[.str z t, .int 0 0] }).get? s.heap.objs.size = some { cls := .type (strIterType z), data := .fields #[.str z t, .int 0 0] } := Heap.get?_push_size _ rfl
  exact ⟨.ref s.heap.objs.size, _, I.laid (t' := s.toks) (fun b u e => Heap.get?_push_of_some _ e) (Nat.le_refl _) (sit_ok at_), rfl, q _ (I.hok.fresh (Nat.le_refl _)) I.sz⟩
/-- what was laid may be forgotten -/
theorem untrack {a : Addr} {φ : Heap → Prop} (I : Inv X pins σ (upd H a (.ext φ)) s) (hn : H a = none) : Inv X pins σ H s := by
  have ne : ∀ {b : Addr} {u : HO}, H b = some u → b ≠ a := fun e => ne_of_none e hn
  have back : ∀ {b : Addr} {u : HO}, (∀ ψ, u ≠ .ext ψ) → upd H a (.ext φ) b = some u → H b = some u := fun {b u} n e => by
    by_cases hb : b = a
    · rw [hb, upd_same] at e
      exact (n φ (Option.some.inj e).symm).elim
    · rw [upd_ne hb] at e
      exact e
  have none_ : ∀ {b : Addr}, upd H a (.ext φ) b = none → H b = none := fun {b} e => by
    by_cases hb : b = a
    · rw [hb]
      exact hn
    · rw [upd_ne hb] at e
      exact e
  refine { ok := I.ok, os := I.os, bare := I.bare, base := ?_, loc := I.loc, cell := I.cell, free := none_ I.free, freeC := fun x c e => none_ (I.freeC x c e), pin := fun p hp => ?_, hok := fun b u e => ?_, len := I.len }
  · have u := I.base
    refine ⟨u.keep, u.slot, fun b o e n hx => none_ (u.free b o e n hx), u.there, fun b xs e => back (fun ψ z => ?_) (u.tups b xs e), fun b o v e => back (fun ψ z => ?_) (u.frzs b o v e), fun b ps e => ?_⟩
    · cases z
    · cases z
    · obtain ⟨m, q⟩ := u.tbls b ps e
      refine ⟨m, back (fun ψ z => ?_) q⟩
      cases z
  · obtain ⟨e1, e2, e3⟩ := I.pin p hp
    exact ⟨e1, none_ e2, e3⟩
  · have x := I.hok b u (by rw [upd_ne (ne e)]; exact e)
    refine x.stay (fun c v _ q => q) (fun c q => back (fun ψ z => ?_) q) (fun c xs q => back (fun ψ z => ?_) q)
    · cases z
    · cases z
end
/-- what is told of the class's __iter__, at f -/
structure IterOk (P : Program) (w : World) (K : PySem.W.Frag) (mg : Str → Option Value) (base : Heap) (C f : Addr) (g : Str) (k : Nat) : Prop where
  find : PySem.W.findIn K (.ref C) "__iter__" = some (some (.ref f))
  fn : PySem.W.isFn K (.ref f) = true
  run : ∀ (A : Around) (outer : List Env) (s : Shared) (H : Hp) (a dx : Addr) (z : Str), Room k A → Env0 P w K mg base A outer s H → H a = some (.ins C dx [(g, .str z)]) →
    codeAny (model P w) A (.call (.ref f) ⟨[.ref a], []⟩) (CR C8.CX0 outer P w H s (fun v H' => ∃ it, v = .ref it ∧ H it = none ∧ s.heap.objs.size ≤ it ∧ H' = upd H it (SItO it z)) C8.E0) s
def iOwnS (C : Addr) (g : Str) (te : TE) : TI := fun σ H R => te σ H fun v H1 => ∃ (a dx : Addr) (z : Str), v = .ref a ∧ H1 a = some (.ins C dx [(g, .str z)]) ∧ R (Its z) H1
/-- for x in e, e an instance of it -/
theorem pi_ownS {X : Cx} {tg e : Expr} {te : TE} {C f : Addr} {g : Str} {k : Nat} (T : IterOk X.prog X.w X.K X.mg X.base C f g k) (hr : Room k X.A) (he : PE X e te) : PI X tg e (iOwnS C g te) := by
  refine ⟨fun pins s σ H R I h => ?_⟩
  refine thn (he.run pins s σ H _ I h) fun v s1 hh => ?_
  obtain ⟨y, H1, I1, r1, a, dx, z, rfl, ha, q⟩ := hh
  obtain rfl : v = Value.ref a := r1
  obtain ⟨mA, O, _⟩ := ins_get I1.hok ha
  obtain ⟨od, J, _⟩ := O.look
  obtain ⟨m, hns, _⟩ := I1.loc
  have Fm : Fr X.base X.env.locals s1.heap m := ⟨hns, I1.bk, Nat.le_trans I1.ok.bsz I1.ok.above⟩
  refine PySem.W.owit_iter Fm I1.ok.mod.kin J T.find T.fn (wpAny_call (codeAny_mono (T.run X.A X.stack s1 H1 a dx z hr I1.env0 ha) fun r s2 hq => ?_))
  cases r with
  | error er => exact False.elim hq
  | ok fl =>
    cases fl with
    | ret u =>
      obtain ⟨y2, H2, I2, r2, it, rfl, hn, hs, rfl⟩ := I1.after hq
      obtain rfl : u = Value.ref it := r2
      have hob : ObjOk X.prog X.w (upd H1 it (SItO it z)) s2.heap it (SItO it z) := I2.hok it _ upd_same
      obtain ⟨⟨t, at_⟩, _, _⟩ := hob
      have I3 := untrack I2 hn
      refine sit_next at_ ⟨it, [it], _, _, H1, rfl, I3, turn_str it z t (strIterType z) (sit_type z), ⟨_, at_, rfl, rfl⟩, fun b hb => ?_, q⟩
      obtain rfl : b = it := by simpa using hb
      exact I1.fpOk hs hn
    | next => exact False.elim hq
    | brk => exact False.elim hq
    | cont => exact False.elim hq
end SB
-- R15
namespace SB
open PySem PySem.Spec PyProof.Rows L2
section
variable {X : Cx} {CX : CXT} {k : Nat} {C f : Addr} {fd : FuncData} {ps : List Str} {sp : Sp} {E : XK} {pins : List (Addr × Obj)} {σ : L2.St} {H : Hp} {s : Shared}
/-- the frame that the library's rules ask for -/
theorem frame_of (I : Inv X pins σ H s) : ∃ m, Fr X.base X.env.locals s.heap m := by
  obtain ⟨m, hns, _⟩ := I.loc
  exact ⟨m, hns, I.bk, Nat.le_trans I.ok.bsz I.ok.above⟩
/-- len(x) by the own __len__ -/
def rLenOwn (C : Addr) (sp : Sp) (E : XK) : List V → Hp → VK → Prop := fun xs H Q => ∃ (a dx : Addr) (fs : List (Str × V)), xs = [.ref a] ∧ H a = some (.ins C dx fs) ∧
  sp [.ref a] H (fun v H' => ∃ n : Int, v = .int n ∧ 0 ≤ n ∧ n < 2 ^ 63 ∧ Q (.int n) H') E
theorem call_lenOwn (hs : PySem.W.findIn X.K (.ref C) "__len__" = some (some (.ref f))) (hf : PySem.W.isFn X.K (.ref f) = true) (F : FnOk X.prog X.w X.K X.mg X.base CX k f fd ps sp) (hr : Room (k + 1) X.A) (hb : Binds X.K fd ps []) (hx : Passes CX X E) :
    CallR X (.builtin "len") (rLenOwn C sp E) := by
  intro pins s σ H xs us Q I r h
  obtain ⟨a, dx, fs, rfl, ea, q⟩ := h
  obtain ⟨u, rfl, ru⟩ := vals1 r
  obtain rfl : u = Value.ref a := ru
  obtain ⟨od, J⟩ := inst_of I ea
  obtain ⟨m, Fm⟩ := frame_of I
  refine PySem.W.len_K Fm I.ok.mod.kin J hs hf ?_
  refine thn (run_in1 (us := [.ref a]) (vs := [.ref a]) F hr hb hx I (.cons rfl .nil) q) fun u s1 hh => ?_
  obtain ⟨w, H1, I1, r1, n, rfl, h0, h1, q1⟩ := hh
  obtain ⟨t, rfl⟩ := r1
  exact ⟨⟨h0, h1⟩, .int n, H1, I1.tok _, ⟨_, rfl⟩, q1⟩
end
end SB
-- K01F
namespace K01
open PySem PySem.Spec PyProof.Rows L2 SB
def strOf (z : Str) : Str := if z = "" then "-" else z
section
variable {P : Program} {w : World} {K : PySem.W.Frag} {mg : Str → Option Value} {base : Heap}
def spStr (CW : Addr) : Sp := fun vs H Q _ => ∃ a z, vs = [.ref a] ∧ WordAt CW H a z ∧ Q (.str (strOf z)) H
theorem ok_Word_str {f CW : Addr} {fd : FuncData} {k : Nat} (F : Fun K "__str__" "Word.__str__" s_Word_str f fd) (cl : Cls K CW) (na : NoAttr K CW "letters") (ms : mg "str" = none) :
    FnOk P w K mg base CX0 (k + 1) f fd ["self"] (spStr CW) := by
  refine F.ok sc_Word_str (fun vs H Q E h => ?_) (fun cdv A outer s H vs Q E hr h => ?_)
  · obtain ⟨a, z, rfl, _⟩ := h
    rfl
  · obtain ⟨a, z, rfl, ⟨dx, ha⟩, q⟩ := h
    refine ⟨_, pss_cons (ps_if (pt_cmpR op_eq (pe_fld (pv 0) rfl) pe_str (nomark _)) (pss_one (ps_ret pe_str)) pss_nil)
      (pss_one (ps_ret (pe_callTy SkE.call_str_str (by rfl) ms PyProof.Rows.boot_str (pa_cons (pe_fld (pv 0) rfl) pa_nil)))), ?_⟩
    refine ⟨.ref a, rfl, a, CW, dx, _, .str z, rfl, ha, cl, na, rfl, rfl, _, rfl, ite2 (fun e => ?_) (fun e => ?_)⟩
    · have ez : z = "" := V.str.inj (of_decide_eq_true e)
      unfold strOf at q
      rw [if_pos ez] at q
      exact q
    · have nz : z ≠ "" := fun q => e (decide_eq_true (congrArg V.str q))
      unfold strOf at q
      rw [if_neg nz] at q
      exact ⟨.ref a, rfl, a, CW, dx, _, .str z, rfl, ha, cl, na, rfl, z, rfl, q⟩
def spLen (CW : Addr) : Sp := fun vs H Q _ => ∃ a z, vs = [.ref a] ∧ WordAt CW H a z ∧ z.length ≤ 100000 ∧ Q (.int (z.length : Nat)) H
theorem ok_Word_len {f CW : Addr} {fd : FuncData} {k : Nat} (F : Fun K "__len__" "Word.__len__" s_Word_len f fd) (cl : Cls K CW) (na : NoAttr K CW "letters") (ml : mg "len" = none) :
    FnOk P w K mg base CX0 (k + 1) f fd ["self"] (spLen CW) := by
  refine F.ok sc_Word_len (fun vs H Q E h => ?_) (fun cdv A outer s H vs Q E hr h => ?_)
  · obtain ⟨a, z, rfl, _⟩ := h
    rfl
  · obtain ⟨a, z, rfl, ⟨dx, ha⟩, hl, q⟩ := h
    refine ⟨_, pss_one (ps_ret (pe_callB call_len (by rfl) ml PySem.boot_len (pa_cons (pe_fld (pv 0) rfl) pa_nil))), ?_⟩
    exact ⟨.ref a, rfl, a, CW, dx, _, .str z, rfl, ha, cl, na, rfl, .str z, z.length, rfl, ⟨by rw [sizeLine_eq]; omega, rfl⟩, q⟩
theorem ok_Word_iter {f CW : Addr} {fd : FuncData} {k : Nat} (F : Fun K "__iter__" "Word.__iter__" s_Word_iter f fd) (cl : Cls K CW) (na : NoAttr K CW "letters") (mi : mg "iter" = none)
    (wi : PySem.W.findIn K (.ref CW) "__iter__" = some (some (.ref f))) (wif : PySem.W.isFn K (.ref f) = true) (bI : Binds K fd ["self"] []) : IterOk P w K mg base CW f "letters" (k + 1) := by
  refine ⟨wi, wif, fun A outer s H a dx z hr e0 ha => ?_⟩
  have KX : K.In s.heap := e0.mod.kin.keeps fun b o e => (e0.bs b o e).1
  have hb := bI s [.ref a] KX rfl
  obtain ⟨oc, od, kV, doc, pm, an, cdv, ct, osl, rfl, lk, hcd⟩ := F.ex
  refine LamX.run_ofS (N := ["self"]) (ps := ["self"]) (us := [.ref a]) (vs := [.ref a]) lk hcd sc_Word_iter hr e0 hb (.cons rfl .nil) rfl fun hr' => ?_
  have hbn : PSs (cxOf CX0 P w K mg base ["self"] "Word.__iter__" (defScope s_Word_iter) f cdv A outer s H E0).nox (defBody s_Word_iter) _ := pss_one (ps_ret (pe_callB call_iterS (by rfl) mi (by decide +kernel) (pa_cons (pe_fld (pv 0) rfl) pa_nil)))
  refine ⟨_, hbn.nox, ?_⟩
  exact ⟨.ref a, rfl, a, CW, dx, _, .str z, rfl, ha, cl, na, rfl, z, rfl, fun it hn hs => ⟨it, rfl, hn, hs, rfl⟩⟩
end
end K01
-- M9
namespace SB
open PySem PySem.Spec PyProof.Rows L2
/-! ### lists of texts as data -/
def dstrs (l : List Str) : List PyData := l.map PyData.str
def vstrs (l : List Str) : List V := l.map V.str
theorem dp_texts {K : PySem.W.Frag} {H : Hp} : ∀ l : List Str, DpAll K H (vstrs l) (dstrs l)
  | [] => .nil
  | a :: r => .cons (.str a) (dp_texts r)
/-- a text that may be laid -/
def Plain (z : Str) : Prop := (z.cps.all fun c => decide (c < 0x110000)) = true
theorem shaped_texts {l : List Str} (h : ∀ z ∈ l, Plain z) : SeqAt.shaped (.list (dstrs l)) = true := by
  have lay : ∀ l : List Str, (∀ z ∈ l, Plain z) → PyData.canLayAll0 (dstrs l) = true := by
    intro l
    induction l with
    | nil => intro _; rfl
    | cons a r ih =>
      intro h
      show ((a.cps.all fun c => decide (c < 0x110000)) && PyData.canLayAll0 (dstrs r)) = true
      rw [h a List.mem_cons_self, ih fun z hz => h z (List.mem_cons_of_mem _ hz)]
      rfl
  have dep : ∀ l : List Str, PyData.depthAll (dstrs l) ≤ 1 := by
    intro l
    induction l with
    | nil => exact Nat.zero_le _
    | cons a r ih =>
      show max _ _ ≤ 1
      refine Nat.max_le.mpr ⟨?_, ih⟩
      simp [PyData.depth]
  unfold SeqAt.shaped
  have e1 : PyData.canLay0 (.list (dstrs l)) = true := lay l h
  rw [e1]
  refine decide_eq_true ?_
  have := dep l
  have e2 : PyData.depth (.list (dstrs l)) = PyData.depthAll (dstrs l) + 1 := by
    simp [PyData.depth]
  rw [e2]
  omega
theorem eqv_texts : ∀ l : List Str, PyData.eqvAll (dstrs l) (dstrs l) = true
  | [] => rfl
  | a :: r => by
    show ((a == a) && PyData.eqvAll (dstrs r) (dstrs r)) = true
    rw [eqv_texts r]
    simp
theorem plain_one {c : Nat} (h : isL c = true) : Plain (s1 c) := by
  have := letter_lt c h
  unfold Plain
  simp
  omega
theorem plain_fine {z : Str} (h : fault z.cps.toList = none) : Plain z := ok_word h
theorem plain_ones {l : List Nat} (h : allL l) : ∀ z ∈ l.map s1, Plain z := fun z hz => by
  obtain ⟨c, hc, rfl⟩ := List.mem_map.mp hz
  exact plain_one (h c hc)
end SB
-- K01G
namespace K01
open PySem PySem.Spec PyProof.Rows L2 SB
/-- what isinstance asks of an own class -/
structure IsC (K : PySem.W.Frag) (C : Addr) : Prop where
  ca : PySem.W.findIn K (.ref C) "__class__" = some (some (.builtin "object.__class__"))
  cg : PySem.W.specialIn K (.builtin "object.__class__") "__get__" = some (some (.builtin "getset_descriptor.__get__"))
  ct : PySem.W.takesIn K (.builtin "object.__class__") = some true
  mr : PySem.W.mroIn K C (.type "object") = some true
  ns : PySem.W.kitOne K (.ref C) (.type "str") = some false
theorem isC_ty {K : PySem.W.Frag} {CW a : Addr} {H : Hp} {z : Str} (c : Cls K CW) (i : IsC K CW) (h : WordAt CW H a z) : TyX K H (.ref a) (.ref CW) := by
  obtain ⟨dx, h⟩ := h
  exact .base (.ins h c i.ca i.cg i.ct i.mr)
theorem kit_self {K : PySem.W.Frag} {C : Addr} : PySem.W.kitOne K (.ref C) (.ref C) = some true := by
  unfold PySem.W.kitOne
  rw [if_pos (beq_self_eq_true _)]
theorem vs1_texts (l : List Nat) : vs1 l = vstrs (l.map s1) := by
  unfold vs1 vstrs
  rw [List.map_map]
  rfl
section
variable {P : Program} {w : World} {K : PySem.W.Frag} {mg : Str → Option Value} {base : Heap}
/-- str(x) and len(x) of a Word x -/
structure WordOk (P : Program) (w : World) (K : PySem.W.Frag) (mg : Str → Option Value) (base : Heap) (CW : Addr) (k : Nat) : Prop where
  str_ : ∃ g fd, PySem.W.findIn K (.ref CW) "__str__" = some (some (.ref g)) ∧ PySem.W.isFn K (.ref g) = true ∧ FnOk P w K mg base CX0 k g fd ["self"] (spStr CW) ∧ Binds K fd ["self"] []
  len_ : ∃ g fd, PySem.W.findIn K (.ref CW) "__len__" = some (some (.ref g)) ∧ PySem.W.isFn K (.ref g) = true ∧ FnOk P w K mg base CX0 k g fd ["self"] (spLen CW) ∧ Binds K fd ["self"] []
  iter_ : ∃ g, IterOk P w K mg base CW g "letters" k
  gW : mg "Word" = some (.ref CW)
  cl : Cls K CW
  ic : IsC K CW
  na : NoAttr K CW "letters"
def spIs (CW : Addr) : Sp := fun vs H Q _ => ∃ (a : Addr) (z : Str), vs = [.ref a, .str z] ∧ WordAt CW H a z ∧ z.length ≤ 100000 ∧ fault z.cps.toList = none ∧ ∀ H', Same H H' → Q (.bl true) H'
theorem ok_law_is {f CW : Addr} {fd : FuncData} {k : Nat} (F : Fun K "_law_is" "_law_is" s__law_is f fd) (W : WordOk P w K mg base CW (k + 1)) (m_isinstance : mg "isinstance" = none) (m_len : mg "len" = none) (m_str : mg "str" = none) :
    FnOk P w K mg base CX0 (k + 4) f fd ["word", "text"] (spIs CW) := by
  obtain ⟨gS, fdS, ws, wf, GS, bS⟩ := W.str_
  obtain ⟨gL, fdL, wl, wlf, GL, bL⟩ := W.len_
  obtain ⟨gI, TI⟩ := W.iter_
  have gW := W.gW
  refine F.ok sc__law_is (fun vs H Q E h => ?_) (fun cdv A outer s H vs Q E hr h => ?_)
  · obtain ⟨a, z, rfl, _⟩ := h
    rfl
  · obtain ⟨a, z, rfl, wa, hl, fz, q⟩ := h
    have nd := sc__law_is.nd
    refine ⟨_, (pss_cons (ps_if (PW.pt (pw_or (pt_not (pt_val (pe_callB call_isi (by rfl) m_isinstance boot_isinstance (pa_cons (pv 0) (pa_cons (pe_glob (v := .ref CW) (by rfl) gW rfl) pa_nil))))) (pw_or (pt_cmpR op_ne (pe_fld (pv 0) rfl) (pv 1) (nomark _)) (pw_or1 (pt_cmpR op_ne (pe_callB (call_lenOwn wl wlf GL (hr.mono (by omega)) bL pass0) (by rfl) m_len PySem.boot_len (pa_cons (pv 0) pa_nil)) (pe_callB call_len (by rfl) m_len PySem.boot_len (pa_cons (pv 1) pa_nil)) (nomark _)))))) (pss_one (ps_ret pe_bl)) pss_nil)
      (pss_one (ps_ret (pe_and (pe_cmpR (op_eqD hr.units) (pe_lc (own := [("letter", 2)]) (g := gName 2) (by rfl) nd (pi_ownS TI (hr.mono (by omega)) (pv 0)) (blkOk_by (own := [("letter", 2)]) (N := ["word", "text", "letter", "sign"]) (sc := defScope s__law_is) (by decide +kernel)) (fun _ _ _ _ _ => pg_name (i := 2) nd rfl (Or.inl rfl)) (fun _ _ _ _ _ => pts_nil) (fun _ _ _ _ _ => (pv 2))) (pe_lc (own := [("sign", 3)]) (g := gName 3) (by rfl) nd (pi_str (pv 1)) (blkOk_by (own := [("sign", 3)]) (N := ["word", "text", "letter", "sign"]) (sc := defScope s__law_is) (by decide +kernel)) (fun _ _ _ _ _ => pg_name (i := 3) nd rfl (Or.inl rfl)) (fun _ _ _ _ _ => pts_nil) (fun _ _ _ _ _ => (pv 3))) (nomark _)) (pe_one (pe_cmpR op_eq (pe_callTy (call_strOwn ws wf GS (hr.mono (by omega)) bS pass0) (by rfl) m_str PyProof.Rows.boot_str (pa_cons (pv 0) pa_nil)) (pe_mid (pe_ifExp (pt_cmpR op_ne (pv 1) pe_str (nomark _)) (pv 1) pe_str)) (nomark _))))))), ?_⟩
    have zs : z.length ≤ sizeLine := by
      rw [sizeLine_eq]
      omega
    have zL : allL z.cps.toList := letters_of _ _ _ fz
    obtain ⟨dx, ha⟩ := wa
    have ty := isC_ty W.cl W.ic (show WordAt CW H a z from ⟨dx, ha⟩)
    refine ⟨.ref a, rfl, .ref a, .ref CW, .ref CW, .ref CW, true, rfl, .own CW, ty, kit_self, true, rfl, iteF ?_⟩
    refine ⟨.ref a, rfl, a, CW, dx, _, .str z, rfl, ha, W.cl, W.na, rfl, .str z, rfl, rfl, _, rfl, ?_⟩
    rw [decide_eq_true rfl]
    refine iteF ?_
    refine ⟨.ref a, rfl, a, dx, _, rfl, ha, a, z, rfl, ⟨dx, ha⟩, hl, _, rfl, by omega, by omega, .str z, rfl, .str z, z.length, rfl, ⟨zs, rfl⟩, rfl, _, rfl, ?_⟩
    rw [decide_eq_true rfl]
    refine iteF ?_
    have grow : ∀ {H0 Ha : Hp} {D : Addr} {i c : Nat}, H0 D = none → Same H0 Ha → z.cps.toList[i]? = some c → Ha D = some (.lst (vs1 (z.cps.toList.take i))) → (vs1 (z.cps.toList.take i)).length < sizeLine ∧ Same H0 (upd Ha D (.lst (vs1 (z.cps.toList.take i) ++ [.str (s1 c)]))) ∧
        (upd Ha D (.lst (vs1 (z.cps.toList.take i) ++ [.str (s1 c)]))) D = some (.lst (vs1 (z.cps.toList.take (i + 1)))) := fun {H0 Ha D i c} hD sm hc hd => by
      refine ⟨?_, fun b u e => ?_, ?_⟩
      · unfold vs1
        rw [List.length_map, List.length_take, sizeLine_eq]
        rw [len_codes] at hl
        omega
      · rw [upd_ne (ne_of_none e hD)]
        exact sm b u e
      · rw [upd_same, List.take_add_one, hc]
        unfold vs1
        rw [List.map_append]
        rfl
    have full : z.cps.toList.take z.cps.size = z.cps.toList := List.take_of_length_le (by simp)
    refine ⟨.ref a, rfl, a, dx, z, rfl, ha, fun D hD => lc_it walk_str (fun i H' => Same H H' ∧ H' D = some (.lst (vs1 (z.cps.toList.take i)))) ⟨same_new hD, upd_same⟩ (fun _ _ _ _ => trivial) (fun i x Ha Hb hi hPc hY => ?_) (fun H2 hPc => ?_)⟩
    · obtain ⟨sa, hd⟩ := hPc
      obtain ⟨rfl, c, hc, rfl⟩ := hY
      have hc' : z.cps.toList[i]? = some c := by
        rw [Array.getElem?_toList]
        exact hc
      obtain ⟨g1, g2, g3⟩ := grow hD sa hc' hd
      exact ⟨rfl, .str (s1 c), rfl, _, hd, g1, g2, g3⟩
    · obtain ⟨sa, hd⟩ := hPc
      rw [full] at hd
      refine ⟨.str z, rfl, z, rfl, fun D2 hD2 => lc_it walk_str (fun i H' => Same H2 H' ∧ H' D2 = some (.lst (vs1 (z.cps.toList.take i)))) ⟨same_new hD2, upd_same⟩ (fun _ _ _ _ => trivial) (fun i x Ha Hb hi hPc hY => ?_) (fun H3 hPc => ?_)⟩
      · obtain ⟨sa, hd⟩ := hPc
        obtain ⟨rfl, c, hc, rfl⟩ := hY
        have hc' : z.cps.toList[i]? = some c := by
          rw [Array.getElem?_toList]
          exact hc
        obtain ⟨g1, g2, g3⟩ := grow hD2 sa hc' hd
        exact ⟨rfl, .str (s1 c), rfl, _, hd, g1, g2, g3⟩
      · obtain ⟨sb, he⟩ := hPc
        rw [full] at he
        have hd3 := sb _ _ hd
        rw [vs1_texts] at hd3 he
        refine ⟨.list (dstrs (z.cps.toList.map s1)), .list (dstrs (z.cps.toList.map s1)), .lst (.inl (.inl hd3)) (dp_texts _), .lst (.inl (.inl he)) (dp_texts _), shaped_texts (plain_ones zL), shaped_texts (plain_ones zL), ?_⟩
        have ee : PyData.eqv (.list (dstrs (z.cps.toList.map s1))) (.list (dstrs (z.cps.toList.map s1))) = true := eqv_texts _
        rw [ee]
        have ha3 := sb _ _ (sa _ _ ha)
        refine ⟨true, rfl, iteT ?_⟩
        refine ⟨.ref a, rfl, a, dx, _, rfl, ha3, a, z, rfl, ⟨dx, ha3⟩, strOf z, rfl, fun v H' => v = .str (strOf z) ∧ H' = H3, ⟨.str z, rfl, rfl, _, rfl, ?_⟩, ?_⟩
        · by_cases e : z = ""
          · rw [decide_eq_true (congrArg V.str e)]
            refine iteF ⟨?_, rfl⟩
            unfold strOf
            rw [if_pos e]
          · rw [decide_eq_false fun q => e (V.str.inj q)]
            refine iteT ⟨.str z, rfl, ?_, rfl⟩
            unfold strOf
            rw [if_neg e]
        rintro v H' ⟨rfl, rfl⟩
        refine ⟨rfl, ?_⟩
        rw [decide_eq_true rfl]
        exact q _ (sa.trans sb)
def spIsBad (K : PySem.W.Frag) (CB2 : Addr) : Sp := fun vs H Q _ => ∃ (a d : Addr) (n : Int), vs = [.ref a, .int n] ∧ H a = some (ErrO CB2 d a) ∧ H d = some (.xd [("at", .int n)]) ∧ Q (.bl true) H
theorem xd_fld (g : Str) (v : V) : ([(g, v)] : List (Str × V)).lookup g = some v := by simp [List.lookup]
theorem ok_law_is_bad {f CB2 fB2 : Addr} {fd : FuncData} {k : Nat} (F : Fun K "_law_is_bad" "_law_is_bad" s__law_is_bad f fd) (E2 : Err1 K mg "BadWord" "at" CB2 fB2) (m_isinstance : mg "isinstance" = none) : FnOk P w K mg base CX0 (k + 1) f fd ["caught", "at"] (spIsBad K CB2) := by
  have g_BadWord := E2.at_
  refine F.ok sc__law_is_bad (fun vs H Q E h => ?_) (fun cdv A outer s H vs Q E hr h => ?_)
  · obtain ⟨a, d, n, rfl, _⟩ := h
    rfl
  · obtain ⟨a, d, n, rfl, hA, hD, q⟩ := h
    have nd := sc__law_is_bad.nd
    refine ⟨_, (pss_one (ps_ret (pe_and (pe_callB call_isErr (by rfl) m_isinstance boot_isinstance (pa_cons (pv 0) (pa_cons (pe_glob (v := .ref CB2) (by rfl) g_BadWord rfl) pa_nil))) (pe_and (pe_cmpR op_eq (pe_errF (pv 0)) (pv 1) (nomark _)) (pe_one (pe_cmpR op_notIB (pe_errF (pv 0)) pe_bl (nomark _))))))), ?_⟩
    have fld := xd_fld "at" (V.int n)
    refine ⟨.ref a, rfl, a, CB2, d, CB2, _, true, rfl, hA, hD, E2.ec, kit_self, true, rfl, iteT ?_⟩
    refine ⟨.ref a, rfl, a, CB2, d, _, .int n, rfl, hA, hD, E2.ec, E2.no, fld, .int n, rfl, rfl, true, ?_, iteT ?_⟩
    · rw [decide_eq_true rfl]
    exact ⟨.ref a, rfl, a, CB2, d, _, .int n, rfl, hA, hD, E2.ec, E2.no, fld, n, false, rfl, rfl, q⟩
end
end K01
-- K01H1
namespace K01
open PySem PySem.Spec PyProof.Rows L2 SB
/-- a def whose code object is at c -/
structure FunT (K : PySem.W.Frag) (x qual : Str) (st : Stmt) (f c : Addr) (fd : FuncData) : Prop where
  ex : ∃ (oc : Value) (od : Option Addr) (kV doc pm : Value) (an : Option Addr) (ct : Value) (osl : Array (Option Value)),
    fd = PySem.W.fnOf x qual (defArgs st) (defBody st) (defScope st) .none kV doc pm an (.ref c) ct ∧ K.lookup f = some ⟨oc, od, .func fd, osl⟩ ∧ PySem.W.codeIn K (.ref c) qual = true
  kp : PySem.W.keepIn K (.ref f) = true
section
variable {P : Program} {w : World} {K : PySem.W.Frag} {mg : Str → Option Value} {base : Heap}
theorem FunT.fn {x qual : Str} {st : Stmt} {f c : Addr} {fd : FuncData} (F : FunT K x qual st f c fd) : Fun K x qual st f fd := by
  obtain ⟨oc, od, kV, doc, pm, an, ct, osl, e, lk, hcd⟩ := F.ex
  exact ⟨⟨oc, od, kV, doc, pm, an, .ref c, ct, osl, e, lk, hcd⟩, F.kp⟩
theorem FunT.ok {x qual : Str} {st : Stmt} {f c : Addr} {fd : FuncData} {N ps : List Str} {k : Nat} {sp : Sp} (F : FunT K x qual st f c fd) (S : FnScope N ps (defScope st)) (len : ∀ vs H Q E, sp vs H Q E → vs.length = ps.length)
    (hbody : ∀ (A : Around) (outer : List Env) (s : Shared) (H : Hp) (vs : List V) (Q : VK) (E : XK), Room k (A.deeper (envOfC qual (defScope st) s.heap.objs.size f (.ref c))) → sp vs H Q E →
      ∃ t, PSs (cxOf CX0 P w K mg base N qual (defScope st) f (.ref c) A outer s H E).nox (defBody st) t ∧ t { nx := fun _ H' => Q .non H', rt := Q } (L2.start N vs) H) : FnOk P w K mg base CX0 (k + 1) f fd ps sp := by
  obtain ⟨oc, od, kV, doc, pm, an, ct, osl, rfl, lk, hcd⟩ := F.ex
  refine fn_of lk hcd S len fun A outer s H vs Q E hr hsp => ?_
  obtain ⟨t, h, q⟩ := hbody A outer s H vs Q E hr hsp
  exact ⟨t, h.nox, q⟩
theorem funT_mk {x qual : Str} {st : Stmt} {f c : Addr} {oc : Value} {od an : Option Addr} {osl : Array (Option Value)} {kV doc pm ct : Value} (l : K.lookup f = some ⟨oc, od, .func (PySem.W.fnOf x qual (defArgs st) (defBody st) (defScope st) .none kV doc pm an (.ref c) ct), osl⟩)
    (e : PySem.W.codeIn K (.ref c) qual = true) (k : PySem.W.keepIn K (.ref f) = true) : FunT K x qual st f c (PySem.W.fnOf x qual (defArgs st) (defBody st) (defScope st) .none kV doc pm an (.ref c) ct) :=
  ⟨⟨oc, od, kV, doc, pm, an, ct, osl, rfl, l, e⟩, k⟩
/-- what is told of _law_heard -/
structure Heard (K : PySem.W.Frag) (mg : Str → Option Value) (CB : Addr) : Prop where
  ex : ∃ g fd, Fun K "_law_heard" "_law_heard" s__law_heard g fd ∧ Binds K fd ["ask"] [] ∧ mg "_law_heard" = some (.ref g)
  be : mg "BallError" = some (.ref CB)
/-- _law_heard(lambda: body) -/
theorem pe_heard {X : Cx} {T : List (Addr × Str)} {CB c P : Addr} {k : Nat} {params : Arguments} {body : Expr} {scope : Scope} {t : XK → TE} {p lpos pos : Pos} (Hd : Heard X.K X.mg CB) (hg : Gl X "_law_heard")
    (TB : LamX.TabB X.base X.mg c P) (hcode : X.env.code = .ref c) (hmT : (P, X.env.qual ++ "<lambda>") ∈ T) (hu : ∀ p ∈ T, p.1 = P → p.2 = X.env.qual ++ "<lambda>") (hr : Room (k + 2) X.A) (L : LamX.LamS X.env.scope scope) (hdef : defaultsOf params X.env = ([], []))
    (hbind : ∀ (q : Str) (cl : List (Str × Addr)) (pm cv ctv : Value), bindArgs (PySem.W.kla_fn "<lambda>" q params body scope cl pm cv ctv) ⟨[], []⟩ = pure [])
    (hbody : ∀ (A : Around) (outer : List Env) (s : Shared) (H : Hp) (E : XK) (f c' : Addr), Room k (A.deeper (LamX.lamEnv X scope s.heap.objs.size f c')) → PE (LamX.lamCx X A outer s H E scope f c') body (t E)) :
    PE X (.Call (.Name "_law_heard" p) [.Lambda params body scope lpos] [] pos) (LamX.tLam T (THeard X.K CB) t) := by
  obtain ⟨g, fd, F, bF, hm⟩ := Hd.ex
  have kp := F.kp
  obtain ⟨oc, od, kV, doc, pm, an, cdv, ct, osl, rfl, lk, hcd⟩ := F.ex
  exact LamX.pe_lamcall (Ng := ["ask", "caught", "error"]) (a := "ask") hg hm kp lk hcd bF sc__law_heard rfl (.inl rfl) (heard_gives (x := "_law_heard") (g := g) (cdg := cdv) Hd.be) TB hcode hmT hu hr L hdef hbind hbody
end
end K01
-- K01H2
namespace K01
open PySem PySem.Spec PyProof.Rows L2 SB
/-- the name of the lambda in a def -/
def lq (x : Str) : Str := (envOfC x (defScope s__law_heard) 0 0 .none).qual ++ "<lambda>"
theorem extN_same {H H' : Hp} (s : Same H H') : LamX.ExtN H H' := LamX.ExtN.of s
theorem tabs_same {T : List (Addr × Str)} {H H' : Hp} (t : LamX.Tabs T H) (s : Same H H') : LamX.Tabs T H' := t.ext s
theorem err_heap {H2 : Hp} {C d a : Addr} {fs : List (Str × V)} (hd : H2 d = none) (ha : upd H2 d (.xd fs) a = none) : upd (upd H2 d (.xd fs)) a (ErrO C d a) a = some (ErrO C d a) ∧ upd (upd H2 d (.xd fs)) a (ErrO C d a) d = some (.xd fs) ∧ Same H2 (upd (upd H2 d (.xd fs)) a (ErrO C d a)) := by
  have ne : a ≠ d := fun q => by
    rw [q, upd_same] at ha
    cases ha
  refine ⟨upd_same, ?_, (same_new hd).trans (same_new ha)⟩
  rw [upd_ne (Ne.symm ne), upd_same]
theorem faultI_nonneg (l : List Nat) : (fault l = none → faultI l = -1) ∧ ∀ i, fault l = some i → faultI l = (i : Nat) := by
  unfold faultI
  refine ⟨fun e => by rw [e], fun i e => by rw [e]⟩
theorem strangeI_val (l : List Nat) : (strange 0 l = none → strangeI l = -1) ∧ ∀ i, strange 0 l = some i → strangeI l = (i : Nat) := by
  unfold strangeI
  refine ⟨fun e => by rw [e], fun i e => by rw [e]⟩
section
variable {P : Program} {w : World} {K : PySem.W.Frag} {mg : Str → Option Value} {base : Heap}
theorem word_kw {f : Addr} {fd : FuncData} (F : FunD K "__init__" "Word.__init__" (defArgs s_Word_init) (defBody s_Word_init) (defScope s_Word_init) [.str ""] [] f fd) : KBn K fd ["self", "letters"] 1 ["letters"] (fun us ws => us ++ ws) (fun vs zs => vs ++ zs) := by
  obtain ⟨oc, od, dV, kV, doc, pm, an, cdv, ct, osl, rfl, lk, hcd, hD, hK⟩ := F.ex
  rcases hD with ⟨e, _⟩ | ⟨_, T, o, its, m, rfl, lT, oT, rT⟩
  · cases e
  · refine ⟨fun s us ws X l1 l2 => ?_, fun r1 r2 => r1.append r2⟩
    match us, ws, l1, l2 with
    | [a], [b], _, _ =>
      cases rT with
      | cons r1 r2 =>
        cases r2
        exact BindsTo.of_looks fun M => looks_items X lT oT (.of_pure rfl)
theorem of_kw {f : Addr} {fd : FuncData} (F : Fun K "of" "Word.of" s_Word_of f fd) : KBinds K fd ["letters"] ["letters"] (fun us ws => us ++ ws) (fun vs zs => vs ++ zs) := by
  obtain ⟨oc, od, kV, doc, pm, an, cdv, ct, osl, rfl, lk, hcd⟩ := F.ex
  exact ⟨fun s us ws hX hl => match us, ws, hl with | [], [_], _ => .of_eq rfl | [_], [], _ => .of_eq rfl, fun r1 r2 => r1.append r2⟩
/-- what is told of the making of Words -/
structure MakeOk (P : Program) (w : World) (K : PySem.W.Frag) (mg : Str → Option Value) (base : Heap) (CW CB2 CM : Addr) (k : Nat) : Prop where
  word : ∃ f fd tE, Mk K CW f ∧ FnOk P w K mg base (L2.CX P w) (k + 3) f fd ["self", "letters"] (spWordI K CW CB2 CM) ∧ Binds K fd ["self", "letters"] [] ∧ Binds K fd ["self", "letters"] [tE] ∧ RelV (.str "") tE ∧ KBn K fd ["self", "letters"] 1 ["letters"] (fun us ws => us ++ ws) (fun vs zs => vs ++ zs)
  of_ : ∃ p f fd, Stat K CW "of" p f ∧ FnOk P w K mg base (L2.CX P w) (k + 5) f fd ["letters"] (spOf K CW CB2 CM) ∧ Binds K fd ["letters"] [] ∧ KBinds K fd ["letters"] ["letters"] (fun us ws => us ++ ws) (fun vs zs => vs ++ zs)
def spText (T : List (Addr × Str)) : Sp := fun vs H Q _ => ∃ z : Str, vs = [.str z] ∧ z.length ≤ 3000 ∧ LamX.Tabs T H ∧ ∀ H', LamX.ExtN H H' → LamX.Tabs T H' → Q (.bl true) H'
theorem ok_law_text_right {T : List (Addr × Str)} {f c Pt CB CB2 CM CW fB2 f__law_wrong f__law_odd f__law_is f__law_is_bad f__law_left : Addr} {fd d__law_wrong d__law_odd d__law_is d__law_is_bad d__law_left : FuncData} {k : Nat} (F : FunT K "_law_text_right" "_law_text_right" s__law_text_right f c fd) (Hd : Heard K mg CB)
    (TB : LamX.TabB base mg c Pt) (hmT : (Pt, lq "_law_text_right") ∈ T) (hu : ∀ p ∈ T, p.1 = Pt → p.2 = lq "_law_text_right")
    (MO : MakeOk P w K mg base CW CB2 CM k) (gW : mg "Word" = some (.ref CW)) (E2 : Err1 K mg "BadWord" "at" CB2 fB2) (xm2 : PySem.W.exmOne K (.ref CB2) (.ref CB) = some true)
    (G__law_wrong : FnOk P w K mg base CX0 (k + 3) f__law_wrong d__law_wrong ["text"] spWrong) (g__law_wrong : mg "_law_wrong" = some (.ref f__law_wrong)) (k__law_wrong : PySem.W.keepIn K (.ref f__law_wrong) = true) (b__law_wrong : Binds K d__law_wrong ["text"] [])
    (G__law_odd : FnOk P w K mg base CX0 (k + 3) f__law_odd d__law_odd ["text"] spOdd) (g__law_odd : mg "_law_odd" = some (.ref f__law_odd)) (k__law_odd : PySem.W.keepIn K (.ref f__law_odd) = true) (b__law_odd : Binds K d__law_odd ["text"] [])
    (G__law_left : FnOk P w K mg base CX0 (k + 3) f__law_left d__law_left ["text"] spLeft) (g__law_left : mg "_law_left" = some (.ref f__law_left)) (k__law_left : PySem.W.keepIn K (.ref f__law_left) = true) (b__law_left : Binds K d__law_left ["text"] [])
    (G__law_is : FnOk P w K mg base CX0 (k + 4) f__law_is d__law_is ["word", "text"] (spIs CW)) (g__law_is : mg "_law_is" = some (.ref f__law_is)) (k__law_is : PySem.W.keepIn K (.ref f__law_is) = true) (b__law_is : Binds K d__law_is ["word", "text"] [])
    (G__law_is_bad : FnOk P w K mg base CX0 (k + 3) f__law_is_bad d__law_is_bad ["caught", "at"] (spIsBad K CB2)) (g__law_is_bad : mg "_law_is_bad" = some (.ref f__law_is_bad)) (k__law_is_bad : PySem.W.keepIn K (.ref f__law_is_bad) = true) (b__law_is_bad : Binds K d__law_is_bad ["caught", "at"] []) :
    FnOk P w K mg base CX0 (k + 9) f fd ["text"] (spText T) := by
  obtain ⟨fW, fdW, tE, M, GW, bW, bW0, rE, kW⟩ := MO.word
  obtain ⟨pO, gO, fdO, StO, GO, bO, kO⟩ := MO.of_
  refine F.ok sc__law_text_right (fun vs H Q E h => ?_) (fun A outer s H vs Q E hr h => ?_)
  · obtain ⟨z, rfl, _⟩ := h
    rfl
  · obtain ⟨z, rfl, hl, tabs, q⟩ := h
    have nd := sc__law_text_right.nd
    refine ⟨_, (pss_cons (ps_par (i := 1) (j := 2) (by rfl) nd rfl rfl (by decide) rfl rfl (pa_cons (pe_call G__law_wrong (hr.mono (by omega)) (by rfl) g__law_wrong k__law_wrong b__law_wrong .nil pass0 (pa_cons (pv 0) pa_nil)) (pa_cons (pe_call G__law_odd (hr.mono (by omega)) (by rfl) g__law_odd k__law_odd b__law_odd .nil pass0 (pa_cons (pv 0) pa_nil)) pa_nil)) (by rfl))
      (C8.pss_cut (ps_if (pt_cmpR op_ge (pv 1) pe_int (nomark _)) (pss_one (ps_if (pt_not (pt_val (pe_call G__law_is_bad (hr.mono (by omega)) (by rfl) g__law_is_bad k__law_is_bad b__law_is_bad .nil pass0 (pa_cons (pe_heard Hd (by rfl) TB (by rfl) hmT hu (k := k + 6) (hr.mono (by omega)) (LamX.lamS_by (sc := defScope s__law_text_right) (by decide +kernel)) (by rfl) (fun _ _ _ _ _ => rfl) (fun _ _ _ _ E' _ _ hr' => (pe_make M GW (hr'.mono (by omega)) (by rfl) gW bW .nil (E := E') (passes_call (takes_of rfl rfl rfl rfl) fun _ _ _ _ q => q) (pa_cons (pv 0) pa_nil)))) (pa_cons (pv 1) pa_nil))))) (pss_one (ps_ret pe_bl)) pss_nil)) (pss_one (ps_if (PW.pt (pw_or (pt_not (pt_val (pe_call G__law_is (hr.mono (by omega)) (by rfl) g__law_is k__law_is b__law_is .nil pass0 (pa_cons (pe_make M GW (hr.mono (by omega)) (by rfl) gW bW .nil passL (pa_cons (pv 0) pa_nil)) (pa_cons (pv 0) pa_nil))))) (pw_or1 (pt_not (pt_val (pe_call G__law_is (hr.mono (by omega)) (by rfl) g__law_is k__law_is b__law_is .nil pass0 (pa_cons (pe_makeK0 M GW (hr.mono (by omega)) (by rfl) gW kW passL (pk_cons (pv 0) pk_nil)) (pa_cons (pv 0) pa_nil)))))))) (pss_one (ps_ret pe_bl)) pss_nil)))
      (pss_cons (ps_if (pt_cmpR op_ge (pv 2) pe_int (nomark _)) (pss_one (ps_ret (pe_call G__law_is_bad (hr.mono (by omega)) (by rfl) g__law_is_bad k__law_is_bad b__law_is_bad .nil pass0 (pa_cons (pe_heard Hd (by rfl) TB (by rfl) hmT hu (k := k + 6) (hr.mono (by omega)) (LamX.lamS_by (sc := defScope s__law_text_right) (by decide +kernel)) (by rfl) (fun _ _ _ _ _ => rfl) (fun _ _ _ _ E' _ _ hr' => (pe_stat (pe_glob (v := .ref CW) (by rfl) gW rfl) StO GO (hr'.mono (by omega)) bO .nil (E := E') (passes_call (takes_of rfl rfl rfl rfl) fun _ _ _ _ q => q) (pa_cons (pv 0) pa_nil)))) (pa_cons (pv 2) pa_nil))))) pss_nil)
      (pss_cons (ps_set (i := 3) nd rfl (.inl rfl) (pe_call G__law_left (hr.mono (by omega)) (by rfl) g__law_left k__law_left b__law_left .nil pass0 (pa_cons (pv 0) pa_nil)))
      (pss_one (ps_ret (pe_and (pe_call G__law_is (hr.mono (by omega)) (by rfl) g__law_is k__law_is b__law_is .nil pass0 (pa_cons (pe_stat (pe_glob (v := .ref CW) (by rfl) gW rfl) StO GO (hr.mono (by omega)) bO .nil passL (pa_cons (pv 0) pa_nil)) (pa_cons (pv 3) pa_nil))) (pe_one (pe_call G__law_is (hr.mono (by omega)) (by rfl) g__law_is k__law_is b__law_is .nil pass0 (pa_cons (pe_statK (pe_glob (v := .ref CW) (by rfl) gW rfl) StO GO (hr.mono (by omega)) kO passL (pk_cons (pv 0) pk_nil)) (pa_cons (pv 3) pa_nil))))))))))), ?_⟩
    refine ⟨.str z, rfl, z, rfl, by omega, .str z, rfl, z, rfl, by omega, _, _, rfl, ?_⟩
    refine ⟨fun σ' H' => σ' = [some (.str z), some (.int (faultI z.cps.toList)), some (.int (strangeI z.cps.toList)), none] ∧ LamX.ExtN H H' ∧ LamX.Tabs T H', ?_, ?_⟩
    · refine ⟨.int _, rfl, _, 0, rfl, rfl, _, rfl, ?_⟩
      cases ef : fault z.cps.toList with
      | some i =>
        have ei := (faultI_nonneg z.cps.toList).2 i ef
        have ge : decide (faultI z.cps.toList ≥ 0) = true := decide_eq_true (by rw [ei]; omega)
        show if decide (faultI z.cps.toList ≥ 0) = true then _ else _
        rw [ge]
        refine iteT ?_
        refine ⟨tabs, fun H1 e1 t1 => ?_⟩
        refine ⟨.str z, rfl, fun x dx nx nd' ne => ⟨x, dx, .str z, rfl, upd_same, .inl ⟨_, rfl⟩, fun z' hz' => ?_, fun nz => (nz _ rfl).elim⟩⟩
        cases hz'
        refine ⟨by omega, fun j hj H2 d s2 hd2 => ⟨true, xm2, (fun z => nomatch z), fun _ => ⟨CB2, d, rfl, rfl, fun ea hea => ?_⟩⟩, (fun fn => by rw [ef] at fn; cases fn), (fun fn => by rw [ef] at fn; cases fn)⟩
        rw [ef] at hj
        cases hj
        obtain ⟨hA, hD, s3⟩ := err_heap (C := CB2) hd2 hea
        have sA := (same_make nx nd' ne s2).trans s3
        refine ⟨.int _, rfl, ea, d, faultI z.cps.toList, rfl, hA, ?_, true, rfl, iteF ?_⟩
        · rw [ei]
          exact hD
        exact ⟨rfl, e1.trans (extN_same sA), tabs_same t1 sA⟩
      | none =>
        have ei := (faultI_nonneg z.cps.toList).1 ef
        have ge : decide (faultI z.cps.toList ≥ 0) = false := decide_eq_false (by rw [ei]; omega)
        show if decide (faultI z.cps.toList ≥ 0) = true then _ else _
        rw [ge]
        refine iteF ?_
        refine ⟨.str z, rfl, fun x dx nx nd' ne => ⟨x, dx, .str z, rfl, upd_same, .inl ⟨_, rfl⟩, fun z' hz' => ?_, fun nz => (nz _ rfl).elim⟩⟩
        cases hz'
        refine ⟨by omega, (fun j hj => by rw [ef] at hj; cases hj), (fun _ l4 => absurd l4 (by omega)), fun _ _ H1 s1' => ⟨rfl, ?_⟩⟩
        obtain ⟨s1, w1⟩ := made_word (z := z) nx nd' s1'
        refine ⟨.str z, rfl, x, z, rfl, w1, by omega, ef, fun H2 s2 => ⟨true, rfl, iteF ?_⟩⟩
        refine ⟨.str z, rfl, rfl, rfl, fun y dy ny nd2 ne2 => ⟨y, dy, .str z, rfl, upd_same, .inl ⟨_, rfl⟩, fun z' hz' => ?_, fun nz => (nz _ rfl).elim⟩⟩
        cases hz'
        refine ⟨by omega, (fun j hj => by rw [ef] at hj; cases hj), (fun _ l4 => absurd l4 (by omega)), fun _ _ H3 s3' => ⟨rfl, ?_⟩⟩
        obtain ⟨s3, w3⟩ := made_word (z := z) ny nd2 s3'
        refine ⟨.str z, rfl, y, z, rfl, w3, by omega, ef, fun H4 s4 => ⟨true, rfl, iteF ?_⟩⟩
        have sA := s1.trans (s2.trans (s3.trans s4))
        exact ⟨rfl, extN_same sA, tabs_same tabs sA⟩
    · rintro σ' H' ⟨rfl, e1, t1⟩
      refine ⟨.int _, rfl, _, 0, rfl, rfl, _, rfl, ?_⟩
      cases es : strange 0 z.cps.toList with
      | some i =>
        have ei := (strangeI_val z.cps.toList).2 i es
        have ge : decide (strangeI z.cps.toList ≥ 0) = true := decide_eq_true (by rw [ei]; omega)
        show if decide (strangeI z.cps.toList ≥ 0) = true then _ else _
        rw [ge]
        refine iteT ?_
        refine ⟨t1, fun H1 e2 t2 => ?_⟩
        refine ⟨rfl, .str z, rfl, .str z, rfl, .inl ⟨_, rfl⟩, fun z' hz' => ?_, fun nz => (nz _ rfl).elim⟩
        cases hz'
        refine ⟨by omega, fun j hj H2 d s2 hd2 => ⟨true, xm2, (fun z => nomatch z), fun _ => ⟨CB2, d, rfl, rfl, fun ea hea => ?_⟩⟩, (fun hL => by rw [(strange_none _ _).mpr hL] at es; cases es), (fun hL => by rw [(strange_none _ _).mpr hL] at es; cases es)⟩
        rw [es] at hj
        cases hj
        obtain ⟨hA, hD, s3⟩ := err_heap (C := CB2) hd2 hea
        refine ⟨.int _, rfl, ea, d, strangeI z.cps.toList, rfl, hA, ?_, ?_⟩
        · rw [ei]
          exact hD
        · exact q _ (e1.trans (e2.trans (extN_same (s2.trans s3)))) (tabs_same t2 (s2.trans s3))
      | none =>
        have ei := (strangeI_val z.cps.toList).1 es
        have hL := (strange_none _ _).mp es
        have ge : decide (strangeI z.cps.toList ≥ 0) = false := decide_eq_false (by rw [ei]; omega)
        show if decide (strangeI z.cps.toList ≥ 0) = true then _ else _
        rw [ge]
        refine iteF ?_
        have fz : fault (SB.T (strike z.cps.toList)).cps.toList = none := (fine_iff _).mpr (fine_strike hL)
        have ln := len_strike z.cps.toList
        have lz : (SB.T (strike z.cps.toList)).length = (strike z.cps.toList).length := rfl
        have hl' : z.cps.toList.length ≤ 3000 := hl
        refine ⟨.str z, rfl, z, rfl, by omega, hL, ?_⟩
        refine ⟨rfl, .str z, rfl, .str z, rfl, .inl ⟨_, rfl⟩, fun z' hz' => ?_, fun nz => (nz _ rfl).elim⟩
        cases hz'
        refine ⟨by omega, (fun j hj => by rw [es] at hj; cases hj), (fun _ l4 => absurd l4 (by omega)), fun _ _ a H1 na s1 w1 => ?_⟩
        refine ⟨.str _, rfl, a, _, rfl, w1, by omega, fz, fun H2 s2 => ⟨true, rfl, iteT ?_⟩⟩
        refine ⟨rfl, .str z, rfl, .str z, rfl, .inl ⟨_, rfl⟩, fun z' hz' => ?_, fun nz => (nz _ rfl).elim⟩
        cases hz'
        refine ⟨by omega, (fun j hj => by rw [es] at hj; cases hj), (fun _ l4 => absurd l4 (by omega)), fun _ _ b H3 nb s3 w3 => ?_⟩
        refine ⟨.str _, rfl, b, _, rfl, w3, by omega, fz, fun H4 s4 => ?_⟩
        have sA := s1.trans (s2.trans (s3.trans s4))
        exact q _ (e1.trans (extN_same sA)) (tabs_same t1 sA)
end
end K01
-- M10
namespace SB
open PySem PySem.Spec PyProof.Rows L2
/-! ### long rows -/
theorem foldl_codes : ∀ (ls : List (Array Nat)) (acc : Array Nat), (ls.foldl (· ++ ·) acc).toList = acc.toList ++ (ls.map (·.toList)).flatten
  | [], acc => by simp
  | a :: r, acc => by
    rw [List.foldl_cons, foldl_codes r (acc ++ a), Array.toList_append, List.map_cons, List.flatten_cons, List.append_assoc]
theorem mul_codes {z : Str} {n : Int} (h : 1 < n) (hz : 0 < z.length) : (Txt.mul z n).cps.toList = (List.replicate n.toNat z.cps.toList).flatten := by
  have e1 : ¬ n < 1 := by omega
  have e2 : (n == 1 || z.length == 0) = false := by
    have a : (n == 1) = false := by simp; omega
    have b : (z.length == 0) = false := by simp; omega
    rw [a, b]
    rfl
  unfold Txt.mul
  rw [if_neg e1, e2]
  show ((List.replicate n.toNat z.cps).foldl (· ++ ·) #[]).toList = _
  rw [foldl_codes, List.map_replicate]
  rfl
theorem mul_mem {z : Str} {n : Int} (h : 1 < n) (hz : 0 < z.length) {c : Nat} (hc : c ∈ (Txt.mul z n).cps.toList) : c ∈ z.cps.toList := by
  rw [mul_codes h hz] at hc
  obtain ⟨l, h1, h2⟩ := List.mem_flatten.mp hc
  rw [List.eq_of_mem_replicate h1] at h2
  exact h2
theorem mul_len {z : Str} {n : Int} (h : 1 < n) (hz : 0 < z.length) : (Txt.mul z n).length = n.toNat * z.length := by
  have rep : ∀ (m k : Nat), (List.replicate m k).sum = m * k := by
    intro m k
    induction m with
    | zero => simp
    | succ m ih =>
      rw [List.replicate_succ, List.sum_cons, ih, Nat.succ_mul, Nat.add_comm]
  rw [len_codes, mul_codes h hz, List.length_flatten, List.map_replicate, rep]
  rfl
def units : List Str := ["A", "d", "AB", "CdaB"]
theorem units_ok : ∀ u ∈ units, (0 < u.length ∧ u.length ≤ 4) ∧ (∀ c ∈ u.cps.toList, isL c = true) ∧ (∀ c ∈ u.cps.toList, ∀ d ∈ u.cps.toList, c ≠ up d) := by decide +kernel
theorem units_mul : ∀ u ∈ units, MulOk u 4000 ∧ MulOk u 5000 := by
  unfold MulOk
  decide +kernel
theorem fine_units {u : Str} (hu : u ∈ units) {l : List Nat} (h : ∀ c ∈ l, c ∈ u.cps.toList) : Fine l := by
  obtain ⟨_, h1, h2⟩ := units_ok u hu
  exact ⟨fun c hc => h1 c (h c hc), fun j c d _ hd hc => h2 c (h c (List.mem_of_getElem? hc)) d (h d (List.mem_of_getElem? hd))⟩
/-- the first k signs of a unit written n times -/
theorem cut_mul {u : Str} (hu : u ∈ units) {n : Int} {k : Nat} (h : 1 < n) (hk : k ≤ n.toNat) : Fine (cutS (Txt.mul u n) none (some (k : Int))).cps.toList ∧ (cutS (Txt.mul u n) none (some (k : Int))).length = k := by
  obtain ⟨⟨l0, l4⟩, _⟩ := units_ok u hu
  have ml := mul_len h l0
  have le : n.toNat ≤ n.toNat * u.length := Nat.le_mul_of_pos_right _ l0
  constructor
  · refine fine_units hu fun c hc => ?_
    rw [cut_take] at hc
    exact mul_mem h l0 (List.mem_of_mem_take hc)
  · rw [len_codes, cut_take, List.length_take]
    have : (Txt.mul u n).cps.toList.length = (Txt.mul u n).length := rfl
    omega
theorem undo_tail : ∀ (m f : List Nat), allL f → allL m → strike (f ++ m ++ (m.map up).reverse) = strike f
  | [], f, _, _ => by simp
  | c :: r, f, hf, hm => by
    have cL := hm c List.mem_cons_self
    have rL : allL r := fun d hd => hm d (List.mem_cons_of_mem _ hd)
    have e : f ++ (c :: r) ++ ((c :: r).map up).reverse = ((f ++ [c]) ++ r ++ (r.map up).reverse) ++ [up c] := by simp
    have fL : allL (f ++ [c]) := allL_app hf fun d hd => by
      rw [List.mem_singleton.mp hd]
      exact cL
    rw [e, strike_snoc, undo_tail r (f ++ [c]) fL rL, strike_snoc]
    exact push_push (fine_strike hf) (up_isL c cL) (up_up c cL).symm
end SB
-- M11
namespace SB
open PySem PySem.Spec PyProof.Rows L2
/-- all but the tables and p stay -/
def KN (p : Addr) (H H' : Hp) : Prop := ∀ b o, H b = some o → b ≠ p → (∀ ps, o ≠ .tbl ps) → H' b = some o
theorem KN.of {p : Addr} {H H' : Hp} (s : Same H H') : KN p H H' := fun b o h _ _ => s b o h
theorem KN.ext {p : Addr} {H H' : Hp} (s : LamX.ExtN H H') : KN p H H' := fun b o h _ n => s b o h n
theorem KN.kept {p : Addr} {H H' : Hp} (s : Kept p H H') : KN p H H' := fun b o h n _ => s b o h n
theorem KN.trans {p : Addr} {H H1 H2 : Hp} (a : KN p H H1) (b : KN p H1 H2) : KN p H H2 := fun c o h n m => b c o (a c o h n m) n m
theorem penQ_ext {l p : Addr} {N : Int} {H H' : Hp} (h : PenQ l N H p) (e : LamX.ExtN H H') : PenQ l N H' p := by
  obtain ⟨ns, i, j, h1, h2, h3, h4⟩ := h
  exact ⟨ns, i, j, e _ _ h1 (fun _ z => nomatch z), e _ _ h2 (fun _ z => nomatch z), h3, h4⟩
theorem tabs_keptQ {T : List (Addr × Str)} {l p : Addr} {N : Int} {H H' : Hp} (t : LamX.Tabs T H) (h : PenQ l N H p) (k : Kept p H H') : LamX.Tabs T H' := by
  obtain ⟨ns, i, j, h1, _⟩ := h
  refine fun r hr => ?_
  obtain ⟨ps, a1, a2, a3⟩ := t r hr
  refine ⟨ps, k _ _ a1 (fun e => by rw [e, h1] at a1; cases a1), a2, fun pos cv hc => ?_⟩
  obtain ⟨c, e1, e2⟩ := a3 pos cv hc
  refine ⟨c, e1, k _ _ e2 (fun e => ?_)⟩
  rw [e, h1] at e2
  unfold LamX.CodeO at e2
  cases e2
theorem fault_stop : ∀ (a b : List Nat) (x : Nat) (p : Option Nat) (i : Nat), faultFrom p i a = none → isL x = false → faultFrom p i (a ++ x :: b) = some (i + a.length)
  | [], b, x, p, i, _, hx => if_pos (.inl hx)
  | c :: r, b, x, p, i, h, hx => by
    have h' : (if isL c = false ∨ some (up c) = p then some i else faultFrom (some c) (i + 1) r) = none := h
    by_cases e : isL c = false ∨ some (up c) = p
    · rw [if_pos e] at h'
      cases h'
    · rw [if_neg e] at h'
      show (if isL c = false ∨ some (up c) = p then some i else faultFrom (some c) (i + 1) (r ++ x :: b)) = _
      rw [if_neg e, fault_stop r b x (some c) (i + 1) h' hx, List.length_cons]
      congr 1
      omega
theorem strange_stop : ∀ (a b : List Nat) (x : Nat) (i : Nat), allL a → isL x = false → strange i (a ++ x :: b) = some (i + a.length)
  | [], b, x, i, _, hx => if_pos hx
  | c :: r, b, x, i, h, hx => by
    have cL := h c List.mem_cons_self
    show (if isL c = false then some i else strange (i + 1) (r ++ x :: b)) = _
    rw [if_neg (by rw [cL]; decide), strange_stop r b x (i + 1) (fun d hd => h d (List.mem_cons_of_mem _ hd)) hx, List.length_cons]
    congr 1
    omega
end SB
-- R16
namespace SB
open PySem PySem.Spec PyProof.Rows L2
/-! ### a text from its end -/
theorem fm_map {α β : Type} {f : α → Option β} {h : α → β} : ∀ xs : List α, (∀ x ∈ xs, f x = some (h x)) → xs.filterMap f = xs.map h
  | [], _ => rfl
  | a :: r, e => by
    rw [List.filterMap_cons, e a List.mem_cons_self, fm_map r fun x hx => e x (List.mem_cons_of_mem _ hx)]
    rfl
theorem rev_pick (l : List Nat) : ((List.range l.length).map fun (k : Nat) => (((l.length : Int) - 1) + (-1) * (k : Int)).toNat).filterMap (fun i => l[i]?) = l.reverse := by
  rw [List.filterMap_map, fm_map (h := fun k => l.getD (l.length - 1 - k) 0)]
  · refine List.ext_getElem (by simp) fun k h2 h3 => ?_
    rw [List.getElem_map, List.getElem_range, List.getElem_reverse, List.getD_eq_getElem?_getD, List.getElem?_eq_getElem (by simp at h2; omega)]
    rfl
  · intro k hk
    have hk' : k < l.length := List.mem_range.mp hk
    have e : (((l.length : Int) - 1) + (-1) * (k : Int)).toNat = l.length - 1 - k := by omega
    show l[(((l.length : Int) - 1) + (-1) * (k : Int)).toNat]? = some (l.getD (l.length - 1 - k) 0)
    rw [e, List.getD_eq_getElem?_getD, List.getElem?_eq_getElem (by omega)]
    rfl
theorem rev_indices (n : Nat) : Builtin.Str.strSliceIndices none none (-1) n = (List.range n).map fun (k : Nat) => (((n : Int) - 1) + (-1) * (k : Int)).toNat := by
  have h1 : ((-1 : Int) > 0) = False := by simp
  show sliceRange (if (-1 : Int) > 0 then 0 else (n : Int) - 1) (if (-1 : Int) > 0 then (n : Int) else -1) (-1) = _
  simp only [h1, if_false]
  unfold sliceRange
  simp only [h1, if_false]
  have e1 : (- -1 : Int) = 1 := by decide
  have hc : (if (n : Int) - 1 > -1 then ((n : Int) - 1 - -1 - -1 - 1) / - -1 else 0).toNat = n := by
    by_cases hn : n = 0
    · subst hn
      rfl
    · rw [if_pos (by omega), e1, Int.ediv_one]
      omega
  rw [hc]
def revS (z : Str) : Str := T z.cps.toList.reverse
section
variable {X : Cx}
/-- e[::st], e a text, st -1 -/
theorem pe_revS {e st : Expr} {te ts : TE} {p2 pos : Pos} (he : PE X e te) (hst : PE X st ts) :
    PE X (.Subscript e (.Slice none none (some st) p2) pos) (fun σ H Q => te σ H fun x H1 => ts σ H1 fun y H2 => ∃ z : Str, x = .str z ∧ y = .int (-1) ∧ z.length ≤ sizeLine ∧ Q (.str (revS z)) H2) := by
  refine ⟨fun pins s σ H Q I h => ?_⟩
  refine Subscript_ (thn (he.run pins s σ H _ I h) fun v s1 hh => ?_)
  obtain ⟨x, H1, I1, r1, q1⟩ := hh
  refine wpAny_Slice ?_
  rw [evalPart_none, evalPart_some]
  refine wpAny_pure (wpAny_pure (thn (hst.run pins s1 σ H1 _ I1 q1) fun u s2 hh => ?_))
  obtain ⟨y, H2, I2, r2, z, rfl, rfl, hz, q⟩ := hh
  obtain ⟨t, rfl⟩ := r1
  obtain ⟨t2, rfl⟩ := r2
  have I4 : Inv X pins σ H2 { s2 with heap := s2.heap.push { cls := .type "slice", data := .fields #[.none, .none, .int (-1) t2] } } := I2.kept (t' := s2.toks) fun b ob q => Heap.get?_push_of_some _ q
  refine tail_any (ops := [.ref s2.heap.objs.size, .str z t]) (typeIs_str _ _ _) F.slot_str_getitem.lookup (wpAny_getItem_str_slice (l := none) (u := none) (st := some (-1, t2)) ⟨_, Heap.get?_push_size _ rfl, rfl, rfl⟩ rfl ?_) (by with_unfolding_all rfl)
  have hrev : (((Builtin.Str.strSliceIndices none none (-1) z.length).filterMap (z.cps[·]?)).toArray : Array Nat) = (z.cps.toList.reverse).toArray := by
    rw [rev_indices]
    congr 1
    have := rev_pick z.cps.toList
    rw [show z.cps.toList.length = z.length from rfl] at this
    simpa using this
  show Made.post (if ((-1 : Int) == 1 && (Builtin.Str.strSliceIndices none none (-1) z.length).length == z.length) = true then Made.val (.str z t)
    else Made.str ⟨((Builtin.Str.strSliceIndices none none (-1) z.length).filterMap (z.cps[·]?)).toArray⟩) (EP X pins σ Q) _
  rw [if_neg (by simp), hrev]
  refine ⟨?_, .str (revS z), H2, I4.tok _, ⟨_, rfl⟩, q⟩
  show z.cps.toList.reverse.toArray.size ≤ sizeLine
  rw [List.size_toArray, List.length_reverse]
  exact hz
end
end SB
-- K01H3
namespace K01
open PySem PySem.Spec PyProof.Rows L2 SB
theorem errO_ne {C d a : Addr} (ps : Array Value) : ErrO C d a ≠ .tbl ps := fun z => by
  unfold ErrO at z
  cases z
theorem tabs_write {T : List (Addr × Str)} {H : Hp} {a : Addr} {xs : List V} {o : HO} (t : LamX.Tabs T H) (h : H a = some (.lst xs)) : LamX.Tabs T (upd H a o) := by
  refine fun r hr => ?_
  obtain ⟨ps, a1, a2, a3⟩ := t r hr
  refine ⟨ps, ?_, a2, fun pos cv hc => ?_⟩
  · rw [upd_ne (fun e => by rw [e, h] at a1; cases a1)]
    exact a1
  · obtain ⟨c, e1, e2⟩ := a3 pos cv hc
    refine ⟨c, e1, ?_⟩
    rw [upd_ne (fun e => ?_)]
    · exact e2
    · rw [e, h] at e2
      unfold LamX.CodeO at e2
      cases e2
theorem xd2_a (f g : Str) (y z : V) : ([(f, y), (g, z)] : List (Str × V)).lookup f = some y := by simp [List.lookup]
theorem xd2_b (f g : Str) (y z : V) (h : g ≠ f) : ([(f, y), (g, z)] : List (Str × V)).lookup g = some z := by
  have e : (g == f) = false := by simpa using h
  simp [List.lookup, e]
theorem undo_letters {m : List Nat} (h : allL m) : m.map undo = m.map up := List.map_congr_left fun c hc => if_pos (h c hc)
theorem allL_up {m : List Nat} (h : allL m) : allL (m.map up) := fun c hc => by
  obtain ⟨d, hd, rfl⟩ := List.mem_map.mp hc
  exact up_isL d (h d hd)
theorem allL_rev {m : List Nat} (h : allL m) : allL m.reverse := fun c hc => h c (List.mem_reverse.mp hc)
section
variable {P : Program} {w : World} {K : PySem.W.Frag} {mg : Str → Option Value} {base : Heap}
def spLong (T : List (Addr × Str)) : Sp := fun vs H Q _ => ∃ (p l : Addr) (N : Int), vs = [.ref p] ∧ PenQ l N H p ∧ N ≤ 50000 ∧ LamX.Tabs T H ∧ ∀ H', KN p H H' → LamX.Tabs T H' → PenQ l (N + 3) H' p → Q (.bl true) H'
theorem ok_law_long_right {T : List (Addr × Str)} {f c Pt CB CB2 CM CW fB2 fM f__law_pick f__law_draw f__law_undo f__law_is_bad : Addr} {fd d__law_pick d__law_draw d__law_undo d__law_is_bad : FuncData} {k : Nat} (F : FunT K "_law_long_right" "_law_long_right" s__law_long_right f c fd) (Hd : Heard K mg CB)
    (TB : LamX.TabB base mg c Pt) (hmT : (Pt, lq "_law_long_right") ∈ T) (hu : ∀ p ∈ T, p.1 = Pt → p.2 = lq "_law_long_right")
    (MO : MakeOk P w K mg base CW CB2 CM k) (W : WordOk P w K mg base CW (k + 1)) (E2 : Err1 K mg "BadWord" "at" CB2 fB2) (xm2 : PySem.W.exmOne K (.ref CB2) (.ref CB) = some true) (E3 : Err2 K mg "TooMany" "what" "most" CM fM) (xm3 : PySem.W.exmOne K (.ref CM) (.ref CB) = some true)
    (G__law_pick : FnOk P w K mg base CX0 (k + 2) f__law_pick d__law_pick ["pen", "some"] (spPick K)) (g__law_pick : mg "_law_pick" = some (.ref f__law_pick)) (k__law_pick : PySem.W.keepIn K (.ref f__law_pick) = true) (b__law_pick : Binds K d__law_pick ["pen", "some"] [])
    (G__law_draw : FnOk P w K mg base CX0 (k + 1) f__law_draw d__law_draw ["pen", "many"] spDraw) (g__law_draw : mg "_law_draw" = some (.ref f__law_draw)) (k__law_draw : PySem.W.keepIn K (.ref f__law_draw) = true) (b__law_draw : Binds K d__law_draw ["pen", "many"] [])
    (G__law_undo : FnOk P w K mg base CX0 (k + 1) f__law_undo d__law_undo ["sign"] spUndo) (g__law_undo : mg "_law_undo" = some (.ref f__law_undo)) (k__law_undo : PySem.W.keepIn K (.ref f__law_undo) = true) (b__law_undo : Binds K d__law_undo ["sign"] [])
    (G__law_is_bad : FnOk P w K mg base CX0 (k + 3) f__law_is_bad d__law_is_bad ["caught", "at"] (spIsBad K CB2)) (g__law_is_bad : mg "_law_is_bad" = some (.ref f__law_is_bad)) (k__law_is_bad : PySem.W.keepIn K (.ref f__law_is_bad) = true) (b__law_is_bad : Binds K d__law_is_bad ["caught", "at"] [])
    (m_isinstance : mg "isinstance" = none) (m_len : mg "len" = none) : FnOk P w K mg base CX0 (k + 9) f fd ["pen"] (spLong T) := by
  obtain ⟨fW, fdW, tE, M, GW, bW, bW0, rE, kW⟩ := MO.word
  obtain ⟨pO, gO, fdO, StO, GO, bO, kO⟩ := MO.of_
  obtain ⟨gL, fdL, wl, wlf, GL, bL⟩ := W.len_
  have gW := W.gW
  have g_TooMany := E3.at_
  refine F.ok sc__law_long_right (fun vs H Q E h => ?_) (fun A outer s H vs Q E hr h => ?_)
  · obtain ⟨p, l, N, rfl, _⟩ := h
    rfl
  · obtain ⟨p, l, N, rfl, hP, hN, tabs, q⟩ := h
    have nd := sc__law_long_right.nd
    refine ⟨_, (pss_cons (ps_par (i := 1) (j := 2) (by rfl) nd rfl rfl (by decide) rfl rfl (pa_cons (pe_call G__law_pick (hr.mono (by omega)) (by rfl) g__law_pick k__law_pick b__law_pick .nil pass0 (pa_cons (pv 0) (pa_cons (pe_lst (pa_cons pe_str (pa_cons pe_str (pa_cons pe_str (pa_cons pe_str pa_nil))))) pa_nil))) (pa_cons (pe_call G__law_draw (hr.mono (by omega)) (by rfl) g__law_draw k__law_draw b__law_draw .nil pass0 (pa_cons (pv 0) (pa_cons pe_int pa_nil))) pa_nil)) (by rfl))
      (pss_cons (ps_set (i := 3) nd rfl (.inl rfl) (pe_slice sl_str (pe_op op_repS (pv 1) pe_int) po_none (po_some pe_int)))
      (pss_cons (ps_set (i := 7) nd rfl (.inr rfl) (pe_slice sl_str (pe_op op_repS (pv 1) pe_int) po_none (po_some (pe_op op_add pe_int (pv 2)))))
      (pss_cons (ps_if (PW.pt (pw_or (pt_cmpR op_ne (pe_callB (call_lenOwn wl wlf GL (hr.mono (by omega)) bL pass0) (by rfl) m_len PySem.boot_len (pa_cons (pe_make M GW (hr.mono (by omega)) (by rfl) gW bW .nil passL (pa_cons (pv 3) pa_nil)) pa_nil)) pe_int (nomark _)) (pw_or1 (pt_cmpR op_ne (pe_callB (call_lenOwn wl wlf GL (hr.mono (by omega)) bL pass0) (by rfl) m_len PySem.boot_len (pa_cons (pe_stat (pe_glob (v := .ref CW) (by rfl) gW rfl) StO GO (hr.mono (by omega)) bO .nil passL (pa_cons (pe_op op_add_str (pe_op op_add_str (pv 3) (pe_slice sl_str (pv 7) po_none (po_some (pv 2)))) (pe_revS (pe_join pe_str (pe_lc (own := [("sign", 9)]) (g := gName 9) (by rfl) nd (pi_str (pe_slice sl_str (pv 7) po_none (po_some (pv 2)))) (blkOk_by (own := [("sign", 9)]) (N := ["pen", "unit", "extra", "fine", "heard", "caught", "at", "more", "spoiled", "sign"]) (sc := defScope s__law_long_right) (by decide +kernel)) (fun _ _ _ _ _ => pg_name (i := 9) nd rfl (Or.inl rfl)) (fun _ _ _ _ _ => pts_nil) (fun _ _ _ _ _ => (pe_call G__law_undo (hr.mono (by omega)) (by rfl) g__law_undo k__law_undo b__law_undo .nil pass0 (pa_cons (pv 9) pa_nil))))) (pe_un un_neg pe_int))) pa_nil)) pa_nil)) pe_int (nomark _))))) (pss_one (ps_ret pe_bl)) pss_nil)
      (pss_cons (ps_set (i := 4) nd rfl (.inl rfl) (pe_lst (pa_cons (pe_heard Hd (by rfl) TB (by rfl) hmT hu (k := k + 6) (hr.mono (by omega)) (LamX.lamS_by (sc := defScope s__law_long_right) (by decide +kernel)) (by rfl) (fun _ _ _ _ _ => rfl) (fun _ _ _ _ E' _ _ hr' => (pe_make M GW (hr'.mono (by omega)) (by rfl) gW bW .nil (E := E') (passes_call (takes_of rfl rfl rfl rfl) fun _ _ _ _ q => q) (pa_cons (pv 7) pa_nil)))) pa_nil)))
      (pss_cons (ps_expr (pe_bm PySem.F.plainAttrs_list PySem.F.slot_list_append PySem.F.type_list_append mt_append (pv 4) (pa_cons (pe_heard Hd (by rfl) TB (by rfl) hmT hu (k := k + 6) (hr.mono (by omega)) (LamX.lamS_by (sc := defScope s__law_long_right) (by decide +kernel)) (by rfl) (fun _ _ _ _ _ => rfl) (fun _ _ _ _ E' _ _ hr' => (pe_stat (pe_glob (v := .ref CW) (by rfl) gW rfl) StO GO (hr'.mono (by omega)) bO .nil (E := E') (passes_call (takes_of rfl rfl rfl rfl) fun _ _ _ _ q => q) (pa_cons (pv 7) pa_nil)))) pa_nil)))
      (pss_cons (ps_for PassesOwn.never rfl (pi_list (pv 4)) (pg_name (i := 5) nd rfl (.inl rfl)) (pss_one (ps_if (PW.pt (pw_or (pt_not (pt_val (pe_callB call_isErr (by rfl) m_isinstance boot_isinstance (pa_cons (pv 5) (pa_cons (pe_glob (v := .ref CM) (by rfl) g_TooMany rfl) pa_nil))))) (pw_or (pt_cmpR op_ne (pe_errF (pv 5)) pe_str (nomark _)) (pw_or1 (pt_cmpR op_ne (pe_errF (pv 5)) pe_int (nomark _)))))) (pss_one (ps_ret pe_bl)) pss_nil)))
      (pss_cons (ps_set (i := 6) nd rfl (.inl rfl) (pe_call G__law_draw (hr.mono (by omega)) (by rfl) g__law_draw k__law_draw b__law_draw .nil pass0 (pa_cons (pv 0) (pa_cons pe_int pa_nil))))
      (pss_cons (ps_set (i := 8) nd rfl (.inr rfl) (pe_op op_add_str (pe_op op_add_str (pe_slice sl_str (pv 7) po_none (po_some (pv 6))) pe_str) (pe_slice sl_str (pv 7) (po_some (pe_op op_add (pv 6) pe_int)) po_none)))
      (pss_cons (ps_if (pt_not (pt_val (pe_call G__law_is_bad (hr.mono (by omega)) (by rfl) g__law_is_bad k__law_is_bad b__law_is_bad .nil pass0 (pa_cons (pe_heard Hd (by rfl) TB (by rfl) hmT hu (k := k + 6) (hr.mono (by omega)) (LamX.lamS_by (sc := defScope s__law_long_right) (by decide +kernel)) (by rfl) (fun _ _ _ _ _ => rfl) (fun _ _ _ _ E' _ _ hr' => (pe_make M GW (hr'.mono (by omega)) (by rfl) gW bW .nil (E := E') (passes_call (takes_of rfl rfl rfl rfl) fun _ _ _ _ q => q) (pa_cons (pv 8) pa_nil)))) (pa_cons (pv 6) pa_nil))))) (pss_one (ps_ret pe_bl)) pss_nil)
      (pss_one (ps_ret (pe_call G__law_is_bad (hr.mono (by omega)) (by rfl) g__law_is_bad k__law_is_bad b__law_is_bad .nil pass0 (pa_cons (pe_heard Hd (by rfl) TB (by rfl) hmT hu (k := k + 6) (hr.mono (by omega)) (LamX.lamS_by (sc := defScope s__law_long_right) (by decide +kernel)) (by rfl) (fun _ _ _ _ _ => rfl) (fun _ _ _ _ E' _ _ hr' => (pe_stat (pe_glob (v := .ref CW) (by rfl) gW rfl) StO GO (hr'.mono (by omega)) bO .nil (E := E') (passes_call (takes_of rfl rfl rfl rfl) fun _ _ _ _ q => q) (pa_cons (pv 8) pa_nil)))) (pa_cons (pv 6) pa_nil))))))))))))))), ?_⟩
    refine ⟨.ref p, rfl, by show 4 ≤ sizeLine; decide, fun a ha => ?_⟩
    have sa := same_new (o := .lst (units.map V.str)) ha
    refine ⟨p, l, .ref a, N, units.map V.str, rfl, hP.same sa, by omega, .inl ⟨a, rfl, .inl (.inl upd_same), hP.ne_p ha⟩, by decide, by decide, fun x H1 hx k1 p1 => ?_⟩
    obtain ⟨u, hu', rfl⟩ := List.mem_map.mp hx
    refine ⟨.ref p, rfl, p, l, _, 5, rfl, p1, by omega, by decide, by decide, fun e H2 e0 e1 k2 p2 => ?_⟩
    refine ⟨_, _, rfl, ?_⟩
    have kn2 : KN p H H2 := (KN.of sa).trans ((KN.kept k1).trans (KN.kept k2))
    have t2 : LamX.Tabs T H2 := tabs_keptQ (tabs_keptQ (tabs_same tabs sa) (hP.same sa) k1) p1 k2
    obtain ⟨⟨u0, u4⟩, _⟩ := units_ok u hu'
    obtain ⟨mo4, mo5⟩ := units_mul u hu'
    obtain ⟨n, en⟩ : ∃ n : Nat, e = (n : Int) := ⟨e.toNat, by omega⟩
    subst en
    have ml4 := mul_len (z := u) (n := 4000) (by decide) u0
    have ml5 := mul_len (z := u) (n := 5000) (by decide) u0
    obtain ⟨fF, lF⟩ := cut_mul hu' (n := 4000) (k := 4000) (by decide) (by decide)
    obtain ⟨fM', lM⟩ := cut_mul hu' (n := 5000) (k := 4001 + n) (by decide) (by show 4001 + n ≤ 5000; omega)
    have cc : ((4001 + n : Nat) : Int) = 4001 + (n : Int) := by omega
    rw [cc] at fM' lM
    have s4 : (Txt.mul u 4000).length ≤ sizeLine := by
      rw [sizeLine_eq, ml4]
      show 4000 * u.length ≤ _
      omega
    have s5 : (Txt.mul u 5000).length ≤ sizeLine := by
      rw [sizeLine_eq, ml5]
      show 5000 * u.length ≤ _
      omega
    refine ⟨.str u, rfl, u, 4000, rfl, rfl, mo4, 4000, rfl, Txt.mul u 4000, rfl, s4, ?_⟩
    refine ⟨.str u, rfl, u, 5000, rfl, rfl, mo5, .int n, rfl, _, _, rfl, rfl, _, rfl, Txt.mul u 5000, rfl, s5, ?_⟩
    have c4 : ((4000 : Nat) : Int) = 4000 := rfl
    rw [c4] at fF lF
    show tSeq _ _ _ [some (.ref p), some (.str u), some (.int n), some (.str (cutS (Txt.mul u 4000) none (some 4000))), none, none, none, some (.str (cutS (Txt.mul u 5000) none (some (4001 + (n : Int))))), none, none] H2
    generalize cutS (Txt.mul u 4000) none (some 4000) = Fi at fF lF ⊢
    generalize cutS (Txt.mul u 5000) none (some (4001 + (n : Int))) = Mo at fM' lM ⊢
    have eF : fault Fi.cps.toList = none := (fine_iff _).mpr fF
    have eM : fault Mo.cps.toList = none := (fine_iff _).mpr fM'
    have lFc : Fi.cps.toList.length = 4000 := lF
    have lMc : Mo.cps.toList.length = 4001 + n := lM
    have fs : Fi.length ≤ sizeLine := by
      rw [sizeLine_eq]
      omega
    have ms : Mo.length ≤ sizeLine := by
      rw [sizeLine_eq]
      omega
    -- len(Word(fine))
    refine ⟨.str Fi, rfl, fun x dx nx nd' ne => ⟨x, dx, .str Fi, rfl, upd_same, .inl ⟨_, rfl⟩, fun z' hz' => ?_, fun nz => (nz _ rfl).elim⟩⟩
    cases hz'
    refine ⟨by omega, (fun j hj => by rw [eF] at hj; cases hj), (fun _ l4 => absurd l4 (by omega)), fun _ _ H3 s3' => ⟨rfl, ?_⟩⟩
    obtain ⟨s3, dx3, hx3⟩ := made_word (z := Fi) nx nd' s3'
    generalize upd H3 x (HO.ins CW dx [("letters", V.str Fi)]) = H4 at s3 hx3 ⊢
    refine ⟨x, dx3, _, rfl, hx3, x, Fi, rfl, ⟨dx3, hx3⟩, by omega, _, rfl, by omega, by omega, rfl, _, rfl, ?_⟩
    have f1 : (!decide (V.int ((Fi.length : Nat) : Int) = V.int 4000)) = false := by
      rw [lF]
      rfl
    rw [f1]
    refine iteF ?_
    have p4 := p2.same s3
    have t4 := tabs_same t2 s3
    -- Word.of(..)
    have lh := cutS_length Mo none (some ((n : Nat) : Int))
    have eh : (cutS Mo none (some ((n : Nat) : Int))).cps.toList = Mo.cps.toList.take n := cut_take Mo n
    have lh2 : (cutS Mo none (some ((n : Nat) : Int))).length = n := by
      rw [len_codes, eh, List.length_take]
      omega
    have hL : allL (Mo.cps.toList.take n) := allL_take fM'.1 n
    refine ⟨rfl, .str Fi, rfl, .str Mo, rfl, .int n, rfl, _, rfl, Mo, rfl, ms, Fi, _, rfl, rfl, by rw [sizeLine_eq]; omega, ?_⟩
    refine ⟨⟨_, rfl⟩, .str Mo, rfl, .int n, rfl, _, rfl, Mo, rfl, ms, ?_⟩
    generalize cutS Mo none (some ((n : Nat) : Int)) = He at eh lh2 ⊢
    rw [← eh] at hL
    have lhc : He.cps.toList.length = n := lh2
    refine ⟨He, rfl, fun D hD => lc_it walk_str (fun i H' => Same H4 H' ∧ H' D = some (.lst (vs1 ((He.cps.toList.take i).map undo)))) ⟨same_new hD, upd_same⟩ (fun _ _ _ _ => trivial) (fun i x Ha Hb hi hPc hY => ?_) (fun H5 hPc => ?_)⟩
    · obtain ⟨sa, hd⟩ := hPc
      obtain ⟨rfl, c, hc, rfl⟩ := hY
      have hc' : He.cps.toList[i]? = some c := by
        rw [Array.getElem?_toList]
        exact hc
      refine ⟨rfl, .str (s1 c), rfl, c, rfl, _, hd, ?_, fun b u e => ?_, ?_⟩
      · unfold vs1
        rw [List.length_map, List.length_map, List.length_take, sizeLine_eq]
        omega
      · rw [upd_ne (ne_of_none e hD)]
        exact sa b u e
      · rw [upd_same, List.take_add_one, hc', List.map_append]
        unfold vs1
        rw [List.map_append]
        rfl
    · obtain ⟨s5', hd⟩ := hPc
      have full : He.cps.toList.take He.cps.size = He.cps.toList := List.take_of_length_le (by simp)
      rw [full, undo_letters hL] at hd
      have ev : vs1 (He.cps.toList.map up) = ((He.cps.toList.map up).map s1).map V.str := by
        unfold vs1
        rw [List.map_map, List.map_map, List.map_map]
        rfl
      rw [ev] at hd
      refine ⟨"", D, _, rfl, rfl, .inl (.inl (.inl hd)), ?_, 1, rfl, ?_⟩
      · rw [join_sum, List.length_map]
        show _ + _ * 0 ≤ 16777216
        omega
      rw [SB.join_one]
      have lR : (revS (SB.T (He.cps.toList.map up))).length = n := by
        show ((He.cps.toList.map up).reverse).length = n
        rw [List.length_reverse, List.length_map, lhc]
      have eR : (revS (SB.T (He.cps.toList.map up))).cps.toList = (He.cps.toList.map up).reverse := rfl
      refine ⟨_, rfl, rfl, by rw [sizeLine_eq]; show (He.cps.toList.map up).length ≤ _; rw [List.length_map, lhc]; omega, ?_⟩
      generalize revS (SB.T (He.cps.toList.map up)) = Re at lR eR ⊢
      have la : (Fi ++ He).length = Fi.length + He.length := Str.length_append _ _
      have lb : (Fi ++ He ++ Re).length = Fi.length + He.length + Re.length := by
        rw [Str.length_append, Str.length_append]
      have ew : (Fi ++ He ++ Re).cps.toList = Fi.cps.toList ++ He.cps.toList ++ (He.cps.toList.map up).reverse := by
        rw [app_codes, app_codes, eR]
      have wL : allL (Fi ++ He ++ Re).cps.toList := by
        rw [ew]
        exact allL_app (allL_app fF.1 hL) (allL_rev (allL_up hL))
      have sw : strike (Fi ++ He ++ Re).cps.toList = Fi.cps.toList := by
        rw [ew, undo_tail _ _ fF.1 hL, strike_fine fF]
      refine ⟨_, _, rfl, rfl, by rw [sizeLine_eq]; omega, ?_⟩
      refine ⟨_, rfl, .inl ⟨_, rfl⟩, fun z' hz' => ?_, fun nz => (nz _ rfl).elim⟩
      cases hz'
      refine ⟨by omega, (fun j hj => by rw [(strange_none _ _).mpr wL] at hj; cases hj), (fun _ l4 => absurd l4 (by rw [sw]; omega)), fun _ _ a2 H6 na2 s6 w6 => ?_⟩
      rw [sw] at w6
      obtain ⟨dx6, hx6⟩ := w6
      have lT : (SB.T Fi.cps.toList).length = 4000 := lFc
      refine ⟨a2, dx6, _, rfl, hx6, a2, SB.T Fi.cps.toList, rfl, ⟨dx6, hx6⟩, by omega, _, rfl, by omega, by omega, rfl, _, rfl, ?_⟩
      have f2 : (!decide (V.int (((SB.T Fi.cps.toList).length : Nat) : Int) = V.int 4000)) = false := by
        rw [lT]
        rfl
      rw [f2]
      refine iteF ?_
      have s26 : Same H2 H6 := s3.trans (s5'.trans s6)
      have t6 := tabs_same t2 s26
      have p6 := p2.same s26
      have kn6 : KN p H H6 := kn2.trans (KN.of s26)
      clear hx6 hx3 s6 s5' s3 hd
      -- the two errors
      refine ⟨t6, fun H7 e7 t7 => ?_⟩
      have p7 := penQ_ext p6 e7
      have kn7 := kn6.trans (KN.ext e7)
      refine ⟨.str Mo, rfl, fun x dx nx nd' ne => ⟨x, dx, .str Mo, rfl, upd_same, .inl ⟨_, rfl⟩, fun z' hz' => ?_, fun nz => (nz _ rfl).elim⟩⟩
      cases hz'
      refine ⟨by omega, (fun j hj => by rw [eM] at hj; cases hj), fun _ _ H8 d8 s8 hd8 => ⟨true, xm3, (fun z => nomatch z), fun _ => ⟨CM, d8, rfl, rfl, fun a8 ha8 => ?_⟩⟩, (fun _ l4 => absurd l4 (by omega))⟩
      obtain ⟨hA8, hD8, se8⟩ := err_heap (C := CM) hd8 ha8
      have s78 := (same_make nx nd' ne s8).trans se8
      generalize upd (upd H8 d8 (.xd [("most", .int 4000), ("what", .str "letters")])) a8 (ErrO CM d8 a8) = H9 at hA8 hD8 s78 ⊢
      have p9 := p7.same s78
      have t9 := tabs_same t7 s78
      have kn9 := kn7.trans (KN.of s78)
      clear s8 hd8 ha8 se8 nx nd' ne
      refine ⟨by show 1 ≤ sizeLine; decide, fun L hL2 => ?_⟩
      have s910 := same_new (o := .lst [.ref a8]) hL2
      have hA10 := s910 _ _ hA8
      have hD10 := s910 _ _ hD8
      have p10 := p9.same s910
      have t10 := tabs_same t9 s910
      have kn10 := kn9.trans (KN.of s910)
      have nLp := p9.ne_p hL2
      have nLl := p9.ne_l hL2
      have hL10 : upd H9 L (.lst [.ref a8]) L = some (.lst [.ref a8]) := upd_same
      have none9 : H9 L = none := hL2
      generalize upd H9 L (.lst [.ref a8]) = H10 at hA10 hD10 p10 t10 kn10 hL10 ⊢
      refine ⟨.ref L, rfl, .inl ⟨rfl, _, .inl (.inl hL10)⟩, t10, fun H11 e11 t11 => ?_⟩
      have hA11 := e11 _ _ hA10 errO_ne
      have hD11 := e11 _ _ hD10 (fun _ z => nomatch z)
      have hL11 := e11 _ _ hL10 (fun _ z => nomatch z)
      have p11 := penQ_ext p10 e11
      have kn11 := kn10.trans (KN.ext e11)
      have mL := fM'.1
      have sM : strike Mo.cps.toList = Mo.cps.toList := strike_fine fM'
      refine ⟨rfl, .str Mo, rfl, .str Mo, rfl, .inl ⟨_, rfl⟩, fun z' hz' => ?_, fun nz => (nz _ rfl).elim⟩
      cases hz'
      refine ⟨by omega, (fun j hj => by rw [(strange_none _ _).mpr mL] at hj; cases hj), fun _ _ H12 d12 s12 hd12 => ⟨true, xm3, (fun z => nomatch z), fun _ => ⟨CM, d12, rfl, rfl, fun a12 ha12 => ?_⟩⟩, (fun _ l4 => absurd l4 (by rw [sM]; omega))⟩
      obtain ⟨hA12, hD12, se12⟩ := err_heap (C := CM) hd12 ha12
      have s1112 := s12.trans se12
      have hA13 := s1112 _ _ hA11
      have hD13 := s1112 _ _ hD11
      have hL13 := s1112 _ _ hL11
      have p13 := p11.same s1112
      have t13 := tabs_same t11 s1112
      have kn13 := kn11.trans (KN.of s1112)
      generalize upd (upd H12 d12 (.xd [("most", .int 4000), ("what", .str "letters")])) a12 (ErrO CM d12 a12) = H13 at hA12 hD12 hA13 hD13 hL13 p13 t13 kn13 ⊢
      clear s12 hd12 ha12 se12 s1112
      have w1 : L ≠ a8 := fun z => by
        rw [z, hA13] at hL13
        exact absurd (Option.some.inj hL13) (by unfold ErrO; exact fun z => nomatch z)
      have w2 : L ≠ d8 := fun z => by
        rw [z, hD13] at hL13
        exact absurd (Option.some.inj hL13) (fun z => nomatch z)
      have w3 : L ≠ a12 := fun z => by
        rw [z, hA12] at hL13
        exact absurd (Option.some.inj hL13) (by unfold ErrO; exact fun z => nomatch z)
      have w4 : L ≠ d12 := fun z => by
        rw [z, hD12] at hL13
        exact absurd (Option.some.inj hL13) (fun z => nomatch z)
      refine ⟨L, _, _, rfl, rfl, hL13, by show 1 < sizeLine; decide, ?_⟩
      have kn14 : KN p H (upd H13 L (.lst ([.ref a8] ++ [.ref a12]))) := fun b o hb nb nt => by
        have h9 := kn9 b o hb nb nt
        have bL : b ≠ L := fun z => by
          rw [z, none9] at h9
          cases h9
        rw [upd_ne bL]
        exact kn13 b o hb nb nt
      have t14 : LamX.Tabs T (upd H13 L (.lst ([.ref a8] ++ [.ref a12]))) := tabs_write t13 hL13
      have p14 := p13.write (o := .lst ([.ref a8] ++ [.ref a12])) nLp nLl
      have hL14 : upd H13 L (.lst ([.ref a8] ++ [.ref a12])) L = some (.lst [.ref a8, .ref a12]) := upd_same
      have gA8 : upd H13 L (.lst ([.ref a8] ++ [.ref a12])) a8 = some (ErrO CM d8 a8) := by rw [upd_ne (Ne.symm w1)]; exact hA13
      have gD8 : upd H13 L (.lst ([.ref a8] ++ [.ref a12])) d8 = some (.xd [("most", .int 4000), ("what", .str "letters")]) := by rw [upd_ne (Ne.symm w2)]; exact hD13
      have gA12 : upd H13 L (.lst ([.ref a8] ++ [.ref a12])) a12 = some (ErrO CM d12 a12) := by rw [upd_ne (Ne.symm w3)]; exact hA12
      have gD12 : upd H13 L (.lst ([.ref a8] ++ [.ref a12])) d12 = some (.xd [("most", .int 4000), ("what", .str "letters")]) := by rw [upd_ne (Ne.symm w4)]; exact hD12
      generalize upd H13 L (.lst ([.ref a8] ++ [.ref a12])) = H14 at kn14 t14 p14 hL14 gA8 gD8 gA12 gD12 ⊢
      refine ⟨.ref L, rfl, L, rfl, ⟨_, .inl (.inl hL14)⟩, for_it (walk_list (xs := [.ref a8, .ref a12])) (fun i σ H' => ∃ y5, σ = [some (.ref p), some (.str u), some (.int n), some (.str Fi), some (.ref L), y5, none, some (.str Mo), none, none] ∧ H' = H14)
        ⟨none, rfl, rfl⟩ (fun i σ H' _ hPv => ?_) (fun i x σ Ha Hb hi hPv hY => ?_) (fun σ H' hPv => ?_)⟩
      · obtain ⟨y5, rfl, rfl⟩ := hPv
        exact .inl (.inl hL14)
      · obtain ⟨y5, rfl, rfl⟩ := hPv
        obtain ⟨rfl, hx⟩ := hY
        have wh := xd2_b "most" "what" (V.int 4000) (.str "letters") (by decide +kernel)
        have mo := xd2_a "most" "what" (V.int 4000) (.str "letters")
        obtain ⟨ea, ed, rfl, gA, gD⟩ : ∃ ea ed, x = .ref ea ∧ Hb ea = some (ErrO CM ed ea) ∧ Hb ed = some (.xd [("most", .int 4000), ("what", .str "letters")]) := by
          match i, hi, hx with
          | 0, _, hx =>
            cases hx
            exact ⟨a8, d8, rfl, gA8, gD8⟩
          | 1, _, hx =>
            cases hx
            exact ⟨a12, d12, rfl, gA12, gD12⟩
        refine ⟨.ref ea, rfl, ea, CM, ed, CM, _, true, rfl, gA, gD, E3.ec, kit_self, true, rfl, iteF ?_⟩
        refine ⟨.ref ea, rfl, ea, CM, ed, _, .str "letters", rfl, gA, gD, E3.ec, E3.nf, wh, rfl, _, rfl, ?_⟩
        rw [decide_eq_true rfl]
        refine iteF ⟨.ref ea, rfl, ea, CM, ed, _, .int 4000, rfl, gA, gD, E3.ec, E3.ng, mo, rfl, _, rfl, ?_⟩
        rw [decide_eq_true rfl]
        exact iteF ⟨_, rfl, rfl⟩
      · obtain ⟨y5, rfl, rfl⟩ := hPv
        refine ⟨.ref p, rfl, p, l, _, 4001, rfl, p14, by omega, by decide, by decide, fun at_ H15 a0 a1 k15 p15 => ?_⟩
        have t15 := tabs_keptQ t14 p14 k15
        have kn15 := kn14.trans (KN.kept k15)
        obtain ⟨m, em⟩ : ∃ m : Nat, at_ = (m : Int) := ⟨at_.toNat, by omega⟩
        subst em
        have lA := cutS_length Mo none (some ((m : Nat) : Int))
        have lB := cutS_length Mo (some ((m : Nat) + 1 : Int)) none
        have e1' : ((m : Nat) : Int) + 1 = ((m + 1 : Nat) : Int) := by omega
        have eA : (cutS Mo none (some ((m : Nat) : Int))).cps.toList = Mo.cps.toList.take m := cut_take Mo m
        have ld : ("-" : Str).length = 1 := by decide +kernel
        refine ⟨.str Mo, rfl, .int m, rfl, _, rfl, Mo, rfl, ms, _, "-", rfl, rfl, by rw [sizeLine_eq, ld]; omega, .str Mo, rfl, .int m, rfl, _, 1, rfl, rfl, _, rfl, Mo, rfl, ms, _, _, rfl, rfl, ?_, ?_⟩
        · rw [sizeLine_eq, Str.length_append, ld]
          omega
        have lS : (cutS Mo none (some ((m : Nat) : Int)) ++ "-" ++ cutS Mo (some ((m : Nat) + 1 : Int)) none).length ≤ 9000 := by
          rw [Str.length_append, Str.length_append, ld]
          omega
        have eS : (cutS Mo none (some ((m : Nat) : Int)) ++ "-" ++ cutS Mo (some ((m : Nat) + 1 : Int)) none).cps.toList = Mo.cps.toList.take m ++ 45 :: (cutS Mo (some ((m : Nat) + 1 : Int)) none).cps.toList := by
          rw [app_codes, app_codes, eA, List.append_assoc]
          rfl
        have lt : (Mo.cps.toList.take m).length = m := by
          rw [List.length_take]
          omega
        have fT : Fine (Mo.cps.toList.take m) := fine_pre (b := Mo.cps.toList.drop m) (by rw [List.take_append_drop]; exact fM')
        show tSeq _ _ _ [some (.ref p), some (.str u), some (.int n), some (.str Fi), some (.ref L), y5, some (.int m), some (.str Mo), some (.str (cutS Mo none (some ((m : Nat) : Int)) ++ "-" ++ cutS Mo (some ((m : Nat) + 1 : Int)) none)), none] H15
        generalize cutS Mo none (some ((m : Nat) : Int)) ++ "-" ++ cutS Mo (some ((m : Nat) + 1 : Int)) none = So at lS eS ⊢
        have eSf : fault So.cps.toList = some m := by
          rw [eS]
          have := fault_stop (Mo.cps.toList.take m) (cutS Mo (some ((m : Nat) + 1 : Int)) none).cps.toList 45 none 0 ((fine_iff _).mpr fT) (by decide)
          rw [lt, Nat.zero_add] at this
          exact this
        have eSs : strange 0 So.cps.toList = some m := by
          rw [eS]
          have := strange_stop (Mo.cps.toList.take m) (cutS Mo (some ((m : Nat) + 1 : Int)) none).cps.toList 45 0 fT.1 (by decide)
          rw [lt, Nat.zero_add] at this
          exact this
        refine ⟨t15, fun H16 e16 t16 => ?_⟩
        have p16 := penQ_ext p15 e16
        have kn16 := kn15.trans (KN.ext e16)
        refine ⟨.str So, rfl, fun x dx nx nd' ne => ⟨x, dx, .str So, rfl, upd_same, .inl ⟨_, rfl⟩, fun z' hz' => ?_, fun nz => (nz _ rfl).elim⟩⟩
        cases hz'
        refine ⟨by omega, fun j hj H17 d17 s17 hd17 => ⟨true, xm2, (fun z => nomatch z), fun _ => ⟨CB2, d17, rfl, rfl, fun a17 ha17 => ?_⟩⟩, (fun fn => by rw [eSf] at fn; cases fn), (fun fn => by rw [eSf] at fn; cases fn)⟩
        rw [eSf] at hj
        cases hj
        obtain ⟨hA17, hD17, se17⟩ := err_heap (C := CB2) hd17 ha17
        have s1617 := (same_make nx nd' ne s17).trans se17
        have p17 := p16.same s1617
        have t17 := tabs_same t16 s1617
        have kn17 := kn16.trans (KN.of s1617)
        refine ⟨.int m, rfl, a17, d17, m, rfl, hA17, hD17, true, rfl, iteF ?_⟩
        refine ⟨t17, fun H18 e18 t18 => ?_⟩
        have p18 := penQ_ext p17 e18
        have kn18 := kn17.trans (KN.ext e18)
        refine ⟨rfl, .str So, rfl, .str So, rfl, .inl ⟨_, rfl⟩, fun z' hz' => ?_, fun nz => (nz _ rfl).elim⟩
        cases hz'
        refine ⟨by omega, fun j hj H19 d19 s19 hd19 => ⟨true, xm2, (fun z => nomatch z), fun _ => ⟨CB2, d19, rfl, rfl, fun a19 ha19 => ?_⟩⟩, (fun hL => by rw [(strange_none _ _).mpr hL] at eSs; cases eSs), (fun hL => by rw [(strange_none _ _).mpr hL] at eSs; cases eSs)⟩
        rw [eSs] at hj
        cases hj
        obtain ⟨hA19, hD19, se19⟩ := err_heap (C := CB2) hd19 ha19
        have s1819 := s19.trans se19
        refine ⟨.int m, rfl, a19, d19, m, rfl, hA19, hD19, ?_⟩
        exact q _ (kn18.trans (KN.of s1819)) (tabs_same t18 s1819) ((p18.same s1819).mono (by omega))
end
end K01
-- K01I
namespace K01
open PySem PySem.Spec PyProof.Rows L2 SB
/-- the list of the Words that were made and their texts -/
def KL (CW : Addr) (H : Hp) (D : Addr) (tz : List (Addr × Str)) : Prop := H D = some (.lst (tz.map fun q => V.ref q.1)) ∧ ∀ q ∈ tz, (∃ b, H q.1 = some (.tup [.ref b, .str q.2]) ∧ WordAt CW H b q.2) ∧ Plain q.2
theorem KL.kn {CW : Addr} {H H' : Hp} {D p l : Addr} {N : Int} {tz : List (Addr × Str)} (h : KL CW H D tz) (hp : PenQ l N H p) (n : D ≠ p) (k : KN p H H') : KL CW H' D tz := by
  refine ⟨k _ _ h.1 n (fun _ z => nomatch z), fun q hq => ?_⟩
  obtain ⟨⟨b, h1, dx, h2⟩, h3⟩ := h.2 q hq
  exact ⟨⟨b, k _ _ h1 (hp.not_p h1 fun xs z => nomatch z) (fun _ z => nomatch z), dx, k _ _ h2 (hp.not_p h2 fun xs z => nomatch z) (fun _ z => nomatch z)⟩, h3⟩
theorem KL.same {CW : Addr} {H H' : Hp} {D : Addr} {tz : List (Addr × Str)} (h : KL CW H D tz) (s : Same H H') : KL CW H' D tz := by
  refine ⟨s _ _ h.1, fun q hq => ?_⟩
  obtain ⟨⟨b, h1, dx, h2⟩, h3⟩ := h.2 q hq
  exact ⟨⟨b, s _ _ h1, dx, s _ _ h2⟩, h3⟩
theorem KL.write {CW : Addr} {H : Hp} {D G : Addr} {xs : List V} {o : HO} {tz : List (Addr × Str)} (h : KL CW H D tz) (hG : H G = some (.lst xs)) (n : G ≠ D) : KL CW (upd H G o) D tz := by
  have nt : ∀ {a : Addr} {o : HO}, H a = some o → (∀ xs, o ≠ .lst xs) → a ≠ G := fun e n q => by
    rw [q, hG] at e
    exact n _ (Option.some.inj e).symm
  refine ⟨?_, fun q hq => ?_⟩
  · rw [upd_ne (Ne.symm n)]
    exact h.1
  · obtain ⟨⟨c, h1, dx, h2⟩, h3⟩ := h.2 q hq
    refine ⟨⟨c, ?_, dx, ?_⟩, h3⟩
    · rw [upd_ne (nt h1 fun xs z => nomatch z)]
      exact h1
    · rw [upd_ne (nt h2 fun xs z => nomatch z)]
      exact h2
theorem KL.add {CW : Addr} {H : Hp} {D t b : Addr} {z : Str} {tz : List (Addr × Str)} (h : KL CW H D tz) (ht : H t = some (.tup [.ref b, .str z])) (hb : WordAt CW H b z) (pz : Plain z) : KL CW (upd H D (.lst ((tz.map fun q => V.ref q.1) ++ [.ref t]))) D (tz ++ [(t, z)]) := by
  have nt : ∀ {a : Addr} {o : HO}, H a = some o → (∀ xs, o ≠ .lst xs) → a ≠ D := fun e n q => by
    rw [q, h.1] at e
    exact n _ (Option.some.inj e).symm
  refine ⟨?_, fun q hq => ?_⟩
  · rw [upd_same, List.map_append]
    rfl
  · rcases List.mem_append.mp hq with hq | hq
    · obtain ⟨⟨c, h1, dx, h2⟩, h3⟩ := h.2 q hq
      refine ⟨⟨c, ?_, dx, ?_⟩, h3⟩
      · rw [upd_ne (nt h1 fun xs z => nomatch z)]
        exact h1
      · rw [upd_ne (nt h2 fun xs z => nomatch z)]
        exact h2
    · obtain rfl := List.mem_singleton.mp hq
      obtain ⟨dx, hb⟩ := hb
      refine ⟨⟨b, ?_, dx, ?_⟩, pz⟩
      · rw [upd_ne (nt ht fun xs z => nomatch z)]
        exact ht
      · rw [upd_ne (nt hb fun xs z => nomatch z)]
        exact hb
theorem odd_any {K : PySem.W.Frag} {CW : Addr} {H : Hp} {l u d x e : Addr} {kvs : List (Key × V)} {xv : V} (h1 : H l = some (.lst [.str "A"])) (h2 : H u = some (.tup [.str "A"])) (h3 : H d = some (.dK kvs)) (h4 : WordAt CW H x "A") (h5 : H e = some (.lst [])) (cl : Cls K CW) (ic : IsC K CW)
    (hx : xv ∈ [V.non, .int 0, .bl true, .ref l, .ref u, .ref d, .int 7, .ref x, .ref e]) : AnyV K H xv ∧ ∀ z : Str, xv ≠ .str z := by
  simp only [List.mem_cons, List.not_mem_nil, or_false] at hx
  rcases hx with rfl | rfl | rfl | rfl | rfl | rfl | rfl | rfl | rfl
  · exact ⟨.inr ⟨_, .base .non, kit_ty (by decide +kernel)⟩, fun z q => nomatch q⟩
  · exact ⟨.inr ⟨_, .base (.int _), kit_ty (by decide +kernel)⟩, fun z q => nomatch q⟩
  · exact ⟨.inr ⟨_, .base (.bl _), kit_ty (by decide +kernel)⟩, fun z q => nomatch q⟩
  · exact ⟨.inr ⟨_, .base (.lst h1), kit_ty (by decide +kernel)⟩, fun z q => nomatch q⟩
  · exact ⟨.inr ⟨_, .base (.tup h2), kit_ty (by decide +kernel)⟩, fun z q => nomatch q⟩
  · exact ⟨.inr ⟨_, .base (.dK h3), kit_ty (by decide +kernel)⟩, fun z q => nomatch q⟩
  · exact ⟨.inr ⟨_, .base (.int _), kit_ty (by decide +kernel)⟩, fun z q => nomatch q⟩
  · exact ⟨.inr ⟨_, isC_ty cl ic h4, ic.ns⟩, fun z q => nomatch q⟩
  · exact ⟨.inr ⟨_, .base (.lst h5), kit_ty (by decide +kernel)⟩, fun z q => nomatch q⟩
section
variable {P : Program} {w : World} {K : PySem.W.Frag} {mg : Str → Option Value} {base : Heap}
def spLaw (K : PySem.W.Frag) (T : List (Addr × Str)) : Sp := fun vs H Q _ => ∃ (a : Addr) (ns : List Int), vs = [.ref a] ∧ SqL K H a (ns.map V.int) ∧ LamX.Tabs T H ∧ ∀ H', Q (.bl true) H'
theorem ok_law {T : List (Addr × Str)} {f c Pt CB CB2 CM CW fB2 f__law_pen f__law_pick f__law_draw f__law_drawn f__law_wrong f__law_text_right f__law_is f__law_is_bad f__law_long_right : Addr} {fd d__law_pen d__law_pick d__law_draw d__law_drawn d__law_wrong d__law_text_right d__law_is d__law_is_bad d__law_long_right : FuncData} {k : Nat} (F : FunT K "law" "law" s_law f c fd) (Hd : Heard K mg CB)
    (TB : LamX.TabB base mg c Pt) (hmT : (Pt, lq "law") ∈ T) (hu : ∀ p ∈ T, p.1 = Pt → p.2 = lq "law")
    (MO : MakeOk P w K mg base CW CB2 CM k) (W : WordOk P w K mg base CW (k + 1)) (E2 : Err1 K mg "BadWord" "at" CB2 fB2) (xm2 : PySem.W.exmOne K (.ref CB2) (.ref CB) = some true)
    (G__law_pen : FnOk P w K mg base CX0 (k + 1) f__law_pen d__law_pen ["script"] (spPen K)) (g__law_pen : mg "_law_pen" = some (.ref f__law_pen)) (k__law_pen : PySem.W.keepIn K (.ref f__law_pen) = true) (b__law_pen : Binds K d__law_pen ["script"] [])
    (G__law_pick : FnOk P w K mg base CX0 (k + 2) f__law_pick d__law_pick ["pen", "some"] (spPick K)) (g__law_pick : mg "_law_pick" = some (.ref f__law_pick)) (k__law_pick : PySem.W.keepIn K (.ref f__law_pick) = true) (b__law_pick : Binds K d__law_pick ["pen", "some"] [])
    (G__law_draw : FnOk P w K mg base CX0 (k + 1) f__law_draw d__law_draw ["pen", "many"] spDraw) (g__law_draw : mg "_law_draw" = some (.ref f__law_draw)) (k__law_draw : PySem.W.keepIn K (.ref f__law_draw) = true) (b__law_draw : Binds K d__law_draw ["pen", "many"] [])
    (G__law_drawn : FnOk P w K mg base CX0 (k + 3) f__law_drawn d__law_drawn ["pen"] spDrawn) (g__law_drawn : mg "_law_drawn" = some (.ref f__law_drawn)) (k__law_drawn : PySem.W.keepIn K (.ref f__law_drawn) = true) (b__law_drawn : Binds K d__law_drawn ["pen"] [])
    (G__law_wrong : FnOk P w K mg base CX0 (k + 3) f__law_wrong d__law_wrong ["text"] spWrong) (g__law_wrong : mg "_law_wrong" = some (.ref f__law_wrong)) (k__law_wrong : PySem.W.keepIn K (.ref f__law_wrong) = true) (b__law_wrong : Binds K d__law_wrong ["text"] [])
    (G__law_text_right : FnOk P w K mg base CX0 (k + 9) f__law_text_right d__law_text_right ["text"] (spText T)) (g__law_text_right : mg "_law_text_right" = some (.ref f__law_text_right)) (k__law_text_right : PySem.W.keepIn K (.ref f__law_text_right) = true) (b__law_text_right : Binds K d__law_text_right ["text"] [])
    (G__law_is : FnOk P w K mg base CX0 (k + 4) f__law_is d__law_is ["word", "text"] (spIs CW)) (g__law_is : mg "_law_is" = some (.ref f__law_is)) (k__law_is : PySem.W.keepIn K (.ref f__law_is) = true) (b__law_is : Binds K d__law_is ["word", "text"] [])
    (G__law_is_bad : FnOk P w K mg base CX0 (k + 3) f__law_is_bad d__law_is_bad ["caught", "at"] (spIsBad K CB2)) (g__law_is_bad : mg "_law_is_bad" = some (.ref f__law_is_bad)) (k__law_is_bad : PySem.W.keepIn K (.ref f__law_is_bad) = true) (b__law_is_bad : Binds K d__law_is_bad ["caught", "at"] [])
    (G__law_long_right : FnOk P w K mg base CX0 (k + 9) f__law_long_right d__law_long_right ["pen"] (spLong T)) (g__law_long_right : mg "_law_long_right" = some (.ref f__law_long_right)) (k__law_long_right : PySem.W.keepIn K (.ref f__law_long_right) = true) (b__law_long_right : Binds K d__law_long_right ["pen"] [])
    (m_range : mg "range" = none) : FnOk P w K mg base CX0 (k + 10) f fd ["script"] (spLaw K T) := by
  obtain ⟨fW, fdW, tE, M, GW, bW, bW0, rE, kW⟩ := MO.word
  obtain ⟨pO, gO, fdO, StO, GO, bO, kO⟩ := MO.of_
  have gW := W.gW
  refine F.ok sc_law (fun vs H Q E h => ?_) (fun A outer s H vs Q E hr h => ?_)
  · obtain ⟨a, ns, rfl, _⟩ := h
    rfl
  · obtain ⟨a, ns, rfl, hS, tabs, q⟩ := h
    have nd := sc_law.nd
    refine ⟨_, (pss_cons (ps_par (i := 1) (j := 2) (by rfl) nd rfl rfl (by decide) rfl rfl (pa_cons (pe_call G__law_pen (hr.mono (by omega)) (by rfl) g__law_pen k__law_pen b__law_pen .nil pass0 (pa_cons (pv 0) pa_nil)) (pa_cons (pe_lst pa_nil) pa_nil)) (by rfl))
      (pss_cons (ps_for PassesOwn.never rfl (pi_range1 (by rfl) m_range (pa_cons pe_int pa_nil)) (pg_name (i := 3) nd rfl (.inl rfl)) (pss_cons (ps_set (i := 4) nd rfl (.inl rfl) (pe_call G__law_drawn (hr.mono (by omega)) (by rfl) g__law_drawn k__law_drawn b__law_drawn .nil pass0 (pa_cons (pv 1) pa_nil)))
      (pss_cons (ps_if (pt_not (pt_val (pe_call G__law_text_right (hr.mono (by omega)) (by rfl) g__law_text_right k__law_text_right b__law_text_right .nil pass0 (pa_cons (pv 4) pa_nil)))) (pss_one (ps_ret pe_bl)) pss_nil)
      (pss_one (ps_if (pt_cmpR op_lt (pe_call G__law_wrong (hr.mono (by omega)) (by rfl) g__law_wrong k__law_wrong b__law_wrong .nil pass0 (pa_cons (pv 4) pa_nil)) pe_int (nomark _)) (pss_one (ps_expr (pe_bm PySem.F.plainAttrs_list PySem.F.slot_list_append PySem.F.type_list_append mt_append (pv 2) (pa_cons (pe_tup (pa_cons (pe_make M GW (hr.mono (by omega)) (by rfl) gW bW .nil passL (pa_cons (pv 4) pa_nil)) (pa_cons (pv 4) pa_nil))) pa_nil)))) pss_nil)))))
      (pss_cons (ps_set (i := 7) nd rfl (.inr rfl) (pe_call G__law_pick (hr.mono (by omega)) (by rfl) g__law_pick k__law_pick b__law_pick .nil pass0 (pa_cons (pv 1) (pa_cons (pe_lst (pa_cons pe_non (pa_cons pe_int (pa_cons pe_bl (pa_cons (pe_lst (pa_cons pe_str pa_nil)) (pa_cons (pe_tup (pa_cons pe_str pa_nil)) (pa_cons (pe_disp (pps_cons pe_str pe_int pps_nil) (by rfl) (by rfl) (fun z => by cases z) (by decide)) (pa_cons pe_int (pa_cons (pe_make M GW (hr.mono (by omega)) (by rfl) gW bW .nil passL (pa_cons pe_str pa_nil)) (pa_cons (pe_lst pa_nil) pa_nil)))))))))) pa_nil))))
      (pss_cons (ps_set (i := 5) nd rfl (.inl rfl) (pe_lst (pa_cons (pe_heard Hd (by rfl) TB (by rfl) hmT hu (k := k + 6) (hr.mono (by omega)) (LamX.lamS_by (sc := defScope s_law) (by decide +kernel)) (by rfl) (fun _ _ _ _ _ => rfl) (fun _ _ _ _ E' _ _ hr' => (pe_make M GW (hr'.mono (by omega)) (by rfl) gW bW .nil (E := E') (passes_call (takes_of rfl rfl rfl rfl) fun _ _ _ _ q => q) (pa_cons (pv 7) pa_nil)))) pa_nil)))
      (pss_cons (ps_expr (pe_bm PySem.F.plainAttrs_list PySem.F.slot_list_append PySem.F.type_list_append mt_append (pv 5) (pa_cons (pe_heard Hd (by rfl) TB (by rfl) hmT hu (k := k + 6) (hr.mono (by omega)) (LamX.lamS_by (sc := defScope s_law) (by decide +kernel)) (by rfl) (fun _ _ _ _ _ => rfl) (fun _ _ _ _ E' _ _ hr' => (pe_stat (pe_glob (v := .ref CW) (by rfl) gW rfl) StO GO (hr'.mono (by omega)) bO .nil (E := E') (passes_call (takes_of rfl rfl rfl rfl) fun _ _ _ _ q => q) (pa_cons (pv 7) pa_nil)))) pa_nil)))
      (pss_cons (ps_for PassesOwn.never rfl (pi_list (pv 5)) (pg_name (i := 6) nd rfl (.inl rfl)) (pss_one (ps_if (pt_not (pt_val (pe_call G__law_is_bad (hr.mono (by omega)) (by rfl) g__law_is_bad k__law_is_bad b__law_is_bad .nil pass0 (pa_cons (pv 6) (pa_cons pe_int pa_nil))))) (pss_one (ps_ret pe_bl)) pss_nil)))
      (pss_cons (ps_if (PW.pt (pw_or (pt_not (pt_val (pe_call G__law_is (hr.mono (by omega)) (by rfl) g__law_is k__law_is b__law_is .nil pass0 (pa_cons (pe_make0 M GW (hr.mono (by omega)) (by rfl) gW bW0 (.cons rE .nil) passL) (pa_cons pe_str pa_nil))))) (pw_or1 (pt_not (pt_val (pe_call G__law_is (hr.mono (by omega)) (by rfl) g__law_is k__law_is b__law_is .nil pass0 (pa_cons (pe_stat (pe_glob (v := .ref CW) (by rfl) gW rfl) StO GO (hr.mono (by omega)) bO .nil passL (pa_cons pe_str pa_nil)) (pa_cons pe_str pa_nil)))))))) (pss_one (ps_ret pe_bl)) pss_nil)
      (C8.pss_cut (ps_if (PW.pt (pw_and (pt_cmpR op_eq (pe_call G__law_draw (hr.mono (by omega)) (by rfl) g__law_draw k__law_draw b__law_draw .nil pass0 (pa_cons (pv 1) (pa_cons pe_int pa_nil))) pe_int (nomark _)) (pw_and1 (pt_not (pt_val (pe_call G__law_long_right (hr.mono (by omega)) (by rfl) g__law_long_right k__law_long_right b__law_long_right .nil pass0 (pa_cons (pv 1) pa_nil))))))) (pss_one (ps_ret pe_bl)) pss_nil)
      (pss_one (ps_ret (pe_cmpR (op_eqD hr.units) (pe_lc (own := [("word", 8), ("text", 4)]) (g := gTup K 2 (gCons (gName 8) (gCons (gName 4) gNil))) (te := tFld K (tVar 8) "letters") (by rfl) nd (pi_list (pv 2)) (blkOk_by (own := [("word", 8), ("text", 4)]) (N := ["script", "pen", "kept", "turn", "text", "heard", "caught", "odd", "word"]) (sc := defScope s_law) (by decide +kernel)) (fun _ _ _ _ _ => (pg_tup rfl (pgs_cons (pg_name (i := 8) nd rfl (Or.inl rfl) (Or.inr rfl)) (pgs_cons (pg_name (i := 4) nd rfl (Or.inl rfl) (Or.inr rfl)) pgs_nil)))) (fun _ _ _ _ _ => pts_nil) (fun _ _ _ _ _ => (pe_fld (pv 8) rfl))) (pe_lc (own := [("word", 8), ("text", 4)]) (g := gTup K 2 (gCons (gName 8) (gCons (gName 4) gNil))) (by rfl) nd (pi_list (pv 2)) (blkOk_by (own := [("word", 8), ("text", 4)]) (N := ["script", "pen", "kept", "turn", "text", "heard", "caught", "odd", "word"]) (sc := defScope s_law) (by decide +kernel)) (fun _ _ _ _ _ => (pg_tup rfl (pgs_cons (pg_name (i := 8) nd rfl (Or.inl rfl) (Or.inr rfl)) (pgs_cons (pg_name (i := 4) nd rfl (Or.inl rfl) (Or.inr rfl)) pgs_nil)))) (fun _ _ _ _ _ => pts_nil) (fun _ _ _ _ _ => (pv 4))) (nomark _)))))))))))), ?_⟩
    refine ⟨.ref a, rfl, a, ns, rfl, hS, fun p l H1 np nl s1 p1 => ?_⟩
    refine ⟨Nat.zero_le _, fun D hD => ⟨_, _, rfl, ?_⟩⟩
    have s2 := same_new (o := .lst []) hD
    have t1 := tabs_same tabs (s1.trans s2)
    have nDp := p1.ne_p hD
    have nDl := p1.ne_l hD
    refine ⟨12, rfl, by decide, by decide, for_range (lo := 0) (n := 12) (fun i σ H' => ∃ y3 y4 tz, σ = [some (.ref a), some (.ref p), some (.ref D), y3, y4, none, none, none, none] ∧ PenQ l (42 * (i : Int)) H' p ∧ LamX.Tabs T H' ∧ KL CW H' D tz ∧ tz.length ≤ i)
      ⟨none, none, [], rfl, (p1.same s2).mono (by decide), t1, ⟨upd_same, fun q hq => nomatch hq⟩, Nat.le_refl _⟩ (fun i σ H2 hi hPv => ?_) (fun σ H2 hPv => ?_)⟩
    · obtain ⟨y3, y4, tz, rfl, p2, t2, kl2, lz⟩ := hPv
      refine ⟨.ref p, rfl, p, l, _, rfl, p2, by omega, fun z H3 lz3 k3 p3 => ?_⟩
      have t3 := tabs_keptQ t2 p2 k3
      have kl3 := kl2.kn p2 nDp (KN.kept k3)
      refine ⟨.str z, rfl, z, rfl, by omega, t3, fun H4 e4 t4 => ⟨true, rfl, iteF ?_⟩⟩
      have p4 := penQ_ext p3 e4
      have kl4 := kl3.kn p3 nDp (KN.ext e4)
      refine ⟨.str z, rfl, z, rfl, by omega, _, 0, rfl, rfl, _, rfl, ?_⟩
      cases ef : fault z.cps.toList with
      | some j =>
        have ei := (faultI_nonneg z.cps.toList).2 j ef
        have lt : decide (faultI z.cps.toList < 0) = false := decide_eq_false (by rw [ei]; omega)
        show if decide (faultI z.cps.toList < 0) = true then _ else _
        rw [lt]
        exact iteF ⟨_, _, tz, rfl, p4.mono (by omega), t4, kl4, by omega⟩
      | none =>
        have ei := (faultI_nonneg z.cps.toList).1 ef
        have lt : decide (faultI z.cps.toList < 0) = true := decide_eq_true (by rw [ei]; omega)
        show if decide (faultI z.cps.toList < 0) = true then _ else _
        rw [lt]
        refine iteT ⟨.ref D, rfl, .inl ⟨rfl, _, .inl (.inl kl4.1)⟩, .str z, rfl, fun x dx nx nd' ne => ⟨x, dx, .str z, rfl, upd_same, .inl ⟨_, rfl⟩, fun z' hz' => ?_, fun nz => (nz _ rfl).elim⟩⟩
        cases hz'
        refine ⟨by omega, (fun j hj => by rw [ef] at hj; cases hj), (fun _ l4 => absurd l4 (by omega)), fun _ _ H5 s5' => ⟨rfl, ?_⟩⟩
        obtain ⟨s5, w5⟩ := made_word (z := z) nx nd' s5'
        generalize upd H5 x (HO.ins CW dx [("letters", V.str z)]) = H6 at s5 w5 ⊢
        refine ⟨.str z, rfl, by show 2 ≤ sizeLine; decide, fun t ht => ?_⟩
        have s6 := same_new (o := .tup [.ref x, .str z]) ht
        have kl6 := (kl4.same s5).same s6
        have s56 := s5.trans s6
        obtain ⟨dx5, hx5⟩ := w5
        refine ⟨D, _, _, rfl, rfl, kl6.1, ?_, ?_⟩
        · rw [List.length_map, sizeLine_eq]
          omega
        refine ⟨_, _, tz ++ [(t, z)], rfl, ((p4.same s56).write nDp nDl).mono (by omega), tabs_write (tabs_same t4 s56) kl6.1, KL.add kl6 upd_same ⟨dx5, s6 _ _ hx5⟩ (plain_fine ef), ?_⟩
        rw [List.length_append]
        show tz.length + 1 ≤ i + 1
        omega
    · obtain ⟨y3, y4, tz, rfl, p2, t2, kl2, lz⟩ := hPv
      have p2 : PenQ l 504 H2 p := p2.mono (by decide)
      refine ⟨.ref p, rfl, by show 1 ≤ sizeLine; decide, fun l1 hl1 => ⟨by show 1 ≤ sizeLine; decide, fun u1 hu1 => fun d1 hd1 => ⟨upd_same, [(.inr "A", .int 1)], rfl, by decide, ?_⟩⟩⟩
      have sl1 := same_new (o := .lst [.str "A"]) hl1
      have su1 := same_new (o := .tup [.str "A"]) hu1
      have sd1 : Same _ (upd (upd (upd (upd H2 l1 (.lst [.str "A"])) u1 (.tup [.str "A"])) d1 (.dK [])) d1 (.dK (mergeK [] [(.inr "A", .int 1)]))) := fun b o e => by
        rw [upd_ne (ne_of_none e hd1), upd_ne (ne_of_none e hd1)]
        exact e
      have h3 : upd (upd (upd (upd H2 l1 (.lst [.str "A"])) u1 (.tup [.str "A"])) d1 (.dK [])) d1 (.dK (mergeK [] [(.inr "A", .int 1)])) d1 = some (.dK (mergeK [] [(.inr "A", .int 1)])) := upd_same
      have h1 := sd1 _ _ (su1 _ _ upd_same)
      have h2 := sd1 _ _ (upd_same (H := upd H2 l1 (.lst [.str "A"])) (a := u1))
      have sA := sl1.trans (su1.trans sd1)
      have m1 := p2.ne_p hl1
      have m2 := (p2.same sl1).ne_p hu1
      have m3 := (p2.same (sl1.trans su1)).ne_p hd1
      generalize upd (upd (upd (upd H2 l1 (.lst [.str "A"])) u1 (.tup [.str "A"])) d1 (.dK [])) d1 (.dK (mergeK [] [(.inr "A", .int 1)])) = H3 at h1 h2 h3 sA ⊢
      refine fun x dx nx nd' ne => ⟨x, dx, .str "A", rfl, upd_same, .inl ⟨_, rfl⟩, fun z' hz' => ?_, fun nz => (nz _ rfl).elim⟩
      cases hz'
      have fA : fault ("A" : Str).cps.toList = none := by decide +kernel
      refine ⟨by decide +kernel, (fun i hi => by rw [fA] at hi; cases hi), (fun _ l4 => absurd l4 (by decide +kernel)), fun _ _ H4 sm => ⟨rfl, ?_⟩⟩
      obtain ⟨s4, w4⟩ := made_word (z := "A") nx nd' sm
      have m4 := (p2.same sA).ne_p nx
      generalize upd H4 x (HO.ins CW dx [("letters", V.str "A")]) = H5 at s4 w4 ⊢
      refine ⟨Nat.zero_le _, fun e5 he5 => ⟨by show 9 ≤ sizeLine; decide, fun L hL => ?_⟩⟩
      have se5 := same_new (o := .lst []) he5
      have sL := same_new (o := .lst [V.non, .int 0, .bl true, .ref l1, .ref u1, .ref d1, .int 7, .ref x, .ref e5]) hL
      have sB := se5.trans sL
      have sC := sA.trans (s4.trans sB)
      have pC := p2.same sC
      have m5 := (p2.same (sA.trans s4)).ne_p he5
      have tC := tabs_same t2 sC
      have klC := kl2.same sC
      have mL := (p2.same (sA.trans (s4.trans se5))).ne_p hL
      have g1 := sB _ _ (s4 _ _ h1)
      have g2 := sB _ _ (s4 _ _ h2)
      have g3 := sB _ _ (s4 _ _ h3)
      obtain ⟨dx4, hx4⟩ := w4
      have g4 := sB _ _ hx4
      have g5 := sL _ _ (upd_same (H := H5) (a := e5) (o := .lst []))
      refine ⟨p, l, .ref L, _, _, rfl, pC, by decide, .inl ⟨L, rfl, .inl (.inl upd_same), mL⟩, by show 0 < 9; decide, by show 9 ≤ 100000; decide, fun xv H6 hxv k6 p6 => ?_⟩
      have n1 := k6 _ _ g1 m1
      have n2 := k6 _ _ g2 m2
      have n3 := k6 _ _ g3 m3
      have n4 := k6 _ _ g4 m4
      have n5 := k6 _ _ g5 m5
      have t6 := tabs_keptQ tC pC k6
      have kl6 := klC.kn pC nDp (KN.kept k6)
      refine ⟨t6, fun H7 e7 t7 => ?_⟩
      have p7 := penQ_ext p6 e7
      have kl7 := kl6.kn p6 nDp (KN.ext e7)
      have oa := fun {Hx : Hp} (ex : LamX.ExtN H6 Hx) => odd_any (ex _ _ n1 (fun _ z => nomatch z)) (ex _ _ n2 (fun _ z => nomatch z)) (ex _ _ n3 (fun _ z => nomatch z)) ⟨_, ex _ _ n4 (fun _ z => nomatch z)⟩ (ex _ _ n5 (fun _ z => nomatch z)) W.cl W.ic hxv
      refine ⟨xv, rfl, fun y dy ny nd2 ne2 => ⟨y, dy, xv, rfl, upd_same, ?_, fun z hz => ((oa e7).2 z hz).elim, fun _ d8 hd8 => ⟨true, xm2, (fun z => nomatch z), fun _ => ⟨CB2, d8, rfl, rfl, fun a8 ha8 => ?_⟩⟩⟩⟩
      · refine (oa (e7.trans (extN_same ?_))).1
        exact (same_new nd2).trans (same_new (by rw [upd_ne (Ne.symm ne2)]; exact ny))
      have sy : Same H7 _ := (same_new (o := .own y) nd2).trans (same_new (p := y) (o := .ins CW dy []) (by rw [upd_ne (Ne.symm ne2)]; exact ny))
      obtain ⟨hA8, hD8, se8⟩ := err_heap (C := CB2) hd8 ha8
      have s78 := sy.trans se8
      generalize upd (upd (upd (upd H7 dy (.own y)) y (.ins CW dy [])) d8 (.xd [("at", .int 0)])) a8 (ErrO CB2 d8 a8) = H9 at hA8 hD8 s78 ⊢
      have p9 := p7.same s78
      have t9 := tabs_same t7 s78
      have kl9 := kl7.same s78
      have e9 := e7.trans (extN_same s78)
      refine ⟨by show 1 ≤ sizeLine; decide, fun G hG => ?_⟩
      have s910 := same_new (o := .lst [.ref a8]) hG
      have hA10 := s910 _ _ hA8
      have hD10 := s910 _ _ hD8
      have hG10 : upd H9 G (.lst [.ref a8]) G = some (.lst [.ref a8]) := upd_same
      have nGp := p9.ne_p hG
      have nGl := p9.ne_l hG
      have nGD : G ≠ D := fun z => by
        have := kl9.1
        rw [← z, hG] at this
        cases this
      have p10 := p9.same s910
      have t10 := tabs_same t9 s910
      have kl10 := kl9.same s910
      have e10 := e9.trans (extN_same s910)
      generalize upd H9 G (.lst [.ref a8]) = H10 at hA10 hD10 hG10 p10 t10 kl10 e10 ⊢
      refine ⟨.ref G, rfl, .inl ⟨rfl, _, .inl (.inl hG10)⟩, t10, fun H11 e11 t11 => ?_⟩
      have p11 := penQ_ext p10 e11
      have kl11 := kl10.kn p10 nDp (KN.ext e11)
      have hA11 := e11 _ _ hA10 errO_ne
      have hD11 := e11 _ _ hD10 (fun _ z => nomatch z)
      have hG11 := e11 _ _ hG10 (fun _ z => nomatch z)
      refine ⟨rfl, xv, rfl, xv, rfl, (oa (e10.trans e11)).1, fun z hz => ((oa e7).2 z hz).elim, fun _ d12 hd12 => ⟨true, xm2, (fun z => nomatch z), fun _ => ⟨CB2, d12, rfl, rfl, fun a12 ha12 => ?_⟩⟩⟩
      obtain ⟨hA12, hD12, s12⟩ := err_heap (C := CB2) hd12 ha12
      have hA13 := s12 _ _ hA11
      have hD13 := s12 _ _ hD11
      have hG13 := s12 _ _ hG11
      have p13 := p11.same s12
      have t13 := tabs_same t11 s12
      have kl13 := kl11.same s12
      generalize upd (upd H11 d12 (.xd [("at", .int 0)])) a12 (ErrO CB2 d12 a12) = H13 at hA12 hD12 hA13 hD13 hG13 p13 t13 kl13 ⊢
      have w1 : G ≠ a8 := fun z => by
        rw [z, hA13] at hG13
        exact absurd (Option.some.inj hG13) (by unfold ErrO; exact fun z => nomatch z)
      have w2 : G ≠ d8 := fun z => by
        rw [z, hD13] at hG13
        exact absurd (Option.some.inj hG13) (fun z => nomatch z)
      have w3 : G ≠ a12 := fun z => by
        rw [z, hA12] at hG13
        exact absurd (Option.some.inj hG13) (by unfold ErrO; exact fun z => nomatch z)
      have w4 : G ≠ d12 := fun z => by
        rw [z, hD12] at hG13
        exact absurd (Option.some.inj hG13) (fun z => nomatch z)
      refine ⟨G, _, _, rfl, rfl, hG13, by show 1 < sizeLine; decide, ?_⟩
      have t14 : LamX.Tabs T (upd H13 G (.lst ([.ref a8] ++ [.ref a12]))) := tabs_write t13 hG13
      have p14 := p13.write (o := .lst ([.ref a8] ++ [.ref a12])) nGp nGl
      have kl14 := kl13.write (o := .lst ([.ref a8] ++ [.ref a12])) hG13 nGD
      have hG14 : upd H13 G (.lst ([.ref a8] ++ [.ref a12])) G = some (.lst [.ref a8, .ref a12]) := upd_same
      have gA8 : upd H13 G (.lst ([.ref a8] ++ [.ref a12])) a8 = some (ErrO CB2 d8 a8) := by rw [upd_ne (Ne.symm w1)]; exact hA13
      have gD8 : upd H13 G (.lst ([.ref a8] ++ [.ref a12])) d8 = some (.xd [("at", .int 0)]) := by rw [upd_ne (Ne.symm w2)]; exact hD13
      have gA12 : upd H13 G (.lst ([.ref a8] ++ [.ref a12])) a12 = some (ErrO CB2 d12 a12) := by rw [upd_ne (Ne.symm w3)]; exact hA12
      have gD12 : upd H13 G (.lst ([.ref a8] ++ [.ref a12])) d12 = some (.xd [("at", .int 0)]) := by rw [upd_ne (Ne.symm w4)]; exact hD12
      generalize upd H13 G (.lst ([.ref a8] ++ [.ref a12])) = H14 at t14 p14 kl14 hG14 gA8 gD8 gA12 gD12 ⊢
      refine ⟨.ref G, rfl, G, rfl, ⟨_, .inl (.inl hG14)⟩, for_it (walk_list (xs := [.ref a8, .ref a12])) (fun i σ H' => ∃ y6, σ = [some (.ref a), some (.ref p), some (.ref D), y3, y4, some (.ref G), y6, some xv, none] ∧ H' = H14)
        ⟨none, rfl, rfl⟩ (fun i σ H' _ hPv => ?_) (fun i x σ Ha Hb hi hPv hY => ?_) (fun σ H' hPv => ?_)⟩
      · obtain ⟨y6, rfl, rfl⟩ := hPv
        exact .inl (.inl hG14)
      · obtain ⟨y6, rfl, rfl⟩ := hPv
        obtain ⟨rfl, hx⟩ := hY
        obtain ⟨ea, ed, rfl, gA, gD⟩ : ∃ ea ed, x = .ref ea ∧ Hb ea = some (ErrO CB2 ed ea) ∧ Hb ed = some (.xd [("at", .int 0)]) := by
          match i, hi, hx with
          | 0, _, hx =>
            cases hx
            exact ⟨a8, d8, rfl, gA8, gD8⟩
          | 1, _, hx =>
            cases hx
            exact ⟨a12, d12, rfl, gA12, gD12⟩
        exact ⟨.ref ea, rfl, ea, ed, 0, rfl, gA, gD, true, rfl, iteF ⟨_, rfl, rfl⟩⟩
      · obtain ⟨y6, rfl, rfl⟩ := hPv
        have f0 : fault ("" : Str).cps.toList = none := by decide +kernel
        have l0 : ("" : Str).length = 0 := by decide +kernel
        refine fun x dx nx nd' ne => ⟨x, dx, .str "", rfl, upd_same, .inl ⟨_, rfl⟩, fun z' hz' => ?_, fun nz => (nz _ rfl).elim⟩
        cases hz'
        refine ⟨by rw [l0]; decide, (fun i hi => by rw [f0] at hi; cases hi), (fun _ l4 => absurd l4 (by rw [l0]; decide)), fun _ _ H15 s15' => ⟨rfl, ?_⟩⟩
        obtain ⟨s15, w15⟩ := made_word (z := "") nx nd' s15'
        refine ⟨x, "", rfl, w15, by rw [l0]; decide, f0, fun H16 s16 => ⟨true, rfl, iteF ?_⟩⟩
        refine ⟨rfl, _, rfl, .inl ⟨_, rfl⟩, fun z' hz' => ?_, fun nz => (nz _ rfl).elim⟩
        cases hz'
        have L0 : allL ("" : Str).cps.toList := fun c hc => by
          rw [show ("" : Str).cps.toList = [] from by decide +kernel] at hc
          cases hc
        have k0 : (strike ("" : Str).cps.toList) = [] := by decide +kernel
        refine ⟨by rw [l0]; decide, (fun j hj => by rw [(strange_none _ _).mpr L0] at hj; cases hj), (fun _ l4 => absurd l4 (by rw [k0]; decide)), fun _ _ b H17 nb s17 w17 => ?_⟩
        have ez : SB.T (strike ("" : Str).cps.toList) = ("" : Str) := by decide +kernel
        rw [ez] at w17
        refine ⟨b, "", rfl, w17, by rw [l0]; decide, f0, fun H18 s18 => ⟨true, rfl, iteF ?_⟩⟩
        have sE := s15.trans (s16.trans (s17.trans s18))
        have p18 := p14.same sE
        have t18 := tabs_same t14 sE
        have kl18 := kl14.same sE
        refine ⟨fun σ' H' => σ' = [some (.ref a), some (.ref p), some (.ref D), y3, y4, some (.ref G), y6, some xv, none] ∧ KL CW H' D tz, ?_, ?_⟩
        · refine ⟨.ref p, rfl, p, l, _, 5, rfl, p18, by decide, by decide, by decide, fun dd H19 d0 d1' k19 p19 => ⟨rfl, _, rfl, ite2 (fun e => ?_) (fun e => iteF ?_)⟩⟩
          · refine ⟨.ref p, rfl, p, l, _, rfl, p19, by decide, tabs_keptQ t18 p18 k19, fun H20 kn t20 p20 => ⟨true, rfl, iteF ?_⟩⟩
            exact ⟨rfl, (kl18.kn p18 nDp (KN.kept k19)).kn p19 nDp kn⟩
          · exact ⟨rfl, kl18.kn p18 nDp (KN.kept k19)⟩
        · rintro σ' H' ⟨rfl, kl⟩
          have lenm : (tz.map fun q => V.ref q.1).length = tz.length := List.length_map ..
          have step : ∀ {H0 Ha : Hp} {E1 : Addr} {i : Nat} {q : Addr × Str}, H0 E1 = none → Same H0 Ha → tz[i]? = some q → Ha E1 = some (.lst (vstrs ((tz.take i).map (·.2)))) → (vstrs ((tz.take i).map (·.2))).length < sizeLine ∧ Same H0 (upd Ha E1 (.lst (vstrs ((tz.take i).map (·.2)) ++ [.str q.2]))) ∧
              (upd Ha E1 (.lst (vstrs ((tz.take i).map (·.2)) ++ [.str q.2]))) E1 = some (.lst (vstrs ((tz.take (i + 1)).map (·.2)))) := fun {H0 Ha E1 i q} hD sm hq hd => by
            refine ⟨?_, fun b u e => ?_, ?_⟩
            · unfold vstrs
              rw [List.length_map, List.length_map, List.length_take, sizeLine_eq]
              omega
            · rw [upd_ne (ne_of_none e hD)]
              exact sm b u e
            · rw [upd_same, List.take_add_one, hq]
              unfold vstrs
              rw [List.map_append, List.map_append]
              rfl
          have full : tz.take (tz.map fun q => V.ref q.1).length = tz := by
            rw [lenm]
            exact List.take_length
          refine ⟨.ref D, rfl, D, rfl, ⟨_, .inl (.inl kl.1)⟩, fun D1 hD1 => lc_it (walk_list (xs := tz.map fun q => V.ref q.1)) (fun i H'' => Same H' H'' ∧ H'' D1 = some (.lst (vstrs ((tz.take i).map (·.2))))) ⟨same_new hD1, upd_same⟩ (fun i H _ h => .inl (.inl (h.1 _ _ kl.1))) (fun i x Ha Hb hi hPc hY => ?_) (fun H1 hPc => ?_)⟩
          · obtain ⟨sa, hd⟩ := hPc
            obtain ⟨rfl, hx⟩ := hY
            rw [List.getElem?_map] at hx
            obtain ⟨q, hq, rfl⟩ := Option.map_eq_some_iff.mp hx
            obtain ⟨⟨b, ht, dx, hb⟩, _⟩ := kl.2 q (List.mem_of_getElem? hq)
            obtain ⟨g1, g2, g3⟩ := step hD1 sa hq hd
            exact ⟨q.1, _, rfl, .inl (.inl (sa _ _ ht)), rfl, _, _, rfl, _, _, rfl, rfl, rfl, .ref b, rfl, b, CW, dx, _, .str q.2, rfl, sa _ _ hb, W.cl, W.na, rfl, _, hd, g1, g2, g3⟩
          · obtain ⟨sa, hd⟩ := hPc
            rw [full] at hd
            refine ⟨.ref D, rfl, D, rfl, ⟨_, .inl (.inl (sa _ _ kl.1))⟩, fun D2 hD2 => lc_it (walk_list (xs := tz.map fun q => V.ref q.1)) (fun i H'' => Same H1 H'' ∧ H'' D2 = some (.lst (vstrs ((tz.take i).map (·.2))))) ⟨same_new hD2, upd_same⟩ (fun i H _ h => .inl (.inl (h.1 _ _ (sa _ _ kl.1)))) (fun i x Ha Hb hi hPc hY => ?_) (fun H2' hPc => ?_)⟩
            · obtain ⟨sb, hd⟩ := hPc
              obtain ⟨rfl, hx⟩ := hY
              rw [List.getElem?_map] at hx
              obtain ⟨q, hq, rfl⟩ := Option.map_eq_some_iff.mp hx
              obtain ⟨⟨b, ht, dx, hb⟩, _⟩ := kl.2 q (List.mem_of_getElem? hq)
              obtain ⟨g1, g2, g3⟩ := step hD2 sb hq hd
              exact ⟨q.1, _, rfl, .inl (.inl (sb _ _ (sa _ _ ht))), rfl, _, _, rfl, _, _, rfl, rfl, rfl, .str q.2, rfl, _, hd, g1, g2, g3⟩
            · obtain ⟨sb, he⟩ := hPc
              rw [full] at he
              have pl : ∀ z ∈ tz.map (·.2), Plain z := fun z hz => by
                obtain ⟨q, hq, rfl⟩ := List.mem_map.mp hz
                exact (kl.2 q hq).2
              refine ⟨.list (dstrs (tz.map (·.2))), .list (dstrs (tz.map (·.2))), .lst (.inl (.inl (sb _ _ hd))) (dp_texts _), .lst (.inl (.inl he)) (dp_texts _), shaped_texts pl, shaped_texts pl, ?_⟩
              have ee : PyData.eqv (.list (dstrs (tz.map (·.2)))) (.list (dstrs (tz.map (·.2)))) = true := eqv_texts _
              rw [ee]
              exact q _
end
end K01
-- K01Z
namespace K01
open PySem PySem.Spec PyProof.Rows L2 SB
theorem all_mk {w : World} {K : PySem.W.Frag} {h : Heap} {mg : Str → Option Value} {fa : Addr} (X : K.In h) (G : h.Ns mainGlobals mg) (hfa : mg "law" = some (.ref fa))
    {CB CW : Addr} {tL tM : Tok} {f_first_fault : Addr} {od_first_fault an_first_fault : Option Addr} {sl_first_fault : Array (Option Value)} {oc_first_fault kV_first_fault dc_first_fault pm_first_fault ct_first_fault cd_first_fault : Value} {f_first_stranger : Addr} {od_first_stranger an_first_stranger : Option Addr} {sl_first_stranger : Array (Option Value)} {oc_first_stranger kV_first_stranger dc_first_stranger pm_first_stranger ct_first_stranger cd_first_stranger : Value} {f_struck : Addr} {od_struck an_struck : Option Addr} {sl_struck : Array (Option Value)} {oc_struck kV_struck dc_struck pm_struck ct_struck cd_struck : Value} {f__law_pen : Addr} {od__law_pen an__law_pen : Option Addr} {sl__law_pen : Array (Option Value)} {oc__law_pen kV__law_pen dc__law_pen pm__law_pen ct__law_pen cd__law_pen : Value} {f__law_draw : Addr} {od__law_draw an__law_draw : Option Addr} {sl__law_draw : Array (Option Value)} {oc__law_draw kV__law_draw dc__law_draw pm__law_draw ct__law_draw cd__law_draw : Value} {f__law_pick : Addr} {od__law_pick an__law_pick : Option Addr} {sl__law_pick : Array (Option Value)} {oc__law_pick kV__law_pick dc__law_pick pm__law_pick ct__law_pick cd__law_pick : Value} {f__law_heard : Addr} {od__law_heard an__law_heard : Option Addr} {sl__law_heard : Array (Option Value)} {oc__law_heard kV__law_heard dc__law_heard pm__law_heard ct__law_heard cd__law_heard : Value} {f__law_drawn : Addr} {od__law_drawn an__law_drawn : Option Addr} {sl__law_drawn : Array (Option Value)} {oc__law_drawn kV__law_drawn dc__law_drawn pm__law_drawn ct__law_drawn cd__law_drawn : Value} {f__law_undo : Addr} {od__law_undo an__law_undo : Option Addr} {sl__law_undo : Array (Option Value)} {oc__law_undo kV__law_undo dc__law_undo pm__law_undo ct__law_undo cd__law_undo : Value} {f__law_wrong : Addr} {od__law_wrong an__law_wrong : Option Addr} {sl__law_wrong : Array (Option Value)} {oc__law_wrong kV__law_wrong dc__law_wrong pm__law_wrong ct__law_wrong cd__law_wrong : Value} {f__law_odd : Addr} {od__law_odd an__law_odd : Option Addr} {sl__law_odd : Array (Option Value)} {oc__law_odd kV__law_odd dc__law_odd pm__law_odd ct__law_odd cd__law_odd : Value} {f__law_left : Addr} {od__law_left an__law_left : Option Addr} {sl__law_left : Array (Option Value)} {oc__law_left kV__law_left dc__law_left pm__law_left ct__law_left cd__law_left : Value} {f__law_is : Addr} {od__law_is an__law_is : Option Addr} {sl__law_is : Array (Option Value)} {oc__law_is kV__law_is dc__law_is pm__law_is ct__law_is cd__law_is : Value} {f__law_is_bad : Addr} {od__law_is_bad an__law_is_bad : Option Addr} {sl__law_is_bad : Array (Option Value)} {oc__law_is_bad kV__law_is_bad dc__law_is_bad pm__law_is_bad ct__law_is_bad cd__law_is_bad : Value} {f__law_text_right : Addr} {od__law_text_right an__law_text_right : Option Addr} {sl__law_text_right : Array (Option Value)} {oc__law_text_right kV__law_text_right dc__law_text_right pm__law_text_right ct__law_text_right : Value} {u__law_text_right P__law_text_right : Addr} {qc__law_text_right : Value} {qd__law_text_right : Option Addr} {qv__law_text_right : Array Value} {qs__law_text_right : Array (Option Value)} {f__law_long_right : Addr} {od__law_long_right an__law_long_right : Option Addr} {sl__law_long_right : Array (Option Value)} {oc__law_long_right kV__law_long_right dc__law_long_right pm__law_long_right ct__law_long_right : Value} {u__law_long_right P__law_long_right : Addr} {qc__law_long_right : Value} {qd__law_long_right : Option Addr} {qv__law_long_right : Array Value} {qs__law_long_right : Array (Option Value)} {f_law : Addr} {od_law an_law : Option Addr} {sl_law : Array (Option Value)} {oc_law kV_law dc_law pm_law ct_law : Value} {u_law P_law : Addr} {qc_law : Value} {qd_law : Option Addr} {qv_law : Array Value} {qs_law : Array (Option Value)} {f_TM f_BW f_WI f_WO f_WS f_WL f_WT : Addr} {CM : Addr} {nm_CM q_CM : Str} {N_CM : Addr} {bs_CM : List Value} {sn_CM : List Str} {sub_CM : List Value} {ab_CM : Bool} {col_CM : Option Bool} {dd_CM : Option Addr} {m0_CM m1_CM m2_CM m3_CM m5_CM : Option Value} {bm_CM : List Value} {C2 : Addr} {nm_C2 q_C2 : Str} {N_C2 : Addr} {bs_C2 : List Value} {sn_C2 : List Str} {sub_C2 : List Value} {ab_C2 : Bool} {col_C2 : Option Bool} {dd_C2 : Option Addr} {m0_C2 m1_C2 m2_C2 m3_C2 m5_C2 : Option Value} {bm_C2 : List Value} {nmW qW : Str} {NW : Addr} {bsW : List Value} {hdW : Bool} {snW : List Str} {subW : List Value} {abW : Bool} {colW : Option Bool} {ddW : Option Addr} {w0 w1 w2 w3 w5 : Option Value} {newW : String} {pR : Addr} {rsR : List Value}  {od_TM an_TM : Option Addr} {sl_TM : Array (Option Value)} {oc_TM kV_TM dc_TM pm_TM ct_TM cd_TM : Value}  {od_BW an_BW : Option Addr} {sl_BW : Array (Option Value)} {oc_BW kV_BW dc_BW pm_BW ct_BW cd_BW : Value}  {od_WI an_WI : Option Addr} {sl_WI : Array (Option Value)} {oc_WI kV_WI dc_WI pm_WI ct_WI cd_WI : Value} {T_WI : Addr} {nT_WI : Nat} {cT_WI : Value} {dT_WI : Option Addr} {sT_WI : Array (Option Value)} {tt_WI : Tok}  {od_WO an_WO : Option Addr} {sl_WO : Array (Option Value)} {oc_WO kV_WO dc_WO pm_WO ct_WO cd_WO : Value}  {od_WS an_WS : Option Addr} {sl_WS : Array (Option Value)} {oc_WS kV_WS dc_WS pm_WS ct_WS cd_WS : Value}  {od_WL an_WL : Option Addr} {sl_WL : Array (Option Value)} {oc_WL kV_WL dc_WL pm_WL ct_WL cd_WL : Value}  {od_WT an_WT : Option Addr} {sl_WT : Array (Option Value)} {oc_WT kV_WT dc_WT pm_WT ct_WT cd_WT : Value}
    (g_CB : PySem.W.nsIn K mainGlobals "BallError" = some (some (.ref CB)))
    (g_CW : PySem.W.nsIn K mainGlobals "Word" = some (some (.ref CW)))
    (g_L : PySem.W.nsIn K mainGlobals "LETTERS" = some (some (.str "ABCDabcd" tL)))
    (g_M : PySem.W.nsIn K mainGlobals "MOST_LETTERS" = some (some (.int 4000 tM)))
    (z_len : PySem.W.nsIn K mainGlobals "len" = some none)
    (z_isinstance : PySem.W.nsIn K mainGlobals "isinstance" = some none)
    (z_str : PySem.W.nsIn K mainGlobals "str" = some none)
    (z_int : PySem.W.nsIn K mainGlobals "int" = some none)
    (z_range : PySem.W.nsIn K mainGlobals "range" = some none)
    (z_abs : PySem.W.nsIn K mainGlobals "abs" = some none)
    (z_list : PySem.W.nsIn K mainGlobals "list" = some none)
    (z_enumerate : PySem.W.nsIn K mainGlobals "enumerate" = some none)
    (z_max : PySem.W.nsIn K mainGlobals "max" = some none)
    (z_iter : PySem.W.nsIn K mainGlobals "iter" = some none)
    (cg : PySem.W.specialIn K (.builtin "object.__class__") "__get__" = some (some (.builtin "getset_descriptor.__get__")))
    (ct : PySem.W.takesIn K (.builtin "object.__class__") = some true)
    (a_first_fault : PySem.W.nsIn K mainGlobals "first_fault" = some (some (.ref f_first_fault)))
    (l_first_fault : K.lookup f_first_fault = some ⟨oc_first_fault, od_first_fault, .func (PySem.W.fnOf "first_fault" "first_fault" (defArgs s_first_fault) (defBody s_first_fault) (defScope s_first_fault) .none kV_first_fault dc_first_fault pm_first_fault an_first_fault cd_first_fault ct_first_fault), sl_first_fault⟩)
    (c_first_fault : PySem.W.codeIn K cd_first_fault "first_fault" = true)
    (k_first_fault : PySem.W.keepIn K (.ref f_first_fault) = true)
    (a_first_stranger : PySem.W.nsIn K mainGlobals "first_stranger" = some (some (.ref f_first_stranger)))
    (l_first_stranger : K.lookup f_first_stranger = some ⟨oc_first_stranger, od_first_stranger, .func (PySem.W.fnOf "first_stranger" "first_stranger" (defArgs s_first_stranger) (defBody s_first_stranger) (defScope s_first_stranger) .none kV_first_stranger dc_first_stranger pm_first_stranger an_first_stranger cd_first_stranger ct_first_stranger), sl_first_stranger⟩)
    (c_first_stranger : PySem.W.codeIn K cd_first_stranger "first_stranger" = true)
    (k_first_stranger : PySem.W.keepIn K (.ref f_first_stranger) = true)
    (a_struck : PySem.W.nsIn K mainGlobals "struck" = some (some (.ref f_struck)))
    (l_struck : K.lookup f_struck = some ⟨oc_struck, od_struck, .func (PySem.W.fnOf "struck" "struck" (defArgs s_struck) (defBody s_struck) (defScope s_struck) .none kV_struck dc_struck pm_struck an_struck cd_struck ct_struck), sl_struck⟩)
    (c_struck : PySem.W.codeIn K cd_struck "struck" = true)
    (k_struck : PySem.W.keepIn K (.ref f_struck) = true)
    (a__law_pen : PySem.W.nsIn K mainGlobals "_law_pen" = some (some (.ref f__law_pen)))
    (l__law_pen : K.lookup f__law_pen = some ⟨oc__law_pen, od__law_pen, .func (PySem.W.fnOf "_law_pen" "_law_pen" (defArgs s__law_pen) (defBody s__law_pen) (defScope s__law_pen) .none kV__law_pen dc__law_pen pm__law_pen an__law_pen cd__law_pen ct__law_pen), sl__law_pen⟩)
    (c__law_pen : PySem.W.codeIn K cd__law_pen "_law_pen" = true)
    (k__law_pen : PySem.W.keepIn K (.ref f__law_pen) = true)
    (a__law_draw : PySem.W.nsIn K mainGlobals "_law_draw" = some (some (.ref f__law_draw)))
    (l__law_draw : K.lookup f__law_draw = some ⟨oc__law_draw, od__law_draw, .func (PySem.W.fnOf "_law_draw" "_law_draw" (defArgs s__law_draw) (defBody s__law_draw) (defScope s__law_draw) .none kV__law_draw dc__law_draw pm__law_draw an__law_draw cd__law_draw ct__law_draw), sl__law_draw⟩)
    (c__law_draw : PySem.W.codeIn K cd__law_draw "_law_draw" = true)
    (k__law_draw : PySem.W.keepIn K (.ref f__law_draw) = true)
    (a__law_pick : PySem.W.nsIn K mainGlobals "_law_pick" = some (some (.ref f__law_pick)))
    (l__law_pick : K.lookup f__law_pick = some ⟨oc__law_pick, od__law_pick, .func (PySem.W.fnOf "_law_pick" "_law_pick" (defArgs s__law_pick) (defBody s__law_pick) (defScope s__law_pick) .none kV__law_pick dc__law_pick pm__law_pick an__law_pick cd__law_pick ct__law_pick), sl__law_pick⟩)
    (c__law_pick : PySem.W.codeIn K cd__law_pick "_law_pick" = true)
    (k__law_pick : PySem.W.keepIn K (.ref f__law_pick) = true)
    (a__law_heard : PySem.W.nsIn K mainGlobals "_law_heard" = some (some (.ref f__law_heard)))
    (l__law_heard : K.lookup f__law_heard = some ⟨oc__law_heard, od__law_heard, .func (PySem.W.fnOf "_law_heard" "_law_heard" (defArgs s__law_heard) (defBody s__law_heard) (defScope s__law_heard) .none kV__law_heard dc__law_heard pm__law_heard an__law_heard cd__law_heard ct__law_heard), sl__law_heard⟩)
    (c__law_heard : PySem.W.codeIn K cd__law_heard "_law_heard" = true)
    (k__law_heard : PySem.W.keepIn K (.ref f__law_heard) = true)
    (a__law_drawn : PySem.W.nsIn K mainGlobals "_law_drawn" = some (some (.ref f__law_drawn)))
    (l__law_drawn : K.lookup f__law_drawn = some ⟨oc__law_drawn, od__law_drawn, .func (PySem.W.fnOf "_law_drawn" "_law_drawn" (defArgs s__law_drawn) (defBody s__law_drawn) (defScope s__law_drawn) .none kV__law_drawn dc__law_drawn pm__law_drawn an__law_drawn cd__law_drawn ct__law_drawn), sl__law_drawn⟩)
    (c__law_drawn : PySem.W.codeIn K cd__law_drawn "_law_drawn" = true)
    (k__law_drawn : PySem.W.keepIn K (.ref f__law_drawn) = true)
    (a__law_undo : PySem.W.nsIn K mainGlobals "_law_undo" = some (some (.ref f__law_undo)))
    (l__law_undo : K.lookup f__law_undo = some ⟨oc__law_undo, od__law_undo, .func (PySem.W.fnOf "_law_undo" "_law_undo" (defArgs s__law_undo) (defBody s__law_undo) (defScope s__law_undo) .none kV__law_undo dc__law_undo pm__law_undo an__law_undo cd__law_undo ct__law_undo), sl__law_undo⟩)
    (c__law_undo : PySem.W.codeIn K cd__law_undo "_law_undo" = true)
    (k__law_undo : PySem.W.keepIn K (.ref f__law_undo) = true)
    (a__law_wrong : PySem.W.nsIn K mainGlobals "_law_wrong" = some (some (.ref f__law_wrong)))
    (l__law_wrong : K.lookup f__law_wrong = some ⟨oc__law_wrong, od__law_wrong, .func (PySem.W.fnOf "_law_wrong" "_law_wrong" (defArgs s__law_wrong) (defBody s__law_wrong) (defScope s__law_wrong) .none kV__law_wrong dc__law_wrong pm__law_wrong an__law_wrong cd__law_wrong ct__law_wrong), sl__law_wrong⟩)
    (c__law_wrong : PySem.W.codeIn K cd__law_wrong "_law_wrong" = true)
    (k__law_wrong : PySem.W.keepIn K (.ref f__law_wrong) = true)
    (a__law_odd : PySem.W.nsIn K mainGlobals "_law_odd" = some (some (.ref f__law_odd)))
    (l__law_odd : K.lookup f__law_odd = some ⟨oc__law_odd, od__law_odd, .func (PySem.W.fnOf "_law_odd" "_law_odd" (defArgs s__law_odd) (defBody s__law_odd) (defScope s__law_odd) .none kV__law_odd dc__law_odd pm__law_odd an__law_odd cd__law_odd ct__law_odd), sl__law_odd⟩)
    (c__law_odd : PySem.W.codeIn K cd__law_odd "_law_odd" = true)
    (k__law_odd : PySem.W.keepIn K (.ref f__law_odd) = true)
    (a__law_left : PySem.W.nsIn K mainGlobals "_law_left" = some (some (.ref f__law_left)))
    (l__law_left : K.lookup f__law_left = some ⟨oc__law_left, od__law_left, .func (PySem.W.fnOf "_law_left" "_law_left" (defArgs s__law_left) (defBody s__law_left) (defScope s__law_left) .none kV__law_left dc__law_left pm__law_left an__law_left cd__law_left ct__law_left), sl__law_left⟩)
    (c__law_left : PySem.W.codeIn K cd__law_left "_law_left" = true)
    (k__law_left : PySem.W.keepIn K (.ref f__law_left) = true)
    (a__law_is : PySem.W.nsIn K mainGlobals "_law_is" = some (some (.ref f__law_is)))
    (l__law_is : K.lookup f__law_is = some ⟨oc__law_is, od__law_is, .func (PySem.W.fnOf "_law_is" "_law_is" (defArgs s__law_is) (defBody s__law_is) (defScope s__law_is) .none kV__law_is dc__law_is pm__law_is an__law_is cd__law_is ct__law_is), sl__law_is⟩)
    (c__law_is : PySem.W.codeIn K cd__law_is "_law_is" = true)
    (k__law_is : PySem.W.keepIn K (.ref f__law_is) = true)
    (a__law_is_bad : PySem.W.nsIn K mainGlobals "_law_is_bad" = some (some (.ref f__law_is_bad)))
    (l__law_is_bad : K.lookup f__law_is_bad = some ⟨oc__law_is_bad, od__law_is_bad, .func (PySem.W.fnOf "_law_is_bad" "_law_is_bad" (defArgs s__law_is_bad) (defBody s__law_is_bad) (defScope s__law_is_bad) .none kV__law_is_bad dc__law_is_bad pm__law_is_bad an__law_is_bad cd__law_is_bad ct__law_is_bad), sl__law_is_bad⟩)
    (c__law_is_bad : PySem.W.codeIn K cd__law_is_bad "_law_is_bad" = true)
    (k__law_is_bad : PySem.W.keepIn K (.ref f__law_is_bad) = true)
    (a__law_text_right : PySem.W.nsIn K mainGlobals "_law_text_right" = some (some (.ref f__law_text_right)))
    (l__law_text_right : K.lookup f__law_text_right = some ⟨oc__law_text_right, od__law_text_right, .func (PySem.W.fnOf "_law_text_right" "_law_text_right" (defArgs s__law_text_right) (defBody s__law_text_right) (defScope s__law_text_right) .none kV__law_text_right dc__law_text_right pm__law_text_right an__law_text_right (.ref u__law_text_right) ct__law_text_right), sl__law_text_right⟩)
    (c__law_text_right : PySem.W.codeIn K (.ref u__law_text_right) "_law_text_right" = true)
    (k__law_text_right : PySem.W.keepIn K (.ref f__law_text_right) = true)
    (q__law_text_right : K.lookup u__law_text_right = some ⟨qc__law_text_right, qd__law_text_right, .fields qv__law_text_right, qs__law_text_right⟩)
    (p__law_text_right : (qv__law_text_right[11]? : Option Value) = some (.ref P__law_text_right))
    (h__law_text_right : PySem.W.codeHdIn K u__law_text_right P__law_text_right = true)
    (n__law_text_right : K.lookup P__law_text_right = none)
    (t__law_text_right : h.get? P__law_text_right = some { cls := .none, data := .fields #[] })
    (a__law_long_right : PySem.W.nsIn K mainGlobals "_law_long_right" = some (some (.ref f__law_long_right)))
    (l__law_long_right : K.lookup f__law_long_right = some ⟨oc__law_long_right, od__law_long_right, .func (PySem.W.fnOf "_law_long_right" "_law_long_right" (defArgs s__law_long_right) (defBody s__law_long_right) (defScope s__law_long_right) .none kV__law_long_right dc__law_long_right pm__law_long_right an__law_long_right (.ref u__law_long_right) ct__law_long_right), sl__law_long_right⟩)
    (c__law_long_right : PySem.W.codeIn K (.ref u__law_long_right) "_law_long_right" = true)
    (k__law_long_right : PySem.W.keepIn K (.ref f__law_long_right) = true)
    (q__law_long_right : K.lookup u__law_long_right = some ⟨qc__law_long_right, qd__law_long_right, .fields qv__law_long_right, qs__law_long_right⟩)
    (p__law_long_right : (qv__law_long_right[11]? : Option Value) = some (.ref P__law_long_right))
    (h__law_long_right : PySem.W.codeHdIn K u__law_long_right P__law_long_right = true)
    (n__law_long_right : K.lookup P__law_long_right = none)
    (t__law_long_right : h.get? P__law_long_right = some { cls := .none, data := .fields #[] })
    (a_law : PySem.W.nsIn K mainGlobals "law" = some (some (.ref f_law)))
    (l_law : K.lookup f_law = some ⟨oc_law, od_law, .func (PySem.W.fnOf "law" "law" (defArgs s_law) (defBody s_law) (defScope s_law) .none kV_law dc_law pm_law an_law (.ref u_law) ct_law), sl_law⟩)
    (c_law : PySem.W.codeIn K (.ref u_law) "law" = true)
    (k_law : PySem.W.keepIn K (.ref f_law) = true)
    (q_law : K.lookup u_law = some ⟨qc_law, qd_law, .fields qv_law, qs_law⟩)
    (p_law : (qv_law[11]? : Option Value) = some (.ref P_law))
    (h_law : PySem.W.codeHdIn K u_law P_law = true)
    (n_law : K.lookup P_law = none)
    (t_law : h.get? P_law = some { cls := .none, data := .fields #[] })
    (g_CM : PySem.W.nsIn K mainGlobals "TooMany" = some (some (.ref CM)))
    (x_CM : K.lookup CM = some (excClassObj nm_CM q_CM CM N_CM bs_CM bm_CM true sn_CM sub_CM ab_CM col_CM dd_CM m0_CM m1_CM m2_CM m3_CM m5_CM "ValueError.__new__"))
    (bm1_CM : PySem.HandSPX.refsVE bm_CM = true)
    (sa_CM : PySem.W.findIn K (.ref CM) "__setattr__" = some (some (.builtin "object.__setattr__")))
    (ex_CM : PySem.W.subIn K (.ref CM) (.type "BaseException") = some true)
    (ty_CM : PySem.W.typeIn K (.ref CM) = some (.type "type"))
    (kC_CM : PySem.W.keepIn K (.ref CM) = true)
    (cs_CM : (PySem.W.clsIn K CM).isSome = true)
    (ow_CM : PySem.W.hasDictIn K CM = true)
    (ga_CM : PySem.W.findIn K (.ref CM) "__getattribute__" = some (some (.builtin "BaseException.__getattribute__")))
    (gt_CM : PySem.W.findIn K (.ref CM) "__getattr__" = some none)
    (ca_CM : PySem.W.findIn K (.ref CM) "__class__" = some (some (.builtin "object.__class__")))
    (mr_CM : PySem.W.mroIn K CM (.type "object") = some true)
    (ii_CM : PySem.W.findIn K (.ref CM) "__init__" = some (some (.ref f_TM)))
    (no_CM : PySem.W.findIn K (.ref CM) "what" = some none)
    (xm_CM : PySem.W.exmOne K (.ref CM) (.ref CB) = some true)
    (ti_CM : PySem.W.typeIn K (.ref f_TM) = some (.type "function"))
    (ng_CM : PySem.W.findIn K (.ref CM) "most" = some none)
    (g_C2 : PySem.W.nsIn K mainGlobals "BadWord" = some (some (.ref C2)))
    (x_C2 : K.lookup C2 = some (excClassObj nm_C2 q_C2 C2 N_C2 bs_C2 bm_C2 true sn_C2 sub_C2 ab_C2 col_C2 dd_C2 m0_C2 m1_C2 m2_C2 m3_C2 m5_C2 "ValueError.__new__"))
    (bm1_C2 : PySem.HandSPX.refsVE bm_C2 = true)
    (sa_C2 : PySem.W.findIn K (.ref C2) "__setattr__" = some (some (.builtin "object.__setattr__")))
    (ex_C2 : PySem.W.subIn K (.ref C2) (.type "BaseException") = some true)
    (ty_C2 : PySem.W.typeIn K (.ref C2) = some (.type "type"))
    (kC_C2 : PySem.W.keepIn K (.ref C2) = true)
    (cs_C2 : (PySem.W.clsIn K C2).isSome = true)
    (ow_C2 : PySem.W.hasDictIn K C2 = true)
    (ga_C2 : PySem.W.findIn K (.ref C2) "__getattribute__" = some (some (.builtin "BaseException.__getattribute__")))
    (gt_C2 : PySem.W.findIn K (.ref C2) "__getattr__" = some none)
    (ca_C2 : PySem.W.findIn K (.ref C2) "__class__" = some (some (.builtin "object.__class__")))
    (mr_C2 : PySem.W.mroIn K C2 (.type "object") = some true)
    (ii_C2 : PySem.W.findIn K (.ref C2) "__init__" = some (some (.ref f_BW)))
    (no_C2 : PySem.W.findIn K (.ref C2) "at" = some none)
    (xm_C2 : PySem.W.exmOne K (.ref C2) (.ref CB) = some true)
    (ti_C2 : PySem.W.typeIn K (.ref f_BW) = some (.type "function"))
    (w_pg : PySem.W.plainGet K CW Str.empty = true)
    (w_hd : PySem.W.hasDictIn K CW = true)
    (w_po : PySem.W.plainOver K CW = true)
    (w_sa : PySem.W.findIn K (.ref CW) "__setattr__" = some (some (.builtin "object.__setattr__")))
    (w_ca : PySem.W.findIn K (.ref CW) "__class__" = some (some (.builtin "object.__class__")))
    (w_mr : PySem.W.mroIn K CW (.type "object") = some true)
    (w_ns : PySem.W.kitOne K (.ref CW) (.type "str") = some false)
    (w_na : PySem.W.findIn K (.ref CW) "letters" = some none)
    (w_mk : PySem.W.makesIn K CW = true)
    (w_ii : PySem.W.findIn K (.ref CW) "__init__" = some (some (.ref f_WI)))
    (w_if : PySem.W.isFn K (.ref f_WI) = true)
    (w_kp : PySem.W.keepIn K (.ref CW) = true)
    (w_ob : K.lookup CW = some (excClassObj nmW qW CW NW bsW [.type "object"] hdW snW subW abW colW ddW w0 w1 w2 w3 w5 newW))
    (w_lf : PySem.W.findIn K (.ref CW) "__len__" = some (some (.ref f_WL)))
    (w_ln : PySem.W.isFn K (.ref f_WL) = true)
    (w_tf : PySem.W.findIn K (.ref CW) "__iter__" = some (some (.ref f_WT)))
    (w_tn : PySem.W.isFn K (.ref f_WT) = true)
    (w_sf : PySem.W.findIn K (.ref CW) "__str__" = some (some (.ref f_WS)))
    (w_sn : PySem.W.isFn K (.ref f_WS) = true)
    (w_r0 : PySem.W.nsIn K NW "of" = some (some (.ref pR)))
    (w_ra : PySem.W.readsIn K CW (.type "type") = true)
    (w_rb : PySem.W.findCls K (.ref CW) (.type "type") "of" = some (.get (.builtin "staticmethod.__get__") (.ref pR) .none (.ref CW)))
    (w_r2 : PySem.W.specialIn K (.ref CW) "__getattribute__" = some (some (.builtin "type.__getattribute__")))
    (w_r3 : PySem.W.recIn K pR "staticmethod" = some (.ref f_WO :: rsR))
    (l_TM : K.lookup f_TM = some ⟨oc_TM, od_TM, .func (PySem.W.fnOf "__init__" "TooMany.__init__" (defArgs s_TooMany_init) (defBody s_TooMany_init) (defScope s_TooMany_init) .none kV_TM dc_TM pm_TM an_TM cd_TM ct_TM), sl_TM⟩)
    (c_TM : PySem.W.codeIn K cd_TM "TooMany.__init__" = true)
    (k_TM : PySem.W.keepIn K (.ref f_TM) = true)
    (l_BW : K.lookup f_BW = some ⟨oc_BW, od_BW, .func (PySem.W.fnOf "__init__" "BadWord.__init__" (defArgs s_BadWord_init) (defBody s_BadWord_init) (defScope s_BadWord_init) .none kV_BW dc_BW pm_BW an_BW cd_BW ct_BW), sl_BW⟩)
    (c_BW : PySem.W.codeIn K cd_BW "BadWord.__init__" = true)
    (k_BW : PySem.W.keepIn K (.ref f_BW) = true)
    (l_WI : K.lookup f_WI = some ⟨oc_WI, od_WI, .func (PySem.W.fnOf "__init__" "Word.__init__" (defArgs s_Word_init) (defBody s_Word_init) (defScope s_Word_init) (.ref T_WI) kV_WI dc_WI pm_WI an_WI cd_WI ct_WI), sl_WI⟩)
    (d_WI : K.lookup T_WI = some ⟨cT_WI, dT_WI, .seq [.str "" tt_WI].toArray nT_WI, sT_WI⟩)
    (c_WI : PySem.W.codeIn K cd_WI "Word.__init__" = true)
    (k_WI : PySem.W.keepIn K (.ref f_WI) = true)
    (l_WO : K.lookup f_WO = some ⟨oc_WO, od_WO, .func (PySem.W.fnOf "of" "Word.of" (defArgs s_Word_of) (defBody s_Word_of) (defScope s_Word_of) .none kV_WO dc_WO pm_WO an_WO cd_WO ct_WO), sl_WO⟩)
    (c_WO : PySem.W.codeIn K cd_WO "Word.of" = true)
    (k_WO : PySem.W.keepIn K (.ref f_WO) = true)
    (l_WS : K.lookup f_WS = some ⟨oc_WS, od_WS, .func (PySem.W.fnOf "__str__" "Word.__str__" (defArgs s_Word_str) (defBody s_Word_str) (defScope s_Word_str) .none kV_WS dc_WS pm_WS an_WS cd_WS ct_WS), sl_WS⟩)
    (c_WS : PySem.W.codeIn K cd_WS "Word.__str__" = true)
    (k_WS : PySem.W.keepIn K (.ref f_WS) = true)
    (l_WL : K.lookup f_WL = some ⟨oc_WL, od_WL, .func (PySem.W.fnOf "__len__" "Word.__len__" (defArgs s_Word_len) (defBody s_Word_len) (defScope s_Word_len) .none kV_WL dc_WL pm_WL an_WL cd_WL ct_WL), sl_WL⟩)
    (c_WL : PySem.W.codeIn K cd_WL "Word.__len__" = true)
    (k_WL : PySem.W.keepIn K (.ref f_WL) = true)
    (l_WT : K.lookup f_WT = some ⟨oc_WT, od_WT, .func (PySem.W.fnOf "__iter__" "Word.__iter__" (defArgs s_Word_iter) (defBody s_Word_iter) (defScope s_Word_iter) .none kV_WT dc_WT pm_WT an_WT cd_WT ct_WT), sl_WT⟩)
    (c_WT : PySem.W.codeIn K cd_WT "Word.__iter__" = true)
    (k_WT : PySem.W.keepIn K (.ref f_WT) = true)
    (ne1 : P__law_text_right ≠ P__law_long_right) (ne2 : P__law_text_right ≠ P_law) (ne3 : P__law_long_right ≠ P_law) :
    LamX.LawAtS PySem.Challenge.rw_sevenball_k01_words_made_and_refused w K CX0 10 63 "script" mg fa h := by
  have e := hfa.symm.trans (PySem.W.mg_of X G a_law)
  cases e
  have F_first_fault := fun_mk (st := s_first_fault) l_first_fault c_first_fault k_first_fault
  have F_first_stranger := fun_mk (st := s_first_stranger) l_first_stranger c_first_stranger k_first_stranger
  have F_struck := fun_mk (st := s_struck) l_struck c_struck k_struck
  have F__law_pen := fun_mk (st := s__law_pen) l__law_pen c__law_pen k__law_pen
  have F__law_draw := fun_mk (st := s__law_draw) l__law_draw c__law_draw k__law_draw
  have F__law_pick := fun_mk (st := s__law_pick) l__law_pick c__law_pick k__law_pick
  have F__law_heard := fun_mk (st := s__law_heard) l__law_heard c__law_heard k__law_heard
  have F__law_drawn := fun_mk (st := s__law_drawn) l__law_drawn c__law_drawn k__law_drawn
  have F__law_undo := fun_mk (st := s__law_undo) l__law_undo c__law_undo k__law_undo
  have F__law_wrong := fun_mk (st := s__law_wrong) l__law_wrong c__law_wrong k__law_wrong
  have F__law_odd := fun_mk (st := s__law_odd) l__law_odd c__law_odd k__law_odd
  have F__law_left := fun_mk (st := s__law_left) l__law_left c__law_left k__law_left
  have F__law_is := fun_mk (st := s__law_is) l__law_is c__law_is k__law_is
  have F__law_is_bad := fun_mk (st := s__law_is_bad) l__law_is_bad c__law_is_bad k__law_is_bad
  have F_BW := fun_mk (st := s_BadWord_init) l_BW c_BW k_BW
  have F_TM := fun_mk (st := s_TooMany_init) l_TM c_TM k_TM
  have F_WO := fun_mk (st := s_Word_of) l_WO c_WO k_WO
  have F_WS := fun_mk (st := s_Word_str) l_WS c_WS k_WS
  have F_WL := fun_mk (st := s_Word_len) l_WL c_WL k_WL
  have F_WT := fun_mk (st := s_Word_iter) l_WT c_WT k_WT
  have T_tr := funT_mk (st := s__law_text_right) l__law_text_right c__law_text_right k__law_text_right
  have T_lr := funT_mk (st := s__law_long_right) l__law_long_right c__law_long_right k__law_long_right
  have T_law := funT_mk (st := s_law) l_law c_law k_law
  have F_WI : FunD K "__init__" "Word.__init__" (defArgs s_Word_init) (defBody s_Word_init) (defScope s_Word_init) [.str ""] [] f_WI _ :=
    ⟨⟨_, _, _, _, _, _, _, _, _, _, rfl, l_WI, c_WI, .inr ⟨fun z => (nomatch z), T_WI, _, _, _, rfl, d_WI, rfl, .cons ⟨_, rfl⟩ .nil⟩, .inl rfl⟩, k_WI⟩
  have E3 : Err2 K mg "TooMany" "what" "most" CM f_TM := { ox := ⟨⟨_, _, _, _, _, _, _, _, _, _, _, _, _, _, _, x_CM, bm1_CM⟩, sa_CM, ex_CM, ty_CM, kC_CM⟩, ec := ⟨cs_CM, ow_CM, ga_CM, gt_CM, ex_CM, ca_CM, cg, ct, mr_CM⟩, iC := ii_CM, tI := ti_CM, nf := no_CM, ng := ng_CM, at_ := PySem.W.mg_of X G g_CM }
  have E2 : Err1 K mg "BadWord" "at" C2 f_BW := { ox := ⟨⟨_, _, _, _, _, _, _, _, _, _, _, _, _, _, _, x_C2, bm1_C2⟩, sa_C2, ex_C2, ty_C2, kC_C2⟩, ec := ⟨cs_C2, ow_C2, ga_C2, gt_C2, ex_C2, ca_C2, cg, ct, mr_C2⟩, iC := ii_C2, tI := ti_C2, no := no_C2, at_ := PySem.W.mg_of X G g_C2 }
  have cl : Cls K CW := ⟨w_pg, w_hd, w_po, w_sa⟩
  have ic : IsC K CW := ⟨w_ca, cg, ct, w_mr, w_ns⟩
  have M : Mk K CW f_WI := ⟨w_mk, w_ii, w_if, w_kp⟩
  have St : Stat K CW "of" pR f_WO := ⟨⟨_, w_ra, w_rb⟩, w_r2, ⟨_, w_r3⟩, F_WO.kp⟩
  have gW := PySem.W.mg_of X G g_CW
  have none := fun {x : Str} (z : PySem.W.nsIn K mainGlobals x = some Option.none) => PySem.W.mg_none_of X G z
  have m_len := none z_len
  have m_isinstance := none z_isinstance
  have m_str := none z_str
  have m_int := none z_int
  have m_range := none z_range
  have m_abs := none z_abs
  have m_list := none z_list
  have m_enumerate := none z_enumerate
  have m_max := none z_max
  have m_iter := none z_iter
  have mL : ∃ t, mg "LETTERS" = some (.str "ABCDabcd" t) := ⟨_, PySem.W.mg_of X G g_L⟩
  have mM : ∃ t, mg "MOST_LETTERS" = some (.int 4000 t) := ⟨_, PySem.W.mg_of X G g_M⟩
  have b_first_fault := F_first_fault.binds (ps := ["letters"]) fun _ _ _ _ _ _ us hl => match us, hl with | [_], _ => rfl
  have b_first_stranger := F_first_stranger.binds (ps := ["letters"]) fun _ _ _ _ _ _ us hl => match us, hl with | [_], _ => rfl
  have b_struck := F_struck.binds (ps := ["letters"]) fun _ _ _ _ _ _ us hl => match us, hl with | [_], _ => rfl
  have b__law_pen := F__law_pen.binds (ps := ["script"]) fun _ _ _ _ _ _ us hl => match us, hl with | [_], _ => rfl
  have b__law_draw := F__law_draw.binds (ps := ["pen", "many"]) fun _ _ _ _ _ _ us hl => match us, hl with | [_, _], _ => rfl
  have b__law_pick := F__law_pick.binds (ps := ["pen", "some"]) fun _ _ _ _ _ _ us hl => match us, hl with | [_, _], _ => rfl
  have b__law_heard := F__law_heard.binds (ps := ["ask"]) fun _ _ _ _ _ _ us hl => match us, hl with | [_], _ => rfl
  have b__law_drawn := F__law_drawn.binds (ps := ["pen"]) fun _ _ _ _ _ _ us hl => match us, hl with | [_], _ => rfl
  have b__law_undo := F__law_undo.binds (ps := ["sign"]) fun _ _ _ _ _ _ us hl => match us, hl with | [_], _ => rfl
  have b__law_wrong := F__law_wrong.binds (ps := ["text"]) fun _ _ _ _ _ _ us hl => match us, hl with | [_], _ => rfl
  have b__law_odd := F__law_odd.binds (ps := ["text"]) fun _ _ _ _ _ _ us hl => match us, hl with | [_], _ => rfl
  have b__law_left := F__law_left.binds (ps := ["text"]) fun _ _ _ _ _ _ us hl => match us, hl with | [_], _ => rfl
  have b__law_is := F__law_is.binds (ps := ["word", "text"]) fun _ _ _ _ _ _ us hl => match us, hl with | [_, _], _ => rfl
  have b__law_is_bad := F__law_is_bad.binds (ps := ["caught", "at"]) fun _ _ _ _ _ _ us hl => match us, hl with | [_, _], _ => rfl
  have b_BW := F_BW.binds (ps := ["self", "at"]) fun _ _ _ _ _ _ us hl => match us, hl with | [_, _], _ => rfl
  have b_TM := F_TM.binds (ps := ["self", "what", "most"]) fun _ _ _ _ _ _ us hl => match us, hl with | [_, _, _], _ => rfl
  have b_WO := F_WO.binds (ps := ["letters"]) fun _ _ _ _ _ _ us hl => match us, hl with | [_], _ => rfl
  have b_WS := F_WS.binds (ps := ["self"]) fun _ _ _ _ _ _ us hl => match us, hl with | [_], _ => rfl
  have b_WL := F_WL.binds (ps := ["self"]) fun _ _ _ _ _ _ us hl => match us, hl with | [_], _ => rfl
  have b_WT := F_WT.binds (ps := ["self"]) fun _ _ _ _ _ _ us hl => match us, hl with | [_], _ => rfl
  have b_tr := T_tr.fn.binds (ps := ["text"]) fun _ _ _ _ _ _ us hl => match us, hl with | [_], _ => rfl
  have b_lr := T_lr.fn.binds (ps := ["pen"]) fun _ _ _ _ _ _ us hl => match us, hl with | [_], _ => rfl
  have kw_O := of_kw F_WO
  have kw_W := word_kw F_WI
  obtain ⟨ds1, v1, b_WI⟩ := F_WI.binds1 (ps := ["self", "letters"]) 2 1 (fun z => (nomatch z)) rfl fun _ _ _ _ _ _ _ us its h1 h2 => match us, its, h1, h2 with | [_, _], [_], _, _ => ⟨_, rfl, rfl⟩
  obtain ⟨ds2, v2, b_WI0⟩ := F_WI.binds1 (ps := ["self", "letters"]) 1 0 (fun z => (nomatch z)) rfl fun _ _ _ _ _ _ _ us its h1 h2 => match us, its, h1, h2 with | [_], [_], _, _ => ⟨_, rfl, rfl⟩
  have n1 : ds1 = [] := by
    cases v1
    rfl
  subst n1
  obtain ⟨tE, rfl, rE⟩ : ∃ tE, ds2 = [tE] ∧ RelV (.str "") tE := by
    cases v2 with
    | cons r q =>
      cases q
      exact ⟨_, rfl, r⟩
  have xm2 := xm_C2
  have xm3 := xm_CM
  refine ⟨PySem.W.fnOf "law" "law" (defArgs s_law) (defBody s_law) (defScope s_law) .none kV_law dc_law pm_law an_law (.ref u_law) ct_law, [(u__law_text_right, P__law_text_right), (u__law_long_right, P__law_long_right), (u_law, P_law)], spLaw K [(P__law_text_right, lq "_law_text_right"), (P__law_long_right, lq "_law_long_right"), (P_law, lq "law")], ?_, ?_, ?_, fun s u => ?_, ?_, fun base kb nb tb => ?_⟩
  · intro p hp
    simp only [List.mem_cons, List.not_mem_nil, or_false] at hp
    rcases hp with rfl | rfl | rfl
    · exact t__law_text_right
    · exact t__law_long_right
    · exact t_law
  · intro p hp
    simp only [List.mem_cons, List.not_mem_nil, or_false] at hp
    rcases hp with rfl | rfl | rfl
    · exact n__law_text_right
    · exact n__law_long_right
    · exact n_law
  · intro p hp
    simp only [List.mem_cons, List.not_mem_nil, or_false] at hp
    rcases hp with rfl | rfl | rfl
    · exact PySem.W.codeHd_of_K X h__law_text_right
    · exact PySem.W.codeHd_of_K X h__law_long_right
    · exact PySem.W.codeHd_of_K X h_law
  · exact .of_eq rfl
  · intro H a ns _ _ hT hS
    refine ⟨a, ns, rfl, hS, ?_, fun _ => rfl⟩
    have one := fun p hp => hT p hp
    intro p hp
    simp only [List.mem_cons, List.not_mem_nil, or_false] at hp
    rcases hp with rfl | rfl | rfl
    · exact .nil (one (u__law_text_right, P__law_text_right) (by simp))
    · exact .nil (one (u__law_long_right, P__law_long_right) (by simp))
    · exact .nil (one (u_law, P_law) (by simp))
  · have in1 : (P__law_text_right, lq "_law_text_right") ∈ [(P__law_text_right, lq "_law_text_right"), (P__law_long_right, lq "_law_long_right"), (P_law, lq "law")] := by simp
    have in2 : (P__law_long_right, lq "_law_long_right") ∈ [(P__law_text_right, lq "_law_text_right"), (P__law_long_right, lq "_law_long_right"), (P_law, lq "law")] := by simp
    have in3 : (P_law, lq "law") ∈ [(P__law_text_right, lq "_law_text_right"), (P__law_long_right, lq "_law_long_right"), (P_law, lq "law")] := by simp
    have un : ∀ q ∈ [(P__law_text_right, lq "_law_text_right"), (P__law_long_right, lq "_law_long_right"), (P_law, lq "law")], (q.1 = P__law_text_right → q.2 = lq "_law_text_right") ∧ (q.1 = P__law_long_right → q.2 = lq "_law_long_right") ∧ (q.1 = P_law → q.2 = lq "law") := by
      intro q hq
      simp only [List.mem_cons, List.not_mem_nil, or_false] at hq
      rcases hq with rfl | rfl | rfl
      · exact ⟨fun _ => rfl, fun z => absurd z ne1, fun z => absurd z ne2⟩
      · exact ⟨fun z => absurd z.symm ne1, fun _ => rfl, fun z => absurd z ne3⟩
      · exact ⟨fun z => absurd z.symm ne2, fun z => absurd z.symm ne3, fun _ => rfl⟩
    have Hd : Heard K mg CB := ⟨⟨_, _, F__law_heard, b__law_heard, PySem.W.mg_of X G a__law_heard⟩, PySem.W.mg_of X G g_CB⟩
    have GW := ok_Word_init (P := PySem.Challenge.rw_sevenball_k01_words_made_and_refused.prog) (w := w) (base := base) (k := 0) F_WI E2 F_BW b_BW E3 F_TM b_TM F_first_fault b_first_fault (PySem.W.mg_of X G a_first_fault) cl w_na m_isinstance m_str m_len m_enumerate mL mM
    have GS := ok_first_stranger (P := PySem.Challenge.rw_sevenball_k01_words_made_and_refused.prog) (w := w) (base := base) (k := 2) F_first_stranger m_enumerate mL
    have GG := ok_struck (P := PySem.Challenge.rw_sevenball_k01_words_made_and_refused.prog) (w := w) (base := base) (mg := mg) (k := 2) F_struck
    have GO := ok_Word_of (P := PySem.Challenge.rw_sevenball_k01_words_made_and_refused.prog) (w := w) (base := base) (k := 0) F_WO E2 F_BW b_BW GS b_first_stranger (PySem.W.mg_of X G a_first_stranger) k_first_stranger GG b_struck (PySem.W.mg_of X G a_struck) k_struck M GW gW b_WI m_isinstance m_str
    have MO : MakeOk PySem.Challenge.rw_sevenball_k01_words_made_and_refused.prog w K mg base CW C2 CM 0 := ⟨⟨_, _, _, M, GW, b_WI, b_WI0, rE, kw_W⟩, ⟨_, _, _, St, GO, b_WO, kw_O⟩⟩
    have GSt := ok_Word_str (P := PySem.Challenge.rw_sevenball_k01_words_made_and_refused.prog) (w := w) (base := base) (k := 0) F_WS cl w_na m_str
    have GLn := ok_Word_len (P := PySem.Challenge.rw_sevenball_k01_words_made_and_refused.prog) (w := w) (base := base) (k := 0) F_WL cl w_na m_len
    have TI := ok_Word_iter (P := PySem.Challenge.rw_sevenball_k01_words_made_and_refused.prog) (w := w) (base := base) (k := 0) F_WT cl w_na m_iter w_tf w_tn b_WT
    have Wo : WordOk PySem.Challenge.rw_sevenball_k01_words_made_and_refused.prog w K mg base CW 1 := ⟨⟨_, _, w_sf, w_sn, GSt, b_WS⟩, ⟨_, _, w_lf, w_ln, GLn, b_WL⟩, ⟨_, TI⟩, gW, cl, ic, w_na⟩
    have Gpen := ok_law_pen (P := PySem.Challenge.rw_sevenball_k01_words_made_and_refused.prog) (w := w) (base := base) (k := 0) F__law_pen m_list
    have Gdraw := ok_law_draw (P := PySem.Challenge.rw_sevenball_k01_words_made_and_refused.prog) (w := w) (base := base) (k := 0) F__law_draw m_int m_len m_abs
    have gdraw := PySem.W.mg_of X G a__law_draw
    have Gpick := ok_law_pick (P := PySem.Challenge.rw_sevenball_k01_words_made_and_refused.prog) (w := w) (base := base) (k := 0) F__law_pick Gdraw gdraw k__law_draw b__law_draw m_len
    have gpick := PySem.W.mg_of X G a__law_pick
    have Gdrawn := ok_law_drawn (P := PySem.Challenge.rw_sevenball_k01_words_made_and_refused.prog) (w := w) (base := base) (k := 0) F__law_drawn Gpick gpick k__law_pick b__law_pick m_range
    have Gundo1 := ok_law_undo (P := PySem.Challenge.rw_sevenball_k01_words_made_and_refused.prog) (w := w) (base := base) (mg := mg) (k := 0) F__law_undo
    have Gundo2 := ok_law_undo (P := PySem.Challenge.rw_sevenball_k01_words_made_and_refused.prog) (w := w) (base := base) (mg := mg) (k := 1) F__law_undo
    have gundo := PySem.W.mg_of X G a__law_undo
    have Gwrong := ok_law_wrong (P := PySem.Challenge.rw_sevenball_k01_words_made_and_refused.prog) (w := w) (base := base) (k := 1) F__law_wrong Gundo2 gundo k__law_undo b__law_undo m_range m_len
    have Godd := ok_law_odd (P := PySem.Challenge.rw_sevenball_k01_words_made_and_refused.prog) (w := w) (base := base) (k := 2) F__law_odd m_range m_len
    have Gleft := ok_law_left (P := PySem.Challenge.rw_sevenball_k01_words_made_and_refused.prog) (w := w) (base := base) (k := 1) F__law_left Gundo2 gundo k__law_undo b__law_undo m_max m_len
    have Gis := ok_law_is (P := PySem.Challenge.rw_sevenball_k01_words_made_and_refused.prog) (w := w) (base := base) (k := 0) F__law_is Wo m_isinstance m_len m_str
    have Gbad := ok_law_is_bad (P := PySem.Challenge.rw_sevenball_k01_words_made_and_refused.prog) (w := w) (base := base) (k := 2) F__law_is_bad E2 m_isinstance
    have Gtr := ok_law_text_right (k := 0) T_tr Hd (tb (u__law_text_right, P__law_text_right) (by simp)) in1 (fun q hq => (un q hq).1) MO gW E2 xm2 Gwrong (PySem.W.mg_of X G a__law_wrong) k__law_wrong b__law_wrong Godd (PySem.W.mg_of X G a__law_odd) k__law_odd b__law_odd
      Gleft (PySem.W.mg_of X G a__law_left) k__law_left b__law_left Gis (PySem.W.mg_of X G a__law_is) k__law_is b__law_is Gbad (PySem.W.mg_of X G a__law_is_bad) k__law_is_bad b__law_is_bad
    have Glr := ok_law_long_right (k := 0) T_lr Hd (tb (u__law_long_right, P__law_long_right) (by simp)) in2 (fun q hq => (un q hq).2.1) MO Wo E2 xm2 E3 xm3 Gpick gpick k__law_pick b__law_pick Gdraw gdraw k__law_draw b__law_draw Gundo1 gundo k__law_undo b__law_undo
      Gbad (PySem.W.mg_of X G a__law_is_bad) k__law_is_bad b__law_is_bad m_isinstance m_len
    exact ok_law (k := 0) T_law Hd (tb (u_law, P_law) (by simp)) in3 (fun q hq => (un q hq).2.2) MO Wo E2 xm2 Gpen (PySem.W.mg_of X G a__law_pen) k__law_pen b__law_pen Gpick gpick k__law_pick b__law_pick Gdraw gdraw k__law_draw b__law_draw
      Gdrawn (PySem.W.mg_of X G a__law_drawn) k__law_drawn b__law_drawn Gwrong (PySem.W.mg_of X G a__law_wrong) k__law_wrong b__law_wrong Gtr (PySem.W.mg_of X G a__law_text_right) k__law_text_right b_tr
      Gis (PySem.W.mg_of X G a__law_is) k__law_is b__law_is Gbad (PySem.W.mg_of X G a__law_is_bad) k__law_is_bad b__law_is_bad Glr (PySem.W.mg_of X G a__law_long_right) k__law_long_right b_lr m_range

end K01
-- E01
open PySem PySem.W PyProof.Rows
set_option maxHeartbeats 0 in
theorem PySem.Challenge.cw_sevenball_k01_words_made_and_refused_holds : PySem.Challenge.rw_sevenball_k01_words_made_and_refused.Holds := by
  w_on; o_law; k_head; (case hw => w_witness2)
  k_fill
  refine LamX.walk_ofTs (l := PySem.Challenge.rw_sevenball_k01_words_made_and_refused) (n := 63) (k := 10) (x := "script") (CX := fun _ => L2.CX0) rfl (by decide) rfl ⟨rfl, by decide, by decide⟩ (fun w h Y => PySem.W.km_in_of Y) ?F (fun _ _ _ _ _ h => h)
  case F =>
    intro w mg fa h Y KX G hmg
    refine' K01.all_mk KX G hmg ?g_CB ?g_CW ?g_L ?g_M ?z_len ?z_isinstance ?z_str ?z_int ?z_range ?z_abs ?z_list ?z_enumerate ?z_max ?z_iter ?cg ?ct ?a_first_fault ?l_first_fault ?c_first_fault ?k_first_fault ?a_first_stranger ?l_first_stranger ?c_first_stranger ?k_first_stranger ?a_struck ?l_struck ?c_struck ?k_struck ?a__law_pen ?l__law_pen ?c__law_pen ?k__law_pen ?a__law_draw ?l__law_draw ?c__law_draw ?k__law_draw ?a__law_pick ?l__law_pick ?c__law_pick ?k__law_pick ?a__law_heard ?l__law_heard ?c__law_heard ?k__law_heard ?a__law_drawn ?l__law_drawn ?c__law_drawn ?k__law_drawn ?a__law_undo ?l__law_undo ?c__law_undo ?k__law_undo ?a__law_wrong ?l__law_wrong ?c__law_wrong ?k__law_wrong ?a__law_odd ?l__law_odd ?c__law_odd ?k__law_odd ?a__law_left ?l__law_left ?c__law_left ?k__law_left ?a__law_is ?l__law_is ?c__law_is ?k__law_is ?a__law_is_bad ?l__law_is_bad ?c__law_is_bad ?k__law_is_bad ?a__law_text_right ?l__law_text_right ?c__law_text_right ?k__law_text_right ?q__law_text_right ?p__law_text_right ?h__law_text_right ?n__law_text_right ?t__law_text_right ?a__law_long_right ?l__law_long_right ?c__law_long_right ?k__law_long_right ?q__law_long_right ?p__law_long_right ?h__law_long_right ?n__law_long_right ?t__law_long_right ?a_law ?l_law ?c_law ?k_law ?q_law ?p_law ?h_law ?n_law ?t_law ?g_CM ?x_CM ?bm1_CM ?sa_CM ?ex_CM ?ty_CM ?kC_CM ?cs_CM ?ow_CM ?ga_CM ?gt_CM ?ca_CM ?mr_CM ?ii_CM ?no_CM ?xm_CM ?ti_CM ?ng_CM ?g_C2 ?x_C2 ?bm1_C2 ?sa_C2 ?ex_C2 ?ty_C2 ?kC_C2 ?cs_C2 ?ow_C2 ?ga_C2 ?gt_C2 ?ca_C2 ?mr_C2 ?ii_C2 ?no_C2 ?xm_C2 ?ti_C2 ?w_pg ?w_hd ?w_po ?w_sa ?w_ca ?w_mr ?w_ns ?w_na ?w_mk ?w_ii ?w_if ?w_kp ?w_ob ?w_lf ?w_ln ?w_tf ?w_tn ?w_sf ?w_sn ?w_r0 ?w_ra ?w_rb ?w_r2 ?w_r3 ?l_TM ?c_TM ?k_TM ?l_BW ?c_BW ?k_BW ?l_WI ?d_WI ?c_WI ?k_WI ?l_WO ?c_WO ?k_WO ?l_WS ?c_WS ?k_WS ?l_WL ?c_WL ?k_WL ?l_WT ?c_WT ?k_WT ?ne1 ?ne2 ?ne3
    (case g_CB => first | k_is | kernel_rfl)
    (case g_CW => first | k_is | kernel_rfl)
    (case g_L => first | k_is | kernel_rfl)
    (case g_M => first | k_is | kernel_rfl)
    (case z_len => first | k_is | kernel_rfl)
    (case z_isinstance => first | k_is | kernel_rfl)
    (case z_str => first | k_is | kernel_rfl)
    (case z_int => first | k_is | kernel_rfl)
    (case z_range => first | k_is | kernel_rfl)
    (case z_abs => first | k_is | kernel_rfl)
    (case z_list => first | k_is | kernel_rfl)
    (case z_enumerate => first | k_is | kernel_rfl)
    (case z_max => first | k_is | kernel_rfl)
    (case z_iter => first | k_is | kernel_rfl)
    (case cg => first | k_is | kernel_rfl)
    (case ct => first | k_is | kernel_rfl)
    (case a_first_fault => first | k_is | kernel_rfl)
    (case l_first_fault => first | k_is | kernel_rfl)
    (case c_first_fault => first | k_is | kernel_rfl)
    (case k_first_fault => first | k_is | kernel_rfl)
    (case a_first_stranger => first | k_is | kernel_rfl)
    (case l_first_stranger => first | k_is | kernel_rfl)
    (case c_first_stranger => first | k_is | kernel_rfl)
    (case k_first_stranger => first | k_is | kernel_rfl)
    (case a_struck => first | k_is | kernel_rfl)
    (case l_struck => first | k_is | kernel_rfl)
    (case c_struck => first | k_is | kernel_rfl)
    (case k_struck => first | k_is | kernel_rfl)
    (case a__law_pen => first | k_is | kernel_rfl)
    (case l__law_pen => first | k_is | kernel_rfl)
    (case c__law_pen => first | k_is | kernel_rfl)
    (case k__law_pen => first | k_is | kernel_rfl)
    (case a__law_draw => first | k_is | kernel_rfl)
    (case l__law_draw => first | k_is | kernel_rfl)
    (case c__law_draw => first | k_is | kernel_rfl)
    (case k__law_draw => first | k_is | kernel_rfl)
    (case a__law_pick => first | k_is | kernel_rfl)
    (case l__law_pick => first | k_is | kernel_rfl)
    (case c__law_pick => first | k_is | kernel_rfl)
    (case k__law_pick => first | k_is | kernel_rfl)
    (case a__law_heard => first | k_is | kernel_rfl)
    (case l__law_heard => first | k_is | kernel_rfl)
    (case c__law_heard => first | k_is | kernel_rfl)
    (case k__law_heard => first | k_is | kernel_rfl)
    (case a__law_drawn => first | k_is | kernel_rfl)
    (case l__law_drawn => first | k_is | kernel_rfl)
    (case c__law_drawn => first | k_is | kernel_rfl)
    (case k__law_drawn => first | k_is | kernel_rfl)
    (case a__law_undo => first | k_is | kernel_rfl)
    (case l__law_undo => first | k_is | kernel_rfl)
    (case c__law_undo => first | k_is | kernel_rfl)
    (case k__law_undo => first | k_is | kernel_rfl)
    (case a__law_wrong => first | k_is | kernel_rfl)
    (case l__law_wrong => first | k_is | kernel_rfl)
    (case c__law_wrong => first | k_is | kernel_rfl)
    (case k__law_wrong => first | k_is | kernel_rfl)
    (case a__law_odd => first | k_is | kernel_rfl)
    (case l__law_odd => first | k_is | kernel_rfl)
    (case c__law_odd => first | k_is | kernel_rfl)
    (case k__law_odd => first | k_is | kernel_rfl)
    (case a__law_left => first | k_is | kernel_rfl)
    (case l__law_left => first | k_is | kernel_rfl)
    (case c__law_left => first | k_is | kernel_rfl)
    (case k__law_left => first | k_is | kernel_rfl)
    (case a__law_is => first | k_is | kernel_rfl)
    (case l__law_is => first | k_is | kernel_rfl)
    (case c__law_is => first | k_is | kernel_rfl)
    (case k__law_is => first | k_is | kernel_rfl)
    (case a__law_is_bad => first | k_is | kernel_rfl)
    (case l__law_is_bad => first | k_is | kernel_rfl)
    (case c__law_is_bad => first | k_is | kernel_rfl)
    (case k__law_is_bad => first | k_is | kernel_rfl)
    (case a__law_text_right => first | k_is | kernel_rfl)
    (case l__law_text_right => first | k_is | kernel_rfl)
    (case c__law_text_right => first | k_is | kernel_rfl)
    (case k__law_text_right => first | k_is | kernel_rfl)
    (case q__law_text_right => first | k_is | kernel_rfl)
    (case p__law_text_right => rfl)
    (case h__law_text_right => first | k_is | kernel_rfl)
    (case n__law_text_right => first | k_is | kernel_rfl)
    (case t__law_text_right => exact PySem.W.km_tabs_of Y _ (by k_mem))
    (case a__law_long_right => first | k_is | kernel_rfl)
    (case l__law_long_right => first | k_is | kernel_rfl)
    (case c__law_long_right => first | k_is | kernel_rfl)
    (case k__law_long_right => first | k_is | kernel_rfl)
    (case q__law_long_right => first | k_is | kernel_rfl)
    (case p__law_long_right => rfl)
    (case h__law_long_right => first | k_is | kernel_rfl)
    (case n__law_long_right => first | k_is | kernel_rfl)
    (case t__law_long_right => exact PySem.W.km_tabs_of Y _ (by k_mem))
    (case a_law => first | k_is | kernel_rfl)
    (case l_law => first | k_is | kernel_rfl)
    (case c_law => first | k_is | kernel_rfl)
    (case k_law => first | k_is | kernel_rfl)
    (case q_law => first | k_is | kernel_rfl)
    (case p_law => rfl)
    (case h_law => first | k_is | kernel_rfl)
    (case n_law => first | k_is | kernel_rfl)
    (case t_law => exact PySem.W.km_tabs_of Y _ (by k_mem))
    (case g_CM => first | k_is | kernel_rfl)
    (case x_CM => first | k_is | kernel_rfl)
    (case bm1_CM => decide +kernel)
    (case sa_CM => first | k_is | kernel_rfl)
    (case ex_CM => first | k_is | kernel_rfl)
    (case ty_CM => first | k_is | kernel_rfl)
    (case kC_CM => first | k_is | kernel_rfl)
    (case cs_CM => first | k_is | kernel_rfl)
    (case ow_CM => first | k_is | kernel_rfl)
    (case ga_CM => first | k_is | kernel_rfl)
    (case gt_CM => first | k_is | kernel_rfl)
    (case ca_CM => first | k_is | kernel_rfl)
    (case mr_CM => first | k_is | kernel_rfl)
    (case ii_CM => first | k_is | kernel_rfl)
    (case no_CM => first | k_is | kernel_rfl)
    (case xm_CM => first | k_is | kernel_rfl)
    (case ti_CM => first | k_is | kernel_rfl)
    (case ng_CM => first | k_is | kernel_rfl)
    (case g_C2 => first | k_is | kernel_rfl)
    (case x_C2 => first | k_is | kernel_rfl)
    (case bm1_C2 => decide +kernel)
    (case sa_C2 => first | k_is | kernel_rfl)
    (case ex_C2 => first | k_is | kernel_rfl)
    (case ty_C2 => first | k_is | kernel_rfl)
    (case kC_C2 => first | k_is | kernel_rfl)
    (case cs_C2 => first | k_is | kernel_rfl)
    (case ow_C2 => first | k_is | kernel_rfl)
    (case ga_C2 => first | k_is | kernel_rfl)
    (case gt_C2 => first | k_is | kernel_rfl)
    (case ca_C2 => first | k_is | kernel_rfl)
    (case mr_C2 => first | k_is | kernel_rfl)
    (case ii_C2 => first | k_is | kernel_rfl)
    (case no_C2 => first | k_is | kernel_rfl)
    (case xm_C2 => first | k_is | kernel_rfl)
    (case ti_C2 => first | k_is | kernel_rfl)
    (case w_pg => first | k_is | kernel_rfl)
    (case w_hd => first | k_is | kernel_rfl)
    (case w_po => first | k_is | kernel_rfl)
    (case w_sa => first | k_is | kernel_rfl)
    (case w_ca => first | k_is | kernel_rfl)
    (case w_mr => first | k_is | kernel_rfl)
    (case w_ns => first | k_is | kernel_rfl)
    (case w_na => first | k_is | kernel_rfl)
    (case w_mk => first | k_is | kernel_rfl)
    (case w_ii => first | k_is | kernel_rfl)
    (case w_if => first | k_is | kernel_rfl)
    (case w_kp => first | k_is | kernel_rfl)
    (case w_ob => first | k_is | kernel_rfl)
    (case w_lf => first | k_is | kernel_rfl)
    (case w_ln => first | k_is | kernel_rfl)
    (case w_tf => first | k_is | kernel_rfl)
    (case w_tn => first | k_is | kernel_rfl)
    (case w_sf => first | k_is | kernel_rfl)
    (case w_sn => first | k_is | kernel_rfl)
    (case w_r0 => first | k_is | kernel_rfl)
    (case w_ra => first | k_is | kernel_rfl)
    (case w_rb => first | k_is | kernel_rfl)
    (case w_r2 => first | k_is | kernel_rfl)
    (case w_r3 => first | k_is | kernel_rfl)
    (case l_TM => first | k_is | kernel_rfl)
    (case c_TM => first | k_is | kernel_rfl)
    (case k_TM => first | k_is | kernel_rfl)
    (case l_BW => first | k_is | kernel_rfl)
    (case c_BW => first | k_is | kernel_rfl)
    (case k_BW => first | k_is | kernel_rfl)
    (case l_WI => first | k_is | kernel_rfl)
    (case d_WI => first | k_is | kernel_rfl)
    (case c_WI => first | k_is | kernel_rfl)
    (case k_WI => first | k_is | kernel_rfl)
    (case l_WO => first | k_is | kernel_rfl)
    (case c_WO => first | k_is | kernel_rfl)
    (case k_WO => first | k_is | kernel_rfl)
    (case l_WS => first | k_is | kernel_rfl)
    (case c_WS => first | k_is | kernel_rfl)
    (case k_WS => first | k_is | kernel_rfl)
    (case l_WL => first | k_is | kernel_rfl)
    (case c_WL => first | k_is | kernel_rfl)
    (case k_WL => first | k_is | kernel_rfl)
    (case l_WT => first | k_is | kernel_rfl)
    (case c_WT => first | k_is | kernel_rfl)
    (case k_WT => first | k_is | kernel_rfl)
    (case ne1 => decide); (case ne2 => decide); (case ne3 => decide)
