import PyProof.Rows.All
import HandS.StrMore
import HandS.Wide
import PySem.Challenge.RW_sevenball_k04_roots_cores_powers
import HandS.ForMost
import HandS.Exc
import HandS.TryOnly
import HandS.ExcIs
import HandS.ExcField
import HandS.ExcInit
import HandS.IsInst
import HandS.Lambda
import HandS.EndTab
import KE.KExcIs
import KE.GoesMore
import HandS.Walk
import HandS.ClsMeth
import PyProof.InstNe
import KE.KCallOwn
import HandS.Style
import HandS.WordsExc
import HandS.Codes
import PyProof.StrBlock2
import HandS.Text
import HandS.IterNext
import KE.KOwnIter
import PyProof.SliceStr2
import KE.KOpsOwn
import HandS.Defaults
import HandS.TupLe
import KE.GoesNew
import KE.KTypeName
import PyProof.ListStr
import HandS.RaiseMore
import HandS.Replace
import PyProof.StrLawsIn
import HandS.Iter
set_option Elab.async false
set_option linter.all false
set_option maxRecDepth 100000
set_option maxHeartbeats 4000000
-- R1
namespace SB
open PySem PySem.Spec PyProof.Rows L2

/-! ### an error that was caught and is kept as a value -/
/-- at a: an error of the class at C; its own dict is at d -/
def ErrO (C d a : Addr) : HO := .ext fun h => ∃ (oe : Obj) (fv : Array Value),
  h.get? a = some oe ∧ oe.cls = .ref C ∧ oe.dict = some d ∧ oe.data = .fields fv
section
variable {X : Cx} {pins : List (Addr × Obj)} {σ : L2.St} {H : Hp} {s : Shared} {a C d : Addr} {oe : Obj} {fv : Array Value}
/-- what stands there untracked, made since the entry, is tracked from now on -/
theorem track_err (I : Inv X pins σ H s) (ha : s.heap.get? a = some oe) (hn : H a = none)
    (new : X.s_0.heap.get? a = none) (hc : oe.cls = .ref C) (hd : oe.dict = some d) (hf : oe.data = .fields fv)
    (nL : a ≠ X.env.locals) (np : ∀ p ∈ X.pn ++ pins, p.1 ≠ a) :
    Inv X pins σ (upd H a (ErrO C d a)) s := by
  have ne0 : ∀ b o, X.s_0.heap.get? b = some o → b ≠ a := fun b o e z => by
    rw [z, new] at e
    cases e
  have neH : ∀ b o, H b = some o → b ≠ a := fun b o e => ne_of_none e hn
  have neC : ∀ x c, X.env.cells.lookup x = some c → c ≠ a := fun x c e z => by
    obtain ⟨v, o, ho, hv⟩ := I.cell x c e
    rw [z, ha] at ho
    cases ho
    rw [hf] at hv
    cases hv
  have at_ : ∀ b, b ≠ a → upd H a (ErrO C d a) b = H b := fun b h => upd_ne h
  refine { ok := I.ok, os := I.os, bare := I.bare, base := ?_, loc := I.loc, cell := I.cell, free := ?_, freeC := ?_, pin := ?_, hok := ?_, len := I.len }
  · have u := I.base
    refine { keep := u.keep, slot := u.slot, free := ?_, there := u.there, tups := ?_, frzs := ?_, tbls := ?_ }
    · intro b o e n hx
      rw [at_ b (ne0 b o e)]
      exact u.free b o e n hx
    · intro b xs e
      have q := u.tups b xs e
      rw [at_ b (neH b _ q)]
      exact q
    · intro b o w e
      have q := u.frzs b o w e
      rw [at_ b (neH b _ q)]
      exact q
    · intro b ps e
      obtain ⟨m, q⟩ := u.tbls b ps e
      exact ⟨m, by rw [at_ b (neH b _ q)]; exact q⟩
  · rw [at_ _ (Ne.symm nL)]
    exact I.free
  · intro x c e
    rw [at_ c (neC x c e)]
    exact I.freeC x c e
  · intro p hp
    obtain ⟨e1, e2, e3⟩ := I.pin p hp
    exact ⟨e1, by rw [at_ _ (np p hp)]; exact e2, e3⟩
  · intro b u e
    by_cases hb : b = a
    · subst hb
      rw [upd_same] at e
      cases e
      exact ⟨⟨oe, fv, ha, hc, hd, hf⟩, ⟨oe, ha⟩, fun h1 h2 ⟨o, v, q1, q2⟩ k => ⟨o, v, k o q1, q2⟩⟩
    · rw [at_ b hb] at e
      exact (I.hok b u e).stay (fun c v _ q => q) (fun c q => by rw [at_ c (neH c _ q)]; exact q) fun c xs q => by rw [at_ c (neH c _ q)]; exact q
end

/-- what the clause «except x as n: y = n» wishes: slot i is n's, slot j is y's -/
def wKeep (K : PySem.W.Frag) (c : Value) (i j m : Nat) (D : Ends) : WX := fun cls d σ H =>
  ∃ b, PySem.W.exmOne K cls c = some b ∧ (b = false → False) ∧
    (b = true → ∃ C dd, cls = .ref C ∧ d = some dd ∧
      ∀ a, H a = none → σ.length = m → D.nx ((σ.set j (some (.ref a))).set i none) (upd H a (ErrO C dd a)))
end SB
-- R2
namespace SB
open PySem PySem.Spec PyProof.Rows L2
section
variable {X : Cx} {x n y : Str} {c : Value} {i j : Nat} {body : List Stmt} {np p1 p2 pos pos1 pos' : Pos} {tb : WX → TS}
/-- try: body / except x as n: y = n — the error is kept as a value -/
theorem ps_try_keep (hstk : X.stack = X.env :: X.outer) (hfrm : X.env.frame = some X.env.locals) (nd : X.N.Nodup)
    (hi : X.N[i]? = some n) (hj : X.N[j]? = some y) (hij : i ≠ j) (kn : X.env.kindOf n = some .local) (ky : X.env.kindOf y = some .local) (nm : Names X x c) (hex : X.ex = [])
    (hb : ∀ (W : WX) (pn : List (Addr × Obj)) (xe : Value → Shared → Prop), Takes (X.tr pn xe) W →
      PassesOwn (model X.prog X.w) X.A X.env xe → PSs (X.tr pn xe) body (tb W))
    (hns : (n == ("__debug__" : Str)) = false := by decide) (hnc : (n == ("__classdict__" : Str)) = false := by decide)
    (hsw : ∀ (a : Addr) (pn : List (Addr × Obj)), PG (X.suite a pn) (.Name y p1) (gName j)) :
    PS X (.Try body [.ExceptHandler (some (.Name x np)) (some n) [.Assign [.Name y p1] (.Name n p2) pos1] pos'] [] [] pos)
      (fun D σ H => tb (wKeep X.K c i j X.N.length D) D σ H) := by
  constructor
  intro pins s σ H D I h
  have ok := I.ok
  have frames : X.A.frames = some (X.env :: X.outer) := by
    rw [ok.frames, hstk]
  have locN : Loc X.env.scope n := .inl kn
  apply wpAny_Try_except
  let hand : List ExceptHandler := [.ExceptHandler (some (.Name x np)) (some n) [.Assign [.Name y p1] (.Name n p2) pos1] pos']
  let away : Value → Shared → Prop := fun e t1 => wpAny (model X.prog X.w) X.A (noteFrame e X.env)
    (fun _ t2 => wpAny (model X.prog X.w) X.A (setFlight e none)
      (fun _ t3 => wpAny (model X.prog X.w) X.A (handleBy e X.env hand) (SP X pins D) X.xe t3) X.xe t2) X.xe t1
  have taken : Takes (X.tr (X.pn ++ pins) away) (wKeep X.K c i j X.N.length D) := by
    rintro u s' ⟨a, B, sI, pins', σ', H', cls, d, rfl, J', nb, up, sky, na, os, ag, b, hb1, hno, hyes⟩
    have J : Inv X pins σ' H' sI := J'.ofTry ok
    rw [show (X.tr (X.pn ++ pins) away).stack = X.env :: X.outer from hstk] at sky
    show wpAny (model X.prog X.w) X.A (noteFrame (.ref a) X.env) _ X.xe s'
    refine Sky.land Zc.steady frames hfrm sky fun g3 fly3 up3 => ?_
    have J3 : Inv X pins σ' H' { s' with heap := g3 } := J.landed nb fly3.1 (up.trans up3) os ag
    obtain ⟨o3, v3, at3, z3, dat3⟩ := fly3.there
    have notF : a ∉ frs (X.env :: X.outer) := fun hm => by
      obtain ⟨_, o', e', hnf⟩ := fly3.2.2.1.mem hm
      have at3' : g3.get? a = some o3 := at3
      rw [at3'] at e'
      cases e'
      exact hnf _ dat3
    have nL : a ≠ X.env.locals := fun z => notF (List.mem_filterMap.mpr ⟨X.env, List.mem_cons_self, by rw [hfrm, z]⟩)
    have nF : a ∉ X.fs := fun hm => by
      obtain ⟨e, he, q⟩ := List.mem_filterMap.mp hm
      exact notF (List.mem_filterMap.mpr ⟨e, List.mem_cons_of_mem _ he, q⟩)
    have gone : B.get? a = none := fly3.2.1
    have newI : sI.heap.get? a = none := by
      cases q : sI.heap.get? a with
      | none => rfl
      | some o =>
        have z := nb a o q (by rw [show (X.tr (X.pn ++ pins) away).stack = X.env :: X.outer from hstk]; exact notF)
        rw [gone] at z
        cases z
    have new0 : X.s_0.heap.get? a = none := by
      cases q : X.s_0.heap.get? a with
      | none => rfl
      | some o =>
        obtain ⟨o', z⟩ := J.base.there a o q (by rw [hex]; exact fun z => nomatch z)
        rw [newI] at z
        cases z
    have pinsNe : ∀ p ∈ X.pn ++ pins, p.1 ≠ a := fun p hp z => by
      have q := (J.pin p hp).1
      rw [z, newI] at q
      cases q
    have S3 := J3.suite at3 dat3 na nL nF
    refine wpAny_handleBy_cons (codeAny_handlers_test ?_) (by intro q; cases q)
    have ty : PySem.W.Looks (model X.prog X.w) g3 (typeOf (.ref a)) cls := fun A Q E s k q =>
      wpAny_typeOf_ref (k _ _ at3) (by rw [z3.1]; exact q)
    have mt := PySem.W.exm_one (M := model X.prog X.w) J3.kIn ty hb1
    have asked : ∀ {Q : Value → Shared → Prop} {E : Value → Shared → Prop}, Q c { s' with heap := g3 } →
        wpAny (model X.prog X.w) (X.A.mark (some (.ref a))) (eval (.Name x np) X.env) Q E { s' with heap := g3 } := by
      intro Q E q
      obtain ⟨hg, hdbg, hm⟩ := nm
      rcases hm with hm | ⟨hm, hv, hnn⟩
      · exact ld_glob (X := X.suite a ((a, o3) :: (X.pn ++ pins))) S3 hg hm q hdbg
      · exact ld_blt (X := X.suite a ((a, o3) :: (X.pn ++ pins))) S3 hg hm hv q hnn hdbg
    refine asked (mt.here ?_)
    cases b with
    | false => exact (hno rfl).elim
    | true =>
      obtain ⟨C, dd, rfl, rfl, kept⟩ := hyes rfl
      refine codeAny_handlers_suite_as ?_
      refine HandSPX.lands_againZ fly3 fun g4 fly4 up4 => ?_
      have J4 : Inv X pins σ' H' { s' with heap := g4 } := J.landed nb fly4.1 ((up.trans up3).trans up4) os ag
      obtain ⟨o4, v4, at4, z4, dat4⟩ := fly4.there
      have S4 := J4.suite at4 dat4 na nL nF
      refine store_ok (X := X.suite a ((a, o4) :: (X.pn ++ pins))) (v := .ref a) S4 nd hi locN rfl (fun s5 S5 => ?_) (.inr kn)
      have len : σ'.length = X.N.length := J.len
      have hin : i < σ'.length := by
        rw [len]
        exact (List.getElem?_eq_some_iff.mp hi).1
      have suite : PSs (X.suite a ((a, o4) :: (X.pn ++ pins))) [.Assign [.Name y p1] (.Name n p2) pos1] (tAsg (tVar i) (gName j)) :=
        pss_one (ps_asg (pe_var hi (.inl kn) hns hnc) (hsw a _))
      let D5 : Ends := { nx := fun σ6 H6 => σ6 = (σ'.set i (some (.ref a))).set j (some (.ref a)) ∧ H6 = H', rt := fun _ _ => False, bk := fun _ _ => False, ct := fun _ _ => False }
      have start : tAsg (tVar i) (gName j) D5 (σ'.set i (some (.ref a))) H' := by
        refine ⟨.ref a, ?_, rfl, rfl⟩
        rw [List.getElem?_set_self hin]
      refine wpAny_mono (suite.run [] s5 _ H' D5 S5 start) (fun f s6 hsp => ?_) (fun _ _ z => False.elim z)
      cases f with
      | next =>
        obtain ⟨σ6, H6, S6, e1, e2⟩ := hsp
        subst e1 e2
        have at6 : s6.heap.get? a = some o4 := (S6.pin (a, o4) (List.mem_append_left _ List.mem_cons_self)).1
        have J6 := S6.unsuite ok
        have free6 : H6 a = none := na
        have held : Inv X ((a, o4) :: pins) ((σ'.set i (some (.ref a))).set j (some (.ref a))) H6 s6 := J6.pins_of fun p hp => by
          rcases List.mem_cons.mp hp with e | e
          · rw [e]
            exact ⟨at6, free6, nL, nF, fun v z => by rw [dat4] at z; cases z⟩
          · exact J6.pin p (List.mem_append_right _ e)
        refine gone_ok held nd hi kn fun s7 J7 => ?_
        have at7 : s7.heap.get? a = some o4 := (J7.pin (a, o4) (List.mem_append_right _ List.mem_cons_self)).1
        have J8 : Inv X pins ((((σ'.set i (some (.ref a))).set j (some (.ref a)))).set i none) H6 s7 :=
          J7.pins_of fun p hp => J7.pin p (List.mem_append_right _ (List.mem_cons_of_mem _ hp))
        have J9 := track_err J8 at7 free6 new0 z4.1 z4.2 dat4 nL pinsNe
        have es : (((σ'.set i (some (.ref a))).set j (some (.ref a)))).set i none = (σ'.set j (some (.ref a))).set i none := by
          rw [List.set_comm _ _ (Ne.symm hij), List.set_set, List.set_comm _ _ hij]
        rw [es] at J9
        exact ⟨_, _, J9, kept a na len⟩
      | brk =>
        obtain ⟨_, _, _, z⟩ := hsp
        exact z.elim
      | cont =>
        obtain ⟨_, _, _, z⟩ := hsp
        exact z.elim
      | ret u =>
        obtain ⟨_, _, _, _, _, z⟩ := hsp
        exact z.elim
  refine wpAny_mono ((hb (wKeep X.K c i j X.N.length D) (X.pn ++ pins) away taken PassesOwn.looking).run [] s σ H D (I.toTry _) h) (fun f s1 hsp => ?_) (fun e s1 he => he)
  cases f with
  | next =>
    obtain ⟨σ', H', J', q⟩ := hsp
    exact wpAny_execs_nil ⟨σ', H', J'.ofTry ok, q⟩
  | brk =>
    obtain ⟨σ', H', J', q⟩ := hsp
    exact ⟨σ', H', J'.ofTry ok, q⟩
  | cont =>
    obtain ⟨σ', H', J', q⟩ := hsp
    exact ⟨σ', H', J'.ofTry ok, q⟩
  | ret u =>
    obtain ⟨v, σ', H', J', r, q⟩ := hsp
    exact ⟨v, σ', H', J'.ofTry ok, r, q⟩
end
end SB
-- R3
namespace SB
open PySem PySem.Spec PyProof.Rows L2
/-- heard: what comes of a() is dropped; an own error that it raises is handed back as a value -/
def THeard (K : PySem.W.Frag) (CB : Addr) : (XK → Hp → VK → Prop) → Hp → VK → Prop := fun tl H Q =>
  tl (fun cls d H' => ∃ b, PySem.W.exmOne K cls (.ref CB) = some b ∧ (b = false → False) ∧
    (b = true → ∃ C dd, cls = .ref C ∧ d = some dd ∧ ∀ a, H' a = none → Q (.ref a) (upd H' a (ErrO C dd a)))) H (fun _ H' => Q .non H')
def hearScope : Scope := { kind := .function, names := [("ask", .local), ("caught", .local), ("error", .local), ("BallError", .globalImplicit)], isGenerator := false, isCoroutine := false, more := [] }
def hearBody (c1 c2 c3 c4 c5 c6 c7 c8 c9 c10 c11 c12 c13 c14 : Pos) : List Stmt :=
  [.Assign [.Name "caught" c1] (.Constant .none 0 c2) c3,
   .Try [.Expr (.Call (.Name "ask" c4) [] [] c5) c6] [.ExceptHandler (some (.Name "BallError" c7)) (some "error") [.Assign [.Name "caught" c8] (.Name "error" c9) c10] c11] [] [] c12,
   .Return (some (.Name "caught" c13)) c14]
section
variable {X : Cx}
theorem heard_gives {x q : Str} {g CB : Addr} {cdg : Value} {c1 c2 c3 c4 c5 c6 c7 c8 c9 c10 c11 c12 c13 c14 : Pos} (hmb : X.mg "BallError" = some (.ref CB)) :
    LamX.GivesTo X ["ask", "caught", "error"] x hearScope g cdg (hearBody c1 c2 c3 c4 c5 c6 c7 c8 c9 c10 c11 c12 c13 c14) "ask" q (THeard X.K CB) := by
  intro f c' s H Q tl act hc h
  have nd : (["ask", "caught", "error"] : List Str).Nodup := by decide +kernel
  refine ⟨_, pss_cons (ps_set (i := 1) nd rfl (.inl rfl) pe_non)
    (pss_cons (ps_try_keep (c := .ref CB) (i := 2) (j := 1) (tb := fun W D σ H => ∃ Ech : XK, (∀ cls d σ' H', Ech cls d H' → W cls d σ' H') ∧ σ[0]? = some (some (.ref f)) ∧ H c' = some (LamX.CodeO c' q) ∧ tl Ech H (fun _ H1 => D.nx σ H1))
      rfl rfl nd rfl rfl (by decide) rfl rfl ⟨rfl, by decide, .inl hmb⟩ rfl (fun W pn xe tk _ => ?_) (by decide) (by decide) (fun a pn => pg_name nd rfl (.inl rfl)))
    (pss_one (ps_ret (pv 1)))), ?_⟩
  · refine ⟨fun pins s' σ H' D I h' => ?_⟩
    obtain ⟨Ech, hW, h1, h2, h3⟩ := h'
    have hp := act W pn xe Ech c4 c5 tk hW
    have hq := pss_one (ps_expr (pos := c6) hp)
    exact hq.run pins s' σ H' D I ⟨h1, h2, h3⟩
  · show tAsg _ _ _ _ _
    refine ⟨fun cls d H' => ∃ b, PySem.W.exmOne X.K cls (.ref CB) = some b ∧ (b = false → False) ∧
      (b = true → ∃ C dd, cls = .ref C ∧ d = some dd ∧ ∀ a, H' a = none → Q (.ref a) (upd H' a (ErrO C dd a))), ?_, rfl, hc, ?_⟩
    · rintro cls d σ' H' ⟨b, e1, e2, e3⟩
      refine ⟨b, e1, e2, fun hb => ?_⟩
      obtain ⟨C, dd, k1, k2, k3⟩ := e3 hb
      refine ⟨C, dd, k1, k2, fun a ha hl => ?_⟩
      have hl' : σ'.length = 3 := hl
      match σ', hl' with
      | [u0, u1, u2], _ => exact ⟨.ref a, rfl, k3 a ha⟩
    · have same : (fun (_ : V) (H1 : Hp) => Q .non H1) = fun (_ : V) (H1 : Hp) => tRet (tVar 1) { nx := fun _ H' => Q .non H', rt := Q } (List.set (L2.start ["ask", "caught", "error"] [V.ref f]) 1 (some V.non)) H1 := by
        funext u H1
        refine propext ⟨fun z => ⟨.non, rfl, z⟩, ?_⟩
        rintro ⟨v, e, z⟩
        have e' : (some (some V.non) : Option (Option V)) = some (some v) := e
        cases e'
        exact z
      unfold THeard at h
      rw [same] at h
      exact h
end
end SB
-- R4
namespace SB
open PySem PySem.Spec PyProof.Rows L2
/-- what the class of a kept error must say -/
structure ErrC (K : PySem.W.Frag) (C : Addr) : Prop where
  cls : (PySem.W.clsIn K C).isSome = true
  own : PySem.W.hasDictIn K C = true
  ga : PySem.W.findIn K (.ref C) "__getattribute__" = some (some (.builtin "BaseException.__getattribute__"))
  gt : PySem.W.findIn K (.ref C) "__getattr__" = some none
  sub : PySem.W.subIn K (.ref C) (.type "BaseException") = some true
  ca : PySem.W.findIn K (.ref C) "__class__" = some (some (.builtin "object.__class__"))
  cg : PySem.W.specialIn K (.builtin "object.__class__") "__get__" = some (some (.builtin "getset_descriptor.__get__"))
  ct : PySem.W.takesIn K (.builtin "object.__class__") = some true
  mr : PySem.W.mroIn K C (.type "object") = some true
section
variable {X : Cx} {pins : List (Addr × Obj)} {σ : L2.St} {H : Hp} {s : Shared} {a C d : Addr} {fs : List (Str × V)}
theorem err_at (I : Inv X pins σ H s) (h : H a = some (ErrO C d a)) (hd : H d = some (.xd fs)) :
    ∃ oe od, PySem.W.InstAt s.heap a oe C (some od) ∧ ∃ mA : Str → Option Value, (∀ f : Str, RelO (fs.lookup f) (mA f)) ∧ ∀ f : Str, PySem.W.lookIn f od = some (mA f) := by
  obtain ⟨⟨oe, fv, e1, e2, e3, e4⟩, _⟩ := I.hok a _ h
  have hx : ObjOk X.prog X.w H s.heap d (.xd fs) := I.hok d _ hd
  obtain ⟨mA, hns, hr⟩ := hx
  obtain ⟨od, ho, hl⟩ := lookIn_ns hns
  refine ⟨oe, od, ⟨e1, e2, ?_, ?_⟩, mA, hr, hl⟩
  · unfold PySem.W.notCls
    rw [e4] <;> trivial
  · rw [e3]
    exact ho
/-- isinstance(e, D), e a kept error -/
def rIsErr (K : PySem.W.Frag) : List V → Hp → VK → Prop := fun xs H Q => ∃ (a C d D : Addr) (fs : List (Str × V)) (b : Bool),
  xs = [.ref a, .ref D] ∧ H a = some (ErrO C d a) ∧ H d = some (.xd fs) ∧ ErrC K C ∧ PySem.W.kitOne K (.ref C) (.ref D) = some b ∧ Q (.bl b) H
theorem call_isErr : CallR X (.builtin "isinstance") (rIsErr X.K) := by
  intro pins s σ H xs us Q I r h
  obtain ⟨a, C, d, D, fs, b, rfl, ea, ed, T, e, q⟩ := h
  obtain ⟨u1, u2, rfl, r1, r2⟩ := vals2 r
  cases (show u1 = Value.ref a from r1)
  cases (show u2 = Value.ref D from r2)
  obtain ⟨oe, od, J, _⟩ := err_at I ea ed
  exact PySem.W.kia_one (PySem.W.kitx_exc T.cls T.ga T.gt T.sub T.ca T.cg T.ct T.mr) I.kIn J e (fun z => nomatch z) fun tk => ⟨.bl b, H, I.tok tk, rfl, q⟩
/-- e.f, e a kept error -/
def tErrF (K : PySem.W.Frag) (te : TE) (f : Str) : TE := fun σ H Q => te σ H fun x H1 => ∃ (a C d : Addr) (fs : List (Str × V)) (v : V),
  x = .ref a ∧ H1 a = some (ErrO C d a) ∧ H1 d = some (.xd fs) ∧ ErrC K C ∧ PySem.W.findIn K (.ref C) f = some none ∧ fs.lookup f = some v ∧ Q v H1
theorem pe_errF {e : Expr} {te : TE} {pos : Pos} {f : Str} (he : PE X e te) (hb : attributeBase e f X.env (eval e X.env) = eval e X.env := by rfl) :
    PE X (.Attribute e f pos) (tErrF X.K te f) := by
  constructor
  intro pins s σ H Q I h
  refine attr_of hb (thn (he.run pins s σ H _ I h) fun u s1 hh => ?_)
  obtain ⟨x, H1, I1, rx, a, C, d, fs, v, rfl, ea, ed, T, hn, hl, q⟩ := hh
  obtain rfl : u = Value.ref a := rx
  obtain ⟨oe, od, J, mA, hr, look⟩ := err_at I1 ea ed
  obtain ⟨w, hw, rw_⟩ := RelO.some_of (v := v) (o := mA f) (by rw [← hl]; exact hr f)
  exact HandSPX.exc_get I1.kIn J T.ga T.gt T.sub (PySem.W.findObj_own T.own hn rfl (by rw [look, hw])) (handed_of rw_) ⟨v, H1, I1.tok _, rw_, q⟩
end
end SB
-- R5
namespace SB
open PySem PySem.Spec PyProof.Rows L2
/-! ### enumerate of a text -/
/-- the signs of x, each in a new pair with its place -/
def Ies (x : Str) : It :=
  ⟨fun i _ => i < x.cps.size, fun i H v H' => ∃ (T : Addr) (c : Nat), v = .ref T ∧ H T = none ∧ x.cps[i]? = some c ∧ H' = upd H T (.tup [.int (i : Nat), .str ⟨#[c]⟩]), fun i _ => i = x.cps.size⟩
theorem turn_enumS {P : Program} {w : World} {K : PySem.W.Frag} {elts : List Expr} {kk : Nat} {tpos : Pos} (x : Str) (t : Tok) (e it : Addr) (hne : e ≠ it) :
    Turn P w K (.Tuple elts kk tpos) (Ies x) [e, it] e (fun i h => (∃ old, IsEnum h e it ((i : Nat) : Int) old) ∧ h.IsStrIter it (strIterType x) x t i) where
  mem := by simp
  obj := fun i h st b hb => by
    obtain ⟨⟨old, he⟩, ⟨o, ho, hc, hd⟩⟩ := st
    have which : b = e ∨ b = it := by simpa using hb
    rcases which with z | z
    · subst z
      exact ⟨_, he, fun v q => nomatch q⟩
    · subst z
      exact ⟨o, ho, fun v q => by rw [hd] at q; cases q⟩
  keep := fun i h h' st k => by
    obtain ⟨⟨old, he⟩, o, ho, r⟩ := st
    exact ⟨⟨old, k e (by simp) _ he⟩, o, k it (by simp) o ho, r⟩
  item := by
    intro X hP hw hK hc i pins s σ H E I hf st hg
    subst hP hw hK
    obtain ⟨⟨old, he⟩, hit⟩ := st
    have hel : e < s.heap.objs.size := Heap.lt_size he
    have hil : it < s.heap.objs.size := by
      obtain ⟨o, q, _⟩ := hit
      exact Heap.lt_size q
    have D := Draws.text (prog := X.prog) (w := X.w) (A := X.A.in1) (I.ok.hd hc) it x t
    refine wpAny_pyNext_enum_itemD D he hit hg hne (by simpa using hne) fun v h' tk hv ho hit' hT hsz hk => ?_
    obtain ⟨c, u, hcx, rfl⟩ := hv
    refine ⟨_, rfl, wpAny_letOwnedTupleGo_enum (s := { s with heap := h', toks := tk + 1 }) ho fun h2 he2 sb => ?_⟩
    have hT2 : h2.get? s.heap.objs.size = some { cls := .type "tuple", data := .seq #[.int i tk, .str ⟨#[c]⟩ u] } := (sb.2 _ (Nat.ne_of_gt hel)).trans hT
    have new : ObjOk X.prog X.w (upd H s.heap.objs.size (.tup [.int (i : Nat), .str ⟨#[c]⟩])) h2 s.heap.objs.size (.tup [.int (i : Nat), .str ⟨#[c]⟩]) :=
      ⟨by show 2 ≤ sizeLine; decide, [.int i tk, .str ⟨#[c]⟩ u], .cons ⟨_, rfl⟩ (.cons ⟨_, rfl⟩ .nil), ⟨_, hT2, rfl, _, rfl⟩⟩
    have I1 : Inv X pins σ (upd H s.heap.objs.size (.tup [.int (i : Nat), .str ⟨#[c]⟩])) { s with heap := h2, toks := tk + 1 } := by
      refine I.turnedNew (ch := [e, it]) (fun b ob hb q => ?_) hf (Nat.le_refl _) new
      have n1 : b ≠ e := fun z => hb (by simp [z])
      have n2 : b ≠ it := fun z => hb (by simp [z])
      exact (sb.2 b n1).trans (hk b ob n1 n2 q)
    refine ⟨.ref s.heap.objs.size, _, I1, rfl, ⟨_, c, rfl, I.hok.fresh (Nat.le_refl _), hcx, rfl⟩, ⟨⟨.str ⟨#[c]⟩ u, ?_⟩, ?_⟩, fun b hb => ?_⟩
    · have e1 : ((i + 1 : Nat) : Int) = (i : Int) + 1 := by omega
      rw [e1]
      exact he2
    · obtain ⟨o, q, r⟩ := hit'
      exact ⟨o, (sb.2 it (Ne.symm hne)).trans q, r⟩
    · have which : b = e ∨ b = it := by simpa using hb
      have lt : b < s.heap.objs.size := by
        rcases which with z | z
        · rw [z]
          exact hel
        · rw [z]
          exact hil
      rw [upd_ne (Nat.ne_of_lt lt)]
      exact (hf b hb).1
  done := by
    intro X hP hw hK hc i pins s σ H E I hf st hg
    subst hP hw hK
    obtain ⟨⟨old, he⟩, hit⟩ := st
    obtain ⟨f0, f1, f2, f3, f4, f5⟩ := hf it (by simp)
    have D := Draws.text (prog := X.prog) (w := X.w) (A := X.A.in1) (I.ok.hd hc) it x t
    have hg' : i = x.cps.size := hg
    rw [hg'] at hit
    refine wpAny_pyNext_enum_endD D he hit fun h' eb => ⟨rfl, I.turned (t' := s.toks) (fun b o hb q => eb b o hb q) f0 f1 f3 f4 f5⟩
  self := fun A i s Q E st h => by
    obtain ⟨⟨_, he⟩, _⟩ := st
    exact wpAny_pyIter_enum he h
def iEnumS (ta : TA) : TI := fun σ H R => ta σ H fun vs H1 => ∃ x, vs = [.str x] ∧ R (Ies x) H1
theorem pi_enumS {X : Cx} {e : Expr} {ta : TA} {p pos tpos : Pos} {elts : List Expr} {kk : Nat} (hg : Gl X "enumerate") (hm : X.mg "enumerate" = none) (ha : PA X [e] ta)
    (hs : starEach [e] X.env = [(false, eval e X.env)] := by rfl) : PI X (.Tuple elts kk tpos) (.Call (.Name "enumerate" p) [e] [] pos) (iEnumS ta) := by
  constructor
  intro pins s σ H R I h
  refine Call_ (ld_blt I hg hm boot_enumerate (PyProof.Rows.callWith_type1 (thn (ha.run pos pins s σ H _ I h) fun us s1 hh => ?_) hs rfl))
  obtain ⟨vs, H1, I1, r1, x, ex, q⟩ := hh
  subst ex
  obtain ⟨u, rfl, r⟩ := vals1 r1
  obtain ⟨t, rfl⟩ := r
  refine call_enumerate_str fun h' he hit hsz hk => wpAny_pyIter_enum he ?_
  have I2 : Inv X pins σ H1 { s1 with heap := h' } := I1.kept (t' := s1.toks) hk
  refine ⟨s1.heap.objs.size + 1, [s1.heap.objs.size + 1, s1.heap.objs.size], _, _, H1, rfl, I2, turn_enumS x t _ _ (Nat.succ_ne_self _), ⟨⟨.none, he⟩, hit⟩, fun b hb => ?_, q⟩
  have which : b = s1.heap.objs.size + 1 ∨ b = s1.heap.objs.size := by simpa using hb
  have le : s1.heap.objs.size ≤ b := by
    rcases which with z | z
    · rw [z]
      exact Nat.le_succ _
    · rw [z]
      exact Nat.le_refl _
  exact I1.fpOk le (I1.hok.fresh le)
end SB
-- R6
namespace SB
open PySem PySem.Spec PyProof.Rows L2
section
variable {X : Cx}
/-- x.swapcase() -/
theorem mt_swapcase : MtR X "str.swapcase" (fun x xs H Q => ∃ a, x = .str a ∧ xs = [] ∧ a.length ≤ 5592405 ∧ Q (.str (Txt.swapcase a)) H) :=
  mt0 (C := fun a => a.length ≤ 5592405) (g := fun a => .str (Txt.swapcase a)) fun a t s Q hc h =>
    PyProof.Rows.SCL.swapcase hc fun _ => h _ (s.toks + 1) ⟨_, rfl⟩
theorem pe_swap {o : Expr} {ot : TE} {apos pos : Pos} (ho : PE X o ot) (hbase : attributeBase o "swapcase" X.env (eval o X.env) = eval o X.env := by rfl) (hline : (apos.endLine == pos.line) = true := by rfl) : True := trivial
end
/-- C.m is a staticmethod: its record at p, its def at g -/
structure Stat (K : PySem.W.Frag) (C : Addr) (m : Str) (p g : Addr) : Prop where
  rd : ∃ mc, PySem.W.readsIn K C mc = true ∧ PySem.W.findCls K (.ref C) mc m = some (.get (.builtin "staticmethod.__get__") (.ref p) .none (.ref C))
  ga : PySem.W.specialIn K (.ref C) "__getattribute__" = some (some (.builtin "type.__getattribute__"))
  rc : ∃ rest, PySem.W.recIn K p "staticmethod" = some (.ref g :: rest)
  kp : PySem.W.keepIn K (.ref g) = true
section
variable {X : Cx} {CX : CXT} {k : Nat} {C p g : Addr} {fd : FuncData} {ps : List Str} {sp : Sp} {dvs : List V} {ds : List Value} {E : XK} {o e : Expr} {es : List Expr} {m : Str} {pos apos : Pos} {ta : TE} {t : TA} {pl : Sem Bool}
theorem stat_ok {A : Around} {E : Value → Shared → Prop} {pins : List (Addr × Obj)} {σ : L2.St} {H : Hp} {s : Shared} {pl : Sem Bool} {Q : Value × List Value → Shared → Prop} (I : Inv X pins σ H s) (c : Stat X.K C m p g)
    (h : ∀ s', Inv X pins σ H s' → Q (.ref g, []) s') : wpAny (model X.prog X.w) A (getMethod (.ref C) m pl) Q E s := by
  obtain ⟨mc, hrd, hat⟩ := c.rd
  obtain ⟨rest, hp⟩ := c.rc
  refine PySem.W.method_cls I.kIn c.ga (PySem.W.cls_bind I.kIn hrd hat ?_)
  refine wpAny_call (PySem.W.sm_get (s := { s with toks := s.toks + 1 }) I.kIn hp (PySem.W.handed_on rfl ?_))
  exact h _ (I.tok _)
def tStat (C : Addr) (sp : Sp) (dvs : List V) (E : XK) (ta : TE) (t : TA) : TE := fun σ H Q => ta σ H fun x H1 => x = .ref C ∧ t σ H1 fun vs H2 => sp (vs ++ dvs) H2 Q E
/-- C.m(e, ..), m a staticmethod -/
theorem pe_stat (he : PE X o ta) (c : Stat X.K C m p g) (F : FnOk X.prog X.w X.K X.mg X.base CX k g fd ps sp) (hr : Room k X.A) (hb : Binds X.K fd ps ds) (hd : Vals dvs ds) (hx : Passes CX X E) (ha : PA X (e :: es) t)
    (hst : starEach (e :: es) X.env = (false, eval e X.env) :: starEach es X.env := by rfl) (hpl : (backTo pos (starEach es X.env)).any (·.1) = false := by rfl)
    (ht : eval (.Call (.Attribute o m apos) (e :: es) [] pos) X.env = (do
      let ov ← eval o X.env
      standAt apos.atName
      let (f, first) ← holding [ov] (getMethod ov m pl)
      callWith pos f first (backTo pos (starEach (e :: es) X.env)) (backToKw pos (keywordEach [] X.env))) := by rfl) :
    PE X (.Call (.Attribute o m apos) (e :: es) [] pos) (tStat C sp dvs E ta t) := by
  constructor
  intro pins s σ H Q I h
  refine PySem.W.methodCall_KW (pl := pl) (thn (he.run pins s σ H _ I h) fun u s1 hh => ?_) ht
  obtain ⟨x, H1, I1, rx, rfl, q⟩ := hh
  obtain rfl : u = Value.ref C := rx
  refine stat_ok I1 c fun s2 I2 => ?_
  refine PySem.W.callWith_K (first := []) (h₀ := X.base) I.ok.mod.kin c.kp (thn (ha.run pos pins s2 σ H1 _ I2 q) fun us s3 h3 => ?_) hst hpl
  obtain ⟨vs, H2, I3, r, q2⟩ := h3
  exact ⟨I3.kIn, run_fn F hr hb hd hx I3 r q2⟩
end
end SB
-- R7
namespace SB
open PySem PySem.Spec PyProof.Rows L2
section
variable {X : Cx} {CX : CXT} {k : Nat} {C p g : Addr} {fd : FuncData} {ps ks : List Str} {sp : Sp} {E : XK} {o e : Expr} {kws : List Keyword} {m : Str} {pos apos : Pos} {ta : TE} {t tk : TA} {pl : Sem Bool}
variable {gg : List Value → List Value → List Value} {gV : List V → List V → List V}
def tStatK (C : Addr) (sp : Sp) (gV : List V → List V → List V) (E : XK) (ta : TE) (tk : TA) : TE := fun σ H Q => ta σ H fun x H1 => x = .ref C ∧ tk σ H1 fun zs H2 => sp (gV [] zs) H2 Q E
/-- C.m(k = e, ..), m a staticmethod -/
theorem pe_statK (he : PE X o ta) (c : Stat X.K C m p g) (F : FnOk X.prog X.w X.K X.mg X.base CX k g fd ps sp) (hr : Room k X.A) (hb : KBinds X.K fd ps ks gg gV) (hx : Passes CX X E) (hkw : PK X kws tk)
    (hall : (backToKw pos (keywordEach kws X.env)).all (·.1.isSome) = true := by rfl) (hks : (backToKw pos (keywordEach kws X.env)).filterMap (·.1) = ks := by rfl)
    (hpl : ((backTo pos (starEach [] X.env)).any (·.1) || (backToKw pos (keywordEach kws X.env)).any (·.1.isNone)) = false := by rfl)
    (ht : eval (.Call (.Attribute o m apos) [] kws pos) X.env = (do
      let ov ← eval o X.env
      standAt apos.atName
      let (f, first) ← holding [ov] (getMethod ov m pl)
      callWith pos f first (backTo pos (starEach [] X.env)) (backToKw pos (keywordEach kws X.env))) := by rfl) :
    PE X (.Call (.Attribute o m apos) [] kws pos) (tStatK C sp gV E ta tk) := by
  constructor
  intro pins s σ H Q I h
  refine PySem.W.methodCall_KW (pl := pl) (thn (he.run pins s σ H _ I h) fun u s1 hh => ?_) ht
  obtain ⟨x, H1, I1, rx, rfl, q⟩ := hh
  obtain rfl : u = Value.ref C := rx
  refine stat_ok I1 c fun s2 I2 => ?_
  refine PySem.W.callWith_KW0 (first := []) (h₀ := X.base) I.ok.mod.kin c.kp hall ?_ hpl
  refine thn (hkw.run pos pins s2 σ H1 _ I2 q) fun ws s3 h3 => ?_
  obtain ⟨zs, H2, I3, rz, q2⟩ := h3
  refine ⟨I3.kIn, ?_⟩
  rw [hks]
  exact run_fnk (us := []) (vs := []) F hr hb hx I3 .nil rz q2
end
end SB
-- R8
namespace SB
open PySem PySem.Spec PyProof.Rows L2
/-- a class over object alone that tells __eq__ and no __ne__ -/
structure EqC (K : PySem.W.Frag) (C f : Addr) : Prop where
  obj : ∃ (nm q : Str) (N : Addr) (bs : List Value) (hdct : Bool) (sn : List Str) (sub : List Value) (ab : Bool) (col : Option Bool) (dd : Option Addr) (k0 k1 k2 k3 k5 : Option Value) (newId : String),
    K.lookup C = some (excClassObj nm q C N bs [.type "object"] hdct sn sub ab col dd k0 k1 k2 k3 k5 newId) ∧ PySem.W.nsOkIn K N = true ∧
    PySem.W.nsIn K N "__eq__" = some (some (.ref f)) ∧ PySem.W.nsIn K N "__ne__" = some none
  find : PySem.W.findIn K (.ref C) "__eq__" = some (some (.ref f))
  fn : PySem.W.isFn K (.ref f) = true
theorem ns_has {K : PySem.W.Frag} {h : Heap} {N : Addr} {mm : Str → Option Value} {x : Str} {v : Value} (KX : K.In h) (G : h.Ns N mm) (e : PySem.W.nsIn K N x = some (some v)) : mm x = some v := by
  obtain ⟨ob, es, ep, at_, dat, _, look⟩ := G
  unfold PySem.W.nsIn at e
  split at e
  · rename_i lk
    have same := KX _ _ lk
    rw [at_] at same
    cases same
    cases dat
    split at e
    · rename_i en he
      cases e
      rw [← look]
      unfold nsFind findBy
      rw [← Array.find?_toList, he]
      rfl
    · split at e <;> cases e
  · cases e
section
variable {X : Cx} {CX : CXT} {k : Nat} {C f : Addr} {fd : FuncData} {ps : List Str} {sp : Sp} {E : XK}
/-- a def called from somewhere within a builtin, around A -/
theorem run_at {A : Around} {pins : List (Addr × Obj)} {σ : L2.St} {H : Hp} {s : Shared} {Q : VK} {us : List Value} {vs : List V} (F : FnOk X.prog X.w X.K X.mg X.base CX k f fd ps sp) (hr : Room k A) (e0 : Env0 X.prog X.w X.K X.mg X.base A X.stack s H) (hb : Binds X.K fd ps []) (hx : Passes CX X E)
    (I : Inv X pins σ H s) (r : Vals vs us) (h : sp vs H Q E) : wpAny (model X.prog X.w) A (call (.ref f) us) (EP X pins σ Q) X.xe s := by
  have hl : (us ++ []).length = ps.length := by
    rw [List.append_nil, ← r.length]
    exact F.len _ _ _ _ h
  have bd := hb s us I.kIn hl
  rw [List.append_nil] at bd
  refine wpAny_call (codeAny_mono (F.run A X.stack s H ⟨us, []⟩ us vs Q E hr e0 bd r h) fun r s' hq => ?_)
  rcases r with e | fl
  · exact hx pins σ H s e s' I hq
  · rcases fl with u | _ | _ | _
    · first
        | exact I.after hq
        | exact hq.elim
    all_goals
      first
        | exact I.after hq
        | exact False.elim hq
theorem run_in1 {pins : List (Addr × Obj)} {σ : L2.St} {H : Hp} {s : Shared} {Q : VK} {us : List Value} {vs : List V} (F : FnOk X.prog X.w X.K X.mg X.base CX k f fd ps sp) (hr : Room (k + 1) X.A) (hb : Binds X.K fd ps []) (hx : Passes CX X E)
    (I : Inv X pins σ H s) (r : Vals vs us) (h : sp vs H Q E) : wpAny (model X.prog X.w) X.A.in1 (call (.ref f) us) (EP X pins σ Q) X.xe s :=
  run_at F hr.in1 I.env0.in1 hb hx I r h
theorem run_in2 {pins : List (Addr × Obj)} {σ : L2.St} {H : Hp} {s : Shared} {Q : VK} {us : List Value} {vs : List V} (F : FnOk X.prog X.w X.K X.mg X.base CX k f fd ps sp) (hr : Room (k + 2) X.A) (hb : Binds X.K fd ps []) (hx : Passes CX X E)
    (I : Inv X pins σ H s) (r : Vals vs us) (h : sp vs H Q E) : wpAny (model X.prog X.w) X.A.in1.in1 (call (.ref f) us) (EP X pins σ Q) X.xe s :=
  run_at F (Room.in1 (Room.in1 hr)) I.env0.in1.in1 hb hx I r h
def rNeOwn (C : Addr) (sp : Sp) (E : XK) : R2 := fun x y H Q => ∃ (a b dx dy : Addr) (fs gs : List (Str × V)), x = .ref a ∧ y = .ref b ∧ H a = some (.ins C dx fs) ∧ H b = some (.ins C dy gs) ∧
  sp [x, y] H (fun v H' => ∃ r, v = .bl r ∧ Q (.bl (!r)) H') E
/-- x != y by the own __eq__ of both -/
theorem op_neOwn (T : EqC X.K C f) (F : FnOk X.prog X.w X.K X.mg X.base CX k f fd ps sp) (hr : Room (k + 1) X.A) (hb : Binds X.K fd ps []) (hx : Passes CX X E) : OpR X (compareOp .NotEq) (rNeOwn C sp E) := by
  intro pins s σ H x y u v Q I rx ry h
  obtain ⟨a, b, dx, dy, fs, gs, rfl, rfl, ea, eb, q⟩ := h
  obtain rfl : u = Value.ref a := rx
  obtain rfl : v = Value.ref b := ry
  obtain ⟨nm, qn, N, bs, hdct, sn, sub, ab, col, dd, k0, k1, k2, k3, k5, newId, lk, ok, e1, e2⟩ := T.obj
  have KX := I.kIn
  obtain ⟨_, _, _, oa, _⟩ := (show ObjOk X.prog X.w H s.heap a (.ins C dx fs) from I.hok a _ ea)
  obtain ⟨_, _, _, ob, _⟩ := (show ObjOk X.prog X.w H s.heap b (.ins C dy gs) from I.hok b _ eb)
  have hns : s.heap.Ns N (s.heap.nsMap N) := .of_isNs (PySem.W.isNs_of_in KX ok)
  have m1 : s.heap.nsMap N "__eq__" = some (.ref f) := ns_has KX hns e1
  have m2 : s.heap.nsMap N "__ne__" = none := PySem.W.ns_none_of KX hns e2
  have ft : ∃ of, s.heap.get? f = some of ∧ of.cls = .type "function" := by
    obtain ⟨o, ho, hc⟩ := Option.map_eq_some_iff.mp (show (X.K.lookup f).map (·.cls) = some (.type "function") from beq_iff_eq.mp T.fn)
    exact ⟨o, KX _ _ ho, hc⟩
  obtain ⟨of, hf, hfc⟩ := ft
  have own : s.heap.OwnEqNoNe a C f "object" [.type "object"] :=
    ⟨_, of, nm, qn, N, bs, hdct, sn, sub, ab, col, dd, k0, k1, k2, k3, k5, newId, _, _, oa, rfl, KX _ _ lk, hns, m1, hf, hfc, PySem.F.mro_object, rfl, m2⟩
  have un := hr.un
  obtain ⟨hp, g, d, t, os⟩ := s
  refine compareOp_ne_ownEq PySem.F.cmp_object own ob rfl (by omega) ?_
  refine thn (run_in1 (us := [.ref a, .ref b]) (vs := [.ref a, .ref b]) F hr hb hx I (.cons rfl (.cons rfl .nil)) q) fun u s1 hh => ?_
  obtain ⟨w, H1, I1, r1, r, rfl, q1⟩ := hh
  obtain rfl : u = Value.bool r := r1
  exact ⟨r, rfl, .bl (!r), H1, I1, rfl, q1⟩
end
end SB
-- R9
namespace SB
open PySem PySem.Spec PyProof.Rows L2
section
variable {X : Cx} {CX : CXT} {k : Nat} {C f : Addr} {fd : FuncData} {ps : List Str} {sp : Sp} {E : XK} {pins : List (Addr × Obj)} {σ : L2.St} {H : Hp} {s : Shared}
theorem inst_of {a dx : Addr} {fs : List (Str × V)} (I : Inv X pins σ H s) (ea : H a = some (.ins C dx fs)) : ∃ od, PySem.W.InstAt s.heap a (PySem.W.instObj C dx) C (some od) := by
  obtain ⟨mA, O, _⟩ := ins_get I.hok ea
  obtain ⟨od, J, _⟩ := O.look
  exact ⟨od, J⟩
/-- str(x) by the own __str__ -/
def rStrOwn (C : Addr) (sp : Sp) (E : XK) : List V → Hp → VK → Prop := fun xs H Q => ∃ (a dx : Addr) (fs : List (Str × V)), xs = [.ref a] ∧ H a = some (.ins C dx fs) ∧
  sp [.ref a] H (fun v H' => ∃ z, v = .str z ∧ Q (.str z) H') E
theorem call_strOwn (hs : PySem.W.findIn X.K (.ref C) "__str__" = some (some (.ref f))) (hf : PySem.W.isFn X.K (.ref f) = true) (F : FnOk X.prog X.w X.K X.mg X.base CX k f fd ps sp) (hr : Room (k + 2) X.A) (hb : Binds X.K fd ps []) (hx : Passes CX X E) :
    CallR X (.type "str") (rStrOwn C sp E) := by
  intro pins s σ H xs us Q I r h
  obtain ⟨a, dx, fs, rfl, ea, q⟩ := h
  obtain ⟨u, rfl, ru⟩ := vals1 r
  obtain rfl : u = Value.ref a := ru
  obtain ⟨od, J⟩ := inst_of I ea
  have un := (Room.in1 (Room.in1 hr)).units0
  refine PySem.W.kso_call un I.kIn J hs hf ?_
  refine thn (run_in2 (us := [.ref a]) (vs := [.ref a]) F hr hb hx I (.cons rfl .nil) q) fun u s1 hh => ?_
  obtain ⟨w, H1, I1, r1, z, rfl, q1⟩ := hh
  obtain ⟨t, rfl⟩ := r1
  exact ⟨.str z, H1, I1, ⟨t, rfl⟩, q1⟩
/-- an int is no bool -/
theorem op_isIB : OpR X (compareOp .Is) (fun x y H Q => ∃ (i : Int) (b : Bool), x = .int i ∧ y = .bl b ∧ Q (.bl false) H) := by
  intro pins s σ H x y v u Q I rx ry h
  obtain ⟨i, b, rfl, rfl, q⟩ := h
  obtain ⟨t, rfl⟩ := rx
  obtain rfl : u = Value.bool b := ry
  exact wpAny_is_other rfl (fun z => nomatch z) ⟨.bl false, H, I, rfl, q⟩
theorem op_notIB : OpR X (compareOp .IsNot) (fun x y H Q => ∃ (i : Int) (b : Bool), x = .int i ∧ y = .bl b ∧ Q (.bl true) H) := by
  intro pins s σ H x y v u Q I rx ry h
  obtain ⟨i, b, rfl, rfl, q⟩ := h
  obtain ⟨t, rfl⟩ := rx
  obtain rfl : u = Value.bool b := ry
  exact wpAny_isNot_other rfl (fun z => nomatch z) ⟨.bl true, H, I, rfl, q⟩
end
end SB
-- R10
namespace SB
open PySem PySem.Spec PyProof.Rows L2
/-- __init__(self, f): self.f = f, of an own error class -/
def spErr1 (K : PySem.W.Frag) (g : Str) : Sp := fun vs H Q _ => ∃ (a C : Addr) (y : V), vs = [.ref a, y] ∧ OexC K C ∧ PySem.W.findIn K (.ref C) g = some none ∧ H a = some (exo a C none) ∧
  ∀ dx, H dx = none → dx ≠ a → Q .non (upd (upd H dx (exd dx [(g, y)])) a (exo a C (some dx)))
/-- what is told of an own error class x of one field g: its class at C, its __init__ at fI -/
structure Err1 (K : PySem.W.Frag) (mg : Str → Option Value) (x g : Str) (C fI : Addr) : Prop where
  ox : OexC K C
  ec : ErrC K C
  iC : PySem.W.findIn K (.ref C) "__init__" = some (some (.ref fI))
  tI : PySem.W.typeIn K (.ref fI) = some (.type "function")
  no : PySem.W.findIn K (.ref C) g = some none
  at_ : mg x = some (.ref C)
theorem heap_raised {H : Hp} {a d : Addr} {o1 o2 o3 o4 : HO} (ha : H a = none) (hd : (upd H a o1) d = none) (ne : d ≠ a) : upd (del (upd (upd (upd H a o1) d o2) a o3) a) d o4 = upd H d o4 := by
  funext b
  by_cases e1 : b = d
  · subst e1
    rw [upd_same, upd_same]
  · rw [upd_ne e1, upd_ne e1]
    by_cases e2 : b = a
    · subst e2
      rw [del_same, ha]
    · rw [del_ne e2, upd_ne e2, upd_ne e1, upd_ne e2]
section
variable {X : Cx} {x g : Str} {C fI : Addr} {k : Nat} {fd : FuncData} {ps : List Str} {W : WX} {e : Expr} {te : TE} {p pos pos2 : Pos} {CX : CXT}
/-- raise x(e) -/
theorem ps_raise1 (T : Err1 X.K X.mg x g C fI) (F : FnOk X.prog X.w X.K X.mg X.base CX k fI fd ps (spErr1 X.K g)) (hb : Binds X.K fd ps []) (hr : Room (k + 1) X.A) (hc : X.calm = true) (tk : Takes X W) (hx : Passes CX X (fun _ _ _ => False)) (he : PE X e te) (hg : Gl X x := by rfl)
    (hs : starEach (e :: []) X.env = (false, eval e X.env) :: starEach [] X.env := by rfl) (hpl : (backTo pos (starEach [] X.env)).any (·.1) = false := by rfl) (hdb : (x == ("__debug__" : Str)) = false := by decide) :
    PS X (.Raise (some (.Call (.Name x p) [e] [] pos)) none pos2) (fun _ σ H => tMkO C (spErr1 X.K g) [] (tCons te tNil) σ H fun cls d H' => W cls d σ H') :=
  ps_raise (pos := pos2) hc tk (pmk_oex (pos := pos) (p := p) T.ox T.iC T.tI F hr hb .nil hx hg T.at_ (pa_cons he pa_nil hs) hdb hs hpl)
end
/-- what such a raise asks, once its argument is there -/
theorem raised1 {K : PySem.W.Frag} {mg : Str → Option Value} {x g : Str} {C fI : Addr} {H : Hp} {y : V} {Q : XK} (T : Err1 K mg x g C fI) (h : ∀ d, H d = none → Q (.ref C) (some d) (upd H d (.xd [(g, y)]))) :
    ([y] : List V).length ≤ 1000 ∧ ∀ a, H a = none → spErr1 K g (.ref a :: ([y] ++ [])) (upd H a (exo a C none)) (fun v H2 => v = .non ∧ ∃ (d : Addr) (fs : List (Str × V)), H2 a = some (exo a C (some d)) ∧ H2 d = some (exd d fs) ∧ H d = none ∧ Q (.ref C) (some d) (upd (del H2 a) d (.xd fs))) (fun _ _ _ => False) := by
  refine ⟨by show 1 ≤ 1000; decide, fun a ha => ⟨a, C, y, rfl, T.ox, T.no, upd_same, fun dx hd ne => ⟨rfl, dx, [(g, y)], upd_same, ?_, ?_, ?_⟩⟩⟩
  · rw [upd_ne ne, upd_same]
  · rw [upd_ne ne] at hd
    exact hd
  · rw [heap_raised ha hd ne]
    refine h dx ?_
    rw [upd_ne ne] at hd
    exact hd
theorem init1_sp {K : PySem.W.Frag} {g : Str} {vs : List V} {H : Hp} {Q : VK} {E : XK} (h : spErr1 K g vs H Q E) : vs.length = 2 := by
  obtain ⟨a, C, y, rfl, _⟩ := h
  rfl
/-- the reading of self.f = f -/
theorem init1_read {K : PySem.W.Frag} {g : Str} {vs : List V} {H : Hp} {Q : VK} {E : XK} {N : List Str} (hN : N.length = 2) (h : spErr1 K g vs H Q E) : tOst K g (tVar 0) (tVar 1) { nx := fun _ H' => Q .non H', rt := Q } (L2.start N vs) H := by
  obtain ⟨a, C, y, rfl, T, hn, ha, q⟩ := h
  match N, hN with
  | [_, _], _ => exact ⟨y, rfl, .ref a, rfl, a, C, rfl, T, hn, .inl ⟨ha, fun dx h1 h2 => q dx h1 h2⟩⟩
end SB
-- M1
namespace SB
open PySem PySem.Spec PyProof.Rows L2
/-! ### letters as codes; rows of letters -/
def T (l : List Nat) : Str := ⟨l.toArray⟩
/-- the code of the letter that undoes one -/
def up (c : Nat) : Nat := if 97 ≤ c then c - 32 else c + 32
def letters8 : List Nat := [65, 66, 67, 68, 97, 98, 99, 100]
def isL (c : Nat) : Bool := decide (c ∈ letters8)
/-- the first place at which no sign can stand, from place i on, prev being ahead -/
def faultFrom (prev : Option Nat) (i : Nat) : List Nat → Option Nat
  | [] => none
  | c :: r => if isL c = false ∨ some (up c) = prev then some i else faultFrom (some c) (i + 1) r
def fault (l : List Nat) : Option Nat := faultFrom none 0 l
theorem T_cps (l : List Nat) : (T l).cps.toList = l := rfl
theorem letters_T : ("ABCDabcd" : Str) = T letters8 := by decide +kernel
theorem swap_up : ∀ c, isL c = true → Txt.swapcase ⟨#[c]⟩ = ⟨#[up c]⟩ := by
  intro c h
  have h' : c ∈ letters8 := of_decide_eq_true h
  have all : ∀ c ∈ letters8, Txt.swapcase ⟨#[c]⟩ = ⟨#[up c]⟩ := by decide +kernel
  exact all c h'
/-- one sign as a text -/
abbrev s1 (c : Nat) : Str := ⟨#[c]⟩
def prevT : Option Nat → Str
  | none => T []
  | some c => s1 c
theorem s1_inj {a b : Nat} (h : s1 a = s1 b) : a = b := by
  have := congrArg Str.cps h
  simpa using this
theorem eq_prev (c : Nat) (p : Option Nat) : decide (V.str (s1 c) = V.str (prevT p)) = decide (some c = p) := by
  cases p with
  | none =>
    refine (decide_eq_false ?_).trans (decide_eq_false (by simp)).symm
    intro z
    have := congrArg Str.cps (V.str.inj z)
    simp [prevT, T] at this
  | some d =>
    by_cases e : c = d
    · subst e
      simp [prevT]
    · refine (decide_eq_false ?_).trans (decide_eq_false (by simpa using e)).symm
      intro z
      exact e (s1_inj (V.str.inj z))
end SB
-- M2
namespace SB
open PySem PySem.Spec PyProof.Rows L2
/-- the items of a text -/
def items (z : Str) : List Str := Txt.split z " "
theorem blank_T : (" " : Str) = ⟨#[32]⟩ := by decide +kernel
theorem items_pos (z : Str) : 1 ≤ (items z).length := split_pos z " "
theorem items_one {z : Str} (h : (items z).length = 1) : items z = [z] := by
  have j : Str.join " " (items z) = z   := StrLaws.join_split z " "
  match e : items z, h with
  | [a], _ =>
    rw [e] at j
    exact congrArg (fun a => [a]) j
theorem items_free {z : Str} (h : (32 : Nat) ∉ z.cps.toList) : items z = [z] := by
  refine items_one ?_
  have l := split_len z 32
  unfold items
  rw [blank_T]
  have c0 : ∀ l : List Nat, (32 : Nat) ∉ l → cnt 32 l = 0 := by
    intro l
    induction l with
    | nil => intro _; rfl
    | cons a r ih =>
      intro hn
      rw [cnt_cons, ih fun z => hn (List.mem_cons_of_mem _ z), if_neg fun z => hn (by rw [z]; exact List.mem_cons_self)]
      rfl
  rw [c0 _ h] at l
  omega
theorem items_short {z a : Str} (h : a ∈ items z) : a.length ≤ z.length := part_short h
/-- of a row without a fault each sign is a letter -/
theorem letters_of : ∀ (l : List Nat) (p : Option Nat) (i : Nat), faultFrom p i l = none → ∀ c ∈ l, isL c = true
  | [], _, _, _, c, hc => nomatch hc
  | a :: r, p, i, h, c, hc => by
    have h' : (if isL a = false ∨ some (up a) = p then some i else faultFrom (some a) (i + 1) r) = none := h
    by_cases e : isL a = false ∨ some (up a) = p
    · rw [if_pos e] at h'
      cases h'
    · rw [if_neg e] at h'
      rcases List.mem_cons.mp hc with q | q
      · rw [q]
        cases z : isL a with
        | true => rfl
        | false => exact (e (.inl z)).elim
      · exact letters_of r _ _ h' c q
theorem letter_lt : ∀ c, isL c = true → c < 128 := by
  intro c h
  have h' : c ∈ letters8 := of_decide_eq_true h
  have all : ∀ c ∈ letters8, c < 128 := by decide +kernel
  exact all c h'
theorem ok_word {z : Str} (h : fault z.cps.toList = none) : (z.cps.all fun c => decide (c < 0x110000)) = true := by
  rw [← Array.all_toList, List.all_eq_true]
  intro c hc
  have := letter_lt c (letters_of _ _ _ h c hc)
  exact decide_eq_true (by omega)
theorem shaped_word {z : Str} (n : Int) (h : fault z.cps.toList = none) : SeqAt.shaped (.tuple [.int n, .str z]) = true := by
  have e : PyData.canLay0 (.tuple [.int n, .str z]) = true := by
    show (true && ((z.cps.all fun c => decide (c < 0x110000)) && true)) = true
    rw [ok_word h]
    rfl
  unfold SeqAt.shaped
  rw [e]
  rfl
end SB
-- M3
namespace SB
open PySem PySem.Spec PyProof.Rows L2
/-! ### the pen of a law -/
/-- what is tracked stays, but for p -/
def Kept (p : Addr) (H H' : Hp) : Prop := ∀ b o, H b = some o → b ≠ p → H' b = some o
theorem Kept.refl (p : Addr) (H : Hp) : Kept p H H := fun _ _ h _ => h
theorem Kept.trans {p : Addr} {H H1 H2 : Hp} (a : Kept p H H1) (b : Kept p H1 H2) : Kept p H H2 := fun c o h n => b c o (a c o h n) n
theorem Kept.of {p : Addr} {H H' : Hp} (s : Same H H') : Kept p H H' := fun b o h _ => s b o h
theorem Kept.write {p : Addr} {H H' : Hp} {o : HO} (k : Kept p H H') : Kept p H (upd H' p o) := fun b u h n => by
  rw [upd_ne n]
  exact k b u h n
/-- a list of three at p: the script's ints, how many cells were read, what is left of a great one -/
def PenAt (N : Int) (H : Hp) (p : Addr) : Prop := ∃ (q : Addr) (ns : List Int) (i j : Int), H p = some (.lst [.ref q, .int i, .int j]) ∧ H q = some (.lst (ns.map V.int)) ∧ 0 ≤ i ∧ i ≤ N
theorem pen_ne {H : Hp} {p q : Addr} {ns : List Int} {i j : Int} (h : H p = some (.lst [.ref q, .int i, .int j])) (h' : H q = some (.lst (ns.map V.int))) : q ≠ p := by
  rintro rfl
  rw [h] at h'
  have e := HO.lst.inj (Option.some.inj h')
  cases ns with
  | nil => cases e
  | cons a r => cases e
theorem PenAt.mono {N M : Int} {H : Hp} {p : Addr} (h : PenAt N H p) (le : N ≤ M) : PenAt M H p := by
  obtain ⟨q, ns, i, j, h1, h2, h3, h4⟩ := h
  exact ⟨q, ns, i, j, h1, h2, h3, by omega⟩
theorem PenAt.same {N : Int} {H H' : Hp} {p : Addr} (h : PenAt N H p) (s : Same H H') : PenAt N H' p := by
  obtain ⟨q, ns, i, j, h1, h2, h3, h4⟩ := h
  exact ⟨q, ns, i, j, s _ _ h1, s _ _ h2, h3, h4⟩
theorem shaped_nums (ns : List Int) : SeqAt.shaped (.list (ns.map PyData.int)) = true := by
  have lay : ∀ l : List Int, PyData.canLayAll0 (l.map PyData.int) = true := by
    intro l
    induction l with
    | nil => rfl
    | cons a r ih => exact ih
  have dep : ∀ l : List Int, PyData.depthAll (l.map PyData.int) ≤ 1 := by
    intro l
    induction l with
    | nil => exact Nat.zero_le _
    | cons a r ih =>
      show max _ _ ≤ 1
      refine Nat.max_le.mpr ⟨?_, ih⟩
      simp [PyData.depth]
  unfold SeqAt.shaped
  have e1 : PyData.canLay0 (.list (ns.map PyData.int)) = true := lay ns
  rw [e1]
  refine decide_eq_true ?_
  have := dep ns
  have e2 : PyData.depth (.list (ns.map PyData.int)) = PyData.depthAll (ns.map PyData.int) + 1 := by
    simp [PyData.depth]
  rw [e2]
  omega
theorem dp_nums {K : PySem.W.Frag} {H : Hp} : ∀ ns : List Int, DpAll K H (ns.map V.int) (ns.map PyData.int)
  | [] => .nil
  | a :: r => .cons (.int a) (dp_nums r)
theorem eqv_empty (ns : List Int) : PyData.eqv (.list (ns.map PyData.int)) (.list []) = decide (ns = []) := by
  cases ns with
  | nil => rfl
  | cons a r => rfl
theorem cut_nums (ns : List Int) (lo hi : Option Int) : ∃ ms : List Int, cutV (ns.map V.int) lo hi = ms.map V.int ∧ ms.length ≤ ns.length := by
  refine ⟨(ns.drop (HT.sIx (ns.map V.int).length 0 lo)).take (HT.sIx (ns.map V.int).length (ns.map V.int).length hi - HT.sIx (ns.map V.int).length 0 lo), ?_, ?_⟩
  · unfold cutV
    rw [← List.map_drop, ← List.map_take]
  · rw [List.length_take, List.length_drop]
    omega
theorem bound3 {u i a b c : Int} (u0 : 0 ≤ u) (u1 : u < 2147483648) (i0 : 0 ≤ i) (i1 : i ≤ 100000) (a0 : 0 ≤ a) (a1 : a ≤ 100000) (b0 : 0 ≤ b) (b1 : b ≤ 1000000) (c0 : 0 ≤ c) (c1 : c ≤ 1000000) :
    (u * (2 * i + a) + b * i * i + c).natAbs < 2 ^ 64 := by
  have h1 : u * (2 * i + a) ≤ 2147483648 * 300000 := Int.mul_le_mul (by omega) (by omega) (by omega) (by omega)
  have h2 : 0 ≤ u * (2 * i + a) := Int.mul_nonneg u0 (by omega)
  have h3 : b * i ≤ 1000000 * 100000 := Int.mul_le_mul b1 i1 i0 (by omega)
  have h4 : 0 ≤ b * i := Int.mul_nonneg b0 i0
  have h5 : b * i * i ≤ 1000000 * 100000 * 100000 := Int.mul_le_mul h3 i1 i0 (by omega)
  have h6 : 0 ≤ b * i * i := Int.mul_nonneg h4 i0
  omega
end SB
-- M4
namespace SB
open PySem PySem.Spec PyProof.Rows L2
theorem up_up : ∀ c, isL c = true → up (up c) = c := by
  intro c h
  have h' : c ∈ letters8 := of_decide_eq_true h
  have all : ∀ c ∈ letters8, up (up c) = c := by decide +kernel
  exact all c h'
theorem up_isL : ∀ c, isL c = true → isL (up c) = true := by
  intro c h
  have h' : c ∈ letters8 := of_decide_eq_true h
  have all : ∀ c ∈ letters8, isL (up c) = true := by decide +kernel
  exact all c h'
theorem faultFrom_snoc : ∀ (l : List Nat) (c : Nat) (p : Option Nat) (i : Nat), faultFrom p i l = none → isL c = true → (∀ d, (l.getLast?.or p) = some d → some (up c) ≠ some d) → faultFrom p i (l ++ [c]) = none
  | [], c, p, i, _, hc, hd => by
    show (if isL c = false ∨ some (up c) = p then some i else faultFrom (some c) (i + 1) []) = none
    rw [if_neg]
    · rfl
    · rintro (z | z)
      · rw [hc] at z
        cases z
      · exact hd (up c) z.symm rfl
  | a :: r, c, p, i, h, hc, hd => by
    have h' : (if isL a = false ∨ some (up a) = p then some i else faultFrom (some a) (i + 1) r) = none := h
    by_cases e : isL a = false ∨ some (up a) = p
    · rw [if_pos e] at h'
      cases h'
    · rw [if_neg e] at h'
      show (if isL a = false ∨ some (up a) = p then some i else faultFrom (some a) (i + 1) (r ++ [c])) = none
      rw [if_neg e]
      refine faultFrom_snoc r c (some a) (i + 1) h' hc fun d hd2 => hd d ?_
      cases r with
      | nil => simpa using hd2
      | cons b r2 =>
        have q : ((b :: r2).getLast?.or (some a)) = some d := hd2
        rw [List.getLast?_cons_cons]
        cases e2 : (b :: r2).getLast? with
        | none => simp at e2
        | some v =>
          rw [e2] at q
          simpa using q
theorem fault_snoc {l : List Nat} {c : Nat} (h : fault l = none) (hc : isL c = true) (hd : ∀ d, l.getLast? = some d → c ≠ up d) : fault (l ++ [c]) = none := by
  refine faultFrom_snoc l c none 0 h hc fun d e z => ?_
  have e' : l.getLast? = some d := by simpa using e
  have z' : up c = d := Option.some.inj z
  refine hd d e' ?_
  rw [← z', up_up c hc]
theorem last_split {l : List Nat} {d : Nat} (h : l.getLast? = some d) : ∃ r, l = r ++ [d] := by
  rw [List.getLast?_eq_some_iff] at h
  exact h
theorem str_empty {z : Str} : z = "" ↔ z.cps.toList = [] := by
  constructor
  · rintro rfl
    rfl
  · intro h
    cases z with
    | mk a =>
      have : a = #[] := by simpa using h
      subst this
      rfl
theorem app_codes (a b : Str) : (a ++ b).cps.toList = a.cps.toList ++ b.cps.toList := by
  rw [Str.cps_append, Array.toList_append]
theorem len_codes (z : Str) : z.length = z.cps.toList.length := rfl
end SB
-- M5
namespace SB
open PySem PySem.Spec PyProof.Rows L2
/-- whether each sign is a letter -/
theorem all_or (l : List Nat) : (l.filter fun c => !isL c) = [] ↔ ∀ c ∈ l, isL c = true := by
  rw [List.filter_eq_nil_iff]
  constructor
  · intro h c hc
    have := h c hc
    simpa using this
  · intro h c hc
    rw [h c hc]
    decide
/-- no letter stands behind the one that it undoes -/
def flat (l : List Nat) (n : Nat) : Prop := ∀ j c d, j + 1 < n → l[j]? = some d → l[j + 1]? = some c → c ≠ up d
theorem flat_mono {l : List Nat} {n m : Nat} (h : flat l n) (le : m ≤ n) : flat l m := fun j c d hj => h j c d (by omega)
theorem faultFrom_flat : ∀ (l : List Nat) (p : Option Nat) (i : Nat), (∀ c ∈ l, isL c = true) → (faultFrom p i l = none ↔ (∀ c, l[0]? = some c → some (up c) ≠ p) ∧ flat l l.length)
  | [], p, i, _ => by
    refine ⟨fun _ => ⟨fun c h => (nomatch h), fun j c d h => absurd h (by simp)⟩, fun _ => rfl⟩
  | a :: r, p, i, h => by
    have ha : isL a = true := h a List.mem_cons_self
    have ih := faultFrom_flat r (some a) (i + 1) fun c hc => h c (List.mem_cons_of_mem _ hc)
    have e : faultFrom p i (a :: r) = if isL a = false ∨ some (up a) = p then some i else faultFrom (some a) (i + 1) r := rfl
    rw [e]
    by_cases q : some (up a) = p
    · rw [if_pos (.inr q)]
      refine ⟨fun z => (nomatch z), fun z => (z.1 a rfl q).elim⟩
    · rw [if_neg (by rintro (z | z); rw [ha] at z; cases z; exact q z), ih]
      constructor
      · rintro ⟨h1, h2⟩
        refine ⟨fun c hc => by cases hc; exact q, fun j c d hj hd hc => ?_⟩
        cases j with
        | zero =>
          have hd' : a = d := by simpa using hd
          have hc' : r[0]? = some c := hc
          subst hd'
          intro z
          refine h1 c hc' ?_
          rw [z, up_up a ha]
        | succ j =>
          refine h2 j c d ?_ hd hc
          have : j + 1 + 1 < r.length + 1 := hj
          omega
      · rintro ⟨_, h2⟩
        refine ⟨fun c hc z => ?_, fun j c d hj hd hc => h2 (j + 1) c d (by show j + 1 + 1 < r.length + 1; omega) hd hc⟩
        have z' : up c = a := Option.some.inj z
        have cL : isL c = true := h c (List.mem_cons_of_mem _ (List.mem_of_getElem? hc))
        refine h2 0 c a ?_ rfl hc ?_
        · show 0 + 1 < r.length + 1
          have : 0 < r.length := (List.getElem?_eq_some_iff.mp hc).1
          omega
        · rw [← z', up_up c cL]
theorem fault_iff (l : List Nat) : fault l = none ↔ (∀ c ∈ l, isL c = true) ∧ flat l l.length := by
  constructor
  · intro h
    have hL := letters_of l none 0 h
    exact ⟨hL, ((faultFrom_flat l none 0 hL).mp h).2⟩
  · rintro ⟨hL, hf⟩
    exact (faultFrom_flat l none 0 hL).mpr ⟨fun c _ z => (nomatch z), hf⟩
end SB
-- R11
namespace SB
open PySem PySem.Spec PyProof.Rows L2
section
variable {X : Cx}
/-- an expression, with a word between it and what follows -/
def tMid (t : TE) : TE := fun σ H Q => ∃ R : V → Hp → Prop, t σ H R ∧ ∀ v H', R v H' → Q v H'
theorem pe_mid {e : Expr} {t : TE} (h : PE X e t) : PE X e (tMid t) := by
  refine ⟨fun pins s σ H Q I hm => ?_⟩
  obtain ⟨R, hR, hq⟩ := hm
  refine thn (h.run pins s σ H R I hR) fun u s1 hh => ?_
  obtain ⟨v, H1, I1, r1, q1⟩ := hh
  exact ⟨v, H1, I1, r1, hq v H1 q1⟩
/-- a text times an int -/
theorem op_repS : OpR X (binaryOp .Mult) (fun x y H Q => ∃ (z : Str) (n : Int), x = .str z ∧ y = .int n ∧ MulOk z n ∧ Q (.str (Txt.mul z n)) H) := by
  intro pins s σ H x y v u Q I rx ry h
  obtain ⟨z, n, rfl, rfl, ok, q⟩ := h
  obtain ⟨t, rfl⟩ := rx
  obtain ⟨t', rfl⟩ := ry
  exact PySem.SB.mul ok fun t2 tk => ⟨.str (Txt.mul z n), H, I.tok _, ⟨_, rfl⟩, q⟩
end
def longs : List Str := ["A", "dC", "aB"]
theorem long_ok : ∀ z ∈ longs, ∀ n ∈ ([4000, 4001] : List Int), MulOk z n ∧ (Txt.mul z n).length ≤ 9000 ∧ fault (cutS (Txt.mul z n) none (some n)).cps.toList = none ∧ cutS (Txt.mul z n) none (some n) ≠ "" := by
  unfold MulOk
  decide +kernel
end SB
-- R12
namespace SB
open PySem PySem.Spec PyProof.Rows L2
/-- __init__(self, f, g): self.f = f; self.g = g, of an own error class -/
def spErr2 (K : PySem.W.Frag) (f g : Str) : Sp := fun vs H Q _ => ∃ (a C : Addr) (y z : V), vs = [.ref a, y, z] ∧ OexC K C ∧ PySem.W.findIn K (.ref C) f = some none ∧ PySem.W.findIn K (.ref C) g = some none ∧ H a = some (exo a C none) ∧
  ∀ dx, H dx = none → dx ≠ a → Q .non (upd (upd (upd H dx (exd dx [(f, y)])) a (exo a C (some dx))) dx (exd dx [(g, z), (f, y)]))
structure Err2 (K : PySem.W.Frag) (mg : Str → Option Value) (x f g : Str) (C fI : Addr) : Prop where
  ox : OexC K C
  ec : ErrC K C
  iC : PySem.W.findIn K (.ref C) "__init__" = some (some (.ref fI))
  tI : PySem.W.typeIn K (.ref fI) = some (.type "function")
  nf : PySem.W.findIn K (.ref C) f = some none
  ng : PySem.W.findIn K (.ref C) g = some none
  at_ : mg x = some (.ref C)
theorem heap_raised2 {H : Hp} {a d : Addr} {o1 o2 o3 o4 o5 : HO} (ha : H a = none) (ne : d ≠ a) : upd (del (upd (upd (upd (upd H a o1) d o2) a o3) d o4) a) d o5 = upd H d o5 := by
  funext b
  by_cases e1 : b = d
  · subst e1
    rw [upd_same, upd_same]
  · rw [upd_ne e1, upd_ne e1]
    by_cases e2 : b = a
    · subst e2
      rw [del_same, ha]
    · rw [del_ne e2, upd_ne e1, upd_ne e2, upd_ne e1, upd_ne e2]
section
variable {X : Cx} {x f g : Str} {C fI : Addr} {k : Nat} {fd : FuncData} {ps : List Str} {W : WX} {e e2 : Expr} {te te2 : TE} {p pos pos2 : Pos} {CX : CXT}
/-- raise x(e, e2) -/
theorem ps_raise2 (T : Err2 X.K X.mg x f g C fI) (F : FnOk X.prog X.w X.K X.mg X.base CX k fI fd ps (spErr2 X.K f g)) (hb : Binds X.K fd ps []) (hr : Room (k + 1) X.A) (hc : X.calm = true) (tk : Takes X W) (hx : Passes CX X (fun _ _ _ => False)) (he : PE X e te) (he2 : PE X e2 te2) (hg : Gl X x := by rfl)
    (hs : starEach (e :: e2 :: []) X.env = (false, eval e X.env) :: starEach [e2] X.env := by rfl) (hs2 : starEach [e2] X.env = (false, eval e2 X.env) :: starEach [] X.env := by rfl) (hpl : (backTo pos (starEach [e2] X.env)).any (·.1) = false := by rfl) (hdb : (x == ("__debug__" : Str)) = false := by decide) :
    PS X (.Raise (some (.Call (.Name x p) [e, e2] [] pos)) none pos2) (fun _ σ H => tMkO C (spErr2 X.K f g) [] (tCons te (tCons te2 tNil)) σ H fun cls d H' => W cls d σ H') :=
  ps_raise (pos := pos2) hc tk (pmk_oex (pos := pos) (p := p) T.ox T.iC T.tI F hr hb .nil hx hg T.at_ (pa_cons he (pa_cons he2 pa_nil hs2) hs) hdb hs hpl)
end
/-- what such a raise asks, once its arguments are there -/
theorem raised2 {K : PySem.W.Frag} {mg : Str → Option Value} {x f g : Str} {C fI : Addr} {H : Hp} {y z : V} {Q : XK} (T : Err2 K mg x f g C fI) (h : ∀ d, H d = none → Q (.ref C) (some d) (upd H d (.xd [(g, z), (f, y)]))) :
    ([y, z] : List V).length ≤ 1000 ∧ ∀ a, H a = none → spErr2 K f g (.ref a :: ([y, z] ++ [])) (upd H a (exo a C none)) (fun v H2 => v = .non ∧ ∃ (d : Addr) (fs : List (Str × V)), H2 a = some (exo a C (some d)) ∧ H2 d = some (exd d fs) ∧ H d = none ∧ Q (.ref C) (some d) (upd (del H2 a) d (.xd fs))) (fun _ _ _ => False) := by
  refine ⟨by show 2 ≤ 1000; decide, fun a ha => ⟨a, C, y, z, rfl, T.ox, T.nf, T.ng, upd_same, fun dx hd ne => ⟨rfl, dx, [(g, z), (f, y)], ?_, upd_same, ?_, ?_⟩⟩⟩
  · rw [upd_ne (Ne.symm ne), upd_same]
  · rw [upd_ne ne] at hd
    exact hd
  · rw [heap_raised2 ha ne]
    refine h dx ?_
    rw [upd_ne ne] at hd
    exact hd
theorem init2_sp {K : PySem.W.Frag} {f g : Str} {vs : List V} {H : Hp} {Q : VK} {E : XK} (h : spErr2 K f g vs H Q E) : vs.length = 3 := by
  obtain ⟨a, C, y, z, rfl, _⟩ := h
  rfl
/-- the reading of self.f = f; self.g = g -/
theorem init2_read {K : PySem.W.Frag} {f g : Str} {vs : List V} {H : Hp} {Q : VK} {E : XK} {N : List Str} (hN : N.length = 3) (h : spErr2 K f g vs H Q E) : tSeq (tOst K f (tVar 0) (tVar 1)) (tOst K g (tVar 0) (tVar 2)) { nx := fun _ H' => Q .non H', rt := Q } (L2.start N vs) H := by
  obtain ⟨a, C, y, z, rfl, T, hf, hg, ha, q⟩ := h
  match N, hN with
  | [_, _, _], _ =>
    refine ⟨y, rfl, .ref a, rfl, a, C, rfl, T, hf, .inl ⟨ha, fun dx h1 h2 => ?_⟩⟩
    refine ⟨z, rfl, .ref a, rfl, a, C, rfl, T, hg, .inr ⟨dx, [(f, y)], upd_same, ?_, by show 1 ≤ 900; decide, q dx h1 h2⟩⟩
    rw [upd_ne h2, upd_same]
end SB
-- R13
namespace SB
open PySem PySem.Spec PyProof.Rows L2
section
variable {X : Cx}
/-- one rule or the other -/
theorem ix_or {r1 r2 : R2} (h1 : IxR X r1) (h2 : IxR X r2) : IxR X (fun x y H Q => r1 x y H Q ∨ r2 x y H Q) := by
  intro value slice pins s σ H x y v u Q I rx ry h hs
  rcases h with h | h
  · exact h1 value slice pins s σ H x y v u Q I rx ry h hs
  · exact h2 value slice pins s σ H x y v u Q I rx ry h hs
theorem call_or {f : Value} {r1 r2 : List V → Hp → VK → Prop} (h1 : CallR X f r1) (h2 : CallR X f r2) : CallR X f (fun xs H Q => r1 xs H Q ∨ r2 xs H Q) := by
  intro pins s σ H xs us Q I r h
  rcases h with h | h
  · exact h1 pins s σ H xs us Q I r h
  · exact h2 pins s σ H xs us Q I r h
theorem op_or {op : Value → Value → Sem Value} {r1 r2 : R2} (h1 : OpR X op r1) (h2 : OpR X op r2) : OpR X op (fun x y H Q => r1 x y H Q ∨ r2 x y H Q) := by
  intro pins s σ H x y v u Q I rx ry h
  rcases h with h | h
  · exact h1 pins s σ H x y v u Q I rx ry h
  · exact h2 pins s σ H x y v u Q I rx ry h
end
end SB
-- R14
namespace SB
open PySem PySem.Spec PyProof.Rows L2
/-! ### a class whose __iter__ hands the iterator of a text out -/
/-- at it: the iterator of the text z, none taken -/
def SItO (it : Addr) (z : Str) : HO := .ext fun h => ∃ t : Tok, h.get? it = some { cls := .type (strIterType z), data := .fields #[.str z t, .int 0 0] }
theorem sit_type (z : Str) : strIterType z = "str_ascii_iterator" ∨ strIterType z = "str_iterator" := by
  unfold strIterType
  split
  · exact .inl rfl
  · exact .inr rfl
theorem sit_ok {P : Program} {w : World} {H : Hp} {h : Heap} {it : Addr} {z : Str} {t : Tok} (e : h.get? it = some { cls := .type (strIterType z), data := .fields #[.str z t, .int 0 0] }) : ObjOk P w H h it (SItO it z) :=
  ⟨⟨t, e⟩, ⟨_, e⟩, fun h1 h2 q k => by
    obtain ⟨t2, e2⟩ := q
    exact ⟨t2, k _ e2⟩⟩
theorem sit_next {M : Model} {A : Around} {E : Value → Shared → Prop} {Q : Value → Shared → Prop} {s : Shared} {it : Addr} {z : Str} {t : Tok} (h : s.heap.get? it = some { cls := .type (strIterType z), data := .fields #[.str z t, .int 0 0] })
    (q : Q (.ref it) s) : PySem.W.OwitIt M A Q E (.ref it) s := by
  have ty : s.TypeIs (.ref it) (strIterType z) := ⟨_, h, rfl⟩
  unfold PySem.W.OwitIt
  rcases sit_type z with e | e
  · rw [e] at ty
    exact wpAny_specialOf ty F.slot_str_ascii_iterator_next.lookup q
  · rw [e] at ty
    exact wpAny_specialOf ty F.slot_str_iterator_next.lookup q
section
variable {X : Cx} {pins : List (Addr × Obj)} {σ : L2.St} {H : Hp} {s : Shared}
/-- iter(z), z a text -/
theorem call_iterS : CallR X (.builtin "iter") (fun xs H Q => ∃ z : Str, xs = [.str z] ∧ ∀ it, H it = none → X.s_0.heap.objs.size ≤ it → Q (.ref it) (upd H it (SItO it z))) := by
  intro pins s σ H xs us Q I r h
  obtain ⟨z, rfl, q⟩ := h
  obtain ⟨u, rfl, t, rfl⟩ := vals1 r
  refine Calls.call_function_entry (id := "iter") (by decide +kernel) (by decide +kernel) PySem.W.kdk_entry_iter (PySem.W.kdk_args_iter (Value.str z t)) ?_
  unfold Builtin.«iter»
  refine wpAny_bind (m := someArgs "iter" 1 2 ⟨[Value.str z t], []⟩) (wpAny_of_eq (a := [Value.str z t]) (by first | rfl | kernel_rfl!) ?_)
  show wpAny _ _ (pyIter (.str z t) >>= _) _ _ _
  refine wpAny_bind (wpAny_pyIter_strU (wpAny_pure ⟨.ref s.heap.objs.size, rfl, ?_⟩))
  have at_ : (s.heap.push { cls := .type (strIterType z), data := .fields #[.str z t, .int 0 0] }).get? s.heap.objs.size = some { cls := .type (strIterType z), data := .fields #[.str z t, .int 0 0] } := Heap.get?_push_size _ rfl
  exact ⟨.ref s.heap.objs.size, _, I.laid (t' := s.toks) (fun b u e => Heap.get?_push_of_some _ e) (Nat.le_refl _) (sit_ok at_), rfl, q _ (I.hok.fresh (Nat.le_refl _)) I.sz⟩
/-- what was laid may be forgotten -/
theorem untrack {a : Addr} {φ : Heap → Prop} (I : Inv X pins σ (upd H a (.ext φ)) s) (hn : H a = none) : Inv X pins σ H s := by
  have ne : ∀ {b : Addr} {u : HO}, H b = some u → b ≠ a := fun e => ne_of_none e hn
  have back : ∀ {b : Addr} {u : HO}, (∀ ψ, u ≠ .ext ψ) → upd H a (.ext φ) b = some u → H b = some u := fun {b u} n e => by
    by_cases hb : b = a
    · rw [hb, upd_same] at e
      exact (n φ (Option.some.inj e).symm).elim
    · rw [upd_ne hb] at e
      exact e
  have none_ : ∀ {b : Addr}, upd H a (.ext φ) b = none → H b = none := fun {b} e => by
    by_cases hb : b = a
    · rw [hb]
      exact hn
    · rw [upd_ne hb] at e
      exact e
  refine { ok := I.ok, os := I.os, bare := I.bare, base := ?_, loc := I.loc, cell := I.cell, free := none_ I.free, freeC := fun x c e => none_ (I.freeC x c e), pin := fun p hp => ?_, hok := fun b u e => ?_, len := I.len }
  · have u := I.base
    refine ⟨u.keep, u.slot, fun b o e n hx => none_ (u.free b o e n hx), u.there, fun b xs e => back (fun ψ z => ?_) (u.tups b xs e), fun b o v e => back (fun ψ z => ?_) (u.frzs b o v e), fun b ps e => ?_⟩
    · cases z
    · cases z
    · obtain ⟨m, q⟩ := u.tbls b ps e
      refine ⟨m, back (fun ψ z => ?_) q⟩
      cases z
  · obtain ⟨e1, e2, e3⟩ := I.pin p hp
    exact ⟨e1, none_ e2, e3⟩
  · have x := I.hok b u (by rw [upd_ne (ne e)]; exact e)
    refine x.stay (fun c v _ q => q) (fun c q => back (fun ψ z => ?_) q) (fun c xs q => back (fun ψ z => ?_) q)
    · cases z
    · cases z
end
/-- what is told of the class's __iter__, at f -/
structure IterOk (P : Program) (w : World) (K : PySem.W.Frag) (mg : Str → Option Value) (base : Heap) (C f : Addr) (g : Str) (k : Nat) : Prop where
  find : PySem.W.findIn K (.ref C) "__iter__" = some (some (.ref f))
  fn : PySem.W.isFn K (.ref f) = true
  run : ∀ (A : Around) (outer : List Env) (s : Shared) (H : Hp) (a dx : Addr) (z : Str), Room k A → Env0 P w K mg base A outer s H → H a = some (.ins C dx [(g, .str z)]) →
    codeAny (model P w) A (.call (.ref f) ⟨[.ref a], []⟩) (CR C8.CX0 outer P w H s (fun v H' => ∃ it, v = .ref it ∧ H it = none ∧ s.heap.objs.size ≤ it ∧ H' = upd H it (SItO it z)) C8.E0) s
def iOwnS (C : Addr) (g : Str) (te : TE) : TI := fun σ H R => te σ H fun v H1 => ∃ (a dx : Addr) (z : Str), v = .ref a ∧ H1 a = some (.ins C dx [(g, .str z)]) ∧ R (Its z) H1
/-- for x in e, e an instance of it -/
theorem pi_ownS {X : Cx} {tg e : Expr} {te : TE} {C f : Addr} {g : Str} {k : Nat} (T : IterOk X.prog X.w X.K X.mg X.base C f g k) (hr : Room k X.A) (he : PE X e te) : PI X tg e (iOwnS C g te) := by
  refine ⟨fun pins s σ H R I h => ?_⟩
  refine thn (he.run pins s σ H _ I h) fun v s1 hh => ?_
  obtain ⟨y, H1, I1, r1, a, dx, z, rfl, ha, q⟩ := hh
  obtain rfl : v = Value.ref a := r1
  obtain ⟨mA, O, _⟩ := ins_get I1.hok ha
  obtain ⟨od, J, _⟩ := O.look
  obtain ⟨m, hns, _⟩ := I1.loc
  have Fm : Fr X.base X.env.locals s1.heap m := ⟨hns, I1.bk, Nat.le_trans I1.ok.bsz I1.ok.above⟩
  refine PySem.W.owit_iter Fm I1.ok.mod.kin J T.find T.fn (wpAny_call (codeAny_mono (T.run X.A X.stack s1 H1 a dx z hr I1.env0 ha) fun r s2 hq => ?_))
  cases r with
  | error er => exact False.elim hq
  | ok fl =>
    cases fl with
    | ret u =>
      obtain ⟨y2, H2, I2, r2, it, rfl, hn, hs, rfl⟩ := I1.after hq
      obtain rfl : u = Value.ref it := r2
      have hob : ObjOk X.prog X.w (upd H1 it (SItO it z)) s2.heap it (SItO it z) := I2.hok it _ upd_same
      obtain ⟨⟨t, at_⟩, _, _⟩ := hob
      have I3 := untrack I2 hn
      refine sit_next at_ ⟨it, [it], _, _, H1, rfl, I3, turn_str it z t (strIterType z) (sit_type z), ⟨_, at_, rfl, rfl⟩, fun b hb => ?_, q⟩
      obtain rfl : b = it := by simpa using hb
      exact I1.fpOk hs hn
    | next => exact False.elim hq
    | brk => exact False.elim hq
    | cont => exact False.elim hq
end SB
-- R15
namespace SB
open PySem PySem.Spec PyProof.Rows L2
section
variable {X : Cx} {CX : CXT} {k : Nat} {C f : Addr} {fd : FuncData} {ps : List Str} {sp : Sp} {E : XK} {pins : List (Addr × Obj)} {σ : L2.St} {H : Hp} {s : Shared}
/-- the frame that the library's rules ask for -/
theorem frame_of (I : Inv X pins σ H s) : ∃ m, Fr X.base X.env.locals s.heap m := by
  obtain ⟨m, hns, _⟩ := I.loc
  exact ⟨m, hns, I.bk, Nat.le_trans I.ok.bsz I.ok.above⟩
/-- len(x) by the own __len__ -/
def rLenOwn (C : Addr) (sp : Sp) (E : XK) : List V → Hp → VK → Prop := fun xs H Q => ∃ (a dx : Addr) (fs : List (Str × V)), xs = [.ref a] ∧ H a = some (.ins C dx fs) ∧
  sp [.ref a] H (fun v H' => ∃ n : Int, v = .int n ∧ 0 ≤ n ∧ n < 2 ^ 63 ∧ Q (.int n) H') E
theorem call_lenOwn (hs : PySem.W.findIn X.K (.ref C) "__len__" = some (some (.ref f))) (hf : PySem.W.isFn X.K (.ref f) = true) (F : FnOk X.prog X.w X.K X.mg X.base CX k f fd ps sp) (hr : Room (k + 1) X.A) (hb : Binds X.K fd ps []) (hx : Passes CX X E) :
    CallR X (.builtin "len") (rLenOwn C sp E) := by
  intro pins s σ H xs us Q I r h
  obtain ⟨a, dx, fs, rfl, ea, q⟩ := h
  obtain ⟨u, rfl, ru⟩ := vals1 r
  obtain rfl : u = Value.ref a := ru
  obtain ⟨od, J⟩ := inst_of I ea
  obtain ⟨m, Fm⟩ := frame_of I
  refine PySem.W.len_K Fm I.ok.mod.kin J hs hf ?_
  refine thn (run_in1 (us := [.ref a]) (vs := [.ref a]) F hr hb hx I (.cons rfl .nil) q) fun u s1 hh => ?_
  obtain ⟨w, H1, I1, r1, n, rfl, h0, h1, q1⟩ := hh
  obtain ⟨t, rfl⟩ := r1
  exact ⟨⟨h0, h1⟩, .int n, H1, I1.tok _, ⟨_, rfl⟩, q1⟩
end
end SB
-- R16
namespace SB
open PySem PySem.Spec PyProof.Rows L2
/-! ### a text from its end -/
theorem fm_map {α β : Type} {f : α → Option β} {h : α → β} : ∀ xs : List α, (∀ x ∈ xs, f x = some (h x)) → xs.filterMap f = xs.map h
  | [], _ => rfl
  | a :: r, e => by
    rw [List.filterMap_cons, e a List.mem_cons_self, fm_map r fun x hx => e x (List.mem_cons_of_mem _ hx)]
    rfl
theorem rev_pick (l : List Nat) : ((List.range l.length).map fun (k : Nat) => (((l.length : Int) - 1) + (-1) * (k : Int)).toNat).filterMap (fun i => l[i]?) = l.reverse := by
  rw [List.filterMap_map, fm_map (h := fun k => l.getD (l.length - 1 - k) 0)]
  · refine List.ext_getElem (by simp) fun k h2 h3 => ?_
    rw [List.getElem_map, List.getElem_range, List.getElem_reverse, List.getD_eq_getElem?_getD, List.getElem?_eq_getElem (by simp at h2; omega)]
    rfl
  · intro k hk
    have hk' : k < l.length := List.mem_range.mp hk
    have e : (((l.length : Int) - 1) + (-1) * (k : Int)).toNat = l.length - 1 - k := by omega
    show l[(((l.length : Int) - 1) + (-1) * (k : Int)).toNat]? = some (l.getD (l.length - 1 - k) 0)
    rw [e, List.getD_eq_getElem?_getD, List.getElem?_eq_getElem (by omega)]
    rfl
theorem rev_indices (n : Nat) : Builtin.Str.strSliceIndices none none (-1) n = (List.range n).map fun (k : Nat) => (((n : Int) - 1) + (-1) * (k : Int)).toNat := by
  have h1 : ((-1 : Int) > 0) = False := by simp
  show sliceRange (if (-1 : Int) > 0 then 0 else (n : Int) - 1) (if (-1 : Int) > 0 then (n : Int) else -1) (-1) = _
  simp only [h1, if_false]
  unfold sliceRange
  simp only [h1, if_false]
  have e1 : (- -1 : Int) = 1 := by decide
  have hc : (if (n : Int) - 1 > -1 then ((n : Int) - 1 - -1 - -1 - 1) / - -1 else 0).toNat = n := by
    by_cases hn : n = 0
    · subst hn
      rfl
    · rw [if_pos (by omega), e1, Int.ediv_one]
      omega
  rw [hc]
def revS (z : Str) : Str := T z.cps.toList.reverse
section
variable {X : Cx}
/-- e[::st], e a text, st -1 -/
theorem pe_revS {e st : Expr} {te ts : TE} {p2 pos : Pos} (he : PE X e te) (hst : PE X st ts) :
    PE X (.Subscript e (.Slice none none (some st) p2) pos) (fun σ H Q => te σ H fun x H1 => ts σ H1 fun y H2 => ∃ z : Str, x = .str z ∧ y = .int (-1) ∧ z.length ≤ sizeLine ∧ Q (.str (revS z)) H2) := by
  refine ⟨fun pins s σ H Q I h => ?_⟩
  refine Subscript_ (thn (he.run pins s σ H _ I h) fun v s1 hh => ?_)
  obtain ⟨x, H1, I1, r1, q1⟩ := hh
  refine wpAny_Slice ?_
  rw [evalPart_none, evalPart_some]
  refine wpAny_pure (wpAny_pure (thn (hst.run pins s1 σ H1 _ I1 q1) fun u s2 hh => ?_))
  obtain ⟨y, H2, I2, r2, z, rfl, rfl, hz, q⟩ := hh
  obtain ⟨t, rfl⟩ := r1
  obtain ⟨t2, rfl⟩ := r2
  have I4 : Inv X pins σ H2 { s2 with heap := s2.heap.push { cls := .type "slice", data := .fields #[.none, .none, .int (-1) t2] } } := I2.kept (t' := s2.toks) fun b ob q => Heap.get?_push_of_some _ q
  refine tail_any (ops := [.ref s2.heap.objs.size, .str z t]) (typeIs_str _ _ _) F.slot_str_getitem.lookup (wpAny_getItem_str_slice (l := none) (u := none) (st := some (-1, t2)) ⟨_, Heap.get?_push_size _ rfl, rfl, rfl⟩ rfl ?_) (by with_unfolding_all rfl)
  have hrev : (((Builtin.Str.strSliceIndices none none (-1) z.length).filterMap (z.cps[·]?)).toArray : Array Nat) = (z.cps.toList.reverse).toArray := by
    rw [rev_indices]
    congr 1
    have := rev_pick z.cps.toList
    rw [show z.cps.toList.length = z.length from rfl] at this
    simpa using this
  show Made.post (if ((-1 : Int) == 1 && (Builtin.Str.strSliceIndices none none (-1) z.length).length == z.length) = true then Made.val (.str z t)
    else Made.str ⟨((Builtin.Str.strSliceIndices none none (-1) z.length).filterMap (z.cps[·]?)).toArray⟩) (EP X pins σ Q) _
  rw [if_neg (by simp), hrev]
  refine ⟨?_, .str (revS z), H2, I4.tok _, ⟨_, rfl⟩, q⟩
  show z.cps.toList.reverse.toArray.size ≤ sizeLine
  rw [List.size_toArray, List.length_reverse]
  exact hz
end
end SB
-- R17
namespace SB
open PySem PySem.Spec PyProof.Rows L2
section
variable {X : Cx} {CX : CXT} {k : Nat} {C f : Addr} {fd : FuncData} {ps : List Str} {sp : Sp} {E : XK} {pins : List (Addr × Obj)} {σ : L2.St} {H : Hp} {s : Shared}
/-- a def called with two values from where we stand -/
theorem run_two {Q : VK} {u v : Value} {x y : V} (F : FnOk X.prog X.w X.K X.mg X.base CX k f fd ps sp) (hr : Room k X.A) (hb : Binds X.K fd ps []) (hx : Passes CX X E) (I : Inv X pins σ H s) (rx : RelV x u) (ry : RelV y v) (h : sp [x, y] H Q E) :
    wpAny (model X.prog X.w) X.A (call (.ref f) [u, v]) (EP X pins σ Q) X.xe s := run_at F hr I.env0 hb hx I (.cons rx (.cons ry .nil)) h
/-- the class of a value, looked up -/
theorem looks_ty {x : V} {u t : Value} (I : Inv X pins σ H s) (rx : RelV x u) (ty : TyX X.K H x t) : PySem.W.Looks (model X.prog X.w) s.heap (typeOf u) t := by
  obtain ⟨P, kx, hp, _⟩ := kit_of I rx ty
  exact kx.ty _ _ I.kIn hp
/-- x == y by x's own __eq__, y any value -/
def rEqOwn (K : PySem.W.Frag) (C : Addr) (sp : Sp) (E : XK) : R2 := fun x y H Q => ∃ (a dx : Addr) (fs : List (Str × V)) (t : Value), x = .ref a ∧ H a = some (.ins C dx fs) ∧ TyX K H y t ∧ PySem.W.notFirst K C t = true ∧
  sp [x, y] H (fun v H' => ∃ r, v = .bl r ∧ Q (.bl r) H') E
theorem op_eqOwn (hs : PySem.W.findIn X.K (.ref C) "__eq__" = some (some (.ref f))) (hf : PySem.W.isFn X.K (.ref f) = true) (F : FnOk X.prog X.w X.K X.mg X.base CX k f fd ps sp) (hr : Room (k + 1) X.A) (hb : Binds X.K fd ps []) (hx : Passes CX X E) :
    OpR X (compareOp .Eq) (rEqOwn X.K C sp E) := by
  intro pins s σ H x y u v Q I rx ry h
  obtain ⟨a, dx, fs, t, rfl, ea, ty, nf, q⟩ := h
  obtain rfl : u = Value.ref a := rx
  obtain ⟨od, J⟩ := inst_of I ea
  obtain ⟨m, Fm⟩ := frame_of I
  have un := hr.un
  show wpAny _ _ (richCompare .Eq (.ref a) v) _ _ _
  refine PySem.W.cmp_K (op := .Eq) (by omega) Fm I.ok.mod.kin J (looks_ty I ry ty) nf hs hf ?_
  refine thn (run_two (x := .ref a) F (hr.mono (by omega)) hb hx I rfl ry q) fun w s1 hh => ?_
  obtain ⟨z, H1, I1, r1, r, rfl, q1⟩ := hh
  obtain rfl : w = Value.bool r := r1
  exact ⟨.bl r, H1, I1, rfl, q1⟩
/-- x * y by the own __mul__ of both -/
def rMulOwn (C : Addr) (sp : Sp) (E : XK) : R2 := fun x y H Q => ∃ (a b dx dy : Addr) (fs gs : List (Str × V)), x = .ref a ∧ y = .ref b ∧ H a = some (.ins C dx fs) ∧ H b = some (.ins C dy gs) ∧
  sp [x, y] H (fun v H' => ∃ c, v = .ref c ∧ Q (.ref c) H') E
theorem op_mulOwn (hc : PySem.W.selfFirst X.K C = true) (hs : PySem.W.findIn X.K (.ref C) "__mul__" = some (some (.ref f))) (hf : PySem.W.isFn X.K (.ref f) = true) (F : FnOk X.prog X.w X.K X.mg X.base CX k f fd ps sp) (hr : Room k X.A) (hb : Binds X.K fd ps []) (hx : Passes CX X E) :
    OpR X (binaryOp .Mult) (rMulOwn C sp E) := by
  intro pins s σ H x y u v Q I rx ry h
  obtain ⟨a, b, dx, dy, fs, gs, rfl, rfl, ea, eb, q⟩ := h
  obtain rfl : u = Value.ref a := rx
  obtain rfl : v = Value.ref b := ry
  obtain ⟨od, J⟩ := inst_of I ea
  obtain ⟨od2, J2⟩ := inst_of I eb
  obtain ⟨m, Fm⟩ := frame_of I
  refine PySem.W.binop_K (op := .Mult) Fm I.ok.mod.kin J J2.type hc hs hf ?_
  refine thn (run_two (x := .ref a) (y := .ref b) F hr hb hx I rfl rfl q) fun w s1 hh => ?_
  obtain ⟨z, H1, I1, r1, c, rfl, q1⟩ := hh
  obtain rfl : w = Value.ref c := r1
  exact ⟨.ref c, H1, I1, rfl, q1⟩
/-- ~x by the own __invert__ -/
def rInvOwn (C : Addr) (sp : Sp) (E : XK) : V → Hp → VK → Prop := fun x H Q => ∃ (a dx : Addr) (fs : List (Str × V)), x = .ref a ∧ H a = some (.ins C dx fs) ∧ sp [x] H Q E
theorem un_invOwn (hs : PySem.W.findIn X.K (.ref C) "__invert__" = some (some (.ref f))) (hf : PySem.W.isFn X.K (.ref f) = true) (F : FnOk X.prog X.w X.K X.mg X.base CX k f fd ps sp) (hr : Room k X.A) (hb : Binds X.K fd ps []) (hx : Passes CX X E) :
    UnR X (unaryOp .Invert) (rInvOwn C sp E) := by
  intro pins s σ H x v Q I rx h
  obtain ⟨a, dx, fs, rfl, ea, q⟩ := h
  obtain rfl : v = Value.ref a := rx
  obtain ⟨od, J⟩ := inst_of I ea
  obtain ⟨m, Fm⟩ := frame_of I
  exact PySem.W.ksp_inv Fm I.ok.mod.kin J hs hf (run_at (vs := [.ref a]) F hr I.env0 hb hx I (.cons rfl .nil) q)
end
end SB
-- R18
namespace SB
open PySem PySem.Spec PyProof.Rows L2
section
variable {prog : Program} {w : World} {A : Around} {E : Value → Shared → Prop} {h : Heap} {g : Array GenState} {d : Drawn} {t : Nat} {os : OsState} {C x f : Addr} {B : String} {bm : List Value} {b : Value}
/-- object.__ne__ where the class tells its own __eq__ -/
theorem ne_entry (T : h.OwnEqNoNe x C f B bm) (hu : A.units < cLine) {Q : PySem.Fin → Shared → Prop}
    (hq : wpAny (model prog w) A (call (.ref f) [.ref x, b]) (fun v s' => ∃ r, v = .bool r ∧ Q (.done (.ret (.bool (!r)))) s') E ⟨h, g, d, t, os⟩) :
    wpAny (model prog w) A (Builtin.«object.__ne__» ⟨[.ref x, b], []⟩) Q E ⟨h, g, d, t, os⟩ := by
  unfold Builtin.«object.__ne__»
  repeat (first | (with_reducible refine wpAny_cRoomFor hu ?_) | (refine wpAny_bind (m := callSpecialIfBound? (.ref x) (Str.ofString "__eq__") [b]) (wpAny_callSpecialIfBound?_own T.ownEq (wpAny_mono hq (fun v s' hv => by
    obtain ⟨c, rfl, hc⟩ := hv
    repeat (first | exact hc | exact wpAny_pure hc | exact wpAny_truthy_bool hc | (refine wpAny_bind (m := truthy (.bool _)) (wpAny_truthy_bool ?_)) | wp_step)) fun _ _ z => z))) | wp_step)
theorem ne_try (FB : CmpFacts B bm) (T : h.OwnEqNoNe x C f B bm) (hu : A.units + 1 < cLine) {Q : Option Value → Shared → Prop}
    (hq : wpAny (model prog w) A.in1 (call (.ref f) [.ref x, b]) (fun v s' => ∃ r, v = .bool r ∧ Q (some (.bool (!r))) s') E ⟨h, g, d, t, os⟩) :
    wpAny (model prog w) A (tryCompare (.ref x) "__ne__" b) Q E ⟨h, g, d, t, os⟩ := by
  have T' := T
  obtain ⟨o, of, nm, q, N, bs, hdct, sn, sub, ab, col, dd, k0, k1, k2, k3, k5, newId, mN, yv, hx, hc, hC, hn, _, _, _, _, _, hne⟩ := T'
  simp only [tryCompare]
  have entry := ne_entry (A := A.in1) T hu (b := b) (Q := fun fin s' => ∃ r : Bool, fin = .done (.ret (.bool (!r))) ∧ Q (some (.bool (!r))) s') (wpAny_mono hq (fun v s' hv => by
    obtain ⟨r, rfl, hr⟩ := hv
    exact ⟨r, rfl, r, rfl, hr⟩) fun _ _ e => e)
  refine wpAny_bind (wpAny_callSpecialIfBound?_inst hx hc hC hn hne FB.mro FB.ne (wpAny_call (codeAny_call_builtin FB.ne.plain F.cmpEntry_ne (wpAny_check_slot_inst F.cmpKind_ne F.cmpSplit_ne (F.cmpArgs_ne (.ref x) b) FB.hasObject hx hc hC (wpAny_mono entry (fun fin s' hv => ?_) fun _ _ e => e)))))
  obtain ⟨r, rfl, hr⟩ := hv
  exact wpAny_pure hr
/-- x != b by the own __eq__, b of another kind -/
theorem ne_other (FB : CmpFacts B bm) (T : h.OwnEqNoNe x C f B bm) {tb : Value} (hb : PySem.W.Looks (model prog w) h (typeOf b) tb) (hsub : PySem.W.Looks (model prog w) h (isSubtype tb (.ref C)) false) (hne : (Value.ref C != tb) = true) (hu : A.units + 1 < cLine) {Q : Value → Shared → Prop}
    (hq : wpAny (model prog w) A.in1 (call (.ref f) [.ref x, b]) (fun v s' => ∃ r, v = .bool r ∧ Q (.bool (!r)) s') E ⟨h, g, d, t, os⟩) :
    wpAny (model prog w) A (compareOp .NotEq (.ref x) b) Q E ⟨h, g, d, t, os⟩ := by
  have T' := T
  obtain ⟨o, of, nm, q, N, bs, hdct, sn, sub, ab, col, dd, k0, k1, k2, k3, k5, newId, mN, yv, hx, hc, _⟩ := T'
  show wpAny (model prog w) A (richCompare .NotEq (.ref x) b) Q E ⟨h, g, d, t, os⟩
  unfold richCompare
  simp only [oneThing_ref]
  refine wpAny_holding (wpAny_bind (wpAny_cRoomFor (by omega) ?_))
  rw [cmpInfo_NotEq]
  dsimp only
  refine wpAny_bind (wpAny_typeOf_ref hx ?_)
  rw [hc]
  refine wpAny_bind (hb.here ?_)
  rw [hne]
  simp only [if_true]
  refine wpAny_bind (hsub.here ?_)
  simp only [Bool.false_eq_true, if_false]
  refine wpAny_bind (ne_try FB T hu (wpAny_mono hq (fun v s' hv => ?_) fun _ _ e => e))
  obtain ⟨r, rfl, hr⟩ := hv
  exact ⟨r, rfl, wpAny_pure hr⟩
end
section
variable {X : Cx} {CX : CXT} {k : Nat} {C f : Addr} {fd : FuncData} {ps : List Str} {sp : Sp} {E : XK}
theorem own_eq {pins : List (Addr × Obj)} {σ : L2.St} {H : Hp} {s : Shared} {a dx : Addr} {fs : List (Str × V)} (T : EqC X.K C f) (I : Inv X pins σ H s) (ea : H a = some (.ins C dx fs)) : s.heap.OwnEqNoNe a C f "object" [.type "object"] := by
  obtain ⟨nm, qn, N, bs, hdct, sn, sub, ab, col, dd, k0, k1, k2, k3, k5, newId, lk, ok, e1, e2⟩ := T.obj
  have KX := I.kIn
  obtain ⟨_, _, _, oa, _⟩ := (show ObjOk X.prog X.w H s.heap a (.ins C dx fs) from I.hok a _ ea)
  have hns : s.heap.Ns N (s.heap.nsMap N) := .of_isNs (PySem.W.isNs_of_in KX ok)
  have m1 : s.heap.nsMap N "__eq__" = some (.ref f) := ns_has KX hns e1
  have m2 : s.heap.nsMap N "__ne__" = none := PySem.W.ns_none_of KX hns e2
  obtain ⟨o, ho, hc⟩ := Option.map_eq_some_iff.mp (show (X.K.lookup f).map (·.cls) = some (.type "function") from beq_iff_eq.mp T.fn)
  exact ⟨_, o, nm, qn, N, bs, hdct, sn, sub, ab, col, dd, k0, k1, k2, k3, k5, newId, _, _, oa, rfl, KX _ _ lk, hns, m1, KX _ _ ho, hc, PySem.F.mro_object, rfl, m2⟩
/-- x != y by x's own __eq__, y of another kind -/
def rNeOther (K : PySem.W.Frag) (C : Addr) (sp : Sp) (E : XK) : R2 := fun x y H Q => ∃ (a dx : Addr) (fs : List (Str × V)) (t : Value), x = .ref a ∧ H a = some (.ins C dx fs) ∧ TyX K H y t ∧ PySem.W.subIn K t (.ref C) = some false ∧ (Value.ref C != t) = true ∧
  sp [x, y] H (fun v H' => ∃ r, v = .bl r ∧ Q (.bl (!r)) H') E
theorem op_neOther (T : EqC X.K C f) (F : FnOk X.prog X.w X.K X.mg X.base CX k f fd ps sp) (hr : Room (k + 1) X.A) (hb : Binds X.K fd ps []) (hx : Passes CX X E) : OpR X (compareOp .NotEq) (rNeOther X.K C sp E) := by
  intro pins s σ H x y u v Q I rx ry h
  obtain ⟨a, dx, fs, t, rfl, ea, ty, hs, hn, q⟩ := h
  obtain rfl : u = Value.ref a := rx
  have own := own_eq T I ea
  have lt := looks_ty I ry ty
  have ls : PySem.W.Looks (model X.prog X.w) s.heap (isSubtype t (.ref C)) false := PySem.W.looks_subIn I.kIn hs
  have un := hr.un
  obtain ⟨hp, g, d, tk, os⟩ := s
  refine ne_other PySem.F.cmp_object own lt ls hn (by omega) ?_
  refine thn (run_in1 (us := [.ref a, v]) (vs := [.ref a, y]) F hr hb hx I (.cons rfl (.cons ry .nil)) q) fun w s1 hh => ?_
  obtain ⟨z, H1, I1, r1, r, rfl, q1⟩ := hh
  obtain rfl : w = Value.bool r := r1
  exact ⟨r, rfl, .bl (!r), H1, I1, rfl, q1⟩
/-- x * y by x's own __mul__, which raises, y of a built-in kind -/
theorem mul_type {pins : List (Addr × Obj)} {σ : L2.St} {H : Hp} {s : Shared} {a : Addr} {ox : Obj} {od : Option Obj} {b : Value} {T : String} {fo ro rc : Option Value} {Q : Value → Shared → Prop} {Er : Value → Shared → Prop} (I : Inv X pins σ H s) (J : PySem.W.InstAt s.heap a ox C od)
    (lb : PySem.W.Looks (model X.prog X.w) s.heap (typeOf b) (.type T)) (hc : PySem.W.selfFirst X.K C = true) (hs : PySem.W.findIn X.K (.ref C) "__mul__" = some (some (.ref f))) (hf : PySem.W.isFn X.K (.ref f) = true) (hr : PySem.W.findIn X.K (.ref C) "__rmul__" = some rc) (hp : rc = none ∨ ∃ g : Addr, rc = some (.ref g))
    (h1 : PySem.W.findIn X.K (.type T) "__mul__" = some fo) (h2 : PySem.W.findIn X.K (.type T) "__rmul__" = some ro) (hsub : PySem.W.subIn X.K (.type T) (.ref C) = some false)
    (hq : wpAny (model X.prog X.w) X.A (call (.ref f) [.ref a, b]) (PySem.W.CmpBack Q) Er s) : wpAny (model X.prog X.w) X.A (binaryOp .Mult (.ref a) b) Q Er s := by
  have KX := I.kIn
  obtain ⟨cd, rest, hcd, hm⟩ := PySem.W.ksp_first hc
  have one := PySem.W.ksp_try (Q := Q) KX J hs hf hq
  obtain ⟨hh, g, d, tt, os⟩ := s
  have la : PySem.W.Looks (model X.prog X.w) hh (typeOf (.ref a)) (.ref C) := J.type
  have lb' : PySem.W.Looks (model X.prog X.w) hh (typeOf b) (.type T) := lb
  have lf : PySem.W.Looks (model X.prog X.w) hh (fillsNumberSlot (.ref C) "mul") true := PySem.W.fills_K KX hcd hm hs
  have lg : PySem.W.Looks (model X.prog X.w) hh (fillsNumberSlot (.type T) "mul") ((fo.isSome && !isSeqSlot fo) || (ro.isSome && !isSeqSlot ro)) := PySem.W.ksp_fillsT KX h1 h2
  have ls : PySem.W.Looks (model X.prog X.w) hh (isSubtype (.type T) (.ref C)) false := PySem.W.looks_subIn KX hsub
  have lp : PySem.W.Looks (model X.prog X.w) hh (numberSlotInPython (.ref C) "mul") true := PySem.W.ksp_inPy KX hs hr hp
  have ln : PySem.W.Looks (model X.prog X.w) hh (numberSlotInPython (.type T) "mul") false := PySem.W.Looks.of_pure rfl
  have lr : PySem.W.Looks (model X.prog X.w) hh (typeLookup (.type T) (dunderR "mul")) ro := PySem.W.looks_findIn KX h2
  generalize ((fo.isSome && !isSeqSlot fo) || (ro.isSome && !isSeqSlot ro)) = right at lg
  have other : (Value.ref C == Value.type T) = false := Bool.eq_false_iff.mpr fun z => by cases beq_iff_eq.mp z
  have op : Operator.Mult.info = ("*", "mul") := rfl
  simp only [binaryOp, op]
  refine wpAny_holding (wpAny_bind ?_)
  unfold binaryOp1
  refine wpAny_bind (la.at (wpAny_bind (lb'.at (wpAny_bind (lf.at ?_)))))
  simp only [other, Bool.false_eq_true, if_false]
  cases right <;> (ksp_lk; refine wpAny_mono one (fun r s' z => ?_) fun _ _ e => e; obtain ⟨v, rfl, hv⟩ := z; ksp_lk; exact hv)
end
end SB
-- R19
namespace SB
open PySem PySem.Spec PyProof.Rows L2
section
variable {X : Cx} {CX : CXT} {k : Nat} {C f : Addr} {fd : FuncData} {ps ks : List Str} {sp : Sp} {E : XK} {o : Expr} {kws : List Keyword} {m : Str} {pos apos : Pos} {ta : TE} {tk : TA} {pl : Sem Bool}
variable {gg : List Value → List Value → List Value} {gV : List V → List V → List V}
def tMethK (C : Addr) (m : Str) (sp : Sp) (gV : List V → List V → List V) (E : XK) (n : Nat) (ta : TE) (tk : TA) : TE := fun σ H Q => ta σ H fun x H1 => ∃ (a dx : Addr) (fs : List (Str × V)), x = .ref a ∧ H1 a = some (.ins C dx fs) ∧ fs.lookup m = none ∧
  tk σ H1 fun zs H2 => zs.length = n ∧ sp (gV [.ref a] zs) H2 Q E
/-- o.m(k = e), m a method -/
theorem pe_methK (he : PE X o ta) (c : Cls X.K C) (hm : Meth X.K C m f) (F : FnOk X.prog X.w X.K X.mg X.base CX k f fd ps sp) (hr : Room k X.A) (hb : KBn X.K fd ps 1 ks gg gV) (hx : Passes CX X E) (hkw : PK X kws tk)
    (hall : (backToKw pos (keywordEach kws X.env)).all (·.1.isSome) = true := by rfl) (hks : (backToKw pos (keywordEach kws X.env)).filterMap (·.1) = ks := by rfl)
    (hpl : ((backTo pos (starEach [] X.env)).any (·.1) || (backToKw pos (keywordEach kws X.env)).any (·.1.isNone)) = false := by rfl)
    (ht : eval (.Call (.Attribute o m apos) [] kws pos) X.env = (do
      let ov ← eval o X.env
      standAt apos.atName
      let (f, first) ← holding [ov] (getMethod ov m pl)
      callWith pos f first (backTo pos (starEach [] X.env)) (backToKw pos (keywordEach kws X.env))) := by rfl) :
    PE X (.Call (.Attribute o m apos) [] kws pos) (tMethK C m sp gV E ks.length ta tk) := by
  constructor
  intro pins s σ H Q I h
  refine PySem.W.methodCall_KW (pl := pl) (thn (he.run pins s σ H _ I h) fun u s1 hh => ?_) ht
  obtain ⟨x, H1, I1, rx, a, dx, fs, rfl, ea, l, q⟩ := hh
  obtain rfl : u = Value.ref a := rx
  refine getmeth_ok I1 ea c hm l ?_
  refine PySem.W.callWith_KW0 (first := [.ref a]) (h₀ := X.base) I1.ok.mod.kin hm.kp hall ?_ hpl
  refine thn (hkw.run pos pins s1 σ H1 _ I1 q) fun ws s3 h3 => ?_
  obtain ⟨zs, H2, I3, rz, l2, q2⟩ := h3
  refine ⟨I3.kIn, ?_⟩
  rw [hks]
  exact run_fnN (us := [.ref a]) (vs := [.ref a]) F hr hb hx I3 (.cons rfl .nil) rz rfl l2 q2
end
end SB
-- R20
namespace SB
open PySem PySem.Spec PyProof.Rows L2
/-- what * asks of an own class whose other operand is of a built-in kind -/
structure MulC (K : PySem.W.Frag) (C : Addr) : Prop where
  ex : ∃ rc : Option Value, PySem.W.findIn K (.ref C) "__rmul__" = some rc ∧ (rc = none ∨ ∃ g : Addr, rc = some (.ref g))
/-- what it asks of the built-in kind -/
structure MulT (K : PySem.W.Frag) (C : Addr) (T : String) : Prop where
  ex : ∃ fo ro : Option Value, PySem.W.findIn K (.type T) "__mul__" = some fo ∧ PySem.W.findIn K (.type T) "__rmul__" = some ro
  sub : PySem.W.subIn K (.type T) (.ref C) = some false
section
variable {X : Cx} {CX : CXT} {k : Nat} {C f : Addr} {fd : FuncData} {ps : List Str} {sp : Sp} {E : XK}
/-- x * y by x's own __mul__, y of a built-in kind: it raises -/
def rMulOther (K : PySem.W.Frag) (C : Addr) (sp : Sp) (E : XK) : R2 := fun x y H Q => ∃ (a dx : Addr) (fs : List (Str × V)) (T : String), x = .ref a ∧ H a = some (.ins C dx fs) ∧ TyX K H y (.type T) ∧ MulT K C T ∧
  sp [x, y] H (fun _ _ => False) E
theorem op_mulOther {K : PySem.W.Frag} (mC : MulC K C) (hK : X.K = K) (hc : PySem.W.selfFirst K C = true) (hs : PySem.W.findIn K (.ref C) "__mul__" = some (some (.ref f))) (hf : PySem.W.isFn K (.ref f) = true) (F : FnOk X.prog X.w X.K X.mg X.base CX k f fd ps sp) (hr : Room k X.A) (hb : Binds X.K fd ps []) (hx : Passes CX X E) :
    OpR X (binaryOp .Mult) (rMulOther K C sp E) := by
  subst hK
  intro pins s σ H x y u v Q I rx ry h
  obtain ⟨a, dx, fs, T, rfl, ea, ty, MT, q⟩ := h
  obtain rfl : u = Value.ref a := rx
  obtain ⟨od, J⟩ := inst_of I ea
  obtain ⟨rc, hrc, hp⟩ := mC.ex
  obtain ⟨fo, ro, h1, h2⟩ := MT.ex
  refine mul_type I J (looks_ty I ry ty) hc hs hf hrc hp h1 h2 MT.sub ?_
  refine thn (run_two (x := .ref a) F hr hb hx I rfl ry q) fun w s1 hh => ?_
  obtain ⟨z, H1, I1, r1, q1⟩ := hh
  exact q1.elim
end
end SB
-- R21
namespace SB
open PySem PySem.Spec PyProof.Rows L2
/-! ### the order of own things, of pairs of an int and a text -/
section
variable {X : Cx} {CX : CXT} {k : Nat} {C f : Addr} {fd : FuncData} {ps : List Str} {sp : Sp} {E : XK}
/-- x < y (and its kind) by x's own method, both of one class -/
def rOrdOwn (C : Addr) (sp : Sp) (E : XK) : R2 := fun x y H Q => ∃ (a b dx dy : Addr) (fs gs : List (Str × V)), x = .ref a ∧ y = .ref b ∧ H a = some (.ins C dx fs) ∧ H b = some (.ins C dy gs) ∧
  sp [x, y] H (fun v H' => ∃ r, v = .bl r ∧ Q (.bl r) H') E
theorem rich_own {op : CmpOp} (nf : PySem.W.notFirst X.K C (.ref C) = true) (hs : PySem.W.findIn X.K (.ref C) (cmpInfo op).2.1 = some (some (.ref f))) (hf : PySem.W.isFn X.K (.ref f) = true) (F : FnOk X.prog X.w X.K X.mg X.base CX k f fd ps sp) (hr : Room (k + 1) X.A) (hb : Binds X.K fd ps []) (hx : Passes CX X E) :
    OpR X (richCompare op) (rOrdOwn C sp E) := by
  intro pins s σ H x y u v Q I rx ry h
  obtain ⟨a, b, dx, dy, fs, gs, rfl, rfl, ea, eb, q⟩ := h
  obtain rfl : u = Value.ref a := rx
  obtain rfl : v = Value.ref b := ry
  obtain ⟨od, J⟩ := inst_of I ea
  obtain ⟨od2, J2⟩ := inst_of I eb
  obtain ⟨m, Fm⟩ := frame_of I
  have un := hr.un
  refine PySem.W.cmp_K (op := op) (by omega) Fm I.ok.mod.kin J J2.type nf hs hf ?_
  refine thn (run_two (x := .ref a) (y := .ref b) F (hr.mono (by omega)) hb hx I rfl rfl q) fun w s1 hh => ?_
  obtain ⟨z, H1, I1, r1, r, rfl, q1⟩ := hh
  obtain rfl : w = Value.bool r := r1
  exact ⟨.bl r, H1, I1, rfl, q1⟩
theorem op_ltOwn (nf : PySem.W.notFirst X.K C (.ref C) = true) (hs : PySem.W.findIn X.K (.ref C) "__lt__" = some (some (.ref f))) (hf : PySem.W.isFn X.K (.ref f) = true) (F : FnOk X.prog X.w X.K X.mg X.base CX k f fd ps sp) (hr : Room (k + 1) X.A) (hb : Binds X.K fd ps []) (hx : Passes CX X E) :
    OpR X (compareOp .Lt) (rOrdOwn C sp E) := rich_own (op := .Lt) nf hs hf F hr hb hx
theorem op_leOwn (nf : PySem.W.notFirst X.K C (.ref C) = true) (hs : PySem.W.findIn X.K (.ref C) "__le__" = some (some (.ref f))) (hf : PySem.W.isFn X.K (.ref f) = true) (F : FnOk X.prog X.w X.K X.mg X.base CX k f fd ps sp) (hr : Room (k + 1) X.A) (hb : Binds X.K fd ps []) (hx : Passes CX X E) :
    OpR X (compareOp .LtE) (rOrdOwn C sp E) := rich_own (op := .LtE) nf hs hf F hr hb hx
theorem op_gtOwn (nf : PySem.W.notFirst X.K C (.ref C) = true) (hs : PySem.W.findIn X.K (.ref C) "__gt__" = some (some (.ref f))) (hf : PySem.W.isFn X.K (.ref f) = true) (F : FnOk X.prog X.w X.K X.mg X.base CX k f fd ps sp) (hr : Room (k + 1) X.A) (hb : Binds X.K fd ps []) (hx : Passes CX X E) :
    OpR X (compareOp .Gt) (rOrdOwn C sp E) := rich_own (op := .Gt) nf hs hf F hr hb hx
theorem op_geOwn (nf : PySem.W.notFirst X.K C (.ref C) = true) (hs : PySem.W.findIn X.K (.ref C) "__ge__" = some (some (.ref f))) (hf : PySem.W.isFn X.K (.ref f) = true) (F : FnOk X.prog X.w X.K X.mg X.base CX k f fd ps sp) (hr : Room (k + 1) X.A) (hb : Binds X.K fd ps []) (hx : Passes CX X E) :
    OpR X (compareOp .GtE) (rOrdOwn C sp E) := rich_own (op := .GtE) nf hs hf F hr hb hx
/-- (n, z) op (m, v): g of the codes decides where n = m, o of the ints elsewhere -/
def rOrdIS (K : PySem.W.Frag) (o : Int → Int → Bool) (g : List Nat → List Nat → Bool) : R2 := fun x y H Q => ∃ (a b : Addr) (n m : Int) (z v : Str), x = .ref a ∧ y = .ref b ∧ SqT K H a [.int n, .str z] ∧ SqT K H b [.int m, .str v] ∧
  Q (.bl (if n = m then g z.cps.toList v.cps.toList else o n m)) H
theorem rc_lt_str {A : Around} {s : Shared} (x y : Str) (t u : Tok) : Ob.RcOp .Lt A s (.str x t) (.str y u) (decide (x.cps.toList < y.cps.toList)) := fun _ _ _ _ h => PySem.P.lt_str h
theorem rc_le_str {A : Around} {s : Shared} (x y : Str) (t u : Tok) : Ob.RcOp .LtE A s (.str x t) (.str y u) (!decide (y.cps.toList < x.cps.toList)) := fun _ _ _ _ h => PySem.P.le_str h
theorem rc_gt_str {A : Around} {s : Shared} (x y : Str) (t u : Tok) : Ob.RcOp .Gt A s (.str x t) (.str y u) (decide (y.cps.toList < x.cps.toList)) := fun _ _ _ _ h => PySem.P.gt_str h
theorem rc_ge_str {A : Around} {s : Shared} (x y : Str) (t u : Tok) : Ob.RcOp .GtE A s (.str x t) (.str y u) (!decide (x.cps.toList < y.cps.toList)) := fun _ _ _ _ h => PySem.P.ge_str h
theorem lex_two {n m : Int} {z v : Str} {o : Int → Int → Bool} {g : List Nat → List Nat → Bool} {e0 : Bool} (he : z = v → g z.cps.toList v.cps.toList = e0) :
    Ob.lexAt (fun j => if j = 0 then decide (n = m) else decide (z = v)) (fun j => if j = 0 then o n m else g z.cps.toList v.cps.toList) e0 0 2 = if n = m then g z.cps.toList v.cps.toList else o n m := by
  rw [Ob.lexAt_succ, Ob.lexAt_succ, Ob.lexAt_zero]
  simp only [if_true, Nat.zero_add, Nat.one_ne_zero, if_false, decide_eq_true_eq]
  by_cases h : n = m
  · rw [if_pos h, if_pos h]
    by_cases hz : z = v
    · rw [if_pos hz, he hz]
    · rw [if_neg hz]
  · rw [if_neg h, if_neg h]
theorem pair_vals {n : Int} {z : Str} {its : List Value} (r : Vals [.int n, .str z] its) : ∃ t u, its = [.int n t, .str z u] := by
  cases r with
  | cons r1 r2 =>
    cases r2 with
    | cons r2 r3 =>
      cases r3
      obtain ⟨t, rfl⟩ := r1
      obtain ⟨u, rfl⟩ := r2
      exact ⟨t, u, rfl⟩
theorem ord_IS {op : CmpOp} {o : Int → Int → Bool} {g : List Nat → List Nat → Bool} {e0 : Bool} (hop : ∀ u v, compareOp op u v = richCompare op u v)
    (tuples : ∀ {A : Around} {s : Shared} {l b : Addr} {items items2 : Array Value} {e r : Nat → Bool}, s.heap.IsTuple l items → s.heap.IsTuple b items2 → A.units < cLine →
      (∀ j (h1 : j < items.size) (h2 : j < items2.size), SeqAt.EqAt A.in1 s items[j] items2[j] (e j)) → (∀ j (h1 : j < items.size) (h2 : j < items2.size), e j = false → Ob.RcOp op A.in1 s items[j] items2[j] (r j)) →
      items.size = 2 → items2.size = 2 → Ob.RcOp op A s (.ref l) (.ref b) (Ob.lexAt e r e0 0 2))
    (hint : ∀ {A : Around} {s : Shared} (a b : Int) (t u : Tok), Ob.RcOp op A s (.int a t) (.int b u) (o a b)) (hstr : ∀ {A : Around} {s : Shared} (x y : Str) (t u : Tok), Ob.RcOp op A s (.str x t) (.str y u) (g x.cps.toList y.cps.toList))
    (he : ∀ l : List Nat, g l l = e0) (hu : X.A.units < cLine) : OpR X (compareOp op) (rOrdIS X.K o g) := by
  intro pins s σ H x y v u Q I rx ry h
  obtain ⟨a, b, n, m, z, w, rfl, rfl, ha, hb, q⟩ := h
  cases rx
  cases ry
  obtain ⟨its, r1, p1, _⟩ := I.tuple ha
  obtain ⟨its2, r2, p2, _⟩ := I.tuple hb
  obtain ⟨t1, u1, rfl⟩ := pair_vals r1
  obtain ⟨t2, u2, rfl⟩ := pair_vals r2
  have R := tuples (A := X.A) (s := s) (e := fun j => if j = 0 then decide (n = m) else decide (z = w)) (r := fun j => if j = 0 then o n m else g z.cps.toList w.cps.toList) p1 p2 hu
    (fun j h1 h2 => by
      have hj : j = 0 ∨ j = 1 := by
        have : j < 2 := h1
        omega
      rcases hj with rfl | rfl
      · have e : (n == m) = decide (n = m) := by
          by_cases q : n = m
          · rw [decide_eq_true q]; exact beq_iff_eq.mpr q
          · rw [decide_eq_false q]; exact beq_eq_false_iff_ne.mpr q
        show SeqAt.EqAt X.A.in1 s (.int n t1) (.int m t2) (decide (n = m))
        rw [← e]
        exact SeqAt.EqAt.int_int _ _ _ _
      · have e : (z == w) = decide (z = w) := by
          by_cases q : z = w
          · rw [decide_eq_true q]; exact beq_iff_eq.mpr q
          · rw [decide_eq_false q]; exact beq_eq_false_iff_ne.mpr q
        show SeqAt.EqAt X.A.in1 s (.str z u1) (.str w u2) (decide (z = w))
        rw [← e]
        exact SeqAt.EqAt.str_str _ _ _ _)
    (fun j h1 h2 _ => by
      have hj : j = 0 ∨ j = 1 := by
        have : j < 2 := h1
        omega
      rcases hj with rfl | rfl
      · exact hint n m t1 t2
      · exact hstr z w u1 u2) rfl rfl
  rw [lex_two (fun e => by rw [e]; exact he _)] at R
  rw [hop]
  exact R X.prog X.w X.xe (EP X pins σ Q) ⟨.bl _, H, I, rfl, q⟩
def ltL (a b : List Nat) : Bool := decide (a < b)
theorem op_ltIS (hu : X.A.units < cLine) : OpR X (compareOp .Lt) (rOrdIS X.K (fun n m => decide (n < m)) (fun a b => decide (a < b))) :=
  ord_IS (op := .Lt) (e0 := false) (fun _ _ => rfl) (fun p1 p2 hu he hr e1 e2 => by
    have := Ob.RcOp.tuples_lt p1 p2 hu he hr
    rw [e1, e2] at this
    exact this) Ob.RcOp.lt_int rc_lt_str (fun l => decide_eq_false (List.lt_irrefl l)) hu
theorem op_leIS (hu : X.A.units < cLine) : OpR X (compareOp .LtE) (rOrdIS X.K (fun n m => decide (n ≤ m)) (fun a b => !decide (b < a))) :=
  ord_IS (op := .LtE) (e0 := true) (fun _ _ => rfl) (fun p1 p2 hu he hr e1 e2 => by
    have := Ob.RcOp.tuples_le p1 p2 hu he hr
    rw [e1, e2] at this
    exact this) Ob.RcOp.le_int rc_le_str (fun l => by rw [decide_eq_false (List.lt_irrefl l)]; rfl) hu
theorem op_gtIS (hu : X.A.units < cLine) : OpR X (compareOp .Gt) (rOrdIS X.K (fun n m => decide (m < n)) (fun a b => decide (b < a))) :=
  ord_IS (op := .Gt) (e0 := false) (fun _ _ => rfl) (fun p1 p2 hu he hr e1 e2 => by
    have := Ob.RcOp.tuples_gt p1 p2 hu he hr
    rw [e1, e2] at this
    exact this) Ob.RcOp.gt_int rc_gt_str (fun l => decide_eq_false (List.lt_irrefl l)) hu
theorem op_geIS (hu : X.A.units < cLine) : OpR X (compareOp .GtE) (rOrdIS X.K (fun n m => decide (m ≤ n)) (fun a b => !decide (a < b))) :=
  ord_IS (op := .GtE) (e0 := true) (fun _ _ => rfl) (fun p1 p2 hu he hr e1 e2 => by
    have := Ob.RcOp.tuples_ge p1 p2 hu he hr
    rw [e1, e2] at this
    exact this) Ob.RcOp.ge_int rc_ge_str (fun l => by rw [decide_eq_false (List.lt_irrefl l)]; rfl) hu
end
end SB
-- R22
namespace SB
open PySem PySem.Spec PyProof.Rows L2
/-! ### zip of two texts -/
/-- the signs of x and y, two by two, each pair new -/
def Izs (x y : Str) : It :=
  ⟨fun i _ => i < min x.cps.size y.cps.size, fun i H v H' => ∃ (T : Addr) (c d : Nat), v = .ref T ∧ H T = none ∧ x.cps[i]? = some c ∧ y.cps[i]? = some d ∧ H' = upd H T (.tup [.str ⟨#[c]⟩, .str ⟨#[d]⟩]), fun i _ => i = min x.cps.size y.cps.size⟩
theorem turn_zipS {P : Program} {w : World} {K : PySem.W.Frag} {elts : List Expr} {kk : Nat} {tpos : Pos} (x y : Str) (t u : Tok) (z TI TO i1 i2 : Addr) (S : ZipSep2 z TI TO i1 i2 [i1] [i2]) :
    Turn P w K (.Tuple elts kk tpos) (Izs x y) (z :: TI :: TO :: ([i1] ++ [i2])) z (fun i h => IsZip h z TI TO .none ∧ IsTupOf2 h TI (.ref i1) (.ref i2) ∧ (∃ a1 a2, IsTupOf2 h TO a1 a2) ∧ h.IsStrIter i1 (strIterType x) x t i ∧ h.IsStrIter i2 (strIterType y) y u i) where
  mem := by simp
  obj := fun i h st c hc => by
    obtain ⟨hz, hTI, ⟨a1, a2, hTO⟩, ⟨o1, e1, _, d1⟩, ⟨o2, e2, _, d2⟩⟩ := st
    have e' : c = z ∨ c = TI ∨ c = TO ∨ c = i1 ∨ c = i2 := by simpa using hc
    rcases e' with q | q | q | q | q
    · rw [q]; exact ⟨_, hz, fun v q => nomatch q⟩
    · rw [q]; exact ⟨_, hTI, fun v q => nomatch q⟩
    · rw [q]; exact ⟨_, hTO, fun v q => nomatch q⟩
    · rw [q]; exact ⟨o1, e1, fun v q => by rw [d1] at q; cases q⟩
    · rw [q]; exact ⟨o2, e2, fun v q => by rw [d2] at q; cases q⟩
  keep := fun i h h' st k => by
    obtain ⟨hz, hTI, ⟨a1, a2, hTO⟩, ⟨o1, e1, r1⟩, ⟨o2, e2, r2⟩⟩ := st
    exact ⟨k z (by simp) _ hz, k TI (by simp) _ hTI, ⟨a1, a2, k TO (by simp) _ hTO⟩, ⟨o1, k i1 (by simp) o1 e1, r1⟩, ⟨o2, k i2 (by simp) o2 e2, r2⟩⟩
  item := by
    intro X hP hw hK hc i pins s σ H E I hf st hg
    subst hP hw hK
    have D1 := Draws.text (prog := X.prog) (w := X.w) (A := X.A.in1) (I.ok.hd hc) i1 x t
    have D2 := Draws.text (prog := X.prog) (w := X.w) (A := X.A.in1) (I.ok.hd hc) i2 y u
    have G := GoesN.zip2 (elts := elts) (x1 := kk) (pos := tpos) S D1 D2
    refine G.goes i s (fun v s2 => ∃ x1 H', Inv X pins σ H' s2 ∧ RelV x1 v ∧ (Izs x y).yld i H x1 H' ∧ _ ∧ ∀ b ∈ (z :: TI :: TO :: ([i1] ++ [i2])), H' b = none) E hg st fun v h' tk hY st' hk htk => ?_
    obtain ⟨T, v1, v2, rfl, hT, ⟨c, u1, hc1, rfl⟩, ⟨d, u2, hd1, rfl⟩, tup⟩ := hY
    have new : ObjOk X.prog X.w (upd H T (.tup [.str ⟨#[c]⟩, .str ⟨#[d]⟩])) h' T (.tup [.str ⟨#[c]⟩, .str ⟨#[d]⟩]) := by
      obtain ⟨o, ho, hcl, n, hd⟩ := tup
      exact ⟨by show 2 ≤ sizeLine; decide, [.str ⟨#[c]⟩ u1, .str ⟨#[d]⟩ u2], .cons ⟨_, rfl⟩ (.cons ⟨_, rfl⟩ .nil), ⟨o, ho, hcl, n, hd⟩⟩
    have I1 : Inv X pins σ (upd H T (.tup [.str ⟨#[c]⟩, .str ⟨#[d]⟩])) { s with heap := h', toks := tk } :=
      I.turnedNew (t' := tk) (ch := z :: TI :: TO :: ([i1] ++ [i2])) (fun b o hb q => hk b o (fun z' => hb (G.sub b z')) q) hf hT new
    refine ⟨.ref T, _, I1, rfl, ⟨T, c, d, rfl, I.hok.fresh hT, hc1, hd1, rfl⟩, st', fun b hb => ?_⟩
    have n1 := (hf b hb).1
    have : b ≠ T := fun e => by
      obtain ⟨hz, hTI, ⟨a1, a2, hTO⟩, ⟨o1, e1, _⟩, ⟨o2, e2, _⟩⟩ := st
      have e' : b = z ∨ b = TI ∨ b = TO ∨ b = i1 ∨ b = i2 := by simpa using hb
      have lt : b < s.heap.objs.size := by
        rcases e' with q | q | q | q | q
        · rw [q]; exact Heap.lt_size hz
        · rw [q]; exact Heap.lt_size hTI
        · rw [q]; exact Heap.lt_size hTO
        · rw [q]; exact Heap.lt_size e1
        · rw [q]; exact Heap.lt_size e2
      rw [e] at lt
      exact absurd hT (Nat.not_le_of_lt lt)
    rw [upd_ne this]
    exact n1
  done := by
    intro X hP hw hK hc i pins s σ H E I hf st hg
    subst hP hw hK
    have D1 := Draws.text (prog := X.prog) (w := X.w) (A := X.A.in1) (I.ok.hd hc) i1 x t
    have D2 := Draws.text (prog := X.prog) (w := X.w) (A := X.A.in1) (I.ok.hd hc) i2 y u
    have G := GoesN.zip2 (elts := elts) (x1 := kk) (pos := tpos) S D1 D2
    have hg' : i = min x.cps.size y.cps.size := hg
    subst hg'
    exact G.stops s (fun s1 => Inv X pins σ H s1) E st fun h' tk hk htk => I.turnedL (t' := tk) (ch := z :: TI :: TO :: ([i1] ++ [i2])) (fun b o hb q => hk b o (fun z' => hb (G.sub b z')) q) hf
  self := fun A i s Q E st h => wpAny_pyIter_zip st.1 h
def iZipS (ta : TA) : TI := fun σ H R => ta σ H fun vs H1 => ∃ x y, vs = [.str x, .str y] ∧ R (Izs x y) H1
theorem pi_zipS {X : Cx} {e e2 : Expr} {ta : TA} {p pos tpos : Pos} {elts : List Expr} {kk : Nat} (hg : Gl X "zip") (hm : X.mg "zip" = none) (ha : PA X [e, e2] ta)
    (hs : starEach [e, e2] X.env = (false, eval e X.env) :: starEach [e2] X.env := by rfl) (hpl : (backTo pos (starEach [e2] X.env)).any (·.1) = false := by rfl) :
    PI X (.Tuple elts kk tpos) (.Call (.Name "zip" p) [e, e2] [] pos) (iZipS ta) := by
  refine ⟨fun pins s σ H R I h => ?_⟩
  refine Call_ (ld_blt I hg hm PyProof.Rows.boot_zip (PyProof.Rows.callWith_type1 (thn (ha.run pos pins s σ H _ I h) fun us s1 ⟨vs, H1, I1, r1, q1⟩ => ?_) hs hpl))
  obtain ⟨x, y, ex, q⟩ := q1
  subst ex
  cases r1 with
  | cons r rr =>
    cases rr with
    | cons r' rr =>
      cases rr
      obtain ⟨t, rfl⟩ := r
      obtain ⟨u, rfl⟩ := r'
      refine zip_begins2 (begins_text x t) (begins_text y u) trivial trivial fun h' hz hTI hTO h1 h2 hsz hk => wpAny_pyIter_zip hz ?_
      have I2 : Inv X pins σ H1 { s1 with heap := h' } := I1.kept (t' := s1.toks) hk
      have S : ZipSep2 (s1.heap.objs.size + 4) (s1.heap.objs.size + 2) (s1.heap.objs.size + 3) s1.heap.objs.size (s1.heap.objs.size + 1) [s1.heap.objs.size] [s1.heap.objs.size + 1] := zip_sep2 (fp1 := []) (fp2 := []) (by simp) (by simp)
      refine ⟨s1.heap.objs.size + 4, (s1.heap.objs.size + 4) :: (s1.heap.objs.size + 2) :: (s1.heap.objs.size + 3) :: ([s1.heap.objs.size] ++ [s1.heap.objs.size + 1]), _, _, H1, rfl, I2, turn_zipS x y t u _ _ _ _ _ S, ⟨hz, hTI, ⟨_, _, hTO⟩, ⟨_, h1, rfl, rfl⟩, ⟨_, h2, rfl, rfl⟩⟩, fun c hcm => ?_, q⟩
      have e' : c = s1.heap.objs.size + 4 ∨ c = s1.heap.objs.size + 2 ∨ c = s1.heap.objs.size + 3 ∨ c = s1.heap.objs.size ∨ c = s1.heap.objs.size + 1 := by simpa using hcm
      have hle : s1.heap.objs.size ≤ c := by
        rcases e' with z | z | z | z | z
        · rw [z]; exact Nat.le_add_right _ _
        · rw [z]; exact Nat.le_add_right _ _
        · rw [z]; exact Nat.le_add_right _ _
        · rw [z]; exact Nat.le_refl _
        · rw [z]; exact Nat.le_add_right _ _
      exact I1.fpOk hle (I1.hok.fresh hle)
theorem walk_zipS {x y : Str} : Walk (Izs x y) (min x.cps.size y.cps.size) (fun _ => True) (fun i H v H' => ∃ (T : Addr) (c d : Nat), v = .ref T ∧ H T = none ∧ x.cps[i]? = some c ∧ y.cps[i]? = some d ∧ H' = upd H T (.tup [.str ⟨#[c]⟩, .str ⟨#[d]⟩])) :=
  ⟨fun _ _ hi _ => hi, fun _ _ => rfl, fun _ _ _ _ _ _ y => y⟩
end SB
-- R23
namespace SB
open PySem PySem.Spec PyProof.Rows L2
open PySem.Sem (wp)
/-! ### the class of a slice object -/
theorem sl_slot_ga : Slot "slice" "__getattribute__" "slice.__getattribute__" :=
  .of (owner := "slice") (n := "__getattribute__") (by rw [typeLookup_type, builtinLookup_eq_fast]; kernel_rfl) (by decide +kernel) (by decide +kernel) (by decide +kernel)
    (by first | exact .inl (by decide +kernel) | exact .inr (by decide +kernel)) (by rw [isSubtype_type]; kernel_rfl)
theorem sl_args (a b : Value) : argsOk "slice.__getattribute__" ⟨[a, b], []⟩ := by
  unfold argsOk; kernel_rfl
theorem sl_entry : entryFor table "slice.__getattribute__" = some Builtin.«object.__getattribute__» :=
  entryFor_alias (id' := "object.__getattribute__") (by kernel_rfl) (by first | rfl | decide +kernel) (by decide +kernel) (by kernel_rfl)
theorem sl_class : typeLookup (.type "slice") "__class__" = pure (some (.builtin "object.__class__")) := by rw [typeLookup_type, builtinLookup_eq_fast]; kernel_rfl
theorem sl_owner : isSubtype (.type "slice") (.type (".".intercalate ("object.__class__".cutAt '.').dropLast)) = pure true := by
  rw [F.owner_object_class, isSubtype_type]; kernel_rfl
section
variable {prog : Program} {w : World} {A : Around} {E : Value → Shared → Prop} {h : Heap} {g : Array GenState} {d : Drawn} {t : Nat} {os : OsState} {a : Addr} {o : Obj}
theorem slc_get {R : Result → Shared → Prop} (hx : h.get? a = some o) (hc : o.cls = .type "slice") (hq : R (.ok (.ret (.type "slice"))) ⟨h, g, d, t, os⟩) :
    codeAny (model prog w) A (.call (.builtin "getset_descriptor.__get__") ⟨[.builtin "object.__class__", .ref a, .type "slice"], []⟩) R ⟨h, g, d, t, os⟩ := by
  have hT : (⟨h, g, d, t, os⟩ : Shared).TypeIs (.ref a) "slice" := ⟨_, hx, hc⟩
  have hT5 : (⟨h, g, d, t, os⟩ : Shared).TypeIs (.builtin "object.__class__") "getset_descriptor" := F.typeOf_object_class
  have f8 := sl_owner
  refine codeAny_call_builtin F.slot_gs_get.plain F.entry_gs_get (F.slot_gs_get.check _ _ _ _ _ _ _ _ hT5 (F.args_gs_get _ _ _) ?_)
  repeat (any_goals (first | assumption | wp_step))
  refine ⟨Code.quiet_builtin _ (by decide +kernel), codeAny_builtin F.entry_object_class ?_⟩
  repeat (any_goals (first | assumption | wp_step))
theorem slc_entry {tk : Tok} {Q : Fin → Shared → Prop} (hx : h.get? a = some o) (hc : o.cls = .type "slice") (hq : Q (.done (.ret (.type "slice"))) ⟨h, g, d, t, os⟩) :
    wpAny (model prog w) A (Builtin.«object.__getattribute__» ⟨[.ref a, .str "__class__" tk], []⟩) Q E ⟨h, g, d, t, os⟩ := by
  have hT : (⟨h, g, d, t, os⟩ : Shared).TypeIs (.ref a) "slice" := ⟨_, hx, hc⟩
  have hT5 : (⟨h, g, d, t, os⟩ : Shared).TypeIs (.builtin "object.__class__") "getset_descriptor" := F.typeOf_object_class
  have f4 := sl_class
  have f5 := F.typeOf_object_class
  have f6 := F.slot_gs_get.lookup
  have f7 := F.slot_gs_set.lookup
  repeat (any_goals (first | assumption | wp_step))
  refine slc_get hx hc ?_
  repeat (any_goals (first | assumption | wp_step))
theorem slc_call {tk : Tok} {R : Result → Shared → Prop} (hx : h.get? a = some o) (hc : o.cls = .type "slice") (hq : R (.ok (.ret (.type "slice"))) ⟨h, g, d, t, os⟩) :
    codeAny (model prog w) A (.call (.builtin "slice.__getattribute__") ⟨[.ref a, .str "__class__" tk], []⟩) R ⟨h, g, d, t, os⟩ :=
  codeAny_call_builtin sl_slot_ga.plain sl_entry (sl_slot_ga.check _ _ _ _ _ _ _ _ (show (⟨h, g, d, t, os⟩ : Shared).TypeIs (.ref a) "slice" from ⟨_, hx, hc⟩) (sl_args _ _) (slc_entry hx hc hq))
theorem slc_by {tk : Tok} {Q : Value → Shared → Prop} (hx : h.get? a = some o) (hc : o.cls = .type "slice") (hq : Q (.type "slice") ⟨h, g, d, t, os⟩) : wpAny (model prog w) A (getAttrBy (.ref a) (.str "__class__" tk) false) Q E ⟨h, g, d, t, os⟩ := by
  have hT : (⟨h, g, d, t, os⟩ : Shared).TypeIs (.ref a) "slice" := ⟨_, hx, hc⟩
  have f2 := sl_slot_ga.lookup
  have f3 := sl_slot_ga.bind (.ref a)
  repeat (any_goals (first | assumption | wp_step))
  refine slc_call hx hc ?_
  repeat (any_goals (first | assumption | wp_step))
theorem slc_attr? {Q : Option Value → Shared → Prop} (hx : h.get? a = some o) (hc : o.cls = .type "slice") (hq : Q (some (.type "slice")) ⟨h, g, d, t + 1, os⟩) : wpAny (model prog w) A (getAttr? (.ref a) "__class__") Q E ⟨h, g, d, t, os⟩ := by
  unfold getAttr? getAttrBy?
  repeat (any_goals (first | assumption | with_reducible apply slc_by hx hc | wp_step))
end
end SB
-- R24
namespace SB
open PySem PySem.Spec PyProof.Rows L2
open PySem.Sem (wp)
section
variable {prog : Program} {w : World} {A : Around} {E : Value → Shared → Prop} {h : Heap} {g : Array GenState} {d : Drawn} {t : Nat} {os : OsState} {a : Addr} {o : Obj} {n : Int} {u : Tok}
theorem slc_attr {Q : Value → Shared → Prop} (hx : h.get? a = some o) (hc : o.cls = .type "slice") (hq : Q (.type "slice") ⟨h, g, d, t + 1, os⟩) : wpAny (model prog w) A (getAttr (.ref a) "__class__" true) Q E ⟨h, g, d, t, os⟩ := by
  have hT : (⟨h, g, d, t + 1, os⟩ : Shared).TypeIs (.ref a) "slice" := ⟨_, hx, hc⟩
  have f2 := sl_slot_ga.lookup
  have f3 := sl_slot_ga.bind (.ref a)
  unfold getAttr
  repeat (any_goals (first | assumption | wp_step))
  refine slc_call hx hc ?_
  exact PySem.W.handed_on rfl hq
theorem intc_attr {Q : Value → Shared → Prop} (hq : Q (.type "int") ⟨h, g, d, t + 1, os⟩) : wpAny (model prog w) A (getAttr (.int n u) "__class__" true) Q E ⟨h, g, d, t, os⟩ := by
  have hT : (⟨h, g, d, t + 1, os⟩ : Shared).TypeIs (.int n u) "int" := rfl
  have f2 := F.slot_int_getattribute.lookup
  have f3 := F.slot_int_getattribute.bind (.int n u)
  unfold getAttr
  repeat (any_goals (first | assumption | wp_step))
  refine class_call_int ?_
  exact PySem.W.handed_on rfl hq
end
end SB
-- R25
namespace SB
open PySem PySem.Spec PyProof.Rows L2
/-! ### slice objects: what is told of them, texts and own things by them -/
/-- at p: the slice object lo : hi : st -/
def slO (p : Addr) (lo hi st : Option Int) : HO := .ext fun h => ∃ l u t : Option (Int × Tok), l.map (·.1) = lo ∧ u.map (·.1) = hi ∧ t.map (·.1) = st ∧ h.IsSlice p l u t
theorem slO_ok {P : Program} {w : World} {H : Hp} {h : Heap} {p : Addr} {l u t : Option (Int × Tok)} (e : h.IsSlice p l u t) : ObjOk P w H h p (slO p (l.map (·.1)) (u.map (·.1)) (t.map (·.1))) := by
  refine ⟨⟨l, u, t, rfl, rfl, rfl, e⟩, ?_, fun h1 h2 q k => ?_⟩
  · obtain ⟨o, ho, _⟩ := e
    exact ⟨o, ho⟩
  · obtain ⟨l', u', t', e1, e2, e3, o, ho, r⟩ := q
    exact ⟨l', u', t', e1, e2, e3, o, k o ho, r⟩
/-- the part of a text that a slice with a step tells -/
def stepS (z : Str) (lo hi : Option Int) (k : Int) : Str := ⟨((Builtin.Str.strSliceIndices lo hi k z.length).filterMap (z.cps[·]?)).toArray⟩
def slS (z : Str) (lo hi st : Option Int) : Str := match st with
  | none => cutS z lo hi
  | some k => stepS z lo hi k
section
variable {X : Cx}
theorem get_slS {pins : List (Addr × Obj)} {σ : L2.St} {H : Hp} {s : Shared} {Q : VK} {z : Str} {t : Tok} {p : Addr} {l u st : Option (Int × Tok)} (I : Inv X pins σ H s) (hs : s.heap.IsSlice p l u st) (h0 : st.map (·.1) ≠ some 0) (h1 : st.map (·.1) ≠ some 1) (hz : (slS z (l.map (·.1)) (u.map (·.1)) (st.map (·.1))).length ≤ sizeLine)
    (q : Q (.str (slS z (l.map (·.1)) (u.map (·.1)) (st.map (·.1)))) H) : wpAny (model X.prog X.w) X.A (getItem (.str z t) (.ref p)) (EP X pins σ Q) X.xe s := by
  cases st with
  | none =>
    refine wpAny_getItem_str_slice (l := l) (u := u) (st := none) hs rfl ?_
    replace hz : (cutS z (l.map (·.1)) (u.map (·.1))).length ≤ sizeLine := hz
    replace q : Q (.str (cutS z (l.map (·.1)) (u.map (·.1)))) H := q
    rw [← sliceText_cut] at q hz
    unfold PySem.StrLaws.sliceText at q hz
    show Made.post (if ((1 : Int) == 1 && (Builtin.Str.strSliceIndices (l.map (·.1)) (u.map (·.1)) 1 z.length).length == z.length) = true then Made.val (.str z t)
      else Made.str ⟨((Builtin.Str.strSliceIndices (l.map (·.1)) (u.map (·.1)) 1 z.length).filterMap (z.cps[·]?)).toArray⟩) (EP X pins σ Q) s
    by_cases c : ((1 : Int) == 1 && (Builtin.Str.strSliceIndices (l.map (·.1)) (u.map (·.1)) 1 z.length).length == z.length) = true
    · rw [if_pos c] at q ⊢
      exact ⟨.str z, H, I, ⟨t, rfl⟩, q⟩
    · rw [if_neg c] at q hz ⊢
      exact ⟨hz, .str _, H, I.tok _, ⟨_, rfl⟩, q⟩
  | some kt =>
    obtain ⟨k, kk⟩ := kt
    have n0 : k ≠ 0 := fun e => h0 (by rw [e]; rfl)
    have n1 : k ≠ 1 := fun e => h1 (by rw [e]; rfl)
    refine wpAny_getItem_str_slice (l := l) (u := u) (st := some (k, kk)) hs (by show (k == 0) = false; exact beq_eq_false_iff_ne.mpr n0) ?_
    show Made.post (if (k == 1 && (Builtin.Str.strSliceIndices (l.map (·.1)) (u.map (·.1)) k z.length).length == z.length) = true then Made.val (.str z t)
      else Made.str ⟨((Builtin.Str.strSliceIndices (l.map (·.1)) (u.map (·.1)) k z.length).filterMap (z.cps[·]?)).toArray⟩) (EP X pins σ Q) s
    rw [if_neg (by rw [beq_eq_false_iff_ne.mpr n1, Bool.false_and]; exact Bool.false_ne_true)]
    exact ⟨hz, .str _, H, I.tok _, ⟨_, rfl⟩, q⟩
/-- z[p], z a text, p a slice object -/
def rIxSl : R2 := fun x y H Q => ∃ (z : Str) (p : Addr) (lo hi st : Option Int), x = .str z ∧ y = .ref p ∧ H p = some (slO p lo hi st) ∧ st ≠ some 0 ∧ st ≠ some 1 ∧ (slS z lo hi st).length ≤ sizeLine ∧ Q (.str (slS z lo hi st)) H
theorem ix_slS : IxR X rIxSl := by
  intro value slice pins s σ H x y v u Q I rx ry h hs
  obtain ⟨z, p, lo, hi, st, rfl, rfl, hp, h0, h1, hz, q⟩ := h
  obtain ⟨t, rfl⟩ := rx
  obtain rfl : u = Value.ref p := ry
  obtain ⟨⟨l, u', t', rfl, rfl, rfl, e⟩, _⟩ := (show ObjOk X.prog X.w H s.heap p (slO p lo hi st) from I.hok p _ hp)
  exact tail_any (typeIs_str s z t) slot_str_getitem.lookup (get_slS I e h0 h1 hz q) hs
/-- e[::k], e a text, in one -/
theorem pe_stepS {e st : Expr} {te ts : TE} {p2 pos : Pos} (he : PE X e te) (hst : PE X st ts) :
    PE X (.Subscript e (.Slice none none (some st) p2) pos) (fun σ H Q => te σ H fun x H1 => ts σ H1 fun y H2 => ∃ (z : Str) (k : Int), x = .str z ∧ y = .int k ∧ k ≠ 0 ∧ k ≠ 1 ∧ (stepS z none none k).length ≤ sizeLine ∧ Q (.str (stepS z none none k)) H2) := by
  refine ⟨fun pins s σ H Q I h => ?_⟩
  refine Subscript_ (thn (he.run pins s σ H _ I h) fun v s1 hh => ?_)
  obtain ⟨x, H1, I1, r1, q1⟩ := hh
  refine wpAny_Slice ?_
  rw [evalPart_none, evalPart_some]
  refine wpAny_pure (wpAny_pure (thn (hst.run pins s1 σ H1 _ I1 q1) fun u s2 hh => ?_))
  obtain ⟨y, H2, I2, r2, z, k, rfl, rfl, n0, n1, hz, q⟩ := hh
  obtain ⟨t, rfl⟩ := r1
  obtain ⟨t2, rfl⟩ := r2
  have I4 : Inv X pins σ H2 { s2 with heap := s2.heap.push { cls := .type "slice", data := .fields #[.none, .none, .int k t2] } } := I2.kept (t' := s2.toks) fun b ob q => Heap.get?_push_of_some _ q
  exact tail_any (ops := [.ref s2.heap.objs.size, .str z t]) (typeIs_str _ _ _) F.slot_str_getitem.lookup
    (get_slS (l := none) (u := none) (st := some (k, t2)) I4 ⟨_, Heap.get?_push_size _ rfl, rfl, rfl⟩ (fun e => n0 (Option.some.inj e)) (fun e => n1 (Option.some.inj e)) hz q) (by with_unfolding_all rfl)
/-- e.__class__.__name__ of a slice, of an int -/
structure NameK (K : PySem.W.Frag) : Prop where
  sl : PySem.W.findCls K (.type "slice") (.type "type") "__name__" = some (.get (.builtin "getset_descriptor.__get__") (.builtin "type.__name__") (.type "slice") (.type "type"))
  it : PySem.W.findCls K (.type "int") (.type "type") "__name__" = some (.get (.builtin "getset_descriptor.__get__") (.builtin "type.__name__") (.type "int") (.type "type"))
def tClsName (te : TE) : TE := fun σ H Q => te σ H fun x H1 => (∃ (p : Addr) (lo hi st : Option Int), x = .ref p ∧ H1 p = some (slO p lo hi st) ∧ Q (.str "slice") H1) ∨ (∃ i : Int, x = .int i ∧ Q (.str "int") H1)
theorem pe_clsName {e : Expr} {te : TE} {p1 p2 : Pos} (N : NameK X.K) (he : PE X e te) (hb : attributeBase e "__class__" X.env (eval e X.env) = eval e X.env)
    (hb2 : attributeBase (.Attribute e "__class__" p1) "__name__" X.env (eval (.Attribute e "__class__" p1) X.env) = eval (.Attribute e "__class__" p1) X.env) : PE X (.Attribute (.Attribute e "__class__" p1) "__name__" p2) (tClsName te) := by
  refine ⟨fun pins s σ H Q I h => ?_⟩
  refine attr_of hb2 (attr_of hb (thn (he.run pins s σ H _ I h) fun u s1 hh => ?_))
  obtain ⟨x, H1, I1, rx, hq⟩ := hh
  obtain ⟨m, Fm⟩ := frame_of I1
  obtain ⟨hp, g, d, tk, os⟩ := s1
  rcases hq with ⟨p, lo, hi, st, rfl, ep, q⟩ | ⟨i, rfl, q⟩
  · obtain rfl : u = Value.ref p := rx
    obtain ⟨⟨l, u', t', rfl, rfl, rfl, o, ho, hc, _⟩, _⟩ := (show ObjOk X.prog X.w H1 hp p (slO p lo hi st) from I1.hok p _ ep)
    refine slc_attr ho hc ?_
    exact PySem.W.ktyn_attr (q := "slice") Fm I1.ok.mod.kin (by decide +kernel) (by decide +kernel) N.sl (by kernel_rfl) (by decide +kernel) fun tk u => ⟨.str "slice", H1, I1.tok u, ⟨_, rfl⟩, q⟩
  · obtain ⟨t, rfl⟩ := rx
    refine intc_attr ?_
    exact PySem.W.ktyn_attr (q := "int") Fm I1.ok.mod.kin (by decide +kernel) (by decide +kernel) N.it (by kernel_rfl) (by decide +kernel) fun tk u => ⟨.str "int", H1, I1.tok u, ⟨_, rfl⟩, q⟩
/-- isinstance(p, T), p a slice object -/
theorem kitx_slice {K : PySem.W.Frag} {a : Addr} : PySem.W.KitX K (.ref a) (.type "slice") (PySem.W.KitAt a "slice") :=
  PySem.W.kitx_of PySem.W.kitAt_ty (fun {_ _ _ _ _ s} p k => by
    obtain ⟨h, g, d, t, os⟩ := s
    obtain ⟨o, h1, h2⟩ := p
    exact slc_attr? h1 h2 k)
def rIsiSl (K : PySem.W.Frag) : List V → Hp → VK → Prop := fun xs H Q => (∃ (p : Addr) (c : V) (u : Value) (b : Bool) (lo hi st : Option Int), xs = [.ref p, c] ∧ H p = some (slO p lo hi st) ∧ ClsV c u ∧ PySem.W.kitOne K (.type "slice") u = some b ∧ Q (.bl b) H) ∨ rIsi K xs H Q
theorem call_isiSl : CallR X (.builtin "isinstance") (rIsiSl X.K) := by
  intro pins s σ H xs us Q I r h
  rcases h with ⟨p, c, u, b, lo, hi, st, rfl, ep, k, e, q⟩ | h
  · obtain ⟨u1, u2, rfl, r1, r2⟩ := vals2 r
    have e2 := k.eq r2
    subst e2
    obtain rfl : u1 = Value.ref p := r1
    obtain ⟨⟨l, u', t', rfl, rfl, rfl, o, ho, hc, _⟩, _⟩ := (show ObjOk X.prog X.w H s.heap p (slO p lo hi st) from I.hok p _ ep)
    exact PySem.W.kia_one kitx_slice I.kIn ⟨o, ho, hc⟩ e (fun z => nomatch z) fun tk => ⟨.bl b, H, I.tok tk, rfl, q⟩
  · exact call_isi pins s σ H xs us Q I r h
end
end SB
-- R26
namespace SB
open PySem PySem.Spec PyProof.Rows L2
/-! ### own things by an item, by a slice: the own __getitem__ -/
/-- what is told of a class whose __getitem__ is its own -/
structure ItemC (K : PySem.W.Frag) (C f : Addr) : Prop where
  find : PySem.W.findIn K (.ref C) "__getitem__" = some (some (.ref f))
  fn : PySem.W.isFn K (.ref f) = true
  fi : PySem.W.fnIn K f = true
  nq : PySem.W.noSeq K C = true
section
variable {X : Cx} {CX : CXT} {k : Nat} {C f : Addr} {fd : FuncData} {ps : List Str} {sp : Sp} {E : XK}
/-- e[i], i no slice that is written there -/
def tItemOwn (C : Addr) (sp : Sp) (E : XK) (te ti : TE) : TE := fun σ H Q => te σ H fun x H1 => ti σ H1 fun y H2 => ∃ (a dx : Addr) (fs : List (Str × V)), x = .ref a ∧ H2 a = some (.ins C dx fs) ∧ sp [x, y] H2 Q E
theorem pe_itemOwn {e i : Expr} {te ti : TE} {pos : Pos} (T : ItemC X.K C f) (F : FnOk X.prog X.w X.K X.mg X.base CX k f fd ps sp) (hr : Room (k + 1) X.A) (hb : Binds X.K fd ps []) (hx : Passes CX X E) (he : PE X e te) (hi : PE X i ti)
    (hsl : ∀ (x : Addr) (u : Value), subscripted i true (.ref x) u = runValue (.builtin "lifetime.subscript" ⟨[.ref x, u], []⟩) := by intro _ _; with_unfolding_all rfl) :
    PE X (.Subscript e i pos) (tItemOwn C sp E te ti) := by
  refine ⟨fun pins s σ H Q I h => ?_⟩
  refine Subscript_ (thn (he.run pins s σ H _ I h) fun v s1 hh => ?_)
  obtain ⟨x, H1, I1, r1, q1⟩ := hh
  refine thn (hi.run pins s1 σ H1 _ I1 q1) fun u s2 hh => ?_
  obtain ⟨y, H2, I2, r2, a, dx, fs, rfl, ea, q⟩ := hh
  obtain rfl : v = Value.ref a := r1
  obtain ⟨od, J⟩ := inst_of I2 ea
  obtain ⟨m, Fm⟩ := frame_of I2
  exact PySem.W.sub_K Fm I2.ok.mod.kin J T.find T.fi T.fn (run_in1 (us := [.ref a, u]) (vs := [.ref a, y]) F hr hb hx I2 (.cons rfl (.cons r2 .nil)) q) (hsl a u)
/-- e[lo:hi] -/
def tSliceOwn (C : Addr) (sp : Sp) (E : XK) (te : TE) (tl th ts : TO) : TE := fun σ H Q => te σ H fun x H1 => tl σ H1 fun l H2 => th σ H2 fun u H3 => ts σ H3 fun st H4 => ∃ (a dx : Addr) (fs : List (Str × V)), x = .ref a ∧ H4 a = some (.ins C dx fs) ∧
  ∀ p, H4 p = none → sp [x, .ref p] (upd H4 p (slO p l u st)) Q E
theorem pe_sliceOwn {e : Expr} {lo hi st : Option Expr} {te : TE} {tl th ts : TO} {p2 pos : Pos} (T : ItemC X.K C f) (F : FnOk X.prog X.w X.K X.mg X.base CX k f fd ps sp) (hr : Room (k + 1) X.A) (hb : Binds X.K fd ps []) (hx : Passes CX X E) (he : PE X e te) (hl : PO X lo tl) (hu : PO X hi th) (hst : PO X st ts)
    (hsl : (∀ (x : Addr) (u : Value), subscripted (.Slice lo hi st p2) true (.ref x) u = runValue (.builtin "lifetime.subscript" ⟨[.ref x, u], []⟩)) ∨ (∀ (x : Addr) (u : Value), subscripted (.Slice lo hi st p2) true (.ref x) u = operate [u, .ref x] (getItem (.ref x) u))) :
    PE X (.Subscript e (.Slice lo hi st p2) pos) (tSliceOwn C sp E te tl th ts) := by
  refine ⟨fun pins s σ H Q I h => ?_⟩
  refine Subscript_ (thn (he.run pins s σ H _ I h) fun v s1 hh => ?_)
  obtain ⟨x, H1, I1, r1, q1⟩ := hh
  refine wpAny_Slice (thn (hl.run pins s1 σ H1 _ I1 q1) fun vl s2 hh2 => ?_)
  obtain ⟨l, H2, I2, pl, q2⟩ := hh2
  refine thn (hu.run pins s2 σ H2 _ I2 q2) fun vu s3 hh3 => ?_
  obtain ⟨u, H3, I3, pu, q3⟩ := hh3
  refine thn (hst.run pins s3 σ H3 _ I3 q3) fun vs s4 hh4 => ?_
  obtain ⟨t, H4, I4, pt, a, dx, fs, rfl, ea, q⟩ := hh4
  obtain rfl : v = Value.ref a := r1
  obtain ⟨l', rfl, rfl⟩ := IsPart.raw pl
  obtain ⟨u', rfl, rfl⟩ := IsPart.raw pu
  obtain ⟨t', rfl, rfl⟩ := IsPart.raw pt
  have hs : (s4.heap.push { cls := .type "slice", data := .fields #[partValue l', partValue u', partValue t'] }).IsSlice s4.heap.objs.size l' u' t' := ⟨_, Heap.get?_push_size _ rfl, rfl, rfl⟩
  have I5 : Inv X pins σ (upd H4 s4.heap.objs.size (slO s4.heap.objs.size (l'.map (·.1)) (u'.map (·.1)) (t'.map (·.1)))) { s4 with heap := s4.heap.push { cls := .type "slice", data := .fields #[partValue l', partValue u', partValue t'] } } :=
    I4.laid (t' := s4.toks) (fun b ob q => Heap.get?_push_of_some _ q) (Nat.le_refl _) (slO_ok hs)
  have nw : H4 s4.heap.objs.size = none := I4.hok.fresh (Nat.le_refl _)
  have ea5 : upd H4 s4.heap.objs.size (slO s4.heap.objs.size (l'.map (·.1)) (u'.map (·.1)) (t'.map (·.1))) a = some (.ins C dx fs) := by
    rw [upd_ne (ne_of_none ea nw)]
    exact ea
  obtain ⟨od, J⟩ := inst_of I5 ea5
  obtain ⟨m, Fm⟩ := frame_of I5
  have q5 := q _ nw
  rcases hsl with hsl | hsl
  · exact PySem.W.sub_K Fm I5.ok.mod.kin J T.find T.fi T.fn (run_in1 (us := [.ref a, .ref s4.heap.objs.size]) (vs := [.ref a, .ref s4.heap.objs.size]) F hr hb hx I5 (.cons rfl (.cons rfl .nil)) q5) (hsl a _)
  · have fi := T.fi
    unfold PySem.W.fnIn at fi
    split at fi
    · rename_i eo
      have X2 := I5.ok.mod.kin.keeps Fm.keep
      unfold subscriptTail getitemInPython
      refine wpAny_bind (wpAny_bind (wpAny_bind (J.type.here ((PySem.W.looks_findIn X2 T.find).here ?_))))
      dsimp only
      refine wpAny_bind (wpAny_load (X2 _ _ eo) (wpAny_pure ?_))
      dsimp only
      rw [hsl]
      refine wpAny_bind (wpAny_operating (wpAny_mono (PySem.W.getItem_K Fm I5.ok.mod.kin J T.nq T.find T.fn (run_two (x := .ref a) (y := .ref s4.heap.objs.size) F (hr.mono (by omega)) hb hx I5 rfl rfl q5)) (fun r s5 h5 => ?_) fun _ _ x => x))
      exact wpAny_bind (wpAny_letTemporaryGo (wpAny_pure h5))
    · cases fi
end
end SB
-- R27
namespace SB
open PySem PySem.Spec PyProof.Rows L2
/-! ### list(x), x a text -/
def ones (l : List Nat) : List V := l.map fun c => V.str ⟨#[c]⟩
theorem ones_vals : ∀ (l : List Nat) (its : List Value), its.length = l.length → (∀ (i c : Nat) (v : Value), l[i]? = some c → its[i]? = some v → ∃ t, v = .str ⟨#[c]⟩ t) → Vals (ones l) its
  | [], [], _, _ => .nil
  | c :: l, v :: its, h, f => by
    obtain ⟨t, rfl⟩ := f 0 c v rfl rfl
    exact .cons ⟨t, rfl⟩ (ones_vals l its (by simpa using h) fun i d u hd hu => f (i + 1) d u hd hu)
section
variable {X : Cx}
theorem call_listS (hc : X.calm = true) : CallR X (.type "list") (fun xs H Q => ∃ z : Str, xs = [.str z] ∧ z.length ≤ sizeLine ∧ ∀ l, H l = none → Q (.ref l) (upd H l (.lst (ones z.cps.toList)))) := by
  intro pins s σ H xs us Q I r h
  obtain ⟨z, rfl, hz, q⟩ := h
  obtain ⟨u, rfl, t, rfl⟩ := vals1 r
  refine call_list_str (I.ok.hd hc) z t (fun h' tk acc c' hk hg hacc => ?_) hz
  have v : Vals (ones z.cps.toList) acc.toList := by
    refine ones_vals _ _ (by rw [Array.length_toList]; exact hacc.1) fun i d u hd hu => ?_
    obtain ⟨c, t2, hc2, rfl⟩ := hacc.2 i u (by rw [← Array.getElem?_toList]; exact hu)
    rw [← Array.getElem?_toList, hd] at hc2
    cases hc2
    exact ⟨t2, rfl⟩
  refine ⟨.ref s.heap.objs.size, _, I.laid (t' := tk) hk (Nat.le_refl _) (show ObjOk X.prog X.w _ h' _ (.lst (ones z.cps.toList)) from ⟨?_, acc.toList, c', v, by simpa using hg⟩), rfl, q _ (I.hok.fresh (Nat.le_refl _))⟩
  unfold ones
  rw [List.length_map]
  exact hz
end
end SB
-- M6
namespace SB
open PySem PySem.Spec PyProof.Rows L2
/-! ### what is left of a row of letters, once they undo one another -/
def push (l : List Nat) (c : Nat) : List Nat := if l.getLast? = some (up c) then l.dropLast else l ++ [c]
def strike (l : List Nat) : List Nat := l.foldl push []
def allL (l : List Nat) : Prop := ∀ c ∈ l, isL c = true
theorem allL_take {l : List Nat} (h : allL l) (n : Nat) : allL (l.take n) := fun c hc => h c (List.mem_of_mem_take hc)
theorem allL_drop {l : List Nat} (h : allL l) (n : Nat) : allL (l.drop n) := fun c hc => h c (List.mem_of_mem_drop hc)
theorem allL_app {a b : List Nat} (h : allL a) (k : allL b) : allL (a ++ b) := fun c hc => (List.mem_append.mp hc).elim (h c) (k c)
theorem allL_left {a b : List Nat} (h : allL (a ++ b)) : allL a := fun c hc => h c (List.mem_append_left _ hc)
theorem allL_right {a b : List Nat} (h : allL (a ++ b)) : allL b := fun c hc => h c (List.mem_append_right _ hc)
/-- a row is whole: letters, none behind the one that it undoes -/
def Fine (l : List Nat) : Prop := allL l ∧ flat l l.length
theorem fine_iff (l : List Nat) : fault l = none ↔ Fine l := fault_iff l
theorem fine_nil : Fine [] := ⟨fun c h => (nomatch h), fun j c d h => absurd h (by simp)⟩
theorem fine_pre {a b : List Nat} (h : Fine (a ++ b)) : Fine a := by
  refine ⟨allL_left h.1, fun j c d hj e1 e2 => h.2 j c d (by rw [List.length_append]; omega) ?_ ?_⟩
  · rw [List.getElem?_append_left (by omega)]
    exact e1
  · rw [List.getElem?_append_left (by omega)]
    exact e2
theorem fine_dropLast {l : List Nat} (h : Fine l) : Fine l.dropLast := by
  cases e : l.getLast? with
  | none =>
    rw [List.getLast?_eq_none_iff] at e
    subst e
    exact h
  | some d =>
    obtain ⟨r, rfl⟩ := last_split e
    rw [List.dropLast_concat]
    exact fine_pre h
theorem fine_snoc {l : List Nat} {c : Nat} (h : Fine l) (hc : isL c = true) (n : l.getLast? ≠ some (up c)) : Fine (l ++ [c]) := by
  rw [← fine_iff] at h ⊢
  refine fault_snoc h hc fun d hd e => n ?_
  have dL : isL d = true := letters_of _ _ _ h d (List.mem_of_getLast? hd)
  rw [hd, e, up_up d dL]
theorem fine_push {l : List Nat} {c : Nat} (h : Fine l) (hc : isL c = true) : Fine (push l c) := by
  unfold push
  by_cases e : l.getLast? = some (up c)
  · rw [if_pos e]
    exact fine_dropLast h
  · rw [if_neg e]
    exact fine_snoc h hc e
theorem fine_fold : ∀ (b s : List Nat), Fine s → allL b → Fine (b.foldl push s)
  | [], _, hs, _ => hs
  | c :: r, s, hs, hb => fine_fold r (push s c) (fine_push hs (hb c List.mem_cons_self)) fun d hd => hb d (List.mem_cons_of_mem _ hd)
theorem fine_strike {l : List Nat} (h : allL l) : Fine (strike l) := fine_fold l [] fine_nil h
theorem len_fold : ∀ (b s : List Nat), (b.foldl push s).length ≤ s.length + b.length
  | [], s => Nat.le_refl _
  | c :: r, s => by
    have h := len_fold r (push s c)
    have h2 : (push s c).length ≤ s.length + 1 := by
      unfold push
      split
      · rw [List.length_dropLast]
        omega
      · rw [List.length_append]
        exact Nat.le_refl _
    show (r.foldl push (push s c)).length ≤ s.length + (r.length + 1)
    omega
theorem len_strike (l : List Nat) : (strike l).length ≤ l.length := by
  have := len_fold l []
  simpa [strike] using this
theorem strike_snoc (l : List Nat) (c : Nat) : strike (l ++ [c]) = push (strike l) c := by
  unfold strike
  rw [List.foldl_append]
  rfl
theorem push_fine {l : List Nat} {c : Nat} (h : Fine (l ++ [c])) : push l c = l ++ [c] := by
  unfold push
  rw [if_neg]
  intro e
  obtain ⟨r, rfl⟩ := last_split e
  have q := h.2 r.length c (up c) (by simp) (by simp) (by simp)
  have cL : isL c = true := h.1 c (by simp)
  exact q (up_up c cL).symm
theorem fold_fine : ∀ (b s : List Nat), Fine (s ++ b) → b.foldl push s = s ++ b
  | [], s, _ => (List.append_nil s).symm
  | c :: r, s, h => by
    have h1 : s ++ c :: r = (s ++ [c]) ++ r := by simp
    have h2 : Fine (s ++ [c]) := by
      rw [h1] at h
      exact fine_pre h
    show r.foldl push (push s c) = s ++ c :: r
    rw [push_fine h2, h1]
    rw [h1] at h
    exact fold_fine r (s ++ [c]) h
theorem strike_fine {l : List Nat} (h : Fine l) : strike l = l := by
  have := fold_fine l [] h
  simpa [strike] using this
theorem push_push {s : List Nat} {x y : Nat} (hs : Fine s) (hy : isL y = true) (e : x = up y) : push (push s x) y = s := by
  subst e
  have uy : isL (up y) = true := up_isL y hy
  by_cases c : s.getLast? = some (up (up y))
  · have e1 : push s (up y) = s.dropLast := by
      unfold push
      rw [if_pos c]
    rw [up_up y hy] at c
    obtain ⟨r, rfl⟩ := last_split c
    rw [e1, List.dropLast_concat]
    exact push_fine hs
  · have e1 : push s (up y) = s ++ [up y] := by
      unfold push
      rw [if_neg c]
    rw [e1]
    unfold push
    rw [if_pos (by simp), List.dropLast_concat]
theorem strike_pair {a b : List Nat} {x y : Nat} (h : allL (a ++ x :: y :: b)) (e : x = up y) : strike (a ++ x :: y :: b) = strike (a ++ b) := by
  unfold strike
  rw [List.foldl_append, List.foldl_append]
  show b.foldl push (push (push (a.foldl push []) x) y) = b.foldl push (a.foldl push [])
  rw [push_push (fine_fold a [] fine_nil (allL_left h)) (h y (by simp)) e]
theorem str_ext {a b : Str} (h : a.cps.toList = b.cps.toList) : a = b := by
  cases a
  cases b
  simp only [Str.mk.injEq]
  exact Array.toList_inj.mp h
theorem join_codes (e : Str) (he : e.cps.toList = []) : ∀ l : List Nat, (Str.join e (l.map s1)).cps.toList = l
  | [] => rfl
  | [c] => rfl
  | c :: d :: r => by
    have ih := join_codes e he (d :: r)
    show ((s1 c ++ e) ++ Str.join e ((d :: r).map s1)).cps.toList = _
    rw [app_codes, app_codes, ih, he]
    rfl
theorem join_one (l : List Nat) : Txt.join "" (l.map s1) = T l := by
  refine str_ext ?_
  unfold Txt.join
  rw [StrLaws.glued_eq_join, join_codes _ (by rfl)]
  rfl
theorem join_sum (l : List Nat) : ((l.map s1).map (·.length)).sum = l.length := by
  induction l with
  | nil => rfl
  | cons a r ih =>
    rw [List.map_cons, List.map_cons, List.sum_cons, ih, List.length_cons]
    show 1 + r.length = r.length + 1
    omega
/-- the first sign that is no letter -/
def strange (i : Nat) : List Nat → Option Nat
  | [] => none
  | c :: r => if isL c = false then some i else strange (i + 1) r
theorem strange_none : ∀ (l : List Nat) (i : Nat), strange i l = none ↔ allL l
  | [], i => ⟨fun _ c h => (nomatch h), fun _ => rfl⟩
  | c :: r, i => by
    show (if isL c = false then some i else strange (i + 1) r) = none ↔ _
    by_cases e : isL c = false
    · rw [if_pos e]
      refine ⟨fun z => (nomatch z), fun h => ?_⟩
      rw [h c List.mem_cons_self] at e
      cases e
    · rw [if_neg e, strange_none r (i + 1)]
      constructor
      · intro h d hd
        rcases List.mem_cons.mp hd with q | q
        · rw [q]
          simpa using e
        · exact h d q
      · intro h d hd
        exact h d (List.mem_cons_of_mem _ hd)
end SB
-- M7
namespace SB
open PySem PySem.Spec PyProof.Rows L2
/-- a pen whose script's ints stand at l -/
def PenQ (l : Addr) (N : Int) (H : Hp) (p : Addr) : Prop := ∃ (ns : List Int) (i j : Int), H p = some (.lst [.ref l, .int i, .int j]) ∧ H l = some (.lst (ns.map V.int)) ∧ 0 ≤ i ∧ i ≤ N
section
variable {N M : Int} {H H' : Hp} {p l b : Addr}
theorem PenQ.mono (h : PenQ l N H p) (le : N ≤ M) : PenQ l M H p := by
  obtain ⟨ns, i, j, h1, h2, h3, h4⟩ := h
  exact ⟨ns, i, j, h1, h2, h3, by omega⟩
theorem PenQ.same (h : PenQ l N H p) (s : Same H H') : PenQ l N H' p := by
  obtain ⟨ns, i, j, h1, h2, h3, h4⟩ := h
  exact ⟨ns, i, j, s _ _ h1, s _ _ h2, h3, h4⟩
theorem PenQ.ne_p (h : PenQ l N H p) (e : H b = none) : b ≠ p := fun q => by
  obtain ⟨_, _, _, z, _⟩ := h
  rw [q, z] at e
  cases e
theorem PenQ.ne_l (h : PenQ l N H p) (e : H b = none) : b ≠ l := fun q => by
  obtain ⟨_, _, _, _, z, _⟩ := h
  rw [q, z] at e
  cases e
theorem PenQ.lp (h : PenQ l N H p) : l ≠ p := by
  obtain ⟨ns, i, j, h1, h2, _⟩ := h
  exact pen_ne h1 h2
/-- written elsewhere -/
theorem PenQ.write {o : HO} (h : PenQ l N H p) (np : b ≠ p) (nl : b ≠ l) : PenQ l N (upd H b o) p := by
  obtain ⟨ns, i, j, h1, h2, h3, h4⟩ := h
  refine ⟨ns, i, j, ?_, ?_, h3, h4⟩
  · rw [upd_ne (Ne.symm np)]
    exact h1
  · rw [upd_ne (Ne.symm nl)]
    exact h2
/-- what isn't a list isn't the pen -/
theorem PenQ.not_p {o : HO} (h : PenQ l N H p) (e : H b = some o) (n : ∀ xs, o ≠ .lst xs) : b ≠ p := fun q => by
  obtain ⟨_, _, _, z, _⟩ := h
  rw [q, z] at e
  exact n _ (Option.some.inj e).symm
theorem Kept.new {H1 : Hp} {o : HO} (k : Kept p H H1) (n : H b = none) : Kept p H (upd H1 b o) := fun c u e m => by
  rw [upd_ne (ne_of_none e n)]
  exact k c u e m
end
end SB
-- M8
namespace SB
open PySem PySem.Spec PyProof.Rows L2
theorem cut_take (z : Str) (k : Nat) : (cutS z none (some (k : Int))).cps.toList = z.cps.toList.take k := by
  unfold cutS
  rw [HT.sIx_nat, HT.sIx_none]
  show ((z.cps.toList.drop 0).take (min k z.length - 0)) = _
  rw [List.drop_zero, Nat.sub_zero]
  by_cases h : k ≤ z.length
  · rw [Nat.min_eq_left h]
  · have h1 : z.cps.toList.length ≤ z.length := Nat.le_refl _
    rw [Nat.min_eq_right (by omega), List.take_of_length_le h1, List.take_of_length_le (by omega)]
theorem cut_drop (z : Str) (k : Nat) : (cutS z (some (k : Int)) none).cps.toList = z.cps.toList.drop k := by
  unfold cutS
  rw [HT.sIx_nat, HT.sIx_none]
  show ((z.cps.toList.drop (min k z.length)).take (z.length - min k z.length)) = _
  have hl : z.cps.toList.length = z.length := rfl
  by_cases h : k ≤ z.length
  · rw [Nat.min_eq_left h]
    exact List.take_of_length_le (by rw [List.length_drop]; omega)
  · rw [Nat.min_eq_right (by omega), Nat.sub_self, List.take_zero, List.drop_of_length_le (by omega)]
theorem at_split {l : List Nat} {a c d : Nat} (hc : l[a]? = some c) (hd : l[a + 1]? = some d) : l = l.take a ++ c :: d :: l.drop (a + 2) := by
  obtain ⟨h1, e1⟩ := List.getElem?_eq_some_iff.mp hc
  obtain ⟨h2, e2⟩ := List.getElem?_eq_some_iff.mp hd
  have s1 : l.drop a = c :: l.drop (a + 1) := by rw [List.drop_eq_getElem_cons h1, e1]
  have s2 : l.drop (a + 1) = d :: l.drop (a + 2) := by rw [List.drop_eq_getElem_cons h2, e2]
  rw [← s2, ← s1, List.take_append_drop]
theorem flat_cut {l : List Nat} {a : Nat} (h : flat l (a + 1)) (n : a ≤ l.length) : flat (l.take a ++ l.drop (a + 2)) (a - 1 + 1) := by
  intro j c d hj hd hc
  have j1 : j + 1 < a := by omega
  rw [List.getElem?_append_left (by rw [List.length_take]; omega), List.getElem?_take_of_lt (by omega)] at hd hc
  exact h j c d (by omega) hd hc
theorem flat_next {l : List Nat} {a c d : Nat} (hL : allL l) (h : flat l (a + 1)) (hc : l[a]? = some c) (hd : l[a + 1]? = some d) (n : c ≠ up d) : flat l (a + 1 + 1) := by
  intro j x y hj hy hx
  by_cases e : j = a
  · subst e
    rw [hc] at hy
    rw [hd] at hx
    cases hy
    cases hx
    intro q
    refine n ?_
    rw [q, up_up c (hL c (List.mem_of_getElem? hc))]
  · exact h j x y (by omega) hy hx
end SB
-- M9
namespace SB
open PySem PySem.Spec PyProof.Rows L2
/-! ### lists of texts as data -/
def dstrs (l : List Str) : List PyData := l.map PyData.str
def vstrs (l : List Str) : List V := l.map V.str
theorem dp_texts {K : PySem.W.Frag} {H : Hp} : ∀ l : List Str, DpAll K H (vstrs l) (dstrs l)
  | [] => .nil
  | a :: r => .cons (.str a) (dp_texts r)
/-- a text that may be laid -/
def Plain (z : Str) : Prop := (z.cps.all fun c => decide (c < 0x110000)) = true
theorem shaped_texts {l : List Str} (h : ∀ z ∈ l, Plain z) : SeqAt.shaped (.list (dstrs l)) = true := by
  have lay : ∀ l : List Str, (∀ z ∈ l, Plain z) → PyData.canLayAll0 (dstrs l) = true := by
    intro l
    induction l with
    | nil => intro _; rfl
    | cons a r ih =>
      intro h
      show ((a.cps.all fun c => decide (c < 0x110000)) && PyData.canLayAll0 (dstrs r)) = true
      rw [h a List.mem_cons_self, ih fun z hz => h z (List.mem_cons_of_mem _ hz)]
      rfl
  have dep : ∀ l : List Str, PyData.depthAll (dstrs l) ≤ 1 := by
    intro l
    induction l with
    | nil => exact Nat.zero_le _
    | cons a r ih =>
      show max _ _ ≤ 1
      refine Nat.max_le.mpr ⟨?_, ih⟩
      simp [PyData.depth]
  unfold SeqAt.shaped
  have e1 : PyData.canLay0 (.list (dstrs l)) = true := lay l h
  rw [e1]
  refine decide_eq_true ?_
  have := dep l
  have e2 : PyData.depth (.list (dstrs l)) = PyData.depthAll (dstrs l) + 1 := by
    simp [PyData.depth]
  rw [e2]
  omega
theorem eqv_texts : ∀ l : List Str, PyData.eqvAll (dstrs l) (dstrs l) = true
  | [] => rfl
  | a :: r => by
    show ((a == a) && PyData.eqvAll (dstrs r) (dstrs r)) = true
    rw [eqv_texts r]
    simp
theorem plain_one {c : Nat} (h : isL c = true) : Plain (s1 c) := by
  have := letter_lt c h
  unfold Plain
  simp
  omega
theorem plain_fine {z : Str} (h : fault z.cps.toList = none) : Plain z := ok_word h
theorem plain_ones {l : List Nat} (h : allL l) : ∀ z ∈ l.map s1, Plain z := fun z hz => by
  obtain ⟨c, hc, rfl⟩ := List.mem_map.mp hz
  exact plain_one (h c hc)
end SB
-- M10
namespace SB
open PySem PySem.Spec PyProof.Rows L2
/-! ### long rows -/
theorem foldl_codes : ∀ (ls : List (Array Nat)) (acc : Array Nat), (ls.foldl (· ++ ·) acc).toList = acc.toList ++ (ls.map (·.toList)).flatten
  | [], acc => by simp
  | a :: r, acc => by
    rw [List.foldl_cons, foldl_codes r (acc ++ a), Array.toList_append, List.map_cons, List.flatten_cons, List.append_assoc]
theorem mul_codes {z : Str} {n : Int} (h : 1 < n) (hz : 0 < z.length) : (Txt.mul z n).cps.toList = (List.replicate n.toNat z.cps.toList).flatten := by
  have e1 : ¬ n < 1 := by omega
  have e2 : (n == 1 || z.length == 0) = false := by
    have a : (n == 1) = false := by simp; omega
    have b : (z.length == 0) = false := by simp; omega
    rw [a, b]
    rfl
  unfold Txt.mul
  rw [if_neg e1, e2]
  show ((List.replicate n.toNat z.cps).foldl (· ++ ·) #[]).toList = _
  rw [foldl_codes, List.map_replicate]
  rfl
theorem mul_mem {z : Str} {n : Int} (h : 1 < n) (hz : 0 < z.length) {c : Nat} (hc : c ∈ (Txt.mul z n).cps.toList) : c ∈ z.cps.toList := by
  rw [mul_codes h hz] at hc
  obtain ⟨l, h1, h2⟩ := List.mem_flatten.mp hc
  rw [List.eq_of_mem_replicate h1] at h2
  exact h2
theorem mul_len {z : Str} {n : Int} (h : 1 < n) (hz : 0 < z.length) : (Txt.mul z n).length = n.toNat * z.length := by
  have rep : ∀ (m k : Nat), (List.replicate m k).sum = m * k := by
    intro m k
    induction m with
    | zero => simp
    | succ m ih =>
      rw [List.replicate_succ, List.sum_cons, ih, Nat.succ_mul, Nat.add_comm]
  rw [len_codes, mul_codes h hz, List.length_flatten, List.map_replicate, rep]
  rfl
def units : List Str := ["A", "d", "AB", "CdaB"]
theorem units_ok : ∀ u ∈ units, (0 < u.length ∧ u.length ≤ 4) ∧ (∀ c ∈ u.cps.toList, isL c = true) ∧ (∀ c ∈ u.cps.toList, ∀ d ∈ u.cps.toList, c ≠ up d) := by decide +kernel
theorem units_mul : ∀ u ∈ units, MulOk u 4000 ∧ MulOk u 5000 := by
  unfold MulOk
  decide +kernel
theorem fine_units {u : Str} (hu : u ∈ units) {l : List Nat} (h : ∀ c ∈ l, c ∈ u.cps.toList) : Fine l := by
  obtain ⟨_, h1, h2⟩ := units_ok u hu
  exact ⟨fun c hc => h1 c (h c hc), fun j c d _ hd hc => h2 c (h c (List.mem_of_getElem? hc)) d (h d (List.mem_of_getElem? hd))⟩
/-- the first k signs of a unit written n times -/
theorem cut_mul {u : Str} (hu : u ∈ units) {n : Int} {k : Nat} (h : 1 < n) (hk : k ≤ n.toNat) : Fine (cutS (Txt.mul u n) none (some (k : Int))).cps.toList ∧ (cutS (Txt.mul u n) none (some (k : Int))).length = k := by
  obtain ⟨⟨l0, l4⟩, _⟩ := units_ok u hu
  have ml := mul_len h l0
  have le : n.toNat ≤ n.toNat * u.length := Nat.le_mul_of_pos_right _ l0
  constructor
  · refine fine_units hu fun c hc => ?_
    rw [cut_take] at hc
    exact mul_mem h l0 (List.mem_of_mem_take hc)
  · rw [len_codes, cut_take, List.length_take]
    have : (Txt.mul u n).cps.toList.length = (Txt.mul u n).length := rfl
    omega
theorem undo_tail : ∀ (m f : List Nat), allL f → allL m → strike (f ++ m ++ (m.map up).reverse) = strike f
  | [], f, _, _ => by simp
  | c :: r, f, hf, hm => by
    have cL := hm c List.mem_cons_self
    have rL : allL r := fun d hd => hm d (List.mem_cons_of_mem _ hd)
    have e : f ++ (c :: r) ++ ((c :: r).map up).reverse = ((f ++ [c]) ++ r ++ (r.map up).reverse) ++ [up c] := by simp
    have fL : allL (f ++ [c]) := allL_app hf fun d hd => by
      rw [List.mem_singleton.mp hd]
      exact cL
    rw [e, strike_snoc, undo_tail r (f ++ [c]) fL rL, strike_snoc]
    exact push_push (fine_strike hf) (up_isL c cL) (up_up c cL).symm
end SB
-- M11
namespace SB
open PySem PySem.Spec PyProof.Rows L2
/-- all but the tables and p stay -/
def KN (p : Addr) (H H' : Hp) : Prop := ∀ b o, H b = some o → b ≠ p → (∀ ps, o ≠ .tbl ps) → H' b = some o
theorem KN.of {p : Addr} {H H' : Hp} (s : Same H H') : KN p H H' := fun b o h _ _ => s b o h
theorem KN.ext {p : Addr} {H H' : Hp} (s : LamX.ExtN H H') : KN p H H' := fun b o h _ n => s b o h n
theorem KN.kept {p : Addr} {H H' : Hp} (s : Kept p H H') : KN p H H' := fun b o h n _ => s b o h n
theorem KN.trans {p : Addr} {H H1 H2 : Hp} (a : KN p H H1) (b : KN p H1 H2) : KN p H H2 := fun c o h n m => b c o (a c o h n m) n m
theorem penQ_ext {l p : Addr} {N : Int} {H H' : Hp} (h : PenQ l N H p) (e : LamX.ExtN H H') : PenQ l N H' p := by
  obtain ⟨ns, i, j, h1, h2, h3, h4⟩ := h
  exact ⟨ns, i, j, e _ _ h1 (fun _ z => nomatch z), e _ _ h2 (fun _ z => nomatch z), h3, h4⟩
theorem tabs_keptQ {T : List (Addr × Str)} {l p : Addr} {N : Int} {H H' : Hp} (t : LamX.Tabs T H) (h : PenQ l N H p) (k : Kept p H H') : LamX.Tabs T H' := by
  obtain ⟨ns, i, j, h1, _⟩ := h
  refine fun r hr => ?_
  obtain ⟨ps, a1, a2, a3⟩ := t r hr
  refine ⟨ps, k _ _ a1 (fun e => by rw [e, h1] at a1; cases a1), a2, fun pos cv hc => ?_⟩
  obtain ⟨c, e1, e2⟩ := a3 pos cv hc
  refine ⟨c, e1, k _ _ e2 (fun e => ?_)⟩
  rw [e, h1] at e2
  unfold LamX.CodeO at e2
  cases e2
theorem fault_stop : ∀ (a b : List Nat) (x : Nat) (p : Option Nat) (i : Nat), faultFrom p i a = none → isL x = false → faultFrom p i (a ++ x :: b) = some (i + a.length)
  | [], b, x, p, i, _, hx => if_pos (.inl hx)
  | c :: r, b, x, p, i, h, hx => by
    have h' : (if isL c = false ∨ some (up c) = p then some i else faultFrom (some c) (i + 1) r) = none := h
    by_cases e : isL c = false ∨ some (up c) = p
    · rw [if_pos e] at h'
      cases h'
    · rw [if_neg e] at h'
      show (if isL c = false ∨ some (up c) = p then some i else faultFrom (some c) (i + 1) (r ++ x :: b)) = _
      rw [if_neg e, fault_stop r b x (some c) (i + 1) h' hx, List.length_cons]
      congr 1
      omega
theorem strange_stop : ∀ (a b : List Nat) (x : Nat) (i : Nat), allL a → isL x = false → strange i (a ++ x :: b) = some (i + a.length)
  | [], b, x, i, _, hx => if_pos hx
  | c :: r, b, x, i, h, hx => by
    have cL := h c List.mem_cons_self
    show (if isL c = false then some i else strange (i + 1) (r ++ x :: b)) = _
    rw [if_neg (by rw [cL]; decide), strange_stop r b x (i + 1) (fun d hd => h d (List.mem_cons_of_mem _ hd)) hx, List.length_cons]
    congr 1
    omega
end SB
-- M12
namespace SB
open PySem PySem.Spec PyProof.Rows L2
/-! ### the group of the rows -/
/-- the row that undoes one -/
def inv (l : List Nat) : List Nat := (l.map up).reverse
theorem inv_app (a b : List Nat) : inv (a ++ b) = inv b ++ inv a := by simp [inv]
theorem inv_len (l : List Nat) : (inv l).length = l.length := by simp [inv]
theorem allL_inv {l : List Nat} (h : allL l) : allL (inv l) := fun c hc => by
  obtain ⟨d, hd, rfl⟩ := List.mem_map.mp (List.mem_reverse.mp hc)
  exact up_isL d (h d hd)
theorem inv_inv {l : List Nat} (h : allL l) : inv (inv l) = l := by
  unfold inv
  rw [List.map_reverse, List.reverse_reverse, List.map_map]
  conv => rhs; rw [← List.map_id l]
  exact List.map_congr_left fun c hc => up_up c (h c hc)
theorem fold_strike : ∀ (b : List Nat) (s r : List Nat), Fine s → Fine r → allL b → (b.foldl push r).foldl push s = b.foldl push (r.foldl push s)
  | [], s, r, _, _, _ => rfl
  | c :: b, s, r, hs, hr, hb => by
    have cL := hb c List.mem_cons_self
    show (b.foldl push (push r c)).foldl push s = b.foldl push (push (r.foldl push s) c)
    rw [fold_strike b s (push r c) hs (fine_push hr cL) fun d hd => hb d (List.mem_cons_of_mem _ hd)]
    congr 1
    by_cases e : r.getLast? = some (up c)
    · have ep : push r c = r.dropLast := by
        unfold push
        rw [if_pos e]
      obtain ⟨q, rfl⟩ := last_split e
      rw [ep, List.dropLast_concat, List.foldl_append]
      show q.foldl push s = push (push (q.foldl push s) (up c)) c
      have hq : Fine q := fine_pre hr
      exact (push_push (fine_fold q s hs hq.1) cL rfl).symm
    · have ep : push r c = r ++ [c] := by
        unfold push
        rw [if_neg e]
      rw [ep, List.foldl_append]
      rfl
/-- what is left of one row behind another, once each is struck -/
theorem strike_app {a b : List Nat} (ha : allL a) (hb : allL b) : strike (strike a ++ b) = strike (a ++ b) ∧ strike (a ++ strike b) = strike (a ++ b) := by
  constructor
  · unfold strike
    rw [List.foldl_append, List.foldl_append]
    have : (a.foldl push []).foldl push [] = a.foldl push [] := strike_fine (fine_strike ha)
    rw [this]
  · unfold strike
    rw [List.foldl_append, List.foldl_append, fold_strike b (a.foldl push []) [] (fine_fold a [] fine_nil ha) fine_nil hb]
    rfl
theorem fold_inv : ∀ (m s : List Nat), Fine s → allL m → (m ++ inv m).foldl push s = s
  | [], s, _, _ => rfl
  | c :: r, s, hs, hm => by
    have cL := hm c List.mem_cons_self
    have e : (c :: r) ++ inv (c :: r) = [c] ++ (r ++ inv r) ++ [up c] := by simp [inv]
    rw [e, List.foldl_append, List.foldl_append]
    show push ((r ++ inv r).foldl push (push s c)) (up c) = s
    rw [fold_inv r (push s c) (fine_push hs cL) fun d hd => hm d (List.mem_cons_of_mem _ hd)]
    exact push_push hs (up_isL c cL) (up_up c cL).symm
theorem strike_inv_right {a b : List Nat} (ha : allL a) (hb : allL b) : strike (a ++ b ++ inv b) = strike a := by
  unfold strike
  rw [List.append_assoc, List.foldl_append, fold_inv b _ (fine_fold a [] fine_nil ha) hb]
theorem strike_inv_left {a b : List Nat} (ha : allL a) (hb : allL b) : strike (inv a ++ (a ++ b)) = strike b := by
  have h := fold_inv (inv a) [] fine_nil (allL_inv ha)
  rw [inv_inv ha] at h
  unfold strike
  rw [← List.append_assoc, List.foldl_append, h]
theorem fine_inv {l : List Nat} (h : Fine l) : Fine (inv l) := by
  refine ⟨allL_inv h.1, fun j c d hj hd hc => ?_⟩
  rw [inv_len] at hj
  unfold inv at hd hc
  have l1 : (l.map up).length = l.length := List.length_map ..
  rw [List.getElem?_reverse (by omega), l1, List.getElem?_map] at hd hc
  obtain ⟨x, hx, rfl⟩ := Option.map_eq_some_iff.mp hd
  obtain ⟨y, hy, rfl⟩ := Option.map_eq_some_iff.mp hc
  have xL := h.1 x (List.mem_of_getElem? hx)
  have yL := h.1 y (List.mem_of_getElem? hy)
  intro e
  have e2 : up y = x := e.trans (up_up x xL)
  have key := h.2 (l.length - 1 - (j + 1)) x y (by omega) (by rw [show l.length - 1 - (j + 1) = l.length - 1 - (j + 1) from rfl]; exact hy) (by rw [show l.length - 1 - (j + 1) + 1 = l.length - 1 - j by omega]; exact hx)
  exact key e2.symm
theorem strike_inv {l : List Nat} (h : allL l) : strike (inv l) = inv (strike l) := by
  have h1 : Fine (inv (strike l)) := fine_inv (fine_strike h)
  have e1 : strike (inv (strike l) ++ (strike l ++ inv l)) = strike (inv l) := strike_inv_left (fine_strike h).1 (allL_inv h)
  have e2 : strike (strike l ++ inv l) = [] := by
    rw [(strike_app h (allL_inv h)).1]
    have h0 := strike_inv_right (a := []) fine_nil.1 h
    have h1 : strike (l ++ inv l) = strike [] := by simpa using h0
    exact h1
  have e3 : strike (inv (strike l) ++ (strike l ++ inv l)) = strike (inv (strike l)) := by
    rw [← (strike_app (allL_inv (fine_strike h).1) (allL_app (fine_strike h).1 (allL_inv h))).2, e2, List.append_nil]
  rw [← e1, e3, strike_fine h1]
theorem fine_join {a b : List Nat} (ha : Fine a) (hb : Fine b) (n : ∀ x y, a.getLast? = some x → b[0]? = some y → y ≠ up x) : Fine (a ++ b) := by
  refine ⟨allL_app ha.1 hb.1, fun j c d hj hd hc => ?_⟩
  rw [List.length_append] at hj
  by_cases h1 : j + 1 < a.length
  · rw [List.getElem?_append_left (by omega)] at hd hc
    exact ha.2 j c d h1 hd hc
  · by_cases h2 : j < a.length
    · have e : j + 1 = a.length := by omega
      rw [List.getElem?_append_left h2] at hd
      rw [List.getElem?_append_right (by omega), e, Nat.sub_self] at hc
      refine n d c ?_ hc
      rw [List.getLast?_eq_getElem?, ← e]
      exact hd
    · rw [List.getElem?_append_right (by omega)] at hd hc
      have e : j + 1 - a.length = (j - a.length) + 1 := by omega
      rw [e] at hc
      exact hb.2 (j - a.length) c d (by omega) hd hc
theorem fine_take {l : List Nat} (h : Fine l) (n : Nat) : Fine (l.take n) := fine_pre (b := l.drop n) (by rw [List.take_append_drop]; exact h)
theorem fine_drop {l : List Nat} (h : Fine l) (n : Nat) : Fine (l.drop n) := by
  refine ⟨allL_drop h.1 n, fun j c d hj hd hc => ?_⟩
  rw [List.length_drop] at hj
  rw [List.getElem?_drop] at hd hc
  have e : n + (j + 1) = (n + j) + 1 := by omega
  rw [e] at hc
  exact h.2 (n + j) c d (by omega) hd hc
/-- one step of the striking out from the middle -/
theorem join_step {a b : List Nat} {g x y : Nat} (ha : Fine a) (hb : Fine b) (hg : g < a.length) (hx : a[a.length - 1 - g]? = some x) (hy : b[g]? = some y) (e : x = up y) :
    strike (a.take (a.length - g) ++ b.drop g) = strike (a.take (a.length - (g + 1)) ++ b.drop (g + 1)) := by
  have e1 : a.take (a.length - g) = a.take (a.length - (g + 1)) ++ [x] := by
    have h1 : a.length - g = (a.length - (g + 1)) + 1 := by omega
    rw [h1, List.take_add_one]
    have h2 : a.length - (g + 1) = a.length - 1 - g := by omega
    rw [h2, hx]
    rfl
  have e2 : b.drop g = y :: b.drop (g + 1) := by
    obtain ⟨h1, h2⟩ := List.getElem?_eq_some_iff.mp hy
    rw [List.drop_eq_getElem_cons h1, h2]
  rw [e1, e2, List.append_assoc]
  refine strike_pair ?_ e
  have hL : allL (a.take (a.length - (g + 1)) ++ ([x] ++ (y :: b.drop (g + 1)))) := by
    rw [← e2, ← List.append_assoc, ← e1]
    exact allL_app (allL_take ha.1 _) (allL_drop hb.1 _)
  exact hL
theorem join_end {a b : List Nat} {g : Nat} (ha : Fine a) (hb : Fine b) (n : ∀ x y, g < a.length → a[a.length - 1 - g]? = some x → b[g]? = some y → x ≠ up y) : strike (a.take (a.length - g) ++ b.drop g) = a.take (a.length - g) ++ b.drop g := by
  refine strike_fine (fine_join (fine_take ha _) (fine_drop hb _) fun x y hx hy => ?_)
  rw [List.getElem?_drop, Nat.add_zero] at hy
  rw [List.getLast?_eq_getElem?, List.length_take] at hx
  have hg : g < a.length := by
    rcases Nat.lt_or_ge g a.length with q | q
    · exact q
    · rw [show min (a.length - g) a.length - 1 = 0 by omega, show a.length - g = 0 by omega] at hx
      simp at hx
  rw [List.getElem?_take_of_lt (by omega), show min (a.length - g) a.length - 1 = a.length - 1 - g by omega] at hx
  have k := n x y hg hx hy
  intro e
  refine k ?_
  rw [e, up_up x (ha.1 x (List.mem_of_getElem? hx))]
end SB
-- M14
namespace SB
open PySem PySem.Spec PyProof.Rows L2
theorem errO_ne {C d a : Addr} (ps : Array Value) : ErrO C d a ≠ .tbl ps := fun z => by
  unfold ErrO at z
  cases z
theorem errO_lst {C d a : Addr} (xs : List V) : ErrO C d a ≠ .lst xs := fun z => by
  unfold ErrO at z
  cases z
theorem tabs_put {T : List (Addr × Str)} {H : Hp} {a : Addr} {xs : List V} {o : HO} (t : LamX.Tabs T H) (h : H a = some (.lst xs)) : LamX.Tabs T (upd H a o) := by
  refine fun r hr => ?_
  obtain ⟨ps, a1, a2, a3⟩ := t r hr
  refine ⟨ps, ?_, a2, fun pos cv hc => ?_⟩
  · rw [upd_ne (fun e => by rw [e, h] at a1; cases a1)]
    exact a1
  · obtain ⟨c, e1, e2⟩ := a3 pos cv hc
    refine ⟨c, e1, ?_⟩
    rw [upd_ne (fun e => ?_)]
    · exact e2
    · rw [e, h] at e2
      unfold LamX.CodeO at e2
      cases e2
theorem err_put {H2 : Hp} {C d a : Addr} {fs : List (Str × V)} (hd : H2 d = none) (ha : upd H2 d (.xd fs) a = none) : upd (upd H2 d (.xd fs)) a (ErrO C d a) a = some (ErrO C d a) ∧ upd (upd H2 d (.xd fs)) a (ErrO C d a) d = some (.xd fs) ∧ Same H2 (upd (upd H2 d (.xd fs)) a (ErrO C d a)) := by
  have ne : a ≠ d := fun q => by
    rw [q, upd_same] at ha
    cases ha
  have nw : ∀ {H : Hp} {p : Addr} {o : HO}, H p = none → Same H (upd H p o) := fun h b x e => by
    rw [upd_ne (ne_of_none e h)]
    exact e
  refine ⟨upd_same, ?_, (nw hd).trans (nw ha)⟩
  rw [upd_ne (Ne.symm ne), upd_same]
end SB
-- M15
namespace SB
open PySem PySem.Spec PyProof.Rows L2
theorem mulOk_small {z : Str} {n : Int} (h1 : 1 < n) (h2 : n ≤ 4000) (hz : z.length ≤ 4) : MulOk z n := by
  refine ⟨?_, fun _ _ => ?_, fun _ _ => ?_⟩
  · have a : decide (n < -(2 ^ 63 : Int)) = false := decide_eq_false (by omega)
    have b : decide (n ≥ (2 ^ 63 : Int)) = false := decide_eq_false (by omega)
    rw [a, b]
    rfl
  · have : (4 : Int) ≤ (2 ^ 63 - 1) / n := Int.le_ediv_of_mul_le (by omega) (by omega)
    omega
  · have : z.length * n.toNat ≤ 4 * 4000 := Nat.mul_le_mul hz (by omega)
    refine decide_eq_false (p := z.length * n.toNat > sizeLine) ?_
    rw [sizeLine_eq]
    omega
/-- pairs of units that nothing is struck out of -/
def pairs : List (Str × Str) := [("AB", "CD"), ("dA", "cb"), ("a", "B")]
theorem pairs_ok : ∀ u ∈ pairs, (u.1.length = u.2.length ∧ (u.1.length = 1 ∨ u.1.length = 2)) ∧ (∀ c ∈ u.1.cps.toList ++ u.2.cps.toList, isL c = true) ∧ (∀ c ∈ u.1.cps.toList ++ u.2.cps.toList, ∀ d ∈ u.1.cps.toList ++ u.2.cps.toList, c ≠ up d) ∧ (∀ c ∈ u.1.cps.toList, ∀ d ∈ u.2.cps.toList, d ≠ c) := by decide +kernel
theorem fine_pair {u : Str × Str} (hu : u ∈ pairs) {l : List Nat} (h : ∀ c ∈ l, c ∈ u.1.cps.toList ++ u.2.cps.toList) : Fine l := by
  obtain ⟨_, h1, h2, _⟩ := pairs_ok u hu
  exact ⟨fun c hc => h1 c (h c hc), fun j c d _ hd hc => h2 c (h c (List.mem_of_getElem? hc)) d (h d (List.mem_of_getElem? hd))⟩
/-- one long row and another: what is told of them -/
theorem long_pair {u : Str × Str} (hu : u ∈ pairs) {m n : Int} (hm : 1 < m) (hn : 1 < n) : Fine (Txt.mul u.1 m).cps.toList ∧ Fine (Txt.mul u.2 n).cps.toList ∧ Fine ((Txt.mul u.1 m).cps.toList ++ (Txt.mul u.2 n).cps.toList) ∧ (Txt.mul u.1 m).length = m.toNat * u.1.length ∧ (Txt.mul u.2 n).length = n.toNat * u.1.length ∧ (∀ c ∈ (Txt.mul u.1 m).cps.toList, ∀ d ∈ (Txt.mul u.2 n).cps.toList, d ≠ c) := by
  obtain ⟨⟨e, l⟩, _, _, nc⟩ := pairs_ok u hu
  have f1 : ∀ c ∈ (Txt.mul u.1 m).cps.toList, c ∈ u.1.cps.toList ++ u.2.cps.toList := fun c hc => List.mem_append_left _ (mul_mem hm (by omega) hc)
  have f2 : ∀ c ∈ (Txt.mul u.2 n).cps.toList, c ∈ u.1.cps.toList ++ u.2.cps.toList := fun c hc => List.mem_append_right _ (mul_mem hn (by omega) hc)
  refine ⟨fine_pair hu f1, fine_pair hu f2, fine_pair hu fun c hc => ?_, mul_len hm (by omega), by rw [mul_len hn (by omega), e], fun c hc d hd => nc c (mul_mem hm (by omega) hc) d (mul_mem hn (by omega) hd)⟩
  rcases List.mem_append.mp hc with h | h
  · exact f1 c h
  · exact f2 c h
/-- a row, and its undoing with something after it -/
theorem strike_back {a b : List Nat} (ha : allL a) (hb : Fine b) : strike (a ++ (inv a ++ b)) = b := by
  have h := strike_inv_left (a := inv a) (b := b) (allL_inv ha) hb.1
  rw [inv_inv ha, strike_fine hb] at h
  exact h
theorem fine_back {a c : List Nat} (ha : Fine a) (hc : Fine c) (n : ∀ x ∈ a, ∀ y ∈ c, y ≠ x) : Fine (inv a ++ c) := by
  refine fine_join (fine_inv ha) hc fun x y hx hy e => ?_
  unfold inv at hx
  rw [List.getLast?_reverse, List.head?_map] at hx
  obtain ⟨z, hz, rfl⟩ := Option.map_eq_some_iff.mp hx
  have mz : z ∈ a := List.mem_of_mem_head? hz
  rw [up_up z (ha.1 z mz)] at e
  exact n z mz y (List.mem_of_getElem? hy) e
end SB
-- K04T
namespace K04
open PySem PySem.Spec PyProof.Rows L2 SB
def topS (i : Nat) : Stmt := PySem.Challenge.pw_sevenball_k04_roots_cores_powers.main.body.getD i (.Pass ⟨0, 0, 0, 0⟩)
abbrev s__wall : Stmt := topS 0
theorem sc__wall : FnScope ["k"] ["k"] (defScope s__wall) := ⟨rfl, rfl, rfl, by decide +kernel, rfl, by decide +kernel, by decide +kernel⟩
abbrev s_BadNumber_init : Stmt := inClass (topS 3) 0
theorem sc_BadNumber_init : FnScope ["self", "part"] ["self", "part"] (defScope s_BadNumber_init) := ⟨rfl, rfl, rfl, by decide +kernel, rfl, by decide +kernel, by decide +kernel⟩
abbrev s_BadWord_init : Stmt := inClass (topS 4) 0
theorem sc_BadWord_init : FnScope ["self", "at"] ["self", "at"] (defScope s_BadWord_init) := ⟨rfl, rfl, rfl, by decide +kernel, rfl, by decide +kernel, by decide +kernel⟩
abbrev s_TooMany_init : Stmt := inClass (topS 5) 0
theorem sc_TooMany_init : FnScope ["self", "what", "most"] ["self", "what", "most"] (defScope s_TooMany_init) := ⟨rfl, rfl, rfl, by decide +kernel, rfl, by decide +kernel, by decide +kernel⟩
abbrev s_BadText_init : Stmt := inClass (topS 6) 0
theorem sc_BadText_init : FnScope ["self", "item"] ["self", "item"] (defScope s_BadText_init) := ⟨rfl, rfl, rfl, by decide +kernel, rfl, by decide +kernel, by decide +kernel⟩
abbrev s_is_integer : Stmt := topS 9
theorem sc_is_integer : FnScope ["value"] ["value"] (defScope s_is_integer) := ⟨rfl, rfl, rfl, by decide +kernel, rfl, by decide +kernel, by decide +kernel⟩
abbrev s_is_within : Stmt := topS 10
theorem sc_is_within : FnScope ["value", "least", "most"] ["value", "least", "most"] (defScope s_is_within) := ⟨rfl, rfl, rfl, by decide +kernel, rfl, by decide +kernel, by decide +kernel⟩
abbrev s_first_fault : Stmt := topS 13
theorem sc_first_fault : FnScope ["letters", "before", "at", "letter"] ["letters"] (defScope s_first_fault) := ⟨rfl, rfl, rfl, by decide +kernel, rfl, by decide +kernel, by decide +kernel⟩
abbrev s_first_stranger : Stmt := topS 14
theorem sc_first_stranger : FnScope ["letters", "at", "letter"] ["letters"] (defScope s_first_stranger) := ⟨rfl, rfl, rfl, by decide +kernel, rfl, by decide +kernel, by decide +kernel⟩
abbrev s_struck : Stmt := topS 15
theorem sc_struck : FnScope ["letters", "left", "letter"] ["letters"] (defScope s_struck) := ⟨rfl, rfl, rfl, by decide +kernel, rfl, by decide +kernel, by decide +kernel⟩
abbrev s_joined : Stmt := topS 16
theorem sc_joined : FnScope ["one", "other", "size", "most", "gone"] ["one", "other"] (defScope s_joined) := ⟨rfl, rfl, rfl, by decide +kernel, rfl, by decide +kernel, by decide +kernel⟩
abbrev s_undone : Stmt := topS 17
theorem sc_undone : FnScope ["letters"] ["letters"] (defScope s_undone) := ⟨rfl, rfl, rfl, by decide +kernel, rfl, by decide +kernel, by decide +kernel⟩
abbrev s_coat_size : Stmt := topS 18
theorem sc_coat_size : FnScope ["letters", "last", "size"] ["letters"] (defScope s_coat_size) := ⟨rfl, rfl, rfl, by decide +kernel, rfl, by decide +kernel, by decide +kernel⟩
abbrev s_repeated : Stmt := topS 19
theorem sc_repeated : FnScope ["letters", "many", "most", "size", "core"] ["letters", "many", "most"] (defScope s_repeated) := ⟨rfl, rfl, rfl, by decide +kernel, rfl, by decide +kernel, by decide +kernel⟩
abbrev s_items_of : Stmt := topS 21
theorem sc_items_of : FnScope ["text"] ["text"] (defScope s_items_of) := ⟨rfl, rfl, rfl, by decide +kernel, rfl, by decide +kernel, by decide +kernel⟩
abbrev s_Word_init : Stmt := inClass (topS 23) 0
theorem sc_Word_init : FnScope ["self", "letters", "at"] ["self", "letters"] (defScope s_Word_init) := ⟨rfl, rfl, rfl, by decide +kernel, rfl, by decide +kernel, by decide +kernel⟩
abbrev s_Word_of : Stmt := inClass (topS 23) 1
theorem sc_Word_of : FnScope ["letters", "at"] ["letters"] (defScope s_Word_of) := ⟨rfl, rfl, rfl, by decide +kernel, rfl, by decide +kernel, by decide +kernel⟩
abbrev s_Word_read : Stmt := inClass (topS 23) 2
theorem sc_Word_read : FnScope ["text", "items", "word"] ["text"] (defScope s_Word_read) := ⟨rfl, rfl, rfl, by decide +kernel, rfl, by decide +kernel, by decide +kernel⟩
abbrev s_Word_str : Stmt := inClass (topS 23) 3
theorem sc_Word_str : FnScope ["self"] ["self"] (defScope s_Word_str) := ⟨rfl, rfl, rfl, by decide +kernel, rfl, by decide +kernel, by decide +kernel⟩
abbrev s_Word_mul : Stmt := inClass (topS 23) 4
theorem sc_Word_mul : FnScope ["self", "other"] ["self", "other"] (defScope s_Word_mul) := ⟨rfl, rfl, rfl, by decide +kernel, rfl, by decide +kernel, by decide +kernel⟩
abbrev s_Word_invert : Stmt := inClass (topS 23) 5
theorem sc_Word_invert : FnScope ["self"] ["self"] (defScope s_Word_invert) := ⟨rfl, rfl, rfl, by decide +kernel, rfl, by decide +kernel, by decide +kernel⟩
abbrev s_Word_power : Stmt := inClass (topS 23) 6
theorem sc_Word_power : FnScope ["self", "many", "letters"] ["self", "many"] (defScope s_Word_power) := ⟨rfl, rfl, rfl, by decide +kernel, rfl, by decide +kernel, by decide +kernel⟩
abbrev s_Word_len : Stmt := inClass (topS 23) 7
theorem sc_Word_len : FnScope ["self"] ["self"] (defScope s_Word_len) := ⟨rfl, rfl, rfl, by decide +kernel, rfl, by decide +kernel, by decide +kernel⟩
abbrev s_Word_iter : Stmt := inClass (topS 23) 8
theorem sc_Word_iter : FnScope ["self"] ["self"] (defScope s_Word_iter) := ⟨rfl, rfl, rfl, by decide +kernel, rfl, by decide +kernel, by decide +kernel⟩
abbrev s_Word_getitem : Stmt := inClass (topS 23) 9
theorem sc_Word_getitem : FnScope ["self", "at"] ["self", "at"] (defScope s_Word_getitem) := ⟨rfl, rfl, rfl, by decide +kernel, rfl, by decide +kernel, by decide +kernel⟩
abbrev s_Word_eq : Stmt := inClass (topS 23) 10
theorem sc_Word_eq : FnScope ["self", "other"] ["self", "other"] (defScope s_Word_eq) := ⟨rfl, rfl, rfl, by decide +kernel, rfl, by decide +kernel, by decide +kernel⟩
abbrev s_Word_lt : Stmt := inClass (topS 23) 11
theorem sc_Word_lt : FnScope ["self", "other"] ["self", "other"] (defScope s_Word_lt) := ⟨rfl, rfl, rfl, by decide +kernel, rfl, by decide +kernel, by decide +kernel⟩
abbrev s_Word_le : Stmt := inClass (topS 23) 12
theorem sc_Word_le : FnScope ["self", "other"] ["self", "other"] (defScope s_Word_le) := ⟨rfl, rfl, rfl, by decide +kernel, rfl, by decide +kernel, by decide +kernel⟩
abbrev s_Word_gt : Stmt := inClass (topS 23) 13
theorem sc_Word_gt : FnScope ["self", "other"] ["self", "other"] (defScope s_Word_gt) := ⟨rfl, rfl, rfl, by decide +kernel, rfl, by decide +kernel, by decide +kernel⟩
abbrev s_Word_ge : Stmt := inClass (topS 23) 14
theorem sc_Word_ge : FnScope ["self", "other"] ["self", "other"] (defScope s_Word_ge) := ⟨rfl, rfl, rfl, by decide +kernel, rfl, by decide +kernel, by decide +kernel⟩
abbrev s_Word_begins : Stmt := inClass (topS 23) 15
theorem sc_Word_begins : FnScope ["self", "other"] ["self", "other"] (defScope s_Word_begins) := ⟨rfl, rfl, rfl, by decide +kernel, rfl, by decide +kernel, by decide +kernel⟩
abbrev s_Word_ends : Stmt := inClass (topS 23) 16
theorem sc_Word_ends : FnScope ["self", "other"] ["self", "other"] (defScope s_Word_ends) := ⟨rfl, rfl, rfl, by decide +kernel, rfl, by decide +kernel, by decide +kernel⟩
abbrev s_Word_fits : Stmt := inClass (topS 23) 17
theorem sc_Word_fits : FnScope ["self", "other"] ["self", "other"] (defScope s_Word_fits) := ⟨rfl, rfl, rfl, by decide +kernel, rfl, by decide +kernel, by decide +kernel⟩
abbrev s_Word_meet : Stmt := inClass (topS 23) 18
theorem sc_Word_meet : FnScope ["self", "other"] ["self", "other"] (defScope s_Word_meet) := ⟨rfl, rfl, rfl, by decide +kernel, rfl, by decide +kernel, by decide +kernel⟩
abbrev s_Word_root : Stmt := inClass (topS 23) 19
theorem sc_Word_root : FnScope ["self", "size", "core", "step", "root"] ["self"] (defScope s_Word_root) := ⟨rfl, rfl, rfl, by decide +kernel, rfl, by decide +kernel, by decide +kernel⟩
abbrev s_Word_core : Stmt := inClass (topS 23) 20
theorem sc_Word_core : FnScope ["self", "size"] ["self"] (defScope s_Word_core) := ⟨rfl, rfl, rfl, by decide +kernel, rfl, by decide +kernel, by decide +kernel⟩
abbrev s_word_in : Stmt := topS 24
theorem sc_word_in : FnScope ["item"] ["item"] (defScope s_word_in) := ⟨rfl, rfl, rfl, by decide +kernel, rfl, by decide +kernel, by decide +kernel⟩
abbrev s_commute : Stmt := topS 25
theorem sc_commute : FnScope ["one", "other"] ["one", "other"] (defScope s_commute) := ⟨rfl, rfl, rfl, by decide +kernel, rfl, by decide +kernel, by decide +kernel⟩
abbrev s__law_pen : Stmt := topS 27
theorem sc__law_pen : FnScope ["script"] ["script"] (defScope s__law_pen) := ⟨rfl, rfl, rfl, by decide +kernel, rfl, by decide +kernel, by decide +kernel⟩
abbrev s__law_draw : Stmt := topS 28
theorem sc__law_draw : FnScope ["pen", "many", "digit", "spot", "cell", "great", "mixed"] ["pen", "many"] (defScope s__law_draw) := ⟨rfl, rfl, rfl, by decide +kernel, rfl, by decide +kernel, by decide +kernel⟩
abbrev s__law_pick : Stmt := topS 29
theorem sc__law_pick : FnScope ["pen", "some"] ["pen", "some"] (defScope s__law_pick) := ⟨rfl, rfl, rfl, by decide +kernel, rfl, by decide +kernel, by decide +kernel⟩
abbrev s__law_heard : Stmt := topS 30
theorem sc__law_heard : FnScope ["ask", "caught", "error"] ["ask"] (defScope s__law_heard) := ⟨rfl, rfl, rfl, by decide +kernel, rfl, by decide +kernel, by decide +kernel⟩
abbrev s__law_undo : Stmt := topS 31
theorem sc__law_undo : FnScope ["letter"] ["letter"] (defScope s__law_undo) := ⟨rfl, rfl, rfl, by decide +kernel, rfl, by decide +kernel, by decide +kernel⟩
abbrev s__law_row : Stmt := topS 32
theorem sc__law_row : FnScope ["pen", "most", "found", "kind", "turn", "some", "letter"] ["pen", "most"] (defScope s__law_row) := ⟨rfl, rfl, rfl, by decide +kernel, rfl, by decide +kernel, by decide +kernel⟩
abbrev s__law_back : Stmt := topS 33
theorem sc__law_back : FnScope ["row", "found", "letter"] ["row"] (defScope s__law_back) := ⟨rfl, rfl, rfl, by decide +kernel, rfl, by decide +kernel, by decide +kernel⟩
abbrev s__law_join : Stmt := topS 34
theorem sc__law_join : FnScope ["one", "other", "left", "more"] ["one", "other"] (defScope s__law_join) := ⟨rfl, rfl, rfl, by decide +kernel, rfl, by decide +kernel, by decide +kernel⟩
abbrev s__law_power : Stmt := topS 35
theorem sc__law_power : FnScope ["row", "many", "unit", "found", "turn"] ["row", "many"] (defScope s__law_power) := ⟨rfl, rfl, rfl, by decide +kernel, rfl, by decide +kernel, by decide +kernel⟩
abbrev s__law_drawn : Stmt := topS 36
theorem sc__law_drawn : FnScope ["pen", "coat", "unit"] ["pen"] (defScope s__law_drawn) := ⟨rfl, rfl, rfl, by decide +kernel, rfl, by decide +kernel, by decide +kernel⟩
abbrev s__law_peeled : Stmt := topS 37
theorem sc__law_peeled : FnScope ["row", "coat", "core"] ["row"] (defScope s__law_peeled) := ⟨rfl, rfl, rfl, by decide +kernel, rfl, by decide +kernel, by decide +kernel⟩
abbrev s__law_root : Stmt := topS 38
theorem sc__law_root : FnScope ["row", "coat", "core", "many", "unit"] ["row"] (defScope s__law_root) := ⟨rfl, rfl, rfl, by decide +kernel, rfl, by decide +kernel, by decide +kernel⟩
abbrev s__law_word_right : Stmt := topS 39
theorem sc__law_word_right : FnScope ["pen", "row", "word", "many", "coat", "core", "root", "times", "due", "made"] ["pen", "row"] (defScope s__law_word_right) := ⟨rfl, rfl, rfl, by decide +kernel, rfl, by decide +kernel, by decide +kernel⟩
abbrev s__law_alike : Stmt := topS 40
theorem sc__law_alike : FnScope ["one", "other", "root", "more"] ["one", "other"] (defScope s__law_alike) := ⟨rfl, rfl, rfl, by decide +kernel, rfl, by decide +kernel, by decide +kernel⟩
abbrev s__law_told : Stmt := topS 41
theorem sc__law_told : FnScope ["told", "due"] ["told", "due"] (defScope s__law_told) := ⟨rfl, rfl, rfl, by decide +kernel, rfl, by decide +kernel, by decide +kernel⟩
abbrev s__law_pair_right : Stmt := topS 42
theorem sc__law_pair_right : FnScope ["pen", "row", "way", "other", "root", "told"] ["pen", "row"] (defScope s__law_pair_right) := ⟨rfl, rfl, rfl, by decide +kernel, rfl, by decide +kernel, by decide +kernel⟩
abbrev s__law_refused_right : Stmt := topS 43
theorem sc__law_refused_right : FnScope ["pen", "row", "coat", "core", "caught", "refused", "most", "many", "odd", "word", "one"] ["pen", "row"] (defScope s__law_refused_right) := ⟨rfl, rfl, rfl, by decide +kernel, rfl, by decide +kernel, by decide +kernel⟩
abbrev s_law : Stmt := topS 44
theorem sc_law : FnScope ["script", "pen", "turn", "row"] ["script"] (defScope s_law) := ⟨rfl, rfl, rfl, by decide +kernel, rfl, by decide +kernel, by decide +kernel⟩
end K04
-- K04A
namespace K04
open PySem PySem.Spec PyProof.Rows L2 SB
theorem walk_enumS {z : Str} : Walk (Ies z) z.cps.size (fun _ => True) (fun i H v H' => ∃ (T : Addr) (c : Nat), v = .ref T ∧ H T = none ∧ z.cps[i]? = some c ∧ H' = upd H T (.tup [.int (i : Nat), .str ⟨#[c]⟩])) :=
  ⟨fun _ _ hi _ => hi, fun _ _ => rfl, fun _ _ _ _ _ _ y => y⟩
theorem same_new {H : Hp} {p : Addr} {o : HO} (h : H p = none) : Same H (upd H p o) := fun b x e => by
  rw [upd_ne (ne_of_none e h)]
  exact e
theorem drop_at {z : Str} {i c : Nat} (h : z.cps[i]? = some c) : z.cps.toList.drop i = c :: z.cps.toList.drop (i + 1) := by
  have h' : z.cps.toList[i]? = some c := by rw [Array.getElem?_toList]; exact h
  obtain ⟨lt, e⟩ := List.getElem?_eq_some_iff.mp h'
  rw [List.drop_eq_getElem_cons lt, e]
section
variable {P : Program} {w : World} {K : PySem.W.Frag} {mg : Str → Option Value} {base : Heap}
def vFault (l : List Nat) : V := match fault l with | none => .non | some i => .int (i : Nat)
def spFault : Sp := fun vs H Q _ => ∃ z : Str, vs = [.str z] ∧ ∀ H', Same H H' → Q (vFault z.cps.toList) H'
theorem ok_first_fault {f : Addr} {fd : FuncData} {k : Nat} (F : Fun K "first_fault" "first_fault" s_first_fault f fd) (me : mg "enumerate" = none) (mL : ∃ t, mg "LETTERS" = some (.str "ABCDabcd" t)) :
    FnOk P w K mg base CX0 (k + 1) f fd ["letters"] spFault := by
  obtain ⟨tL, mL⟩ := mL
  refine F.ok sc_first_fault (fun vs H Q E h => ?_) (fun cdv A outer s H vs Q E hr h => ?_)
  · obtain ⟨z, rfl, _⟩ := h
    rfl
  · obtain ⟨z, rfl, q⟩ := h
    refine ⟨_, pss_cons (ps_set (i := 1) sc_first_fault.nd rfl (.inl rfl) pe_str)
      (pss_cons (ps_for PassesOwn.never rfl (pi_enumS (by rfl) me (pa_cons (pv 0) pa_nil))
          (pg_tup rfl (pgs_cons (pg_name (i := 2) sc_first_fault.nd rfl (.inl rfl)) (pgs_cons (pg_name (i := 3) sc_first_fault.nd rfl (.inl rfl)) pgs_nil)))
        (pss_cons (ps_if (PW.pt (pw_or (pt_cmpR op_notIn_sign (pv 3) (pe_glob (v := .str "ABCDabcd") (by rfl) mL ⟨_, rfl⟩) rfl)
            (pw_or1 (pt_cmpR op_eq (pe_m0 PySem.F.slot_str_swapcase PySem.F.type_str_swapcase mt_swapcase (pv 3)) (pv 1) (nomark _)))))
          (pss_one (ps_ret (pv 2))) pss_nil)
        (pss_one (ps_set (i := 1) sc_first_fault.nd rfl (.inl rfl) (pv 3)))))
      (pss_one (ps_ret pe_non))), ?_⟩
    refine ⟨.str z, rfl, z, rfl, for_it walk_enumS (fun i σ H1 => ∃ p y2 y3, σ = [some (.str z), some (.str (prevT p)), y2, y3] ∧ Same H H1 ∧ faultFrom p i (z.cps.toList.drop i) = fault z.cps.toList)
      ⟨none, none, none, rfl, Same.refl H, rfl⟩ (fun _ _ _ _ _ => trivial) (fun i x σ H1 H2 hi hP hY => ?_) (fun σ H1 hP => ?_)⟩
    · obtain ⟨p, y2, y3, rfl, sm, ef⟩ := hP
      obtain ⟨T, c, rfl, nT, hc, rfl⟩ := hY
      rw [drop_at hc] at ef
      refine ⟨T, _, rfl, .inl (.inl upd_same), rfl, _, _, rfl, _, _, rfl, rfl, ?_⟩
      have sm2 : Same H (upd H1 T (.tup [.int (i : Nat), .str ⟨#[c]⟩])) := sm.trans (same_new nT)
      have mem : decide (c ∈ (Str.ofString "ABCDabcd").cps.toList) = isL c := by
        rw [letters_T]
        rfl
      refine ⟨.str ⟨#[c]⟩, rfl, c, _, rfl, rfl, _, rfl, ?_⟩
      rw [mem]
      by_cases hL : isL c = true
      · rw [hL]
        refine iteF ?_
        refine ⟨.str ⟨#[c]⟩, rfl, ⟨_, rfl⟩, _, rfl, rfl, (by show 1 ≤ 5592405; decide), .str (prevT p), rfl, rfl, _, rfl, ?_⟩
        rw [swap_up c hL, eq_prev]
        refine ite2 (fun hp => ?_) (fun hp => ?_)
        · have e : fault z.cps.toList = some i := by
            rw [← ef]
            exact if_pos (.inr (of_decide_eq_true hp))
          refine ⟨_, rfl, ?_⟩
          have r := q _ sm2
          unfold vFault at r
          rw [e] at r
          exact r
        · refine ⟨_, rfl, some c, _, _, rfl, sm2, ?_⟩
          have n : ¬ (isL c = false ∨ some (up c) = p) := by
            rintro (z1 | z2)
            · rw [hL] at z1
              cases z1
            · exact hp (decide_eq_true z2)
          rw [← ef]
          exact (if_neg n).symm
      · have hL' : isL c = false := by simpa using hL
        rw [hL']
        refine iteT (iteT ?_)
        have e : fault z.cps.toList = some i := by
          rw [← ef]
          exact if_pos (.inl hL')
        refine ⟨_, rfl, ?_⟩
        have r := q _ sm2
        unfold vFault at r
        rw [e] at r
        exact r
    · obtain ⟨p, y2, y3, rfl, sm, ef⟩ := hP
      have e : fault z.cps.toList = none := by
        rw [← ef, show z.cps.size = z.cps.toList.length from rfl, List.drop_length]
        rfl
      have r := q _ sm
      unfold vFault at r
      rw [e] at r
      exact r
theorem ok_BadWord_init {f : Addr} {fd : FuncData} {k : Nat} (F : Fun K "__init__" "BadWord.__init__" s_BadWord_init f fd) : FnOk P w K mg base CX0 (k + 1) f fd ["self", "at"] (spErr1 K "at") := by
  refine F.ok sc_BadWord_init (fun vs H Q E h => init1_sp h) (fun cdv A outer s H vs Q E hr h => ?_)
  exact ⟨_, pss_one (ps_ost (pv 0) (pv 1)), init1_read rfl h⟩
/-- any value, and whether it is a text -/
def AnyV (K : PySem.W.Frag) (H : Hp) (x : V) : Prop := (∃ z : Str, x = .str z) ∨ ∃ t, TyX K H x t ∧ PySem.W.kitOne K t (.type "str") = some false
theorem isStr_of {K : PySem.W.Frag} {H : Hp} {x : V} (h : AnyV K H x) : ∃ t b, TyX K H x t ∧ PySem.W.kitOne K t (.type "str") = some b ∧ (b = true → ∃ z : Str, x = .str z) ∧ (b = false → ∀ z : Str, x ≠ .str z) := by
  rcases h with ⟨z, rfl⟩ | ⟨t, ty, e⟩
  · exact ⟨.type "str", true, .base (.str z), kit_ty (by decide +kernel), fun _ => ⟨z, rfl⟩, fun z => nomatch z⟩
  · refine ⟨t, false, ty, e, (fun z => nomatch z), fun _ z hz => ?_⟩
    subst hz
    cases ty with
    | base b =>
      cases b
      have z : PySem.W.kitOne K (.type "str") (.type "str") = some true := kit_ty (by decide +kernel)
      rw [z] at e
      cases e
theorem ok_TooMany_init {f : Addr} {fd : FuncData} {k : Nat} (F : Fun K "__init__" "TooMany.__init__" s_TooMany_init f fd) : FnOk P w K mg base CX0 (k + 1) f fd ["self", "what", "most"] (spErr2 K "what" "most") := by
  refine F.ok sc_TooMany_init (fun vs H Q E h => init2_sp h) (fun cdv A outer s H vs Q E hr h => ?_)
  exact ⟨_, pss_cons (ps_ost (pv 0) (pv 1)) (pss_one (ps_ost (pv 0) (pv 2))), init2_read rfl h⟩
/-- a Word of the letters z at a -/
def WordAt (CW : Addr) (H : Hp) (a : Addr) (z : Str) : Prop := ∃ dx, H a = some (.ins CW dx [("letters", .str z)])
theorem same_made {H H' : Hp} {x dx C : Addr} {o : HO} (nx : H x = none) (nd : H dx = none) (s : Same (upd (upd H dx (.own x)) x (.ins C dx [])) H') : Same H (upd H' x o) := fun b u e => by
  have bx : b ≠ x := ne_of_none e nx
  have bd : b ≠ dx := ne_of_none e nd
  rw [upd_ne bx]
  refine s b u ?_
  rw [upd_ne bx, upd_ne bd]
  exact e
def spWordI (K : PySem.W.Frag) (CW CB CM : Addr) : Sp := fun vs H Q E => ∃ (a dx : Addr) (x : V), vs = [.ref a, x] ∧ H a = some (.ins CW dx []) ∧ AnyV K H x ∧
  (∀ z : Str, x = .str z → z.length ≤ 100000 ∧
    (∀ i, fault z.cps.toList = some i → ∀ H' d, Same H H' → H' d = none → E (.ref CB) (some d) (upd H' d (.xd [("at", .int (i : Nat))]))) ∧
    (fault z.cps.toList = none → 4000 < z.length → ∀ H' d, Same H H' → H' d = none → E (.ref CM) (some d) (upd H' d (.xd [("most", .int 4000), ("what", .str "letters")]))) ∧
    (fault z.cps.toList = none → z.length ≤ 4000 → ∀ H', Same H H' → Q .non (upd H' a (.ins CW dx [("letters", .str z)])))) ∧
  ((∀ z : Str, x ≠ .str z) → ∀ d, H d = none → E (.ref CB) (some d) (upd H d (.xd [("at", .int 0)])))
theorem ok_Word_init {f CW CB CM fB fF fM : Addr} {fd fdB fdF fdM : FuncData} {k : Nat} (F : FunD K "__init__" "Word.__init__" (defArgs s_Word_init) (defBody s_Word_init) (defScope s_Word_init) [.str ""] [] f fd) (T : Err1 K mg "BadWord" "at" CB fB) (FB : Fun K "__init__" "BadWord.__init__" s_BadWord_init fB fdB) (bB : Binds K fdB ["self", "at"] [])
    (TM : Err2 K mg "TooMany" "what" "most" CM fM) (FM : Fun K "__init__" "TooMany.__init__" s_TooMany_init fM fdM) (bM : Binds K fdM ["self", "what", "most"] []) (FF : Fun K "first_fault" "first_fault" s_first_fault fF fdF) (bF : Binds K fdF ["letters"] []) (gF : mg "first_fault" = some (.ref fF)) (cl : Cls K CW) (na : NoAttr K CW "letters")
    (mi : mg "isinstance" = none) (ms : mg "str" = none) (ml : mg "len" = none) (me : mg "enumerate" = none) (mL : ∃ t, mg "LETTERS" = some (.str "ABCDabcd" t)) (mM : ∃ t, mg "MOST_LETTERS" = some (.int 4000 t)) :
    FnOk P w K mg base (L2.CX P w) (k + 3) f fd ["self", "letters"] (spWordI K CW CB CM) := by
  obtain ⟨tM, mM⟩ := mM
  refine FunD.ok F sc_Word_init (fun vs H Q E h => ?_) (fun cdv A outer s H vs Q E hr h => ?_)
  · obtain ⟨a, dx, x, rfl, _⟩ := h
    rfl
  · obtain ⟨a, dx, x, rfl, ha, hx, yes, no⟩ := h
    have nd := sc_Word_init.nd
    have GF : FnOk P w K mg base CX0 (k + 2) fF fdF ["letters"] spFault := ok_first_fault (k := k + 1) FF me mL
    refine ⟨_, pss_cons (ps_if (pt_not (pt_val (pe_callB call_isi (by rfl) mi boot_isinstance (pa_cons (pv 1) (pa_cons (pe_bltn (v := .ty "str") (by rfl) ms PyProof.Rows.boot_str rfl) pa_nil)))))
        (pss_one (ps_raise1 T (ok_BadWord_init (k := k) FB) bB (hr.mono (by omega)) rfl (takes_of rfl rfl rfl rfl) pass0 pe_int)) pss_nil)
      (pss_cons (ps_set (i := 2) nd rfl (.inl rfl) (pe_call GF hr (by rfl) gF FF.kp bF .nil pass0 (pa_cons (pv 1) pa_nil)))
      (pss_cons (ps_if (pt_cmpR op_notN (pv 2) pe_non (nomark _))
        (pss_one (ps_raise1 T (ok_BadWord_init (k := k) FB) bB (hr.mono (by omega)) rfl (takes_of rfl rfl rfl rfl) pass0 (pv 2))) pss_nil)
      (pss_cons (ps_if (pt_cmpR op_gt (pe_callB call_len (by rfl) ml PySem.boot_len (pa_cons (pv 1) pa_nil)) (pe_glob (v := .int 4000) (by rfl) mM ⟨_, rfl⟩) (nomark _))
        (pss_one (ps_raise2 TM (ok_TooMany_init (k := k) FM) bM (hr.mono (by omega)) rfl (takes_of rfl rfl rfl rfl) pass0 pe_str (pe_glob (v := .int 4000) (by rfl) mM ⟨_, rfl⟩))) pss_nil)
      (pss_one (ps_fld (pv 0) (pv 1) rfl))))), ?_⟩
    obtain ⟨t, b, ty, ek, h1, h2⟩ := isStr_of hx
    refine ⟨x, rfl, x, .ty "str", t, .type "str", b, rfl, .ty "str", ty, ek, b, rfl, ?_⟩
    cases b with
    | false =>
      refine iteT ?_
      exact raised1 T fun d hd => no (h2 rfl) d hd
    | true =>
      obtain ⟨z, rfl⟩ := h1 rfl
      refine iteF ?_
      obtain ⟨hl, bad, long, good⟩ := yes z rfl
      refine ⟨.str z, rfl, z, rfl, fun H1 sm => ?_⟩
      refine ⟨_, rfl, rfl, _, rfl, ?_⟩
      cases e : fault z.cps.toList with
      | some i =>
        have ev : vFault z.cps.toList = .int (i : Nat) := by
          unfold vFault
          rw [e]
        rw [ev]
        refine iteT ?_
        refine ⟨_, rfl, ?_⟩
        exact raised1 T fun d hd => bad i e H1 d sm hd
      | none =>
        have ev : vFault z.cps.toList = .non := by
          unfold vFault
          rw [e]
        rw [ev]
        refine iteF ?_
        refine ⟨.str z, rfl, .str z, z.length, rfl, ⟨by rw [sizeLine_eq]; omega, rfl⟩, _, _, rfl, rfl, _, rfl, ?_⟩
        by_cases le : z.length ≤ 4000
        · have nb : decide ((4000 : Int) < (z.length : Int)) = false := decide_eq_false (by omega)
          rw [nb]
          refine iteF ?_
          exact ⟨.str z, rfl, .ref a, rfl, a, CW, dx, [], rfl, sm _ _ ha, cl, na, by decide, good e le H1 sm⟩
        · have nb : decide ((4000 : Int) < (z.length : Int)) = true := decide_eq_true (by omega)
          rw [nb]
          refine iteT ?_
          exact raised2 TM fun d hd => long e (by omega) H1 d sm hd
end
end K04
-- K04D1
namespace K04
open PySem PySem.Spec PyProof.Rows L2 SB
section
variable {P : Program} {w : World} {K : PySem.W.Frag} {mg : Str → Option Value} {base : Heap}
def spPen (K : PySem.W.Frag) : Sp := fun vs H Q _ => ∃ (a : Addr) (ns : List Int), vs = [.ref a] ∧ SqL K H a (ns.map V.int) ∧ ∀ p l H', H p = none → H l = none → Same H H' → PenQ l 0 H' p → Q (.ref p) H'
theorem ok_law_pen {f : Addr} {fd : FuncData} {k : Nat} (F : Fun K "_law_pen" "_law_pen" s__law_pen f fd) (ml : mg "list" = none) : FnOk P w K mg base CX0 (k + 1) f fd ["script"] (spPen K) := by
  refine F.ok sc__law_pen (fun vs H Q E h => ?_) (fun cdv A outer s H vs Q E hr h => ?_)
  · obtain ⟨a, ns, rfl, _⟩ := h
    rfl
  · obtain ⟨a, ns, rfl, hS, q⟩ := h
    refine ⟨_, pss_one (ps_ret (pe_lst (pa_cons (pe_callTy call_list_of (by rfl) ml PyProof.Rows.boot_list (pa_cons (pe_slice sl_list (pv 0) po_none (po_some pe_int)) pa_nil)) (pa_cons pe_int (pa_cons pe_int pa_nil))))), ?_⟩
    refine ⟨.ref a, rfl, 63, rfl, a, _, rfl, hS, fun c nc => ?_⟩
    obtain ⟨ms, em, lm⟩ := cut_nums ns none (some 63)
    rw [em]
    refine ⟨c, _, rfl, .inl (.inl (.inl upd_same)), fun l hl => ⟨by show 3 ≤ sizeLine; decide, fun p hp => ?_⟩⟩
    have s1 : Same H (upd H c (.lst (ms.map V.int))) := same_new nc
    have s2 := same_new (o := .lst (ms.map V.int)) hl
    have s3 := same_new (o := .lst [.ref l, .int 0, .int 0]) hp
    refine q p l _ (s1.free (s2.free hp)) (s1.free hl) (s1.trans (s2.trans s3)) ⟨ms, 0, 0, upd_same, s3 _ _ upd_same, by omega, by omega⟩
end
end K04
-- K04D2
namespace K04
open PySem PySem.Spec PyProof.Rows L2 SB
section
variable {P : Program} {w : World} {K : PySem.W.Frag} {mg : Str → Option Value} {base : Heap}
def spDraw : Sp := fun vs H Q _ => ∃ (p l : Addr) (N m : Int), vs = [.ref p, .int m] ∧ PenQ l N H p ∧ N ≤ 100000 ∧ 0 < m ∧ m ≤ 10 ^ 40 ∧
  ∀ (d : Int) H', 0 ≤ d → d < m → Kept p H H' → PenQ l (N + 1) H' p → Q (.int d) H'
theorem mod_ok (i m : Int) (h : 0 < m) : 0 ≤ i % m ∧ i % m < m := ⟨Int.emod_nonneg _ (by omega), Int.emod_lt_of_pos _ h⟩
theorem ok_law_draw {f : Addr} {fd : FuncData} {k : Nat} (F : Fun K "_law_draw" "_law_draw" s__law_draw f fd) (m_int : mg "int" = none) (m_len : mg "len" = none) (m_abs : mg "abs" = none) : FnOk P w K mg base CX0 (k + 1) f fd ["pen", "many"] spDraw := by
  refine F.ok sc__law_draw (fun vs H Q E h => ?_) (fun cdv A outer s H vs Q E hr h => ?_)
  · obtain ⟨p, l, N, m, rfl, _⟩ := h
    rfl
  · obtain ⟨p, l, N, m, rfl, hP, hN, m0, m1, q⟩ := h
    have nd := sc__law_draw.nd
    refine ⟨_, (pss_cons (ps_if (pt_cmpR op_gt (pe_ix ix_list (pv 0) pe_int (fun _ _ => rfl)) pe_int (nomark _)) (pss_cons (ps_set (i := 2) nd rfl (.inl rfl) (pe_op op_mod (pe_callTy call_int1 (by rfl) m_int PyProof.Rows.boot_int (pa_cons (pe_ix ix_list (pv 0) pe_int (fun _ _ => rfl)) pa_nil)) (pv 1)))
      (pss_cons (ps_asg (pe_op op_fdivW (pe_callTy call_int1 (by rfl) m_int PyProof.Rows.boot_int (pa_cons (pe_ix ix_list (pv 0) pe_int (fun _ _ => rfl)) pa_nil)) (pv 1)) (pg_sub (pv 0) pe_int set_list))
      (pss_one (ps_ret (pv 2))))) pss_nil)
      (pss_cons (ps_set (i := 3) nd rfl (.inl rfl) (pe_ix ix_list (pv 0) pe_int (fun _ _ => rfl)))
      (pss_cons (ps_asg (pe_op op_add (pv 3) pe_int) (pg_sub (pv 0) pe_int set_list))
      (pss_cons (ps_set (i := 4) nd rfl (.inl rfl) (pe_op op_add (pe_op op_mul pe_int (pv 3)) pe_int))
      (C8.pss_cut (ps_if (pt_cmpR (op_neD hr.units) (pe_ix ix_list (pv 0) pe_int (fun _ _ => rfl)) (pe_lst pa_nil) (nomark _)) (pss_one (ps_set (i := 4) nd rfl (.inl rfl) (pe_ix ix_list (pe_ix ix_list (pv 0) pe_int (fun _ _ => rfl)) (pe_op op_mod (pe_callTy call_int1 (by rfl) m_int PyProof.Rows.boot_int (pa_cons (pv 3) pa_nil)) (pe_callB call_len_seq (by rfl) m_len PySem.boot_len (pa_cons (pe_ix ix_list (pv 0) pe_int (fun _ _ => rfl)) pa_nil))) (fun _ _ => rfl)))) pss_nil)
      (pss_cons (ps_if (PW.pt (pw_and (pt_cmpR op_lt (pv 3) (pe_callB call_len_seq (by rfl) m_len PySem.boot_len (pa_cons (pe_ix ix_list (pv 0) pe_int (fun _ _ => rfl)) pa_nil)) (nomark _)) (pw_and1 (pt_cmpR op_ge (pe_callB call_abs (by rfl) m_abs PyProof.Rows.boot_abs (pa_cons (pv 4) pa_nil)) (pe_op op_pow pe_int pe_int) (nomark _))))) (pss_cons (ps_set (i := 5) nd rfl (.inl rfl) (pe_op op_add (pe_op op_mul pe_int (pe_op op_sub (pe_callB call_abs (by rfl) m_abs PyProof.Rows.boot_abs (pa_cons (pv 4) pa_nil)) (pe_op op_pow pe_int pe_int))) (pe_callTy call_int1 (by rfl) m_int PyProof.Rows.boot_int (pa_cons (pe_cmpR op_lt (pv 4) pe_int (nomark _)) pa_nil))))
      (pss_cons (ps_asg (pe_op op_fdivW (pe_callTy call_int1 (by rfl) m_int PyProof.Rows.boot_int (pa_cons (pv 5) pa_nil)) (pv 1)) (pg_sub (pv 0) pe_int set_list))
      (pss_one (ps_ret (pe_op op_mod (pe_callTy call_int1 (by rfl) m_int PyProof.Rows.boot_int (pa_cons (pv 5) pa_nil)) (pv 1)))))) pss_nil)
      (pss_cons (ps_set (i := 6) nd rfl (.inl rfl) (pe_op op_mod (pe_callTy call_int1 (by rfl) m_int PyProof.Rows.boot_int (pa_cons (pe_op op_pow (pe_op op_add (pe_op op_add (pe_op op_mod (pe_callTy call_int1 (by rfl) m_int PyProof.Rows.boot_int (pa_cons (pv 4) pa_nil)) pe_int) (pe_op op_mul pe_int (pv 3))) pe_int) pe_int) pa_nil)) pe_int))
      (pss_cons (ps_set (i := 6) nd rfl (.inl rfl) (pe_op op_mod (pe_callTy call_int1 (by rfl) m_int PyProof.Rows.boot_int (pa_cons (pe_op op_pow (pe_op op_add (pe_op op_add (pe_op op_mul (pv 6) (pe_op op_add (pe_op op_mul pe_int (pv 3)) pe_int)) (pe_op op_mul (pe_op op_mul pe_int (pv 3)) (pv 3))) pe_int) pe_int) pa_nil)) pe_int))
      (pss_one (ps_ret (pe_op op_mod (pe_callTy call_int1 (by rfl) m_int PyProof.Rows.boot_int (pa_cons (pe_op op_fdivW (pv 6) pe_int) pa_nil)) (pv 1)))))))))))), ?_⟩
    obtain ⟨ns, i, j, hp, hl, i0, i1⟩ := hP
    have lp : l ≠ p := pen_ne hp hl
    have L0 : SqL K H p [.ref l, .int i, .int j] := .inl (.inl hp)
    have mm : CDivW j m := ⟨m0, Nat.lt_trans (PySem.Flt.log2_lt_of (k := 133) (by decide) (by omega)) (by decide)⟩
    refine ⟨.ref p, rfl, p, _, 2, .int j, rfl, rfl, L0, atI_nat (j := 2) rfl, j, 0, rfl, rfl, _, rfl, ite2 (fun e => ?_) (fun e => ?_)⟩
    · -- what is left of a great cell
      refine ⟨.ref p, rfl, p, _, 2, .int j, rfl, rfl, L0, atI_nat (j := 2) rfl, .inl ⟨j, rfl, .int m, rfl, j, m, rfl, rfl, m0, ?_⟩⟩
      refine ⟨.ref p, rfl, p, _, 2, .int j, rfl, rfl, L0, atI_nat (j := 2) rfl, .inl ⟨j, rfl, .int m, rfl, j, m, rfl, rfl, mm, ?_⟩⟩
      refine ⟨.ref p, rfl, p, _, 2, 2, rfl, rfl, hp, rfl, ?_⟩
      refine ⟨.int (j % m), rfl, ?_⟩
      obtain ⟨d0, d1⟩ := mod_ok j m m0
      refine q _ _ d0 d1 (Kept.write (Kept.refl p H)) ⟨ns, i, j / m, upd_same, ?_, i0, by omega⟩
      rw [upd_ne lp]
      exact hl
    · refine ⟨.ref p, rfl, p, _, 1, .int i, rfl, rfl, L0, atI_nat (j := 1) rfl, ?_⟩
      refine ⟨.int i, rfl, i, 1, rfl, rfl, .ref p, rfl, p, _, 1, 1, rfl, rfl, hp, rfl, ?_⟩
      have hp1 : upd H p (.lst [.ref l, .int (i + 1), .int j]) p = some (.lst [.ref l, .int (i + 1), .int j]) := upd_same
      have hl1 : upd H p (.lst [.ref l, .int (i + 1), .int j]) l = some (.lst (ns.map V.int)) := by
        rw [upd_ne lp]
        exact hl
      have K1 : Kept p H (upd H p (.lst [.ref l, .int (i + 1), .int j])) := Kept.write (Kept.refl p H)
      have L1 : SqL K (upd H p (.lst [.ref l, .int (i + 1), .int j])) p [.ref l, .int (i + 1), .int j] := .inl (.inl hp1)
      have M1 : SqL K (upd H p (.lst [.ref l, .int (i + 1), .int j])) l (ns.map V.int) := .inl (.inl hl1)
      refine ⟨.int i, rfl, 63803, i, rfl, rfl, .inl ⟨by decide, by decide⟩, _, 1871, rfl, rfl, ?_⟩
      refine ⟨fun σ' H' => ∃ (c : Int), σ' = [some (.ref p), some (.int m), none, some (.int i), some (.int c), none, none] ∧ H' p = some (.lst [.ref l, .int (i + 1), .int j]) ∧ H' l = some (.lst (ns.map V.int)) ∧ Kept p H H', ?_, ?_⟩
      · -- cell
        refine ⟨.ref p, rfl, p, _, 0, .ref l, rfl, rfl, L1, atI_nat (j := 0) rfl, Nat.zero_le _, fun b hb => ?_⟩
        have sb := same_new (o := .lst []) hb
        have L2' : SqL K (upd (upd H p (.lst [.ref l, .int (i + 1), .int j])) b (.lst [])) p [.ref l, .int (i + 1), .int j] := .inl (.inl (sb _ _ hp1))
        have M2 : SqL K (upd (upd H p (.lst [.ref l, .int (i + 1), .int j])) b (.lst [])) l (ns.map V.int) := .inl (.inl (sb _ _ hl1))
        refine ⟨.list (ns.map PyData.int), .list [], .lst M2 (dp_nums ns), .lst (.inl (.inl upd_same)) .nil, shaped_nums ns, rfl, ?_⟩
        rw [eqv_empty]
        by_cases en : ns = []
        · rw [decide_eq_true en]
          refine ⟨false, rfl, iteF ?_⟩
          exact ⟨_, rfl, sb _ _ hp1, sb _ _ hl1, K1.trans (Kept.of sb)⟩
        · rw [decide_eq_false en]
          refine ⟨true, rfl, iteT ?_⟩
          have pos : 0 < ns.length := List.length_pos_iff.mpr en
          have zl : ((ns.map V.int).length : Int) = (ns.length : Int) := by rw [List.length_map]
          obtain ⟨r0, r1⟩ := mod_ok i (ns.length : Int) (by omega)
          have rt : (i % (ns.length : Int)).toNat < ns.length := by omega
          refine ⟨.ref p, rfl, p, _, 0, .ref l, rfl, rfl, L2', atI_nat (j := 0) rfl, .int i, rfl, .inl ⟨i, rfl, ?_⟩⟩
          refine ⟨.ref p, rfl, p, _, 0, .ref l, rfl, rfl, L2', atI_nat (j := 0) rfl, l, _, rfl, .inl M2, i, _, rfl, rfl, ?_, ?_⟩
          · rw [zl]
            omega
          · refine ⟨l, _, _, .int (ns[(i % (ns.length : Int)).toNat]), rfl, rfl, M2, at_of (j := (i % (ns.length : Int)).toNat) (by rw [zl]; omega) ?_, ?_⟩
            · rw [List.getElem?_map, List.getElem?_eq_getElem rt]
              rfl
            · exact ⟨_, rfl, sb _ _ hp1, sb _ _ hl1, K1.trans (Kept.of sb)⟩
      · rintro σ' H2 ⟨c, rfl, hp2, hl2, K2⟩
        have L2' : SqL K H2 p [.ref l, .int (i + 1), .int j] := .inl (.inl hp2)
        have M2 : SqL K H2 l (ns.map V.int) := .inl (.inl hl2)
        have zl : ((ns.map V.int).length : Int) = (ns.length : Int) := by rw [List.length_map]
        -- the rest behind a cell that isn't great
        refine ⟨.int i, rfl, .ref p, rfl, p, _, 0, .ref l, rfl, rfl, L2', atI_nat (j := 0) rfl, l, _, rfl, .inl M2, i, _, rfl, rfl, _, rfl, ?_⟩
        have out : ∀ r : Int, Q (.int (r % m)) H2 := fun r => by
          obtain ⟨d0, d1⟩ := mod_ok r m m0
          exact q _ _ d0 d1 K2 ⟨ns, i + 1, j, hp2, hl2, by omega, by omega⟩
        have ten : CPow 10 18 := ⟨by decide, by decide, by decide⟩
        refine ite2 (fun e1 => ⟨.int c, rfl, c, rfl, 10, 18, rfl, rfl, ten, _, _, rfl, rfl, _, rfl, ite2 (fun e2 => ?great) (fun e2 => ?t1)⟩) (fun e1 => iteF ?t2)
        case great =>
          refine ⟨.int c, rfl, c, rfl, 10, 18, rfl, rfl, ten, _, _, rfl, rfl, 2, _, rfl, rfl, .inl ⟨by decide, by decide⟩, .int c, rfl, c, 0, rfl, rfl, .inr ⟨_, rfl, _, _, rfl, rfl, ?_⟩⟩
          refine ⟨_, rfl, .inl ⟨_, rfl, .int m, rfl, _, m, rfl, rfl, mm, ?_⟩⟩
          refine ⟨.ref p, rfl, p, _, 2, 2, rfl, rfl, hp2, rfl, ?_⟩
          refine ⟨_, rfl, .inl ⟨_, rfl, .int m, rfl, _, m, rfl, rfl, m0, ?_⟩⟩
          obtain ⟨d0, d1⟩ := mod_ok ((fun i j => i + j) 0 0) m m0
          refine q _ _ (mod_ok _ m m0).1 (mod_ok _ m m0).2 (Kept.write K2) ⟨ns, i + 1, _, upd_same, ?_, by omega, by omega⟩
          rw [upd_ne lp]
          exact hl2
        all_goals
          obtain ⟨c0, c1⟩ := mod_ok c 2147483629 (by decide)
          refine ⟨.int c, rfl, .inl ⟨c, rfl, c, 2147483629, rfl, rfl, (by show (0 : Int) < 2147483629; decide), ?_⟩⟩
          refine ⟨.int i, rfl, _, i, rfl, rfl, .inl ⟨by decide, by decide⟩, _, _, rfl, rfl, _, _, rfl, rfl, _, 5, rfl, rfl, ⟨by decide, by decide, by omega⟩, ?_⟩
          obtain ⟨u0, u1⟩ := mod_ok ((c % 2147483629 + 50111 * i + 1103) ^ Int.toNat 5) 2147483497 (by decide)
          refine .inl ⟨_, rfl, _, _, rfl, rfl, (by show (0 : Int) < 2147483497; decide), ?_⟩
          refine ⟨_, rfl, .int i, rfl, _, i, rfl, rfl, .inl ⟨by decide, by decide⟩, _, _, rfl, rfl, ?_⟩
          show rI CMul (fun i j => V.int (i * j)) (.int ((c % 2147483629 + 50111 * i + 1103) ^ Int.toNat 5 % 2147483497)) (.int (2 * i + 191)) H2 _
          refine ⟨_, _, rfl, rfl, .inl ⟨by omega, by omega⟩, .int i, rfl, _, i, rfl, rfl, .inl ⟨by decide, by decide⟩, .int i, rfl, _, i, rfl, rfl, .inr ⟨by omega, by omega⟩, _, _, rfl, rfl, _, _, rfl, rfl, _, 3, rfl, rfl, ⟨by decide, by decide, bound3 u0 (by omega) i0 (by omega) (by decide) (by decide) (by decide) (by decide) (by decide) (by decide)⟩, ?_⟩
          refine .inl ⟨_, rfl, _, _, rfl, rfl, (by show (0 : Int) < 2147483629; decide), ?_⟩
          exact ⟨_, rfl, _, 32, rfl, rfl, ⟨by decide, by decide⟩, .inl ⟨_, rfl, .int m, rfl, _, m, rfl, rfl, m0, out _⟩⟩
end
end K04
-- K04D3
namespace K04
open PySem PySem.Spec PyProof.Rows L2 SB
theorem kept_seq {K : PySem.W.Frag} {H H' : Hp} {p a : Addr} {xs : List V} (k : Kept p H H') (n : a ≠ p) (h : SqL K H a xs) : SqL K H' a xs := by
  rcases h with (h | ⟨o, h⟩) | h
  · exact .inl (.inl (k _ _ h n))
  · exact .inl (.inr ⟨o, k _ _ h n⟩)
  · exact .inr h
/-- what one picks from: a list, or the signs of a text -/
def PickOf (K : PySem.W.Frag) (p : Addr) (H : Hp) (y : V) (xs : List V) : Prop := (∃ a, y = .ref a ∧ SqL K H a xs ∧ a ≠ p) ∨ ∃ z : Str, y = .str z ∧ xs = z.cps.toList.map fun c => V.str (s1 c)
section
variable {P : Program} {w : World} {K : PySem.W.Frag} {mg : Str → Option Value} {base : Heap}
def spPick (K : PySem.W.Frag) : Sp := fun vs H Q _ => ∃ (p l : Addr) (y : V) (N : Int) (xs : List V), vs = [.ref p, y] ∧ PenQ l N H p ∧ N ≤ 100000 ∧ PickOf K p H y xs ∧ 0 < xs.length ∧ xs.length ≤ 100000 ∧
  ∀ x H', x ∈ xs → Kept p H H' → PenQ l (N + 1) H' p → Q x H'
theorem ok_law_pick {f f__law_draw : Addr} {fd d__law_draw : FuncData} {k : Nat} (F : Fun K "_law_pick" "_law_pick" s__law_pick f fd)
    (G__law_draw : FnOk P w K mg base CX0 (k + 1) f__law_draw d__law_draw ["pen", "many"] spDraw) (g__law_draw : mg "_law_draw" = some (.ref f__law_draw)) (k__law_draw : PySem.W.keepIn K (.ref f__law_draw) = true) (b__law_draw : Binds K d__law_draw ["pen", "many"] [])
    (m_len : mg "len" = none) : FnOk P w K mg base CX0 (k + 2) f fd ["pen", "some"] (spPick K) := by
  refine F.ok sc__law_pick (fun vs H Q E h => ?_) (fun cdv A outer s H vs Q E hr h => ?_)
  · obtain ⟨p, l, a, N, xs, rfl, _⟩ := h
    rfl
  · obtain ⟨p, l, y, N, xs, rfl, hP, hN, hS, l0, l1, q⟩ := h
    have nd := sc__law_pick.nd
    refine ⟨_, (pss_one (ps_ret (pe_ix (ix_or ix_list ix_str) (pv 1) (pe_call G__law_draw (hr.mono (by omega)) (by rfl) g__law_draw k__law_draw b__law_draw .nil pass0 (pa_cons (pv 0) (pa_cons (pe_callB (call_or call_len_seq call_len) (by rfl) m_len PySem.boot_len (pa_cons (pv 1) pa_nil)) pa_nil))) (fun _ _ => rfl)))), ?_⟩
    rcases hS with ⟨a, rfl, hS, ne⟩ | ⟨z, rfl, rfl⟩
    · refine ⟨.ref a, rfl, .ref p, rfl, .ref a, rfl, .inl ⟨a, xs, rfl, .inl hS, p, l, N, (xs.length : Int), rfl, hP, hN, by omega, by omega, fun d H' d0 d1 kp pn => ?_⟩⟩
      have dl : d.toNat < xs.length := by omega
      refine .inl ⟨a, xs, d, xs[d.toNat], rfl, rfl, kept_seq kp ne hS, at_of (j := d.toNat) (by omega) (List.getElem?_eq_getElem dl), ?_⟩
      exact q _ H' (List.getElem_mem dl) kp pn
    · rw [List.length_map] at l0 l1
      have zs : z.length ≤ sizeLine := by
        rw [sizeLine_eq]
        show z.cps.toList.length ≤ _
        omega
      refine ⟨.str z, rfl, .ref p, rfl, .str z, rfl, .inr ⟨.str z, z.length, rfl, ⟨zs, rfl⟩, p, l, N, (z.length : Int), rfl, hP, hN, by show (0 : Int) < (z.cps.toList.length : Int); omega, by show (z.cps.toList.length : Int) ≤ 10 ^ 40; omega, fun d H' d0 d1 kp pn => ?_⟩⟩
      have dl : d.toNat < z.cps.toList.length := by
        have : (z.length : Int) = (z.cps.toList.length : Int) := rfl
        omega
      have ha : atI z.cps.toList d = some z.cps.toList[d.toNat] := by
        have h := atI_nat (List.getElem?_eq_getElem dl)
        rwa [show ((d.toNat : Nat) : Int) = d by omega] at h
      refine .inr ⟨z, d, z.cps.toList[d.toNat], rfl, rfl, zs, ha, ?_⟩
      exact q _ H' (List.mem_map.mpr ⟨_, List.getElem_mem dl, rfl⟩) kp pn
end
end K04
-- K04E1
namespace K04
open PySem PySem.Spec PyProof.Rows L2 SB
theorem occ_letter : ∀ c, isL c = true → ∃ i rest, Builtin.Str.occurrences "ABCDabcd" (s1 c) 0 (Str.length "ABCDabcd") 1 = i :: rest ∧ ((("abcdABCD" : Str).cps.toList)[i]? = some (up c)) := by
  intro c h
  have h' : c ∈ letters8 := of_decide_eq_true h
  have all : ∀ c ∈ letters8, Builtin.Str.occurrences "ABCDabcd" (s1 c) 0 (Str.length "ABCDabcd") 1 = [letters8.idxOf c] ∧ ((("abcdABCD" : Str).cps.toList)[letters8.idxOf c]? = some (up c)) := by decide +kernel
  exact ⟨_, [], (all c h').1, (all c h').2⟩
section
variable {P : Program} {w : World} {K : PySem.W.Frag} {mg : Str → Option Value} {base : Heap}
def spUndo : Sp := fun vs H Q _ => ∃ c, vs = [.str (s1 c)] ∧ isL c = true ∧ Q (.str (s1 (up c))) H
theorem ok_law_undo {f : Addr} {fd : FuncData} {k : Nat} (F : Fun K "_law_undo" "_law_undo" s__law_undo f fd) : FnOk P w K mg base CX0 (k + 1) f fd ["letter"] spUndo := by
  refine F.ok sc__law_undo (fun vs H Q E h => ?_) (fun cdv A outer s H vs Q E hr h => ?_)
  · obtain ⟨c, rfl, _⟩ := h
    rfl
  · obtain ⟨c, rfl, hL, q⟩ := h
    refine ⟨_, (pss_one (ps_ret (pe_ix ix_str pe_str (pe_m1 PySem.F.slot_str_index PySem.F.type_str_index mt_sindex pe_str (pv 0)) (fun _ _ => rfl)))), ?_⟩
    obtain ⟨i, rest, e1, e2⟩ := occ_letter c hL
    refine ⟨⟨_, rfl⟩, .str (s1 c), rfl, _, _, i, rest, rfl, rfl, e1, ?_⟩
    exact ⟨_, _, up c, rfl, rfl, by decide +kernel, atI_nat e2, q⟩
end
end K04
-- K04E2
namespace K04
open PySem PySem.Spec PyProof.Rows L2 SB
def kinds : List Str := ["ABCDabcd", "Aab", "ABab", "CcdB", "AD"]
theorem kinds_in {x : V} (h : x ∈ [V.str "ABCDabcd", .str "Aab", .str "ABab", .str "CcdB", .str "AD"]) : ∃ kz : Str, x = .str kz ∧ kz ∈ kinds := by
  have e : [V.str "ABCDabcd", .str "Aab", .str "ABab", .str "CcdB", .str "AD"] = kinds.map V.str := rfl
  rw [e] at h
  obtain ⟨kz, h1, h2⟩ := List.mem_map.mp h
  exact ⟨kz, h2.symm, h1⟩
theorem kinds_ok : ∀ kz ∈ kinds, (∀ c ∈ kz.cps.toList, isL c = true) ∧ kz.length ≤ 8 ∧ (kz.cps.toList.headD 0 ∈ kz.cps.toList ∧ kz.cps.toList.getLastD 0 ∈ kz.cps.toList ∧ kz.cps.toList.headD 0 ≠ kz.cps.toList.getLastD 0) := by decide +kernel
/-- whether a letter may stand behind a row -/
def may (z : Str) (c : Nat) : Bool := match z.cps.toList.getLast? with | none => true | some d => decide (c ≠ up d)
theorem some_may {kz : Str} (h : kz ∈ kinds) (z : Str) : ∃ c ∈ kz.cps.toList, may z c = true := by
  obtain ⟨_, _, h1, h2, h3⟩ := kinds_ok kz h
  unfold may
  cases z.cps.toList.getLast? with
  | none => exact ⟨_, h1, rfl⟩
  | some d =>
    by_cases e : kz.cps.toList.headD 0 = up d
    · exact ⟨_, h2, decide_eq_true fun q => h3 (e.trans q.symm)⟩
    · exact ⟨_, h1, decide_eq_true e⟩
theorem take_filter {l : List Nat} {i c : Nat} (f : Nat → Bool) (h : l[i]? = some c) : (l.take (i + 1)).filter f = (l.take i).filter f ++ (if f c = true then [c] else []) := by
  rw [List.take_add_one, h, List.filter_append]
  congr 1
  show List.filter f [c] = _
  by_cases e : f c = true
  · rw [if_pos e, List.filter_cons_of_pos e]
    rfl
  · rw [if_neg e, List.filter_cons_of_neg e]
    rfl
def vs1 (l : List Nat) : List V := l.map fun c => V.str (s1 c)
section
variable {P : Program} {w : World} {K : PySem.W.Frag} {mg : Str → Option Value} {base : Heap}
/-- a row of letters without a fault, of at most m -/
def RowOk (m : Nat) (z : Str) : Prop := fault z.cps.toList = none ∧ z.length ≤ m
def spRow : Sp := fun vs H Q _ => ∃ (p l : Addr) (N m : Int), vs = [.ref p, .int m] ∧ PenQ l N H p ∧ 0 ≤ m ∧ m ≤ 100 ∧ N + m + 10 ≤ 100000 ∧
  ∀ z H', RowOk m.toNat z → Kept p H H' → PenQ l (N + m + 2) H' p → Q (.str z) H'
theorem ok_law_row {f f__law_draw f__law_pick f__law_undo : Addr} {fd d__law_draw d__law_pick d__law_undo : FuncData} {k : Nat} (F : Fun K "_law_row" "_law_row" s__law_row f fd)
    (G__law_draw : FnOk P w K mg base CX0 (k + 2) f__law_draw d__law_draw ["pen", "many"] spDraw) (g__law_draw : mg "_law_draw" = some (.ref f__law_draw)) (k__law_draw : PySem.W.keepIn K (.ref f__law_draw) = true) (b__law_draw : Binds K d__law_draw ["pen", "many"] [])
    (G__law_pick : FnOk P w K mg base CX0 (k + 2) f__law_pick d__law_pick ["pen", "some"] (spPick K)) (g__law_pick : mg "_law_pick" = some (.ref f__law_pick)) (k__law_pick : PySem.W.keepIn K (.ref f__law_pick) = true) (b__law_pick : Binds K d__law_pick ["pen", "some"] [])
    (G__law_undo : FnOk P w K mg base CX0 (k + 2) f__law_undo d__law_undo ["letter"] spUndo) (g__law_undo : mg "_law_undo" = some (.ref f__law_undo)) (k__law_undo : PySem.W.keepIn K (.ref f__law_undo) = true) (b__law_undo : Binds K d__law_undo ["letter"] [])
    (m_range : mg "range" = none) : FnOk P w K mg base CX0 (k + 3) f fd ["pen", "most"] spRow := by
  refine F.ok sc__law_row (fun vs H Q E h => ?_) (fun cdv A outer s H vs Q E hr h => ?_)
  · obtain ⟨p, l, N, m, rfl, _⟩ := h
    rfl
  · obtain ⟨p, l, N, m, rfl, hP, m0, m1, hN, q⟩ := h
    have nd := sc__law_row.nd
    refine ⟨_, (pss_cons (ps_asg (pe_tup (pa_cons pe_str (pa_cons (pe_call G__law_pick (hr.mono (by omega)) (by rfl) g__law_pick k__law_pick b__law_pick .nil pass0 (pa_cons (pv 0) (pa_cons (pe_lst (pa_cons pe_str (pa_cons pe_str (pa_cons pe_str (pa_cons pe_str (pa_cons pe_str pa_nil)))))) pa_nil))) pa_nil))) (pg_tup rfl (pgs_cons (pg_name (i := 2) nd rfl (.inr rfl)) (pgs_cons (pg_name (i := 3) nd rfl (.inl rfl)) pgs_nil))))
      (pss_cons (ps_for PassesOwn.never rfl (pi_range1 (by rfl) m_range (pa_cons (pe_call G__law_draw (hr.mono (by omega)) (by rfl) g__law_draw k__law_draw b__law_draw .nil pass0 (pa_cons (pv 0) (pa_cons (pe_op op_add (pv 1) pe_int) pa_nil))) pa_nil)) (pg_name (i := 4) nd rfl (.inl rfl)) (pss_cons (ps_setLc (i := 5) (own := [("letter", 6)]) (g := gName 6) (by rfl) nd rfl rfl (sw_true rfl rfl rfl (by decide +kernel)) (pi_str (pv 3)) (blkOk_by (own := [("letter", 6)]) (N := ["pen", "most", "found", "kind", "turn", "some", "letter"]) (sc := defScope s__law_row) (by decide +kernel)) (fun _ _ _ _ _ => pg_name (i := 6) nd rfl (Or.inl rfl)) (fun _ _ _ _ _ => (pts_one (PW.pt (pw_or (pt_cmpR op_eq (pv 2) pe_str (nomark _)) (pw_or1 (pt_cmpR op_ne (pv 6) (pe_call G__law_undo (hr.mono (by omega)) (by rfl) g__law_undo k__law_undo b__law_undo .nil pass0 (pa_cons (pe_ix ix_str (pv 2) (pe_un un_neg pe_int) (fun _ _ => rfl)) pa_nil)) (nomark _))))))) (fun _ _ _ _ _ => (pv 6)))
      (pss_one (ps_set (i := 2) nd rfl (.inr rfl) (pe_op op_add_str (pv 2) (pe_call G__law_pick (hr.mono (by omega)) (by rfl) g__law_pick k__law_pick b__law_pick .nil pass0 (pa_cons (pv 0) (pa_cons (pv 5) pa_nil))))))))
      (pss_one (ps_ret (pv 2))))), ?_⟩
    -- kind
    refine ⟨.ref p, rfl, by show 5 ≤ sizeLine; decide, fun a ha => ?_⟩
    have s0 := same_new (o := .lst [.str "ABCDabcd", .str "Aab", .str "ABab", .str "CcdB", .str "AD"]) ha
    have pa : a ≠ p := hP.ne_p ha
    refine ⟨p, l, .ref a, N, _, rfl, hP.same s0, by omega, .inl ⟨a, rfl, .inl (.inl upd_same), pa⟩, by decide, by decide, fun x H1 hx k1 p1 => ?_⟩
    have hk := kinds_in hx
    obtain ⟨kz, rfl, hkz⟩ := hk
    refine ⟨by show 2 ≤ sizeLine; decide, fun t ht => ?_⟩
    have s1' := same_new (o := .tup [.str "", .str kz]) ht
    refine ⟨t, _, rfl, .inl (.inl upd_same), rfl, _, _, rfl, _, _, rfl, rfl, ?_⟩
    have kk0 : Kept p H (upd H1 t (.tup [.str "", .str kz])) := (Kept.of s0).trans (k1.trans (Kept.of s1'))
    obtain ⟨kL, kS, _⟩ := kinds_ok kz hkz
    refine ⟨.ref p, rfl, .int m, rfl, m, 1, rfl, rfl, p, l, N + 1, m + 1, rfl, p1.same s1', by omega, by omega, by omega, fun d H3 d0 d1 k3 p3 => ?_⟩
    refine ⟨d, rfl, by omega, by omega, for_range (lo := 0) (n := d.toNat) (fun i σ H' => ∃ z y4 y5 y6, σ = [some (.ref p), some (.int m), some (.str z), some (.str kz), y4, y5, y6] ∧ fault z.cps.toList = none ∧ z.length = i ∧ Kept p H H' ∧ PenQ l (N + 2 + i) H' p)
      ⟨"", none, none, none, rfl, by decide +kernel, rfl, kk0.trans k3, p3.mono (by omega)⟩ (fun i σ H4 hi hPv => ?_) (fun σ H4 hPv => ?_)⟩
    · obtain ⟨z, y4, y5, y6, rfl, fz, lz, k4, p4⟩ := hPv
      refine ⟨.str kz, rfl, kz, rfl, fun D hD => lc_it walk_str (fun i' H' => Same H4 H' ∧ H' D = some (.lst (vs1 ((kz.cps.toList.take i').filter (may z))))) ⟨same_new hD, upd_same⟩ (fun _ _ _ _ => trivial) (fun i' x Ha Hb hi' hPc hY => ?_) (fun H5 hPc => ?_)⟩
      · obtain ⟨sa, ha'⟩ := hPc
        obtain ⟨rfl, c, hc, rfl⟩ := hY
        have hc' : kz.cps.toList[i']? = some c := by
          rw [Array.getElem?_toList]
          exact hc
        have tf := take_filter (may z) hc'
        have small : (vs1 ((kz.cps.toList.take i').filter (may z))).length < sizeLine := by
          unfold vs1
          rw [List.length_map, sizeLine_eq]
          have q1 := List.length_filter_le (may z) (kz.cps.toList.take i')
          have q2 : (kz.cps.toList.take i').length ≤ kz.cps.toList.length := by
            rw [List.length_take]
            omega
          have q3 := kS
          rw [len_codes] at q3
          omega
        have more : may z c = true → ∀ Hc, Same H4 Hc → Hc D = some (.lst (vs1 ((kz.cps.toList.take i').filter (may z)))) → Same H4 (upd Hc D (.lst (vs1 ((kz.cps.toList.take i').filter (may z)) ++ [.str (s1 c)]))) ∧
            (upd Hc D (.lst (vs1 ((kz.cps.toList.take i').filter (may z)) ++ [.str (s1 c)]))) D = some (.lst (vs1 ((kz.cps.toList.take (i' + 1)).filter (may z)))) := fun em Hc sc hDc => by
          refine ⟨fun b u e => ?_, ?_⟩
          · rw [upd_ne (ne_of_none e hD)]
            exact sc b u e
          · rw [upd_same, tf, if_pos em]
            unfold vs1
            rw [List.map_append]
            rfl
        refine ⟨rfl, .str z, rfl, rfl, _, rfl, ite2 (fun e => ?_) (fun e => ?_)⟩
        · have ez : z = "" := V.str.inj (of_decide_eq_true e)
          have em : may z c = true := by
            rw [ez]
            rfl
          refine iteT ?_
          exact ⟨.str (s1 c), rfl, _, ha', small, more em _ sa ha'⟩
        · have nz : z ≠ "" := fun q => e (decide_eq_true (congrArg V.str q))
          have nl : z.cps.toList ≠ [] := fun q => nz (str_empty.mpr q)
          obtain ⟨dl, hdl⟩ : ∃ dl, z.cps.toList.getLast? = some dl := ⟨_, List.getLast?_eq_getLast nl⟩
          obtain ⟨r, er⟩ := last_split hdl
          have dL : isL dl = true := letters_of _ _ _ fz dl (by rw [er]; exact List.mem_append_right _ List.mem_cons_self)
          have emay : may z c = decide (c ≠ up dl) := by
            unfold may
            rw [hdl]
          have at1 : atI z.cps.toList (-1) = some dl := by
            rw [er]
            exact atI_last _ _
          have zs : z.length ≤ sizeLine := by
            rw [sizeLine_eq]
            omega
          refine ⟨.str (s1 c), rfl, .str z, rfl, 1, rfl, z, -1, dl, rfl, rfl, zs, at1, dl, rfl, dL, rfl, _, rfl, ?_⟩
          by_cases ec : c = up dl
          · have e1 : (!decide (V.str (s1 c) = V.str (s1 (up dl)))) = false := by
              rw [ec]
              simp
            rw [e1]
            refine iteF ⟨sa, ?_⟩
            rw [ha', tf, if_neg]
            · rw [List.append_nil]
            · rw [emay]
              simpa using ec
          · have e1 : (!decide (V.str (s1 c) = V.str (s1 (up dl)))) = true := by
              rw [decide_eq_false fun q => ec (s1_inj (V.str.inj q))]
              rfl
            rw [e1]
            refine iteT ?_
            exact ⟨.str (s1 c), rfl, _, ha', small, more (emay.trans (decide_eq_true ec)) _ sa ha'⟩
      · obtain ⟨s5, h5⟩ := hPc
        have full : kz.cps.toList.take kz.cps.size = kz.cps.toList := List.take_of_length_le (by simp)
        rw [full] at h5
        obtain ⟨c1, c2, c3⟩ := some_may hkz z
        have mem1 : c1 ∈ kz.cps.toList.filter (may z) := List.mem_filter.mpr ⟨c2, c3⟩
        have pD : D ≠ p := p4.ne_p hD
        have lp1 : 0 < (vs1 (kz.cps.toList.filter (may z))).length := by
          unfold vs1
          rw [List.length_map]
          exact List.length_pos_of_mem mem1
        have lp2 : (vs1 (kz.cps.toList.filter (may z))).length ≤ 100000 := by
          unfold vs1
          rw [List.length_map]
          have q1 := List.length_filter_le (may z) kz.cps.toList
          have q3 := kS
          rw [len_codes] at q3
          omega
        refine ⟨.str z, rfl, .ref p, rfl, .ref D, rfl, p, l, .ref D, N + 2 + i, _, rfl, p4.same s5, by omega, .inl ⟨D, rfl, .inl (.inl h5), pD⟩, lp1, lp2, fun x H6 hx6 k6 p6 => ?_⟩
        obtain ⟨c, hc, rfl⟩ := List.mem_map.mp hx6
        obtain ⟨hcm, hcy⟩ := List.mem_filter.mp hc
        refine ⟨z, s1 c, rfl, rfl, by show z.length + 1 ≤ sizeLine; rw [sizeLine_eq]; omega, ?_⟩
        refine ⟨z ++ s1 c, _, _, _, rfl, ?_, ?_, k4.trans ((Kept.of s5).trans k6), p6.mono (by omega)⟩
        · rw [app_codes]
          refine fault_snoc fz (kL c hcm) fun d hd => ?_
          unfold may at hcy
          rw [hd] at hcy
          exact of_decide_eq_true hcy
        · rw [Str.length_append, lz]
          rfl
    · obtain ⟨z, y4, y5, y6, rfl, fz, lz, k4, p4⟩ := hPv
      refine ⟨.str z, rfl, ?_⟩
      exact q z _ ⟨fz, by omega⟩ k4 (p4.mono (by omega))
end
end K04
-- K04F1
namespace K04
open PySem PySem.Spec PyProof.Rows L2 SB
/-- a def whose code object is at c -/
structure FunT (K : PySem.W.Frag) (x qual : Str) (st : Stmt) (f c : Addr) (fd : FuncData) : Prop where
  ex : ∃ (oc : Value) (od : Option Addr) (kV doc pm : Value) (an : Option Addr) (ct : Value) (osl : Array (Option Value)),
    fd = PySem.W.fnOf x qual (defArgs st) (defBody st) (defScope st) .none kV doc pm an (.ref c) ct ∧ K.lookup f = some ⟨oc, od, .func fd, osl⟩ ∧ PySem.W.codeIn K (.ref c) qual = true
  kp : PySem.W.keepIn K (.ref f) = true
section
variable {P : Program} {w : World} {K : PySem.W.Frag} {mg : Str → Option Value} {base : Heap}
theorem FunT.fn {x qual : Str} {st : Stmt} {f c : Addr} {fd : FuncData} (F : FunT K x qual st f c fd) : Fun K x qual st f fd := by
  obtain ⟨oc, od, kV, doc, pm, an, ct, osl, e, lk, hcd⟩ := F.ex
  exact ⟨⟨oc, od, kV, doc, pm, an, .ref c, ct, osl, e, lk, hcd⟩, F.kp⟩
theorem FunT.ok {x qual : Str} {st : Stmt} {f c : Addr} {fd : FuncData} {N ps : List Str} {k : Nat} {sp : Sp} (F : FunT K x qual st f c fd) (S : FnScope N ps (defScope st)) (len : ∀ vs H Q E, sp vs H Q E → vs.length = ps.length)
    (hbody : ∀ (A : Around) (outer : List Env) (s : Shared) (H : Hp) (vs : List V) (Q : VK) (E : XK), Room k (A.deeper (envOfC qual (defScope st) s.heap.objs.size f (.ref c))) → sp vs H Q E →
      ∃ t, PSs (cxOf CX0 P w K mg base N qual (defScope st) f (.ref c) A outer s H E).nox (defBody st) t ∧ t { nx := fun _ H' => Q .non H', rt := Q } (L2.start N vs) H) : FnOk P w K mg base CX0 (k + 1) f fd ps sp := by
  obtain ⟨oc, od, kV, doc, pm, an, ct, osl, rfl, lk, hcd⟩ := F.ex
  refine fn_of lk hcd S len fun A outer s H vs Q E hr hsp => ?_
  obtain ⟨t, h, q⟩ := hbody A outer s H vs Q E hr hsp
  exact ⟨t, h.nox, q⟩
theorem funT_mk {x qual : Str} {st : Stmt} {f c : Addr} {oc : Value} {od an : Option Addr} {osl : Array (Option Value)} {kV doc pm ct : Value} (l : K.lookup f = some ⟨oc, od, .func (PySem.W.fnOf x qual (defArgs st) (defBody st) (defScope st) .none kV doc pm an (.ref c) ct), osl⟩)
    (e : PySem.W.codeIn K (.ref c) qual = true) (k : PySem.W.keepIn K (.ref f) = true) : FunT K x qual st f c (PySem.W.fnOf x qual (defArgs st) (defBody st) (defScope st) .none kV doc pm an (.ref c) ct) :=
  ⟨⟨oc, od, kV, doc, pm, an, ct, osl, rfl, l, e⟩, k⟩
/-- what is told of _law_heard -/
structure Heard (K : PySem.W.Frag) (mg : Str → Option Value) (CB : Addr) : Prop where
  ex : ∃ g fd, Fun K "_law_heard" "_law_heard" s__law_heard g fd ∧ Binds K fd ["ask"] [] ∧ mg "_law_heard" = some (.ref g)
  be : mg "BallError" = some (.ref CB)
/-- _law_heard(lambda: body) -/
theorem pe_heard {X : Cx} {T : List (Addr × Str)} {CB c P : Addr} {k : Nat} {params : Arguments} {body : Expr} {scope : Scope} {t : XK → TE} {p lpos pos : Pos} (Hd : Heard X.K X.mg CB) (hg : Gl X "_law_heard")
    (TB : LamX.TabB X.base X.mg c P) (hcode : X.env.code = .ref c) (hmT : (P, X.env.qual ++ "<lambda>") ∈ T) (hu : ∀ p ∈ T, p.1 = P → p.2 = X.env.qual ++ "<lambda>") (hr : Room (k + 2) X.A) (L : LamX.LamS X.env.scope scope) (hdef : defaultsOf params X.env = ([], []))
    (hbind : ∀ (q : Str) (cl : List (Str × Addr)) (pm cv ctv : Value), bindArgs (PySem.W.kla_fn "<lambda>" q params body scope cl pm cv ctv) ⟨[], []⟩ = pure [])
    (hbody : ∀ (A : Around) (outer : List Env) (s : Shared) (H : Hp) (E : XK) (f c' : Addr), Room k (A.deeper (LamX.lamEnv X scope s.heap.objs.size f c')) → PE (LamX.lamCx X A outer s H E scope f c') body (t E)) :
    PE X (.Call (.Name "_law_heard" p) [.Lambda params body scope lpos] [] pos) (LamX.tLam T (THeard X.K CB) t) := by
  obtain ⟨g, fd, F, bF, hm⟩ := Hd.ex
  have kp := F.kp
  obtain ⟨oc, od, kV, doc, pm, an, cdv, ct, osl, rfl, lk, hcd⟩ := F.ex
  exact LamX.pe_lamcall (Ng := ["ask", "caught", "error"]) (a := "ask") hg hm kp lk hcd bF sc__law_heard rfl (.inl rfl) (heard_gives (x := "_law_heard") (g := g) (cdg := cdv) Hd.be) TB hcode hmT hu hr L hdef hbind hbody
end
end K04
-- K04F2
namespace K04
open PySem PySem.Spec PyProof.Rows L2 SB
section
variable {P : Program} {w : World} {K : PySem.W.Frag} {mg : Str → Option Value} {base : Heap}
def spJoined : Sp := fun vs H Q _ => ∃ a b : Str, vs = [.str a, .str b] ∧ a.length ≤ 100000 ∧ b.length ≤ 100000 ∧ Fine a.cps.toList ∧ Fine b.cps.toList ∧ Q (.str (T (strike (a.cps.toList ++ b.cps.toList)))) H
theorem ok_joined {f : Addr} {fd : FuncData} {k : Nat} (F : Fun K "joined" "joined" s_joined f fd) (m_len : mg "len" = none) (m_min : mg "min" = none) : FnOk P w K mg base CX0 (k + 1) f fd ["one", "other"] spJoined := by
  refine F.ok sc_joined (fun vs H Q E h => ?_) (fun cdv A outer s H vs Q E hr h => ?_)
  · obtain ⟨a, b, rfl, _⟩ := h
    rfl
  · obtain ⟨a, b, rfl, la, lb, fa, fb, q⟩ := h
    have nd := sc_joined.nd
    refine ⟨_, (pss_cons (ps_set (i := 2) nd rfl (.inl rfl) (pe_callB call_len (by rfl) m_len PySem.boot_len (pa_cons (pv 0) pa_nil)))
      (pss_cons (ps_set (i := 3) nd rfl (.inl rfl) (pe_callB (call_min2 rfl) (by rfl) m_min (by decide +kernel) (pa_cons (pe_callB call_len (by rfl) m_len PySem.boot_len (pa_cons (pv 0) pa_nil)) (pa_cons (pe_callB call_len (by rfl) m_len PySem.boot_len (pa_cons (pv 1) pa_nil)) pa_nil))))
      (pss_cons (ps_set (i := 4) nd rfl (.inl rfl) pe_int)
      (pss_cons (ps_while PassesOwn.never (PW.pt (pw_and (pt_cmpR op_lt (pv 4) (pv 3) (nomark _)) (pw_and1 (pt_cmpR op_eq (pe_ix ix_str (pv 0) (pe_op op_sub (pe_op op_sub (pv 2) pe_int) (pv 4)) (fun _ _ => rfl)) (pe_m0 PySem.F.slot_str_swapcase PySem.F.type_str_swapcase mt_swapcase (pe_ix ix_str (pv 1) (pv 4) (fun _ _ => rfl))) (nomark _))))) (pss_one (ps_aug (i := 4) nd rfl (.inl rfl) pe_int ip_add)))
      (pss_one (ps_ret (pe_op op_add_str (pe_slice sl_str (pv 0) po_none (po_some (pe_op op_sub (pv 2) (pv 4)))) (pe_slice sl_str (pv 1) (po_some (pv 4)) po_none)))))))), ?_⟩
    have as_ : a.length ≤ sizeLine := by
      rw [sizeLine_eq]
      omega
    have bs_ : b.length ≤ sizeLine := by
      rw [sizeLine_eq]
      omega
    have hla : a.cps.toList.length = a.length := rfl
    have hlb : b.cps.toList.length = b.length := rfl
    refine ⟨.str a, rfl, .str a, a.length, rfl, ⟨as_, rfl⟩, .str a, rfl, .str a, a.length, rfl, ⟨as_, rfl⟩, .str b, rfl, .str b, b.length, rfl, ⟨bs_, rfl⟩, _, _, rfl, ?_⟩
    have em : (if ((b.length : Nat) : Int) < ((a.length : Nat) : Int) then ((b.length : Nat) : Int) else ((a.length : Nat) : Int)) = ((min a.length b.length : Nat) : Int) := by
      split <;> omega
    rw [em]
    refine ⟨fun m σ H' => ∃ g : Nat, σ = [some (.str a), some (.str b), some (.int (a.length : Nat)), some (.int (min a.length b.length : Nat)), some (.int (g : Nat))] ∧ H' = H ∧ g ≤ min a.length b.length ∧ m + g = min a.length b.length ∧ strike (a.cps.toList.take (a.cps.toList.length - g) ++ b.cps.toList.drop g) = strike (a.cps.toList ++ b.cps.toList),
      ⟨min a.length b.length, 0, rfl, rfl, Nat.zero_le _, rfl, ?_⟩, ?_⟩
    · rw [Nat.sub_zero, List.take_length, List.drop_zero]
    rintro m σ H' ⟨g, rfl, rfl, gl, em2, es⟩
    have out : (∀ x y, g < a.cps.toList.length → a.cps.toList[a.cps.toList.length - 1 - g]? = some x → b.cps.toList[g]? = some y → x ≠ up y) → Q (.str (cutS a none (some ((a.length : Nat) - (g : Nat) : Int)) ++ cutS b (some ((g : Nat) : Int)) none)) H' := fun n => by
      have e1 := join_end (g := g) fa fb n
      have e2 : cutS a none (some ((a.length : Nat) - (g : Nat) : Int)) ++ cutS b (some ((g : Nat) : Int)) none = SB.T (strike (a.cps.toList ++ b.cps.toList)) := by
        refine str_ext ?_
        rw [app_codes, show ((a.length : Nat) : Int) - ((g : Nat) : Int) = ((a.length - g : Nat) : Int) by omega, cut_take, cut_drop, ← es, e1, hla]
        rfl
      rw [e2]
      exact q
    refine ⟨.int g, rfl, .int (min a.length b.length : Nat), rfl, _, _, rfl, rfl, _, rfl, ite2 (fun e => ?_) (fun e => ?_)⟩
    · have lt : g < min a.length b.length := by
        have := of_decide_eq_true e
        omega
      obtain ⟨x, hx⟩ : ∃ x, a.cps.toList[a.cps.toList.length - 1 - g]? = some x := ⟨_, List.getElem?_eq_getElem (by omega)⟩
      obtain ⟨y, hy⟩ : ∃ y, b.cps.toList[g]? = some y := ⟨_, List.getElem?_eq_getElem (by omega)⟩
      have yL : isL y = true := fb.1 y (List.mem_of_getElem? hy)
      have ax : atI a.cps.toList (((a.length : Nat) : Int) - 1 - ((g : Nat) : Int)) = some x := by
        rw [show ((a.length : Nat) : Int) - 1 - ((g : Nat) : Int) = ((a.cps.toList.length - 1 - g : Nat) : Int) by omega]
        exact atI_nat hx
      refine ⟨.str a, rfl, .int (a.length : Nat), rfl, _, 1, rfl, rfl, .int g, rfl, _, _, rfl, rfl, a, _, x, rfl, rfl, as_, ax, .str b, rfl, .int g, rfl, b, _, y, rfl, rfl, bs_, atI_nat hy, ⟨_, rfl⟩, s1 y, rfl, rfl, (by show 1 ≤ 5592405; decide), rfl, _, rfl, ?_⟩
      rw [swap_up y yL]
      by_cases ec : x = up y
      · rw [decide_eq_true (congrArg (fun c => V.str (s1 c)) ec)]
        refine ⟨fun σ' H'' => ∃ m', m' < m ∧ _, fun σ' H'' h => h, ?_⟩
        refine ⟨.int g, rfl, _, _, rfl, rfl, m - 1, by omega, g + 1, rfl, rfl, by omega, by omega, ?_⟩
        rw [← es]
        exact (join_step fa fb (by omega) hx hy ec).symm
      · rw [decide_eq_false fun q => ec (s1_inj (V.str.inj q))]
        refine ⟨.str a, rfl, .int (a.length : Nat), rfl, .int g, rfl, _, _, rfl, rfl, _, rfl, a, rfl, as_, .str b, rfl, .int g, rfl, _, rfl, b, rfl, bs_, _, _, rfl, rfl, by rw [sizeLine_eq]; have c1 := cutS_length a none (some ((a.length : Nat) - (g : Nat) : Int)); have c2 := cutS_length b (some ((g : Nat) : Int)) none; omega, out ?_⟩
        intro x' y' _ hx' hy'
        rw [hx] at hx'
        rw [hy] at hy'
        cases hx'
        cases hy'
        exact ec
    · have ge : ¬ g < min a.length b.length := fun h => e (decide_eq_true (by omega))
      refine ⟨.str a, rfl, .int (a.length : Nat), rfl, .int g, rfl, _, _, rfl, rfl, _, rfl, a, rfl, as_, .str b, rfl, .int g, rfl, _, rfl, b, rfl, bs_, _, _, rfl, rfl, by rw [sizeLine_eq]; have c1 := cutS_length a none (some ((a.length : Nat) - (g : Nat) : Int)); have c2 := cutS_length b (some ((g : Nat) : Int)) none; omega, out ?_⟩
      intro x' y' hg _ hy'
      have := (List.getElem?_eq_some_iff.mp hy').1
      omega
end
end K04
-- M13
namespace SB
open PySem PySem.Spec PyProof.Rows L2
theorem case_of : ∀ c, isL c = true → (if Unicode.isUpper c then Unicode.lowerOf c else if Unicode.isLower c then Unicode.upperOf c else [c]) = [up c] ∧ (c == 0x3A3) = false := by
  intro c h
  have h' : c ∈ letters8 := of_decide_eq_true h
  have all : ∀ c ∈ letters8, (if Unicode.isUpper c then Unicode.lowerOf c else if Unicode.isLower c then Unicode.upperOf c else [c]) = [up c] ∧ (c == 0x3A3) = false := by decide +kernel
  exact all c h'
theorem case_at {a : Array Nat} {i c : Nat} (h : a[i]? = some c) (hc : isL c = true) : (if Unicode.isUpper c then Unicode.lowerAt a i else if Unicode.isLower c then Unicode.upperOf c else [c]) = [up c] := by
  obtain ⟨h1, h2⟩ := case_of c hc
  have e : Unicode.lowerAt a i = Unicode.lowerOf c := by
    unfold Unicode.lowerAt
    rw [h]
    show (if (c == 0x3A3 && Unicode.endsWord a i) = true then [0x3C2] else Unicode.lowerOf c) = _
    rw [h2]
    rfl
  rw [e]
  exact h1
theorem swap_text {z : Str} (h : allL z.cps.toList) : Txt.swapcase z = T (z.cps.toList.map up) := by
  refine str_ext ?_
  show ((z.cps.mapIdx fun i c => (if Unicode.isUpper c then Unicode.lowerAt z.cps i else if Unicode.isLower c then Unicode.upperOf c else [c]).toArray).flatten).toList = z.cps.toList.map up
  have e : (z.cps.mapIdx fun i c => (if Unicode.isUpper c then Unicode.lowerAt z.cps i else if Unicode.isLower c then Unicode.upperOf c else [c]).toArray) = z.cps.map fun c => #[up c] := by
    refine Array.ext (by simp) fun i h1 h2 => ?_
    have hi : i < z.cps.size := by simpa using h2
    rw [Array.getElem_mapIdx, Array.getElem_map]
    have hc : z.cps[i]? = some z.cps[i] := Array.getElem?_eq_getElem hi
    rw [case_at hc (h _ (by simp))]
  rw [e, Array.toList_flatten, Array.toList_map, List.map_map]
  have f : ∀ l : List Nat, (l.map (Array.toList ∘ fun c => #[up c])).flatten = l.map up := by
    intro l
    induction l with
    | nil => rfl
    | cons a r ih =>
      rw [List.map_cons, List.flatten_cons, ih]
      rfl
  exact f _
end SB
-- K04F3
namespace K04
open PySem PySem.Spec PyProof.Rows L2 SB
/-- what isinstance asks of an own class -/
structure IsC (K : PySem.W.Frag) (C : Addr) : Prop where
  ca : PySem.W.findIn K (.ref C) "__class__" = some (some (.builtin "object.__class__"))
  cg : PySem.W.specialIn K (.builtin "object.__class__") "__get__" = some (some (.builtin "getset_descriptor.__get__"))
  ct : PySem.W.takesIn K (.builtin "object.__class__") = some true
  mr : PySem.W.mroIn K C (.type "object") = some true
  ns : PySem.W.kitOne K (.ref C) (.type "str") = some false
theorem isC_ty {K : PySem.W.Frag} {CW a : Addr} {H : Hp} {z : Str} (c : Cls K CW) (i : IsC K CW) (h : WordAt CW H a z) : TyX K H (.ref a) (.ref CW) := by
  obtain ⟨dx, h⟩ := h
  exact .base (.ins h c i.ca i.cg i.ct i.mr)
theorem kit_self {K : PySem.W.Frag} {C : Addr} : PySem.W.kitOne K (.ref C) (.ref C) = some true := by
  unfold PySem.W.kitOne
  rw [if_pos (beq_self_eq_true _)]
theorem made_word {H H1 : Hp} {x dx CW : Addr} {z : Str} (nx : H x = none) (nd : H dx = none) (s : Same (upd (upd H dx (.own x)) x (.ins CW dx [])) H1) :
    Same H (upd H1 x (.ins CW dx [("letters", .str z)])) ∧ WordAt CW (upd H1 x (.ins CW dx [("letters", .str z)])) x z := ⟨same_made nx nd s, dx, upd_same⟩
theorem same_make {H H1 : Hp} {x dx CW : Addr} (nx : H x = none) (nd : H dx = none) (ne : dx ≠ x) (s : Same (upd (upd H dx (.own x)) x (.ins CW dx [])) H1) : Same H H1 :=
  (same_new nd).trans ((same_new (by rw [upd_ne (Ne.symm ne)]; exact nx)).trans s)
theorem fine_word {z : Str} (h : Fine z.cps.toList) : fault z.cps.toList = none := (fine_iff _).mpr h
section
variable {P : Program} {w : World} {K : PySem.W.Frag} {mg : Str → Option Value} {base : Heap}
def spUndone : Sp := fun vs H Q _ => ∃ a : Str, vs = [.str a] ∧ a.length ≤ 100000 ∧ allL a.cps.toList ∧ Q (.str (T (inv a.cps.toList))) H
theorem ok_undone {f : Addr} {fd : FuncData} {k : Nat} (F : Fun K "undone" "undone" s_undone f fd) : FnOk P w K mg base CX0 (k + 1) f fd ["letters"] spUndone := by
  refine F.ok sc_undone (fun vs H Q E h => ?_) (fun cdv A outer s H vs Q E hr h => ?_)
  · obtain ⟨a, rfl, _⟩ := h
    rfl
  · obtain ⟨a, rfl, la, aL, q⟩ := h
    have nd := sc_undone.nd
    refine ⟨_, (pss_one (ps_ret (pe_m0 PySem.F.slot_str_swapcase PySem.F.type_str_swapcase mt_swapcase (pe_revS (pv 0) (pe_un un_neg pe_int))))), ?_⟩
    have lr : (revS a).length = a.length := by
      show (a.cps.toList.reverse).length = a.cps.toList.length
      rw [List.length_reverse]
    have rL : allL (revS a).cps.toList := fun c hc => aL c (List.mem_reverse.mp hc)
    refine ⟨.str a, rfl, 1, rfl, a, rfl, rfl, by rw [sizeLine_eq]; omega, ⟨_, rfl⟩, revS a, rfl, rfl, by omega, ?_⟩
    rw [swap_text rL]
    have e : ((revS a).cps.toList.map up) = inv a.cps.toList := by
      show (a.cps.toList.reverse).map up = (a.cps.toList.map up).reverse
      rw [List.map_reverse]
    rw [e]
    exact q
/-- what is told of the making of Words -/
structure MakeOk (P : Program) (w : World) (K : PySem.W.Frag) (mg : Str → Option Value) (base : Heap) (CW CB2 CM : Addr) (k : Nat) : Prop where
  word : ∃ f fd tE, Mk K CW f ∧ FnOk P w K mg base (L2.CX P w) (k + 3) f fd ["self", "letters"] (spWordI K CW CB2 CM) ∧ Binds K fd ["self", "letters"] [] ∧ Binds K fd ["self", "letters"] [tE] ∧ RelV (.str "") tE
  gW : mg "Word" = some (.ref CW)
  cl : Cls K CW
  ic : IsC K CW
  na : NoAttr K CW "letters"
def spMul (K : PySem.W.Frag) (CW CB2 CM : Addr) : Sp := fun vs H Q E => ∃ (a : Addr) (z : Str) (y : V), vs = [.ref a, y] ∧ WordAt CW H a z ∧ Fine z.cps.toList ∧ z.length ≤ 4000 ∧
  ((∃ (b : Addr) (v : Str), y = .ref b ∧ WordAt CW H b v ∧ Fine v.cps.toList ∧ v.length ≤ 4000 ∧
    ((strike (z.cps.toList ++ v.cps.toList)).length ≤ 4000 → ∀ c H', H c = none → Same H H' → WordAt CW H' c (T (strike (z.cps.toList ++ v.cps.toList))) → Q (.ref c) H') ∧
    (4000 < (strike (z.cps.toList ++ v.cps.toList)).length → ∀ H' d, Same H H' → H' d = none → E (.ref CM) (some d) (upd H' d (.xd [("most", .int 4000), ("what", .str "letters")])))) ∨
   (∃ t, TyX K H y t ∧ PySem.W.kitOne K t (.ref CW) = some false ∧ ∀ d, H d = none → E (.ref CB2) (some d) (upd H d (.xd [("at", .int 0)]))))
theorem ok_Word_mul {f CW CB2 CM fB fJ : Addr} {fd fdB fdJ : FuncData} {k : Nat} (F : Fun K "__mul__" "Word.__mul__" s_Word_mul f fd) (MO : MakeOk P w K mg base CW CB2 CM k) (E2 : Err1 K mg "BadWord" "at" CB2 fB) (FB : Fun K "__init__" "BadWord.__init__" s_BadWord_init fB fdB) (bB : Binds K fdB ["self", "at"] [])
    (GJ : FnOk P w K mg base CX0 (k + 1) fJ fdJ ["one", "other"] spJoined) (gJ : mg "joined" = some (.ref fJ)) (kJ : PySem.W.keepIn K (.ref fJ) = true) (bJ : Binds K fdJ ["one", "other"] []) (mi : mg "isinstance" = none) :
    FnOk P w K mg base (L2.CX P w) (k + 5) f fd ["self", "other"] (spMul K CW CB2 CM) := by
  obtain ⟨fW, fdW, tE, M, GW, bW, bW0, rE⟩ := MO.word
  have gW := MO.gW
  refine F.okX sc_Word_mul (fun vs H Q E h => ?_) (fun cdv A outer s H vs Q E hr h => ?_)
  · obtain ⟨a, z, y, rfl, _⟩ := h
    rfl
  · obtain ⟨a, z, y, rfl, ⟨dx, ha⟩, fz, lz, h⟩ := h
    have nd := sc_Word_mul.nd
    refine ⟨_, pss_cons (ps_if (pt_not (pt_val (pe_callB call_isi (by rfl) mi boot_isinstance (pa_cons (pv 1) (pa_cons (pe_glob (v := .ref CW) (by rfl) gW rfl) pa_nil)))))
        (pss_one (ps_raise1 E2 (ok_BadWord_init (k := k) FB) bB (hr.mono (by omega)) rfl (takes_of rfl rfl rfl rfl) pass0 pe_int)) pss_nil)
      (pss_one (ps_ret (pe_make M GW (hr.mono (by omega)) (by rfl) gW bW .nil (E := E) (passes_call (takes_of rfl rfl rfl rfl) fun _ _ _ _ q => q) (pa_cons (pe_call GJ (hr.mono (by omega)) (by rfl) gJ kJ bJ .nil pass0 (pa_cons (pe_fld (pv 0) rfl) (pa_cons (pe_fld (pv 1) rfl) pa_nil))) pa_nil)))), ?_⟩
    rcases h with ⟨b, v, rfl, wb, fv, lv, good, long⟩ | ⟨t, ty, ek, bad⟩
    · refine ⟨.ref b, rfl, .ref b, .ref CW, .ref CW, .ref CW, true, rfl, .own CW, isC_ty MO.cl MO.ic wb, kit_self, true, rfl, iteF ?_⟩
      obtain ⟨dy, hb⟩ := wb
      refine ⟨.ref a, rfl, a, CW, dx, _, .str z, rfl, ha, MO.cl, MO.na, rfl, .ref b, rfl, b, CW, dy, _, .str v, rfl, hb, MO.cl, MO.na, rfl, z, v, rfl, by omega, by omega, fz, fv, ?_⟩
      have fS : Fine (SB.T (strike (z.cps.toList ++ v.cps.toList))).cps.toList := fine_strike (allL_app fz.1 fv.1)
      have eS := fine_word fS
      have ls := len_strike (z.cps.toList ++ v.cps.toList)
      rw [List.length_append] at ls
      have lz' : z.cps.toList.length ≤ 4000 := lz
      have lv' : v.cps.toList.length ≤ 4000 := lv
      have lS : (SB.T (strike (z.cps.toList ++ v.cps.toList))).length = (strike (z.cps.toList ++ v.cps.toList)).length := rfl
      refine fun x dx2 nx nd' ne => ⟨x, dx2, .str (SB.T (strike (z.cps.toList ++ v.cps.toList))), rfl, upd_same, .inl ⟨_, rfl⟩, fun z' hz' => ?_, fun nz => (nz _ rfl).elim⟩
      cases hz'
      refine ⟨by omega, (fun j hj => by rw [eS] at hj; cases hj), fun _ l4 H2 d s2 hd => long (by omega) H2 d (same_make nx nd' ne s2) hd, fun _ l4 H2 s2 => ⟨rfl, ?_⟩⟩
      obtain ⟨s3, w3⟩ := made_word (z := SB.T (strike (z.cps.toList ++ v.cps.toList))) nx nd' s2
      exact good (by omega) x _ nx s3 w3
    · refine ⟨y, rfl, y, .ref CW, t, .ref CW, false, rfl, .own CW, ty, ek, false, rfl, iteT ?_⟩
      exact raised1 E2 fun d hd => bad d hd
def spInvert (CW : Addr) : Sp := fun vs H Q _ => ∃ (a : Addr) (z : Str), vs = [.ref a] ∧ WordAt CW H a z ∧ Fine z.cps.toList ∧ z.length ≤ 4000 ∧ ∀ c H', H c = none → Same H H' → WordAt CW H' c (T (inv z.cps.toList)) → Q (.ref c) H'
theorem ok_Word_invert {f CW CB2 CM fU : Addr} {fd fdU : FuncData} {k : Nat} (F : Fun K "__invert__" "Word.__invert__" s_Word_invert f fd) (MO : MakeOk P w K mg base CW CB2 CM k)
    (GU : FnOk P w K mg base CX0 (k + 1) fU fdU ["letters"] spUndone) (gU : mg "undone" = some (.ref fU)) (kU : PySem.W.keepIn K (.ref fU) = true) (bU : Binds K fdU ["letters"] []) :
    FnOk P w K mg base CX0 (k + 5) f fd ["self"] (spInvert CW) := by
  obtain ⟨fW, fdW, tE, M, GW, bW, bW0, rE⟩ := MO.word
  have gW := MO.gW
  refine F.ok sc_Word_invert (fun vs H Q E h => ?_) (fun cdv A outer s H vs Q E hr h => ?_)
  · obtain ⟨a, z, rfl, _⟩ := h
    rfl
  · obtain ⟨a, z, rfl, ⟨dx, ha⟩, fz, lz, q⟩ := h
    refine ⟨_, pss_one (ps_ret (pe_make M GW (hr.mono (by omega)) (by rfl) gW bW .nil passL (pa_cons (pe_call GU (hr.mono (by omega)) (by rfl) gU kU bU .nil pass0 (pa_cons (pe_fld (pv 0) rfl) pa_nil)) pa_nil))), ?_⟩
    refine ⟨.ref a, rfl, a, CW, dx, _, .str z, rfl, ha, MO.cl, MO.na, rfl, z, rfl, by omega, fz.1, ?_⟩
    have eS : fault (SB.T (inv z.cps.toList)).cps.toList = none := fine_word (fine_inv fz)
    have lS : (SB.T (inv z.cps.toList)).length = z.length := inv_len _
    refine fun x dx2 nx nd' ne => ⟨x, dx2, .str (SB.T (inv z.cps.toList)), rfl, upd_same, .inl ⟨_, rfl⟩, fun z' hz' => ?_, fun nz => (nz _ rfl).elim⟩
    cases hz'
    refine ⟨by omega, (fun j hj => by rw [eS] at hj; cases hj), (fun _ l4 => absurd l4 (by omega)), fun _ _ H2 s2 => ⟨rfl, ?_⟩⟩
    obtain ⟨s3, w3⟩ := made_word (z := SB.T (inv z.cps.toList)) nx nd' s2
    exact q x _ nx s3 w3
theorem eqv_word (z y : Str) : PyData.eqv (.tuple [.int (z.length : Nat), .str z]) (.tuple [.int (y.length : Nat), .str y]) = decide (z = y) := by
  show ((((z.length : Nat) : Int) == ((y.length : Nat) : Int)) && ((z == y) && true)) = decide (z = y)
  by_cases e : z = y
  · subst e
    simp
  · have : (z == y) = false := by simpa using e
    rw [this, decide_eq_false e]
    simp
def spEq (K : PySem.W.Frag) (CW : Addr) : Sp := fun vs H Q _ => ∃ (a : Addr) (z : Str) (y : V), vs = [.ref a, y] ∧ WordAt CW H a z ∧ Fine z.cps.toList ∧ z.length ≤ 4000 ∧
  ((∃ (b : Addr) (v : Str), y = .ref b ∧ WordAt CW H b v ∧ Fine v.cps.toList ∧ v.length ≤ 4000 ∧ ∀ H', Same H H' → Q (.bl (decide (z = v))) H') ∨ (∃ t, TyX K H y t ∧ PySem.W.kitOne K t (.ref CW) = some false ∧ Q (.bl false) H))
theorem ok_Word_eq {f CW CB2 CM : Addr} {fd : FuncData} {k : Nat} (F : Fun K "__eq__" "Word.__eq__" s_Word_eq f fd) (MO : MakeOk P w K mg base CW CB2 CM k) (mi : mg "isinstance" = none) (ml : mg "len" = none) :
    FnOk P w K mg base CX0 (k + 1) f fd ["self", "other"] (spEq K CW) := by
  have gW := MO.gW
  have cl := MO.cl
  have na := MO.na
  refine F.ok sc_Word_eq (fun vs H Q E h => ?_) (fun cdv A outer s H vs Q E hr h => ?_)
  · obtain ⟨a, z, y, rfl, _⟩ := h
    rfl
  · obtain ⟨a, z, y, rfl, ⟨dx, ha⟩, fz, lz, h⟩ := h
    refine ⟨_, pss_cons (ps_if (pt_not (pt_val (pe_callB call_isi (by rfl) mi boot_isinstance (pa_cons (pv 1) (pa_cons (pe_glob (v := .ref CW) (by rfl) gW rfl) pa_nil)))))
        (pss_one (ps_ret pe_bl)) pss_nil)
      (pss_one (ps_ret (pe_cmpR (op_eqD hr.units) (pe_tup (pa_cons (pe_callB call_len (by rfl) ml PySem.boot_len (pa_cons (pe_fld (pv 0) rfl) pa_nil)) (pa_cons (pe_fld (pv 0) rfl) pa_nil)))
        (pe_tup (pa_cons (pe_callB call_len (by rfl) ml PySem.boot_len (pa_cons (pe_fld (pv 1) rfl) pa_nil)) (pa_cons (pe_fld (pv 1) rfl) pa_nil))) (nomark _)))), ?_⟩
    rcases h with ⟨b, y, rfl, wb, fy, ly, q⟩ | ⟨t, ty, ek, q⟩
    · refine ⟨.ref b, rfl, .ref b, .ref CW, .ref CW, .ref CW, true, rfl, .own CW, isC_ty MO.cl MO.ic wb, kit_self, true, rfl, iteF ?_⟩
      obtain ⟨dy, hb⟩ := wb
      have lz' : z.length ≤ sizeLine := by
        rw [sizeLine_eq]
        omega
      have ly' : y.length ≤ sizeLine := by
        rw [sizeLine_eq]
        omega
      refine ⟨.ref a, rfl, a, CW, dx, _, .str z, rfl, ha, cl, na, rfl, .str z, z.length, rfl, ⟨lz', rfl⟩, .ref a, rfl, a, CW, dx, _, .str z, rfl, ha, cl, na, rfl, by show 2 ≤ sizeLine; decide, fun p hp => ?_⟩
      have s1 : Same H (upd H p (.tup [.int (z.length : Nat), .str z])) := same_new hp
      have hb1 := s1 _ _ hb
      refine ⟨.ref b, rfl, b, CW, dy, _, .str y, rfl, hb1, cl, na, rfl, .str y, y.length, rfl, ⟨ly', rfl⟩, .ref b, rfl, b, CW, dy, _, .str y, rfl, hb1, cl, na, rfl, by show 2 ≤ sizeLine; decide, fun r hr2 => ?_⟩
      have s2 := same_new (o := .tup [.int (y.length : Nat), .str y]) hr2
      refine ⟨.tuple [.int (z.length : Nat), .str z], .tuple [.int (y.length : Nat), .str y], .tup (.inl (.inl (s2 _ _ upd_same))) (.cons (.int _) (.cons (.str _) .nil)), .tup (.inl (.inl upd_same)) (.cons (.int _) (.cons (.str _) .nil)), shaped_word _ (fine_word fz), shaped_word _ (fine_word fy), ?_⟩
      rw [eqv_word]
      exact q _ (s1.trans s2)
    · exact ⟨y, rfl, y, .ref CW, t, .ref CW, false, rfl, .own CW, ty, ek, false, rfl, iteT q⟩
end
end K04
-- K04G1
namespace K04
open PySem PySem.Spec PyProof.Rows L2 SB
section
variable {P : Program} {w : World} {K : PySem.W.Frag} {mg : Str → Option Value} {base : Heap}
def spTold : Sp := fun vs H Q _ => ∃ b : Bool, vs = [.bl b, .bl b] ∧ Q (.bl true) H
theorem ok_law_told {f : Addr} {fd : FuncData} {k : Nat} (F : Fun K "_law_told" "_law_told" s__law_told f fd) : FnOk P w K mg base CX0 (k + 1) f fd ["told", "due"] spTold := by
  refine F.ok sc__law_told (fun vs H Q E h => ?_) (fun cdv A outer s H vs Q E hr h => ?_)
  · obtain ⟨b, rfl, _⟩ := h
    rfl
  · obtain ⟨b, rfl, q⟩ := h
    have nd := sc__law_told.nd
    refine ⟨_, (pss_one (ps_ret (pe_ifExp (pt_val (pv 1)) (pe_cmpR op_isBl (pv 0) pe_bl (nomark _)) (pe_cmpR op_isBl (pv 0) pe_bl (nomark _))))), ?_⟩
    cases b with
    | true => exact ⟨.bl true, rfl, true, rfl, iteT ⟨.bl true, rfl, true, true, rfl, rfl, q⟩⟩
    | false => exact ⟨.bl false, rfl, false, rfl, iteF ⟨.bl false, rfl, false, false, rfl, rfl, q⟩⟩
def spBack : Sp := fun vs H Q _ => ∃ z : Str, vs = [.str z] ∧ z.length ≤ 100000 ∧ allL z.cps.toList ∧ Q (.str (T (inv z.cps.toList))) H
theorem ok_law_back {f f__law_undo : Addr} {fd d__law_undo : FuncData} {k : Nat} (F : Fun K "_law_back" "_law_back" s__law_back f fd)
    (G__law_undo : FnOk P w K mg base CX0 (k + 1) f__law_undo d__law_undo ["letter"] spUndo) (g__law_undo : mg "_law_undo" = some (.ref f__law_undo)) (k__law_undo : PySem.W.keepIn K (.ref f__law_undo) = true) (b__law_undo : Binds K d__law_undo ["letter"] []) :
    FnOk P w K mg base CX0 (k + 2) f fd ["row"] spBack := by
  refine F.ok sc__law_back (fun vs H Q E h => ?_) (fun cdv A outer s H vs Q E hr h => ?_)
  · obtain ⟨z, rfl, _⟩ := h
    rfl
  · obtain ⟨z, rfl, hl, zL, q⟩ := h
    have nd := sc__law_back.nd
    refine ⟨_, (pss_cons (ps_set (i := 1) nd rfl (.inl rfl) pe_str)
      (pss_cons (ps_for PassesOwn.never rfl (pi_str (pv 0)) (pg_name (i := 2) nd rfl (.inl rfl)) (pss_one (ps_set (i := 1) nd rfl (.inl rfl) (pe_op op_add_str (pe_call G__law_undo (hr.mono (by omega)) (by rfl) g__law_undo k__law_undo b__law_undo .nil pass0 (pa_cons (pv 2) pa_nil)) (pv 1)))))
      (pss_one (ps_ret (pv 1))))), ?_⟩
    refine ⟨.str z, rfl, z, rfl, for_it walk_str (fun i σ H' => ∃ (y : Str) (y2 : Option V), σ = [some (.str z), some (.str y), y2] ∧ H' = H ∧ y.cps.toList = inv (z.cps.toList.take i)) ⟨"", none, rfl, rfl, rfl⟩ (fun _ _ _ _ _ => trivial) (fun i x σ Ha Hb hi hP hY => ?_) (fun σ H1 hP => ?_)⟩
    · obtain ⟨y, y2, rfl, rfl, ey⟩ := hP
      obtain ⟨rfl, c, hc, rfl⟩ := hY
      have hc' : z.cps.toList[i]? = some c := by
        rw [Array.getElem?_toList]
        exact hc
      have cL := zL c (List.mem_of_getElem? hc')
      have ly : y.length ≤ z.length := by
        rw [len_codes, len_codes, ey, inv_len, List.length_take]
        omega
      refine ⟨.str (s1 c), rfl, c, rfl, cL, .str y, rfl, _, _, rfl, rfl, by rw [sizeLine_eq]; show 1 + y.length ≤ _; omega, ?_⟩
      refine ⟨_, _, rfl, rfl, ?_⟩
      rw [app_codes, ey, List.take_add_one, hc', inv_app]
      rfl
    · obtain ⟨y, y2, rfl, rfl, ey⟩ := hP
      have full : z.cps.toList.take z.cps.size = z.cps.toList := List.take_of_length_le (by simp)
      rw [full] at ey
      have e : y = SB.T (inv z.cps.toList) := str_ext ey
      refine ⟨.str y, rfl, ?_⟩
      rw [e]
      exact q
end
end K04
-- K04G2
namespace K04
open PySem PySem.Spec PyProof.Rows L2 SB
theorem xd_no (f g : Str) (v : V) (h : f ≠ g) : ([(g, v)] : List (Str × V)).lookup f = none := by
  have e : (f == g) = false := by simpa using h
  simp [List.lookup, e]
theorem T_self (z : Str) : SB.T z.cps.toList = z := str_ext rfl
section
variable {K : PySem.W.Frag} {CW CB2 CM : Addr}
theorem mul_q {H : Hp} {Q : VK} {E : XK} {a b : Addr} {z v : Str} (wa : WordAt CW H a z) (wb : WordAt CW H b v) (fz : Fine z.cps.toList) (fv : Fine v.cps.toList) (lz : z.length ≤ 1000) (lv : v.length ≤ 1000)
    (q : ∀ c H', H c = none → Same H H' → WordAt CW H' c (SB.T (strike (z.cps.toList ++ v.cps.toList))) → Q (.ref c) H') : rMulOwn CW (spMul K CW CB2 CM) E (.ref a) (.ref b) H Q := by
  have wa' := wa
  have wb' := wb
  obtain ⟨dx, ha⟩ := wa
  obtain ⟨dy, hb⟩ := wb
  have ls := len_strike (z.cps.toList ++ v.cps.toList)
  rw [List.length_append] at ls
  have lz' : z.cps.toList.length ≤ 1000 := lz
  have lv' : v.cps.toList.length ≤ 1000 := lv
  exact ⟨a, b, dx, dy, _, _, rfl, rfl, ha, hb, a, z, .ref b, rfl, wa', fz, by omega, .inl ⟨b, v, rfl, wb', fv, by omega, fun _ c H' nc s wc => ⟨c, rfl, q c H' nc s wc⟩, fun l4 => absurd l4 (by omega)⟩⟩
theorem inv_q {H : Hp} {Q : VK} {E : XK} {a : Addr} {z : Str} (wa : WordAt CW H a z) (fz : Fine z.cps.toList) (lz : z.length ≤ 1000)
    (q : ∀ c H', H c = none → Same H H' → WordAt CW H' c (SB.T (inv z.cps.toList)) → Q (.ref c) H') : rInvOwn CW (spInvert CW) E (.ref a) H Q := by
  have wa' := wa
  obtain ⟨dx, ha⟩ := wa
  exact ⟨a, dx, _, rfl, ha, a, z, rfl, wa', fz, by omega, q⟩
theorem ne_q {H : Hp} {Q : VK} {E : XK} {a b : Addr} {z v : Str} (wa : WordAt CW H a z) (wb : WordAt CW H b v) (fz : Fine z.cps.toList) (fv : Fine v.cps.toList) (lz : z.length ≤ 1000) (lv : v.length ≤ 1000) (e : z = v)
    (q : ∀ H', Same H H' → Q (.bl false) H') : rNeOwn CW (spEq K CW) E (.ref a) (.ref b) H Q := by
  have wa' := wa
  have wb' := wb
  obtain ⟨dx, ha⟩ := wa
  obtain ⟨dy, hb⟩ := wb
  refine ⟨a, b, dx, dy, _, _, rfl, rfl, ha, hb, a, z, .ref b, rfl, wa', fz, by omega, .inl ⟨b, v, rfl, wb', fv, by omega, fun H' s => ⟨_, rfl, ?_⟩⟩⟩
  rw [decide_eq_true e]
  exact q H' s
theorem make_q {H : Hp} {Qx : VK} {E : XK} {z : Str} {x dx : Addr} (nx : H x = none) (nd' : H dx = none) (ne : dx ≠ x) (fz : Fine z.cps.toList) (lz : z.length ≤ 4000) (q : ∀ H', Same H H' → WordAt CW H' x z → Qx .non H') :
    spWordI K CW CB2 CM (.ref x :: ([.str z] ++ [])) (upd (upd H dx (.own x)) x (.ins CW dx [])) Qx E := by
  have ef := fine_word fz
  refine ⟨x, dx, .str z, rfl, upd_same, .inl ⟨_, rfl⟩, fun z' hz' => ?_, fun nz => (nz _ rfl).elim⟩
  cases hz'
  refine ⟨by omega, (fun j hj => by rw [ef] at hj; cases hj), (fun _ l4 => absurd l4 (by omega)), fun _ _ H2 s2 => ?_⟩
  obtain ⟨s3, w3⟩ := made_word (z := z) nx nd' s2
  exact q _ s3 w3
theorem WordAt.same {H H' : Hp} {a : Addr} {z : Str} (w : WordAt CW H a z) (s : Same H H') : WordAt CW H' a z := by
  obtain ⟨dx, h⟩ := w
  exact ⟨dx, s _ _ h⟩
end
end K04
-- M16
namespace SB
open PySem PySem.Spec PyProof.Rows L2
/-! ### rows again and again: units -/
def rep (m : Nat) (v : List Nat) : List Nat := (List.replicate m v).flatten
theorem rep_zero (v : List Nat) : rep 0 v = [] := rfl
theorem rep_succ (m : Nat) (v : List Nat) : rep (m + 1) v = v ++ rep m v := by
  unfold rep
  rw [List.replicate_succ, List.flatten_cons]
theorem rep_one (v : List Nat) : rep 1 v = v := by rw [rep_succ, rep_zero, List.append_nil]
theorem rep_add (a b : Nat) (v : List Nat) : rep (a + b) v = rep a v ++ rep b v := by
  induction a with
  | zero => rw [Nat.zero_add, rep_zero, List.nil_append]
  | succ a ih => rw [Nat.succ_add, rep_succ, rep_succ, ih, List.append_assoc]
theorem rep_snoc (m : Nat) (v : List Nat) : rep (m + 1) v = rep m v ++ v := by rw [rep_add, rep_one]
theorem rep_nil (m : Nat) : rep m [] = [] := by
  induction m with
  | zero => rfl
  | succ m ih => rw [rep_succ, ih]; rfl
theorem rep_len (m : Nat) (v : List Nat) : (rep m v).length = m * v.length := by
  induction m with
  | zero => rw [rep_zero, Nat.zero_mul]; rfl
  | succ m ih => rw [rep_succ, List.length_append, ih, Nat.succ_mul, Nat.add_comm]
theorem rep_rep (a b : Nat) (v : List Nat) : rep a (rep b v) = rep (a * b) v := by
  induction a with
  | zero => rw [rep_zero, Nat.zero_mul, rep_zero]
  | succ a ih => rw [rep_succ, ih, Nat.succ_mul, Nat.add_comm, rep_add]
theorem rep_mem {m : Nat} {v : List Nat} {c : Nat} (h : c ∈ rep m v) : c ∈ v := by
  induction m with
  | zero => cases h
  | succ m ih =>
    rw [rep_succ] at h
    exact (List.mem_append.mp h).elim id ih
theorem rep_get {v : List Nat} (hv : 0 < v.length) : ∀ (m i : Nat), i < m * v.length → (rep m v)[i]? = v[i % v.length]?
  | 0, i, h => by
    rw [Nat.zero_mul] at h
    exact absurd h (Nat.not_lt_zero _)
  | m + 1, i, h => by
    rw [rep_succ]
    by_cases q : i < v.length
    · rw [List.getElem?_append_left q, Nat.mod_eq_of_lt q]
    · have q' : v.length ≤ i := Nat.le_of_not_lt q
      rw [List.getElem?_append_right q', rep_get hv m (i - v.length) (by rw [Nat.succ_mul] at h; omega)]
      congr 1
      exact (Nat.mod_eq_sub_mod q').symm
theorem rep_inv (m : Nat) (v : List Nat) : inv (rep m v) = rep m (inv v) := by
  induction m with
  | zero => rfl
  | succ m ih => rw [rep_succ, inv_app, ih, ← rep_snoc]
/-- the row, round and round -/
def rnd (c : List Nat) (i : Nat) : Option Nat := c[i % c.length]?
def Per (c : List Nat) (q : Nat) : Prop := ∀ i, rnd c (i + q) = rnd c i
theorem per_len (c : List Nat) : Per c c.length := fun i => by
  unfold rnd
  rw [Nat.add_mod_right]
theorem per_mul {c : List Nat} {q : Nat} (h : Per c q) : ∀ k, Per c (k * q)
  | 0 => fun i => by rw [Nat.zero_mul, Nat.add_zero]
  | k + 1 => fun i => by rw [Nat.succ_mul, ← Nat.add_assoc, h, per_mul h k]
theorem per_mod {c : List Nat} {a b : Nat} (ha : Per c a) (hb : Per c b) : Per c (b % a) := fun i => by
  have e := per_mul ha (b / a) (i + b % a)
  rw [← e, Nat.add_assoc]
  have : b % a + b / a * a = b := by rw [Nat.mul_comm]; exact Nat.mod_add_div b a
  rw [this]
  exact hb i
theorem per_gcd {c : List Nat} (a b : Nat) (ha : Per c a) (hb : Per c b) : Per c (Nat.gcd a b) := by
  induction a, b using Nat.gcd.induction with
  | H0 n => rw [Nat.gcd_zero_left]; exact hb
  | H1 m n _ ih => rw [Nat.gcd_rec]; exact ih (per_mod ha hb) ha
/-- q letters of c, so often, are c -/
def Div (c : List Nat) (q : Nat) : Prop := 1 ≤ q ∧ q ∣ c.length ∧ c = rep (c.length / q) (c.take q)
theorem div_per {c : List Nat} {q : Nat} (h : Div c q) (hc : 0 < c.length) : Per c q := fun i => by
  obtain ⟨h1, h2, h3⟩ := h
  have le : q ≤ c.length := Nat.le_of_dvd hc h2
  have lt : (c.take q).length = q := by rw [List.length_take]; omega
  have em : c.length / q * q = c.length := Nat.div_mul_cancel h2
  have at_ : ∀ j, j < c.length → c[j]? = (c.take q)[j % q]? := fun j hj => by
    have := rep_get (v := c.take q) (by rw [lt]; exact h1) (c.length / q) j (by rw [lt, em]; exact hj)
    rw [← h3, lt] at this
    exact this
  have md : ∀ j, j % c.length % q = j % q := fun j => Nat.mod_mod_of_dvd j h2
  unfold rnd
  rw [at_ _ (Nat.mod_lt _ hc), at_ _ (Nat.mod_lt _ hc), md, md, Nat.add_mod_right]
theorem per_div {c : List Nat} {q : Nat} (h : Per c q) (h1 : 1 ≤ q) (h2 : q ∣ c.length) (hc : 0 < c.length) : Div c q := by
  refine ⟨h1, h2, ?_⟩
  have le : q ≤ c.length := Nat.le_of_dvd hc h2
  have lt : (c.take q).length = q := by rw [List.length_take]; omega
  have em : c.length / q * q = c.length := Nat.div_mul_cancel h2
  have dn : ∀ k i, rnd c (i + k * q) = rnd c i := fun k i => per_mul h k i
  refine List.ext_getElem? fun i => ?_
  by_cases hi : i < c.length
  · rw [rep_get (by rw [lt]; exact h1) _ _ (by rw [lt, em]; exact hi), lt, List.getElem?_take_of_lt (Nat.mod_lt _ h1)]
    have e := dn (i / q) (i % q)
    have e2 : i % q + i / q * q = i := by rw [Nat.mul_comm]; exact Nat.mod_add_div i q
    rw [e2] at e
    unfold rnd at e
    rw [Nat.mod_eq_of_lt hi, Nat.mod_eq_of_lt (Nat.lt_of_lt_of_le (Nat.mod_lt _ h1) le)] at e
    exact e
  · rw [List.getElem?_eq_none (by omega), List.getElem?_eq_none (by rw [rep_len, lt, em]; omega)]
theorem div_len {c : List Nat} (hc : 0 < c.length) : Div c c.length := per_div (per_len c) hc (Nat.dvd_refl _) hc
/-- the fewest letters that make the row -/
theorem least_div {c : List Nat} (hc : 0 < c.length) : ∃ q, Div c q ∧ ∀ r, Div c r → q ∣ r := by
  have ex : ∃ q, Div c q ∧ ∀ r, Div c r → q ≤ r := by
    have h : ∀ n, (∃ q, q ≤ n ∧ Div c q) → ∃ q, Div c q ∧ ∀ r, Div c r → q ≤ r := by
      intro n
      induction n with
      | zero =>
        rintro ⟨q, hq, h⟩
        exact ⟨q, h, fun r hr => by have := hr.1; have := h.1; omega⟩
      | succ n ih =>
        rintro ⟨q, hq, h⟩
        by_cases l : ∃ q, q ≤ n ∧ Div c q
        · exact ih l
        · refine ⟨q, h, fun r hr => ?_⟩
          by_cases r' : r ≤ n
          · exact absurd ⟨r, r', hr⟩ l
          · omega
    exact h c.length ⟨_, Nat.le_refl _, div_len hc⟩
  obtain ⟨q, hq, mn⟩ := ex
  refine ⟨q, hq, fun r hr => ?_⟩
  have g := per_gcd q r (div_per hq hc) (div_per hr hc)
  have gq : Nat.gcd q r ∣ q := Nat.gcd_dvd_left q r
  have g1 : 1 ≤ Nat.gcd q r := Nat.gcd_pos_of_pos_left _ hq.1
  have d := per_div g g1 (Nat.dvd_trans gq hq.2.1) hc
  have le := mn _ d
  have ge : Nat.gcd q r ≤ q := Nat.le_of_dvd hq.1 gq
  have e : Nat.gcd q r = q := by omega
  rw [← e]
  exact Nat.gcd_dvd_right q r
noncomputable def uq (c : List Nat) : Nat := if h : 0 < c.length then Classical.choose (least_div h) else 0
theorem uq_div {c : List Nat} (hc : 0 < c.length) : Div c (uq c) := by
  unfold uq
  rw [dif_pos hc]
  exact (Classical.choose_spec (least_div hc)).1
theorem uq_least {c : List Nat} (hc : 0 < c.length) {r : Nat} (h : Div c r) : uq c ∣ r := by
  unfold uq
  rw [dif_pos hc]
  exact (Classical.choose_spec (least_div hc)).2 r h
/-- the unit of a row -/
noncomputable def unit (c : List Nat) : List Nat := c.take (uq c)
noncomputable def times (c : List Nat) : Nat := c.length / uq c
theorem unit_rep {c : List Nat} (hc : 0 < c.length) : c = rep (times c) (unit c) := (uq_div hc).2.2
theorem unit_len {c : List Nat} (hc : 0 < c.length) : (unit c).length = uq c := by
  unfold unit
  rw [List.length_take]
  have := Nat.le_of_dvd hc (uq_div hc).2.1
  omega
theorem times_pos {c : List Nat} (hc : 0 < c.length) : 1 ≤ times c := by
  unfold times
  exact Nat.div_pos (Nat.le_of_dvd hc (uq_div hc).2.1) (uq_div hc).1
theorem rep_div {m : Nat} {v : List Nat} (hv : 0 < v.length) (hm : 1 ≤ m) : Div (rep m v) v.length := by
  obtain ⟨k, rfl⟩ : ∃ k, m = k + 1 := ⟨m - 1, by omega⟩
  refine ⟨hv, ?_, ?_⟩
  · rw [rep_len]
    exact Nat.dvd_mul_left _ _
  · have e : (rep (k + 1) v).take v.length = v := by rw [rep_succ, List.take_left]
    rw [e, rep_len, Nat.mul_div_cancel _ hv]
theorem rep_pos {m : Nat} {v : List Nat} (hv : 0 < v.length) (hm : 1 ≤ m) : 0 < (rep m v).length := by
  rw [rep_len]
  exact Nat.mul_pos hm hv
/-- the unit of a row again and again is the row's unit -/
theorem unit_of_rep {m : Nat} {v : List Nat} (hv : 0 < v.length) (hm : 1 ≤ m) : unit (rep m v) = unit v := by
  have hp := rep_pos hv hm
  have pre : ∀ q, q ≤ v.length → (rep m v).take q = v.take q := fun q hq => by
    obtain ⟨k, rfl⟩ : ∃ k, m = k + 1 := ⟨m - 1, by omega⟩
    rw [rep_succ, List.take_append_of_le_length hq]
  have d1 := uq_least hp (rep_div hv hm)
  have le1 : uq (rep m v) ≤ v.length := Nat.le_of_dvd hv d1
  -- the lesser one makes v
  have dv : Div v (uq (rep m v)) := by
    have h := uq_div hp
    have p := div_per h hp
    refine per_div (fun i => ?_) h.1 d1 hv
    have ro : ∀ j, rnd (rep m v) j = rnd v j := fun j => by
      unfold rnd
      rw [rep_get hv m _ (by rw [← rep_len]; exact Nat.mod_lt _ hp), rep_len, Nat.mod_mul_left_mod]
    rw [← ro, ← ro]
    exact p i
  have d2 := uq_least hv dv
  have d3 : Div (rep m v) (uq v) := by
    have e := unit_rep hv
    have e2 : rep m v = rep (m * times v) (unit v) := by
      rw [← rep_rep, ← e]
    have := rep_div (v := unit v) (m := m * times v) (by rw [unit_len hv]; exact (uq_div hv).1) (Nat.mul_pos hm (times_pos hv))
    rw [← e2, unit_len hv] at this
    exact this
  have d4 := uq_least hp d3
  have e : uq (rep m v) = uq v := Nat.dvd_antisymm d4 d2
  unfold unit
  rw [e]
  exact pre _ (Nat.le_of_dvd hv (uq_div hv).2.1)
/-- a row that makes c is its unit so often -/
theorem of_rep {c v : List Nat} {m : Nat} (hv : 0 < v.length) (hm : 1 ≤ m) (h : c = rep m v) : v = rep (times v) (unit c) := by
  rw [h, unit_of_rep hv hm]
  exact unit_rep hv
end SB
-- M17
namespace SB
open PySem PySem.Spec PyProof.Rows L2
/-! ### coats and cores -/
def coatAt (l : List Nat) (k : Nat) : Nat := if 2 * k + 1 < l.length ∧ l[k]? = (l[l.length - 1 - k]?).map up then coatAt l (k + 1) else k
termination_by l.length - k
theorem coat_step (l : List Nat) (k : Nat) : coatAt l k = if 2 * k + 1 < l.length ∧ l[k]? = (l[l.length - 1 - k]?).map up then coatAt l (k + 1) else k := by
  rw [coatAt]
def coat (l : List Nat) : Nat := coatAt l 0
def pre (l : List Nat) : List Nat := l.take (coat l)
def mid (l : List Nat) : List Nat := (l.drop (coat l)).take (l.length - 2 * coat l)
/-- first letter and last one do not undo each other -/
def CR (c : List Nat) : Prop := Fine c ∧ c ≠ [] ∧ ∀ x y, c[0]? = some x → c.getLast? = some y → x ≠ up y
theorem CR.pos {c : List Nat} (h : CR c) : 0 < c.length := List.length_pos_iff.mpr h.2.1
theorem chain {l : List Nat} : flat l l.length ↔ ∀ j c d, l[j]? = some d → l[j + 1]? = some c → c ≠ up d := by
  constructor
  · intro h j c d hd hc
    obtain ⟨lt, _⟩ := List.getElem?_eq_some_iff.mp hc
    exact h j c d lt hd hc
  · intro h j c d _ hd hc
    exact h j c d hd hc
theorem up_ne : ∀ c, isL c = true → c ≠ up c := by
  have h : ∀ c ∈ letters8, c ≠ up c := by decide +kernel
  exact fun c hc => h c (of_decide_eq_true hc)
theorem fine_suf {a b : List Nat} (h : Fine (a ++ b)) : Fine b := by
  have := fine_drop h a.length
  rwa [List.drop_left] at this
theorem fine_bound {a b : List Nat} (h : Fine (a ++ b)) : ∀ x y, a.getLast? = some x → b[0]? = some y → y ≠ up x := by
  intro x y hx hy
  have f := chain.mp h.2
  rw [List.getLast?_eq_getElem?] at hx
  obtain ⟨lt, _⟩ := List.getElem?_eq_some_iff.mp hx
  refine f (a.length - 1) y x ?_ ?_
  · rw [List.getElem?_append_left (by omega)]
    exact hx
  · rw [List.getElem?_append_right (by omega), show a.length - 1 + 1 - a.length = 0 by omega]
    exact hy
theorem coat_spec (l : List Nat) : ∀ (n k : Nat), n = l.length - k → 2 * k ≤ l.length → (∀ i, i < k → l[i]? = (l[l.length - 1 - i]?).map up) →
    2 * coatAt l k ≤ l.length ∧ (∀ i, i < coatAt l k → l[i]? = (l[l.length - 1 - i]?).map up) ∧ ¬ (2 * coatAt l k + 1 < l.length ∧ l[coatAt l k]? = (l[l.length - 1 - coatAt l k]?).map up)
  | 0, k, hn, h1, h2 => by
    rw [coat_step]
    by_cases e : 2 * k + 1 < l.length ∧ l[k]? = (l[l.length - 1 - k]?).map up
    · exact absurd e.1 (by omega)
    · rw [if_neg e]
      exact ⟨h1, h2, e⟩
  | n + 1, k, hn, h1, h2 => by
    rw [coat_step]
    by_cases e : 2 * k + 1 < l.length ∧ l[k]? = (l[l.length - 1 - k]?).map up
    · rw [if_pos e]
      refine coat_spec l n (k + 1) (by omega) (by omega) fun i hi => ?_
      by_cases q : i = k
      · rw [q]
        exact e.2
      · exact h2 i (by omega)
    · rw [if_neg e]
      exact ⟨h1, h2, e⟩
theorem coat_is (l : List Nat) : 2 * coat l ≤ l.length ∧ (∀ i, i < coat l → l[i]? = (l[l.length - 1 - i]?).map up) ∧ ¬ (2 * coat l + 1 < l.length ∧ l[coat l]? = (l[l.length - 1 - coat l]?).map up) :=
  coat_spec l _ 0 rfl (Nat.zero_le _) fun i hi => absurd hi (Nat.not_lt_zero _)
theorem pre_len (l : List Nat) : (pre l).length = coat l := by
  have := (coat_is l).1
  unfold pre
  rw [List.length_take]
  omega
theorem mid_len (l : List Nat) : (mid l).length = l.length - 2 * coat l := by
  have := (coat_is l).1
  unfold mid
  rw [List.length_take, List.length_drop]
  omega
theorem tail_inv {l : List Nat} (hL : allL l) : l.drop (l.length - coat l) = inv (pre l) := by
  obtain ⟨h1, h2, _⟩ := coat_is l
  refine List.ext_getElem? fun i => ?_
  have lp := pre_len l
  by_cases hi : i < coat l
  · rw [List.getElem?_drop]
    unfold inv
    rw [List.getElem?_reverse (by rw [List.length_map, lp]; exact hi), List.length_map, lp, List.getElem?_map]
    have e := h2 (coat l - 1 - i) (by omega)
    have e2 : (pre l)[coat l - 1 - i]? = l[coat l - 1 - i]? := by
      unfold pre
      exact List.getElem?_take_of_lt (by omega)
    rw [e2, e, show l.length - 1 - (coat l - 1 - i) = l.length - coat l + i by omega]
    cases hx : l[l.length - coat l + i]? with
    | none => rfl
    | some x =>
      show some x = some (up (up x))
      rw [up_up x (hL x (List.mem_of_getElem? hx))]
  · rw [List.getElem?_eq_none (by rw [List.length_drop]; omega), List.getElem?_eq_none (by rw [inv_len, lp]; omega)]
theorem shape {l : List Nat} (hL : allL l) : l = pre l ++ mid l ++ inv (pre l) := by
  have h1 := (coat_is l).1
  rw [← tail_inv hL]
  unfold pre mid
  have e : l.drop (l.length - coat l) = (l.drop (coat l)).drop (l.length - 2 * coat l) := by
    rw [List.drop_drop]
    congr 1
    omega
  rw [e, List.append_assoc, List.take_append_drop, List.take_append_drop]
theorem mid_cr {l : List Nat} (hl : Fine l) (hn : l ≠ []) : CR (mid l) := by
  obtain ⟨h1, h2, h3⟩ := coat_is l
  have sh := shape hl.1
  have f := chain.mp hl.2
  have pos : 0 < l.length := List.length_pos_iff.mpr hn
  have ne : 2 * coat l ≠ l.length := fun e => by
    have e1 := h2 (coat l - 1) (by omega)
    rw [show l.length - 1 - (coat l - 1) = coat l - 1 + 1 by omega] at e1
    obtain ⟨x, hx⟩ : ∃ x, l[coat l - 1]? = some x := ⟨_, List.getElem?_eq_getElem (by omega)⟩
    obtain ⟨y, hy⟩ : ∃ y, l[coat l - 1 + 1]? = some y := ⟨_, List.getElem?_eq_getElem (by omega)⟩
    rw [hx, hy] at e1
    have e2 : x = up y := Option.some.inj e1
    refine f _ _ _ hx hy ?_
    rw [e2, up_up y (hl.1 y (List.mem_of_getElem? hy))]
  have lm := mid_len l
  have fm : Fine (mid l) := by
    rw [sh, List.append_assoc] at hl
    exact fine_pre (fine_suf hl)
  refine ⟨fm, List.length_pos_iff.mp (by omega), fun x y hx hy q => ?_⟩
  rw [List.getLast?_eq_getElem?, lm] at hy
  have ex : l[coat l]? = some x := by
    unfold mid at hx
    rw [List.getElem?_take_of_lt (by omega), List.getElem?_drop] at hx
    exact hx
  have ey : l[l.length - 1 - coat l]? = some y := by
    unfold mid at hy
    rw [List.getElem?_take_of_lt (by omega), List.getElem?_drop] at hy
    rw [← hy]
    congr 1
    omega
  by_cases big : 2 * coat l + 1 < l.length
  · refine h3 ⟨big, ?_⟩
    rw [ex, ey, q]
    rfl
  · have : l.length - 1 - coat l = coat l := by omega
    rw [this, ex] at ey
    cases ey
    exact up_ne x (hl.1 x (List.mem_of_getElem? ex)) q
theorem coat_unique {a c : List Nat} (ha : allL a) (hc : c ≠ []) (n : ∀ x y, c[0]? = some x → c.getLast? = some y → x ≠ up y) : coat (a ++ c ++ inv a) = a.length := by
  have pc : 0 < c.length := List.length_pos_iff.mpr hc
  have ln : (a ++ c ++ inv a).length = 2 * a.length + c.length := by
    rw [List.length_append, List.length_append, inv_len]
    omega
  have h : ∀ (d k : Nat), d = a.length - k → k ≤ a.length → coatAt (a ++ c ++ inv a) k = a.length := by
    intro d
    induction d with
    | zero =>
      intro k hd hk
      have ek : k = a.length := by omega
      subst ek
      rw [coat_step, if_neg]
      rintro ⟨b, e⟩
      rw [ln] at b e
      have e1 : (a ++ c ++ inv a)[a.length]? = c[0]? := by
        rw [List.append_assoc, List.getElem?_append_right (Nat.le_refl _), Nat.sub_self, List.getElem?_append_left pc]
      have e2 : (a ++ c ++ inv a)[2 * a.length + c.length - 1 - a.length]? = c.getLast? := by
        rw [List.append_assoc, List.getElem?_append_right (by omega), List.getElem?_append_left (by omega), List.getLast?_eq_getElem?]
        congr 1
        omega
      rw [e1, e2] at e
      obtain ⟨x, hx⟩ : ∃ x, c[0]? = some x := ⟨_, List.getElem?_eq_getElem pc⟩
      obtain ⟨y, hy⟩ : ∃ y, c.getLast? = some y := ⟨_, List.getLast?_eq_getLast hc⟩
      rw [hx, hy] at e
      exact n x y hx hy (Option.some.inj e)
    | succ d ih =>
      intro k hd hk
      rw [coat_step, if_pos, ih (k + 1) (by omega) (by omega)]
      refine ⟨by omega, ?_⟩
      rw [ln]
      have e1 : (a ++ c ++ inv a)[k]? = a[k]? := by
        rw [List.append_assoc, List.getElem?_append_left (by omega)]
      have e2 : (a ++ c ++ inv a)[2 * a.length + c.length - 1 - k]? = (a[k]?).map up := by
        rw [List.getElem?_append_right (by rw [List.length_append]; omega), List.length_append]
        unfold inv
        rw [List.getElem?_reverse (by rw [List.length_map]; omega), List.length_map, List.getElem?_map]
        congr 2
        omega
      rw [e1, e2]
      obtain ⟨x, hx⟩ : ∃ x, a[k]? = some x := ⟨_, List.getElem?_eq_getElem (by omega)⟩
      rw [hx]
      show some x = some (up (up x))
      rw [up_up x (ha x (List.mem_of_getElem? hx))]
  exact h _ 0 rfl (Nat.zero_le _)
theorem parts_unique {a c : List Nat} (ha : allL a) (hc : c ≠ []) (n : ∀ x y, c[0]? = some x → c.getLast? = some y → x ≠ up y) : pre (a ++ c ++ inv a) = a ∧ mid (a ++ c ++ inv a) = c := by
  have e := coat_unique ha hc n
  unfold pre mid
  rw [e]
  refine ⟨?_, ?_⟩
  · rw [List.append_assoc, List.take_left]
  · rw [List.append_assoc, List.drop_left, List.length_append, List.length_append, inv_len, show a.length + (c.length + a.length) - 2 * a.length = c.length by omega, List.take_left]
/-! ### strike, again and again -/
theorem allL_rep {m : Nat} {v : List Nat} (h : allL v) : allL (rep m v) := fun c hc => h c (rep_mem hc)
theorem cancel {p a q : List Nat} (hp : allL p) (ha : allL a) (hq : allL q) : strike (p ++ (inv a ++ (a ++ q))) = strike (p ++ q) := by
  have h1 := allL_app (allL_inv ha) (allL_app ha hq)
  rw [← (strike_app hp h1).2, strike_inv_left ha hq, (strike_app hp hq).2]
theorem conj_rep {a c : List Nat} (ha : allL a) (hc : allL c) : ∀ m, strike (rep m (a ++ c ++ inv a)) = strike (a ++ rep m c ++ inv a)
  | 0 => by
    have := strike_inv_right (a := []) (b := a) (fun _ h => nomatch h) ha
    rw [rep_zero, rep_zero, List.append_nil]
    rw [List.nil_append] at this
    exact this.symm
  | m + 1 => by
    have hw := allL_app (allL_app ha hc) (allL_inv ha)
    have hr := allL_app (allL_app ha (allL_rep (m := m) hc)) (allL_inv ha)
    rw [rep_succ, ← (strike_app hw (allL_rep hw)).2, conj_rep ha hc m, (strike_app hw hr).2, rep_succ]
    have e : a ++ c ++ inv a ++ (a ++ rep m c ++ inv a) = (a ++ c) ++ (inv a ++ (a ++ (rep m c ++ inv a))) := by simp only [List.append_assoc]
    rw [e, cancel (allL_app ha hc) ha (allL_app (allL_rep hc) (allL_inv ha))]
    simp only [List.append_assoc]
theorem last_app {a b : List Nat} (h : b ≠ []) : (a ++ b).getLast? = b.getLast? := by
  rw [List.getLast?_append]
  cases e : b.getLast? with
  | none => exact absurd (List.getLast?_eq_none_iff.mp e) h
  | some x => rfl
theorem rep_head {m : Nat} {c : List Nat} (hm : 1 ≤ m) : (c ≠ []) → (rep m c)[0]? = c[0]? := fun hc => by
  obtain ⟨k, rfl⟩ : ∃ k, m = k + 1 := ⟨m - 1, by omega⟩
  rw [rep_succ, List.getElem?_append_left (List.length_pos_iff.mpr hc)]
theorem rep_last {m : Nat} {c : List Nat} (hm : 1 ≤ m) : (c ≠ []) → (rep m c).getLast? = c.getLast? := fun hc => by
  obtain ⟨k, rfl⟩ : ∃ k, m = k + 1 := ⟨m - 1, by omega⟩
  rw [rep_snoc, last_app hc]
theorem rep_fine {c : List Nat} (h : CR c) : ∀ m, Fine (rep m c)
  | 0 => fine_nil
  | m + 1 => by
    rw [rep_succ]
    refine fine_join h.1 (rep_fine h m) fun x y hx hy => ?_
    cases m with
    | zero => cases hy
    | succ m =>
      rw [rep_head (by omega) h.2.1] at hy
      exact h.2.2 y x hy hx
theorem rep_cr {c : List Nat} (h : CR c) {m : Nat} (hm : 1 ≤ m) : CR (rep m c) :=
  ⟨rep_fine h m, List.length_pos_iff.mp (rep_pos h.pos hm), fun x y hx hy => by
    rw [rep_head hm h.2.1] at hx
    rw [rep_last hm h.2.1] at hy
    exact h.2.2 x y hx hy⟩
theorem wrap_fine {a c : List Nat} (h : Fine (a ++ c ++ inv a)) (hc : CR c) {m : Nat} (hm : 1 ≤ m) : Fine (a ++ rep m c ++ inv a) := by
  have h1 : Fine (a ++ c) := fine_pre h
  have h2 : Fine (c ++ inv a) := by
    rw [List.append_assoc] at h
    exact fine_suf h
  have fa : Fine a := fine_pre h1
  have rn : rep m c ≠ [] := (rep_cr hc hm).2.1
  have h3 : Fine (a ++ rep m c) := fine_join fa (rep_fine hc m) fun x y hx hy => by
    rw [rep_head hm hc.2.1] at hy
    exact fine_bound h1 x y hx hy
  refine fine_join h3 (fine_suf h2) fun x y hx hy => ?_
  rw [last_app rn, rep_last hm hc.2.1] at hx
  exact fine_bound h2 x y hx hy
/-- so many of a word -/
def pw (l : List Nat) (m : Nat) : List Nat := if m = 0 then [] else pre l ++ rep m (mid l) ++ inv (pre l)
theorem pw_strike {l : List Nat} (hl : Fine l) (m : Nat) : strike (rep m l) = pw l m := by
  unfold pw
  by_cases hm : m = 0
  · rw [if_pos hm, hm]
    rfl
  · rw [if_neg hm]
    by_cases hn : l = []
    · subst hn
      rw [rep_nil]
      have : mid [] = [] := by unfold mid; simp
      have p : pre [] = [] := by unfold pre; simp
      rw [this, p, rep_nil]
      rfl
    · have sh := shape hl.1
      have cr := mid_cr hl hn
      have pL : allL (pre l) := fun c hc => hl.1 c (List.mem_of_mem_take hc)
      have e := conj_rep pL cr.1.1 m
      rw [← sh] at e
      rw [e]
      exact strike_fine (wrap_fine (by rw [← sh]; exact hl) cr (by omega))
end SB
-- M18
namespace SB
open PySem PySem.Spec PyProof.Rows L2
/-! ### what goes in a product -/
theorem decomp : ∀ (n : Nat) (a b : List Nat), n = a.length → Fine a → Fine b → ∃ p s q, a = p ++ s ∧ b = inv s ++ q ∧ strike (a ++ b) = p ++ q
  | 0, a, b, hn, ha, hb => by
    have : a = [] := List.length_eq_zero_iff.mp hn.symm
    subst this
    exact ⟨[], [], b, rfl, rfl, strike_fine hb⟩
  | n + 1, a, b, hn, ha, hb => by
    by_cases h : ∀ x y, a.getLast? = some x → b[0]? = some y → y ≠ up x
    · exact ⟨a, [], b, by rw [List.append_nil], rfl, strike_fine (fine_join ha hb h)⟩
    · obtain ⟨x, y, hx, hy, e⟩ : ∃ x y, a.getLast? = some x ∧ b[0]? = some y ∧ y = up x := by
        by_cases q : ∃ x y, a.getLast? = some x ∧ b[0]? = some y ∧ y = up x
        · exact q
        · exact absurd (fun x y hx hy e => q ⟨x, y, hx, hy, e⟩) h
      obtain ⟨r, er⟩ := last_split hx
      cases b with
      | nil => cases hy
      | cons y' t =>
        cases hy
        subst er
        have hr : Fine r := fine_pre ha
        have ht : Fine t := fine_suf (a := [y]) hb
        have xL := ha.1 x (List.mem_append_right _ List.mem_cons_self)
        obtain ⟨p, s, q, e1, e2, e3⟩ := decomp n r t (by rw [List.length_append] at hn; simp at hn; omega) hr ht
        refine ⟨p, s ++ [x], q, by rw [e1, List.append_assoc], ?_, ?_⟩
        · rw [inv_app, e2, e]
          rfl
        · have eq1 : (r ++ [x]) ++ (y :: t) = r ++ x :: y :: t := by rw [List.append_assoc]; rfl
          rw [eq1, strike_pair (by rw [← eq1]; exact allL_app ha.1 hb.1) (by rw [e, up_up x xL])]
          exact e3
theorem rot_per {c z d : List Nat} (h1 : c = z ++ d) (h2 : c = d ++ z) : Per c z.length := fun i => by
  have ln : c.length = z.length + d.length := by rw [h1, List.length_append]
  by_cases hc : c.length = 0
  · have hz : z.length = 0 := by omega
    rw [hz, Nat.add_zero]
  have pc : 0 < c.length := Nat.pos_of_ne_zero hc
  have base : ∀ j, j < c.length → rnd c (j + z.length) = rnd c j := fun j hj => by
    unfold rnd
    rw [Nat.mod_eq_of_lt hj]
    by_cases q : j + z.length < c.length
    · rw [Nat.mod_eq_of_lt q]
      have e1 : c[j + z.length]? = d[j]? := by
        have : (z ++ d)[j + z.length]? = d[j]? := by
          rw [List.getElem?_append_right (by omega)]
          congr 1
          omega
        rw [← h1] at this
        exact this
      have e2 : c[j]? = d[j]? := by
        have : (d ++ z)[j]? = d[j]? := List.getElem?_append_left (by omega)
        rw [← h2] at this
        exact this
      rw [e1, e2]
    · have em : (j + z.length) % c.length = j - d.length := by
        rw [Nat.mod_eq_sub_mod (by omega), Nat.mod_eq_of_lt (by omega)]
        omega
      rw [em]
      have e1 : c[j - d.length]? = z[j - d.length]? := by
        have : (z ++ d)[j - d.length]? = z[j - d.length]? := List.getElem?_append_left (by omega)
        rw [← h1] at this
        exact this
      have e2 : c[j]? = z[j - d.length]? := by
        have : (d ++ z)[j]? = z[j - d.length]? := List.getElem?_append_right (by omega)
        rw [← h2] at this
        exact this
      rw [e1, e2]
  have e : rnd c (i + z.length) = rnd c (i % c.length + z.length) := by
    unfold rnd
    rw [Nat.mod_add_mod]
  have e' : rnd c i = rnd c (i % c.length) := by
    unfold rnd
    rw [Nat.mod_mod]
  rw [e, e', base _ (Nat.mod_lt _ pc)]
theorem per_gcd_div {c : List Nat} {q : Nat} (hc : 0 < c.length) (h : Per c q) (hq : 1 ≤ q) : uq c ∣ q := by
  have g := per_gcd q c.length h (per_len c)
  have d := per_div g (Nat.gcd_pos_of_pos_left _ hq) (Nat.gcd_dvd_right _ _) hc
  exact Nat.dvd_trans (uq_least hc d) (Nat.gcd_dvd_left _ _)
/-- a beginning whose length the unit divides -/
theorem take_unit {c : List Nat} (hc : 0 < c.length) {q : Nat} (hq : q ≤ c.length) (h : uq c ∣ q) : c.take q = rep (q / uq c) (unit c) := by
  obtain ⟨k, rfl⟩ := h
  have u1 := (uq_div hc).1
  rw [Nat.mul_div_cancel_left _ (by omega)]
  have e := unit_rep hc
  have ul := unit_len hc
  have tl : times c * uq c = c.length := by
    have := congrArg List.length e
    rw [rep_len, ul] at this
    exact this.symm
  have kt : k ≤ times c := by
    rw [← tl, Nat.mul_comm] at hq
    exact Nat.le_of_mul_le_mul_right hq (by omega)
  obtain ⟨r, hr⟩ : ∃ r, times c = k + r := ⟨times c - k, by omega⟩
  have e2 : c = rep k (unit c) ++ rep r (unit c) := by
    rw [← rep_add, ← hr]
    exact e
  have ll : (rep k (unit c)).length = uq c * k := by
    rw [rep_len, ul, Nat.mul_comm]
  calc c.take (uq c * k) = (rep k (unit c) ++ rep r (unit c)).take (uq c * k) := by rw [← e2]
    _ = rep k (unit c) := by rw [← ll, List.take_left]
theorem rot_unit {c z d : List Nat} (hz : z ≠ []) (h1 : c = z ++ d) (h2 : c = d ++ z) : ∃ k, z = rep k (unit c) := by
  have pz : 0 < z.length := List.length_pos_iff.mpr hz
  have pc : 0 < c.length := by rw [h1, List.length_append]; omega
  have dv := per_gcd_div pc (rot_per h1 h2) pz
  have e := take_unit pc (q := z.length) (by rw [h1, List.length_append]; omega) dv
  have : c.take z.length = z := by
    have h : (z ++ d).take z.length = z := List.take_left
    rw [← h1] at h
    exact h
  rw [this] at e
  exact ⟨_, e⟩
theorem comm_lists {c : List Nat} (hc : 0 < c.length) : ∀ (n : Nat) (z : List Nat), n = z.length → c ++ z = z ++ c → ∃ k, z = rep k (unit c) := by
  intro n
  induction n using Nat.strongRecOn with
  | _ n ih =>
    intro z hn h
    by_cases hz : z = []
    · exact ⟨0, hz⟩
    have pz : 0 < z.length := List.length_pos_iff.mpr hz
    by_cases le : c.length ≤ z.length
    · -- c begins z
      have e1 : z.take c.length = c := by
        have := congrArg (List.take c.length) h
        rw [List.take_left, List.take_append_of_le_length le] at this
        exact this.symm
      have e2 : z = c ++ z.drop c.length := by
        have := List.take_append_drop c.length z
        rw [e1] at this
        exact this.symm
      have h3 : c ++ z.drop c.length = z.drop c.length ++ c := by
        rw [e2, List.append_assoc] at h
        exact List.append_cancel_left h
      obtain ⟨k, ek⟩ := ih (z.drop c.length).length (by rw [List.length_drop]; omega) (z.drop c.length) rfl h3
      refine ⟨times c + k, ?_⟩
      rw [rep_add, ← unit_rep hc, ← ek]
      exact e2
    · have e1 : c.take z.length = z := by
        have := congrArg (List.take z.length) h
        rw [List.take_left, List.take_append_of_le_length (by omega)] at this
        exact this
      have e2 : c = z ++ c.drop z.length := by
        have := List.take_append_drop z.length c
        rw [e1] at this
        exact this.symm
      have h3 : c = c.drop z.length ++ z := by
        have h' : z ++ (c.drop z.length ++ z) = z ++ c := by
          rw [← List.append_assoc, ← e2]
          exact h
        exact (List.append_cancel_left h').symm
      exact rot_unit hz e2 h3
/-- u so often; of an integer below 0 the undoing -/
def gp (u : List Nat) (e : Int) : List Nat := if 0 ≤ e then rep e.toNat u else rep (-e).toNat (inv u)
theorem allL_gp {u : List Nat} (h : allL u) (e : Int) : allL (gp u e) := by
  unfold gp
  split
  · exact allL_rep h
  · exact allL_rep (allL_inv h)
theorem gp_pred {u : List Nat} (h : allL u) (e : Int) {q : List Nat} (hq : allL q) : strike (inv u ++ (gp u e ++ q)) = strike (gp u (e - 1) ++ q) := by
  unfold gp
  by_cases h0 : 1 ≤ e
  · rw [if_pos (by omega), if_pos (by omega)]
    obtain ⟨k, hk⟩ : ∃ k, e.toNat = k + 1 := ⟨e.toNat - 1, by omega⟩
    rw [hk, show (e - 1).toNat = k by omega, rep_succ, List.append_assoc, strike_inv_left h (allL_app (allL_rep h) hq)]
  · by_cases h1 : e = 0
    · subst h1
      rw [if_pos (by decide), if_neg (by decide)]
      show strike (inv u ++ (rep 0 u ++ q)) = strike (rep 1 (inv u) ++ q)
      rw [rep_zero, rep_one]
      rfl
    · rw [if_neg (by omega), if_neg (by omega), show (-(e - 1)).toNat = (-e).toNat + 1 by omega, rep_succ, List.append_assoc]
theorem gp_preds {u : List Nat} (h : allL u) (e : Int) {q : List Nat} (hq : allL q) : ∀ t : Nat, strike (rep t (inv u) ++ (gp u e ++ q)) = strike (gp u (e - t) ++ q)
  | 0 => by
    rw [rep_zero, show e - ((0 : Nat) : Int) = e by omega]
    rfl
  | t + 1 => by
    have hi := allL_inv h
    rw [rep_succ, List.append_assoc, ← (strike_app hi (allL_app (allL_rep hi) (allL_app (allL_gp h e) hq))).2, gp_preds h e hq t, (strike_app hi (allL_app (allL_gp h _) hq)).2, gp_pred h _ hq]
    congr 3
    omega
/-- what commutes with a row that goes round is its unit so often -/
theorem comm_unit {c : List Nat} (hc : CR c) : ∀ (n : Nat) (z : List Nat), n = z.length → Fine z → strike (c ++ z) = strike (z ++ c) → ∃ e : Int, z = strike (gp (unit c) e) := by
  have pc := hc.pos
  have uL : allL (unit c) := fun x hx => hc.1.1 x (List.mem_of_mem_take hx)
  have cr := unit_rep pc
  intro n
  induction n using Nat.strongRecOn with
  | _ n ih =>
    intro z hn fz h
    obtain ⟨p, s, q, e1, e2, e3⟩ := decomp _ c z rfl hc.1 fz
    obtain ⟨p2, s2, q2, f1, f2, f3⟩ := decomp _ z c rfl fz hc.1
    have hh : p ++ q = p2 ++ q2 := by rw [← e3, ← f3, h]
    have l1 : c.length = p.length + s.length := by rw [e1, List.length_append]
    have l2 : z.length = s.length + q.length := by rw [e2, List.length_append, inv_len]
    have l3 : z.length = p2.length + s2.length := by rw [f1, List.length_append]
    have l4 : c.length = s2.length + q2.length := by
      have := congrArg List.length f2
      rw [List.length_append, inv_len] at this
      exact this
    have l5 : p.length + q.length = p2.length + q2.length := by
      have := congrArg List.length hh
      rw [List.length_append, List.length_append] at this
      exact this
    have ls : s.length = s2.length := by omega
    have sL : allL s := fun x hx => hc.1.1 x (by rw [e1]; exact List.mem_append_right _ hx)
    by_cases s0 : s = []
    · -- nothing goes
      subst s0
      have s20 : s2 = [] := List.length_eq_zero_iff.mp (by rw [← ls]; rfl)
      subst s20
      rw [List.append_nil] at e1 f1
      have e2' : z = q := e2
      have f2' : c = q2 := f2
      have cz : c ++ z = z ++ c := by
        rw [← e1, ← f1, ← e2', ← f2'] at hh
        exact hh
      obtain ⟨k, ek⟩ := comm_lists pc _ z rfl cz
      refine ⟨k, ?_⟩
      have eg : gp (unit c) (k : Int) = z := by
        unfold gp
        rw [if_pos (by omega)]
        exact ek.symm
      rw [eg]
      exact (strike_fine fz).symm
    · have ps : 0 < s.length := List.length_pos_iff.mpr s0
      by_cases p0 : p = []
      · -- all of c goes
        subst p0
        have ec : c = s := e1
        rw [List.nil_append] at hh e3
        have fq : Fine q := by
          rw [e2] at fz
          exact fine_suf fz
        have hq : q = strike (c ++ z) := e3.symm
        have cq : strike (c ++ q) = strike (q ++ c) := by
          rw [hq, (strike_app hc.1.1 (allL_app hc.1.1 fz.1)).2, (strike_app (allL_app hc.1.1 fz.1) hc.1.1).1, List.append_assoc, ← (strike_app hc.1.1 (allL_app fz.1 hc.1.1)).2, ← h, (strike_app hc.1.1 (allL_app hc.1.1 fz.1)).2]
        obtain ⟨e, ee⟩ := ih q.length (by omega) q rfl fq cq
        refine ⟨e - times c, ?_⟩
        have nL : allL ([] : List Nat) := fun x hx => nomatch hx
        have g := gp_preds uL e nL (times c)
        rw [List.append_nil, List.append_nil, ← rep_inv, ← cr] at g
        rw [← g, ← (strike_app (allL_inv hc.1.1) (allL_gp uL e)).2, ← ee]
        have : inv c ++ q = z := by
          rw [ec]
          exact e2.symm
        rw [this]
        exact (strike_fine fz).symm
      · by_cases q0 : q = []
        · -- z undoes a tail of c
          subst q0
          rw [List.append_nil] at e2 hh
          have lp2 : p2 = [] := List.length_eq_zero_iff.mp (by simp at l2; omega)
          subst lp2
          have f1' : z = s2 := f1
          have es : inv z = s := by rw [e2, inv_inv sL]
          have f2' : c = s ++ q2 := by rw [← es, f1']; exact f2
          have hp : p = q2 := by
            rw [List.nil_append] at hh
            exact hh
          obtain ⟨k, ek⟩ := rot_unit s0 f2' (by rw [← hp]; exact e1)
          refine ⟨-(k : Int), ?_⟩
          have k0 : k ≠ 0 := fun e => s0 (by rw [ek, e]; rfl)
          have eg : gp (unit c) (-(k : Int)) = z := by
            unfold gp
            rw [if_neg (by omega), show (-(-(k : Int))).toNat = k by omega, ← rep_inv, ← ek]
            exact e2.symm
          rw [eg]
          exact (strike_fine fz).symm
        · -- something stays on both sides: c would not go round
          exfalso
          have pq : 0 < q.length := List.length_pos_iff.mpr q0
          have pp : 0 < p.length := List.length_pos_iff.mpr p0
          have pp2 : 0 < p2.length := by omega
          obtain ⟨x, hx⟩ : ∃ x, c[0]? = some x := ⟨_, List.getElem?_eq_getElem pc⟩
          obtain ⟨y, hy⟩ : ∃ y, c.getLast? = some y := ⟨_, List.getLast?_eq_getLast hc.2.1⟩
          have g1 : (p ++ q)[0]? = some x := by
            rw [List.getElem?_append_left pp]
            rw [e1, List.getElem?_append_left pp] at hx
            exact hx
          have g2 : (p2 ++ q2)[0]? = some (up y) := by
            rw [List.getElem?_append_left pp2]
            have z0 : z[0]? = some (up y) := by
              have ly : s.getLast? = some y := by
                rw [e1, last_app s0] at hy
                exact hy
              rw [e2, List.getElem?_append_left (by rw [inv_len]; exact ps)]
              unfold inv
              rw [List.getElem?_reverse (by rw [List.length_map]; exact ps), List.length_map, List.getElem?_map]
              rw [List.getLast?_eq_getElem?] at ly
              rw [show s.length - 1 - 0 = s.length - 1 by omega, ly]
              rfl
            rw [f1, List.getElem?_append_left pp2] at z0
            exact z0
          rw [hh, g2] at g1
          exact hc.2.2 x y hx hy (Option.some.inj g1).symm
end SB
-- M19
namespace SB
open PySem PySem.Spec PyProof.Rows L2
/-! ### roots -/
noncomputable def root (l : List Nat) : List Nat := pre l ++ unit (mid l) ++ inv (pre l)
theorem nilL : allL ([] : List Nat) := fun x hx => by cases hx
theorem unit_ne {c : List Nat} (hc : 0 < c.length) : unit c ≠ [] := List.length_pos_iff.mp (by rw [unit_len hc]; exact (uq_div hc).1)
theorem unit_cr {c : List Nat} (h : CR c) : CR (unit c) := by
  have pc := h.pos
  have e := unit_rep pc
  have t := times_pos pc
  have ne := unit_ne pc
  refine ⟨fine_take h.1 _, ne, fun x y hx hy => ?_⟩
  refine h.2.2 x y ?_ ?_
  · rw [e, rep_head t ne]
    exact hx
  · rw [e, rep_last t ne]
    exact hy
theorem allL_pre {l : List Nat} (h : allL l) : allL (pre l) := fun c hc => h c (List.mem_of_mem_take hc)
theorem unit_unit {c : List Nat} (hc : 0 < c.length) : unit (unit c) = unit c := by
  have e := unit_rep hc
  have h := unit_of_rep (v := unit c) (m := times c) (by rw [unit_len hc]; exact (uq_div hc).1) (times_pos hc)
  rw [← e] at h
  exact h.symm
/-- the root between its coats: fine, and a fine row is so many of it -/
theorem root_shape {l : List Nat} (hl : Fine l) (hn : l ≠ []) : l = pre l ++ rep (times (mid l)) (unit (mid l)) ++ inv (pre l) := by
  have cr := mid_cr hl hn
  rw [← unit_rep cr.pos]
  exact shape hl.1
theorem root_fine {l : List Nat} (hl : Fine l) (hn : l ≠ []) : Fine (root l) := by
  have cr := mid_cr hl hn
  have uc := unit_cr cr
  have t := times_pos cr.pos
  have h := hl
  rw [root_shape hl hn] at h
  have h1 := fine_pre h
  have h2 : Fine (rep (times (mid l)) (unit (mid l)) ++ inv (pre l)) := by
    rw [List.append_assoc] at h
    exact fine_suf h
  unfold root
  refine fine_join (fine_join (fine_pre h1) uc.1 fun x y hx hy => ?_) (fine_suf h2) fun x y hx hy => ?_
  · exact fine_bound h1 x y hx (by rw [rep_head t uc.2.1]; exact hy)
  · rw [last_app uc.2.1] at hx
    exact fine_bound h2 x y (by rw [rep_last t uc.2.1]; exact hx) hy
theorem root_ne {l : List Nat} (hl : Fine l) (hn : l ≠ []) : root l ≠ [] := by
  have := unit_ne (mid_cr hl hn).pos
  unfold root
  simp [this]
theorem root_rep {l : List Nat} (hl : Fine l) (hn : l ≠ []) {m : Nat} (hm : 1 ≤ m) : strike (rep m (root l)) = pre l ++ rep m (unit (mid l)) ++ inv (pre l) := by
  have uc := unit_cr (mid_cr hl hn)
  unfold root
  rw [conj_rep (allL_pre hl.1) uc.1.1]
  exact strike_fine (wrap_fine (root_fine hl hn) uc hm)
theorem root_times {l : List Nat} (hl : Fine l) (hn : l ≠ []) : strike (rep (times (mid l)) (root l)) = l := by
  rw [root_rep hl hn (times_pos (mid_cr hl hn).pos)]
  exact (root_shape hl hn).symm
/-- pieces of so many of a root -/
theorem root_parts {l : List Nat} (hl : Fine l) (hn : l ≠ []) {m : Nat} (hm : 1 ≤ m) : pre (strike (rep m (root l))) = pre l ∧ mid (strike (rep m (root l))) = rep m (unit (mid l)) := by
  have uc := rep_cr (unit_cr (mid_cr hl hn)) hm
  rw [root_rep hl hn hm]
  exact parts_unique (allL_pre hl.1) uc.2.1 uc.2.2
theorem root_pow {l : List Nat} (hl : Fine l) (hn : l ≠ []) {m : Nat} (hm : 1 ≤ m) : root (strike (rep m (root l))) = root l := by
  have pc := (mid_cr hl hn).pos
  obtain ⟨e1, e2⟩ := root_parts hl hn hm
  unfold root at *
  rw [e1, e2, unit_of_rep (by rw [unit_len pc]; exact (uq_div pc).1) hm, unit_unit pc]
theorem inv_ne {l : List Nat} (h : l ≠ []) : inv l ≠ [] := fun e => by
  have := inv_len l
  rw [e] at this
  exact h (List.length_eq_zero_iff.mp this.symm)
theorem inv_cr {c : List Nat} (h : CR c) : CR (inv c) := by
  have pc := h.pos
  refine ⟨fine_inv h.1, inv_ne h.2.1, fun x y hx hy q => ?_⟩
  obtain ⟨a, ha⟩ : ∃ a, c[0]? = some a := ⟨_, List.getElem?_eq_getElem pc⟩
  obtain ⟨b, hb⟩ : ∃ b, c.getLast? = some b := ⟨_, List.getLast?_eq_getLast h.2.1⟩
  have ex : x = up b := by
    unfold inv at hx
    rw [List.getElem?_reverse (by rw [List.length_map]; exact pc), List.length_map, List.getElem?_map, Nat.sub_zero, ← List.getLast?_eq_getElem?, hb] at hx
    exact (Option.some.inj hx).symm
  have ey : y = up a := by
    unfold inv at hy
    rw [List.getLast?_reverse, List.head?_eq_getElem?, List.getElem?_map, ha] at hy
    exact (Option.some.inj hy).symm
  have bL := h.1.1 b (List.mem_of_getLast? hb)
  have aL := h.1.1 a (List.mem_of_getElem? ha)
  refine h.2.2 a b ha hb ?_
  rw [ex, ey, up_up a aL] at q
  exact q.symm
theorem inv_parts {l : List Nat} (hl : Fine l) (hn : l ≠ []) : pre (inv l) = pre l ∧ mid (inv l) = inv (mid l) := by
  have cr := inv_cr (mid_cr hl hn)
  have pL := allL_pre hl.1
  have e : inv l = pre l ++ inv (mid l) ++ inv (pre l) := by
    have := congrArg inv (shape hl.1)
    rw [inv_app, inv_app, inv_inv pL] at this
    rw [List.append_assoc]
    exact this
  rw [e]
  exact parts_unique pL cr.2.1 cr.2.2
theorem unit_inv {c : List Nat} (hc : 0 < c.length) (cL : allL c) : unit (inv c) = inv (unit c) := by
  have pu : 0 < (unit c).length := by rw [unit_len hc]; exact (uq_div hc).1
  have uL : allL (unit c) := fun x hx => cL x (List.mem_of_mem_take hx)
  have e1 : inv c = rep (times c) (inv (unit c)) := by
    rw [← rep_inv, ← unit_rep hc]
  have piu : 0 < (inv (unit c)).length := by rw [inv_len]; exact pu
  have e2 : unit (inv c) = unit (inv (unit c)) := by
    rw [e1]
    exact unit_of_rep piu (times_pos hc)
  rw [e2]
  -- the unit of inv u is all of it
  have e3 := unit_rep piu
  have uL' : allL (unit (inv (unit c))) := fun x hx => allL_inv uL x (List.mem_of_mem_take hx)
  have e4 : unit c = rep (times (inv (unit c))) (inv (unit (inv (unit c)))) := by
    rw [← rep_inv, ← e3, inv_inv uL]
  have pv : 0 < (inv (unit (inv (unit c)))).length := by
    rw [inv_len, unit_len piu]
    exact (uq_div piu).1
  have e5 := of_rep pv (times_pos piu) e4
  rw [unit_unit hc] at e5
  have t5 := times_pos pv
  have le1 : (unit c).length ≤ (inv (unit (inv (unit c)))).length := by
    have := congrArg List.length e5
    rw [rep_len] at this
    rw [this]
    exact Nat.le_mul_of_pos_left _ t5
  rw [inv_len] at le1
  rw [unit_len piu] at le1
  show (inv (unit c)).take (uq (inv (unit c))) = inv (unit c)
  exact List.take_of_length_le (by rw [inv_len]; exact le1)
theorem root_inv {l : List Nat} (hl : Fine l) (hn : l ≠ []) : root (inv l) = inv (root l) := by
  have cr := mid_cr hl hn
  obtain ⟨e1, e2⟩ := inv_parts hl hn
  unfold root
  rw [e1, e2, unit_inv cr.pos cr.1.1, inv_app, inv_app, inv_inv (allL_pre hl.1), List.append_assoc]
theorem gp_neg {u : List Nat} (h : allL u) (e : Int) : gp (inv u) e = gp u (-e) := by
  unfold gp
  rw [inv_inv h]
  by_cases h0 : e = 0
  · subst h0
    rfl
  · by_cases h1 : 0 ≤ e
    · rw [if_pos h1, if_neg (by omega), Int.neg_neg]
    · rw [if_neg h1, if_pos (by omega)]
theorem same_roots {x y : List Nat} (hx : Fine x) (hy : Fine y) (nx : x ≠ []) (ny : y ≠ []) (h : root y = root x ∨ root y = inv (root x)) : strike (x ++ y) = strike (y ++ x) := by
  have rx := root_times hx nx
  have ry := root_times hy ny
  have rL := (root_fine hx nx).1
  have e : ∀ {a b : List Nat}, allL a → allL b → strike (strike a ++ strike b) = strike (a ++ b) := fun {a b} ha hb => by
    rw [(strike_app ha (fine_strike hb).1).1, (strike_app ha hb).2]
  have R1 := fun m => allL_rep (m := m) rL
  have R2 := fun m => allL_rep (m := m) (allL_inv rL)
  generalize times (mid x) = s at rx
  generalize times (mid y) = t at ry
  rcases h with h | h
  · rw [h] at ry
    rw [← rx, ← ry, e (R1 s) (R1 t), e (R1 t) (R1 s), ← rep_add, ← rep_add, Nat.add_comm]
  · rw [h] at ry
    rw [← rx, ← ry, e (R1 s) (R2 t), e (R2 t) (R1 s)]
    have nL : allL ([] : List Nat) := fun x hx => nomatch hx
    have g1 := gp_preds rL (s : Int) nL t
    have g2 := gp_preds (allL_inv rL) (t : Int) nL s
    have i1 : gp (root x) (s : Int) = rep s (root x) := by unfold gp; rw [if_pos (by omega)]; rfl
    have i2 : gp (inv (root x)) (t : Int) = rep t (inv (root x)) := by unfold gp; rw [if_pos (by omega)]; rfl
    rw [List.append_nil, List.append_nil, i1] at g1
    rw [List.append_nil, List.append_nil, i2, inv_inv rL, gp_neg rL] at g2
    rw [g1, g2]
    congr 2
    omega
theorem comm_roots {x y : List Nat} (hx : Fine x) (hy : Fine y) (nx : x ≠ []) (ny : y ≠ []) (h : strike (x ++ y) = strike (y ++ x)) : root y = root x ∨ root y = inv (root x) := by
  have cr := mid_cr hx nx
  have pL := allL_pre hx.1
  have iL := allL_inv pL
  have cL := cr.1.1
  have sh := shape hx.1
  generalize hz : strike (inv (pre x) ++ (y ++ pre x)) = z
  have zL : allL (inv (pre x) ++ (y ++ pre x)) := allL_app iL (allL_app hy.1 pL)
  have fz : Fine z := by rw [← hz]; exact fine_strike zL
  -- c and z commute
  have c1 : strike (mid x ++ z) = strike (inv (pre x) ++ (x ++ y ++ pre x)) := by
    have cancelL := cancel (p := inv (pre x)) (a := inv (pre x)) (q := mid x ++ (inv (pre x) ++ (y ++ pre x))) iL iL (allL_app cL zL)
    rw [inv_inv pL] at cancelL
    rw [← hz, (strike_app cL zL).2]
    have e1 : inv (pre x) ++ (x ++ y ++ pre x) = inv (pre x) ++ (pre x ++ (mid x ++ (inv (pre x) ++ (y ++ pre x)))) := by
      rw [show x ++ y ++ pre x = (pre x ++ mid x ++ inv (pre x)) ++ y ++ pre x from by rw [← sh]]
      simp only [List.append_assoc]
    rw [e1]
    have := cancel (p := []) (a := pre x) (q := mid x ++ (inv (pre x) ++ (y ++ pre x))) nilL pL (allL_app cL zL)
    exact this.symm
  have c2 : strike (z ++ mid x) = strike (inv (pre x) ++ (y ++ x ++ pre x)) := by
    rw [← hz, (strike_app zL cL).1]
    have e1 : inv (pre x) ++ (y ++ x ++ pre x) = (inv (pre x) ++ (y ++ (pre x ++ mid x))) ++ (inv (pre x) ++ (pre x ++ [])) := by
      rw [show y ++ x ++ pre x = y ++ (pre x ++ mid x ++ inv (pre x)) ++ pre x from by rw [← sh]]
      simp only [List.append_assoc, List.append_nil]
    rw [e1, cancel (allL_app iL (allL_app hy.1 (allL_app pL cL))) pL nilL, List.append_nil]
    simp only [List.append_assoc]
  have cc : strike (mid x ++ z) = strike (z ++ mid x) := by
    rw [c1, c2]
    have a1 : strike (inv (pre x) ++ (x ++ y ++ pre x)) = strike (inv (pre x) ++ (strike (x ++ y) ++ pre x)) := by
      rw [← (strike_app iL (allL_app (allL_app hx.1 hy.1) pL)).2, ← (strike_app (allL_app hx.1 hy.1) pL).1, (strike_app iL (allL_app (fine_strike (allL_app hx.1 hy.1)).1 pL)).2]
    have a2 : strike (inv (pre x) ++ (y ++ x ++ pre x)) = strike (inv (pre x) ++ (strike (y ++ x) ++ pre x)) := by
      rw [← (strike_app iL (allL_app (allL_app hy.1 hx.1) pL)).2, ← (strike_app (allL_app hy.1 hx.1) pL).1, (strike_app iL (allL_app (fine_strike (allL_app hy.1 hx.1)).1 pL)).2]
    rw [a1, a2, h]
  obtain ⟨e, ee⟩ := comm_unit cr _ z rfl fz cc
  -- y, out of z
  have ye : y = strike (pre x ++ (z ++ inv (pre x))) := by
    rw [← hz, ← (strike_app pL (allL_app (fine_strike zL).1 iL)).2, (strike_app zL iL).1, (strike_app pL (allL_app zL iL)).2]
    have e1 : pre x ++ (inv (pre x) ++ (y ++ pre x) ++ inv (pre x)) = pre x ++ (inv (pre x) ++ (y ++ (pre x ++ (inv (pre x) ++ [])))) := by
      simp only [List.append_assoc, List.append_nil]
    have k1 := cancel (p := []) (a := inv (pre x)) (q := y ++ (pre x ++ (inv (pre x) ++ []))) nilL iL (allL_app hy.1 (allL_app pL (allL_app iL nilL)))
    rw [inv_inv pL] at k1
    rw [e1]
    have k2 := cancel (p := y) (a := inv (pre x)) (q := []) hy.1 iL nilL
    rw [inv_inv pL] at k2
    rw [show pre x ++ (inv (pre x) ++ (y ++ (pre x ++ (inv (pre x) ++ [])))) = [] ++ (pre x ++ (inv (pre x) ++ (y ++ (pre x ++ (inv (pre x) ++ []))))) from rfl, k1, List.nil_append, k2, List.append_nil]
    exact (strike_fine hy).symm
  have uL : allL (unit (mid x)) := (unit_cr cr).1.1
  have gL := allL_gp uL e
  have ye2 : y = strike (pre x ++ gp (unit (mid x)) e ++ inv (pre x)) := by
    rw [ee] at ye
    rw [← (strike_app pL (allL_app (fine_strike gL).1 iL)).2, (strike_app gL iL).1, (strike_app pL (allL_app gL iL)).2] at ye
    rw [List.append_assoc]
    exact ye
  by_cases h0 : e = 0
  · exfalso
    subst h0
    refine ny ?_
    rw [ye2]
    have : gp (unit (mid x)) 0 = [] := rfl
    rw [this, List.append_nil]
    have := strike_inv_right (a := []) (b := pre x) nilL pL
    exact this
  · by_cases h1 : 0 < e
    · left
      have eg : gp (unit (mid x)) e = rep e.toNat (unit (mid x)) := by unfold gp; rw [if_pos (by omega)]
      rw [eg, ← conj_rep pL uL] at ye2
      have := root_pow hx nx (m := e.toNat) (by omega)
      unfold root at this ⊢
      rw [ye2]
      exact this
    · right
      have eg : gp (unit (mid x)) e = rep (-e).toNat (inv (unit (mid x))) := by unfold gp; rw [if_neg (by omega)]
      have rL := (root_fine hx nx).1
      have e3 : pre x ++ rep (-e).toNat (inv (unit (mid x))) ++ inv (pre x) = inv (pre x ++ rep (-e).toNat (unit (mid x)) ++ inv (pre x)) := by
        rw [inv_app, inv_app, inv_inv pL, rep_inv, List.append_assoc]
      rw [eg, e3, strike_inv (allL_app (allL_app pL (allL_rep uL)) iL), ← conj_rep pL uL] at ye2
      have hr : strike (rep (-e).toNat (root x)) = strike (rep (-e).toNat (pre x ++ unit (mid x) ++ inv (pre x))) := rfl
      rw [← hr] at ye2
      have fr : Fine (strike (rep (-e).toNat (root x))) := fine_strike (allL_rep rL)
      have nr : strike (rep (-e).toNat (root x)) ≠ [] := fun q => by
        rw [q] at ye2
        exact ny ye2
      rw [ye2, root_inv fr nr, root_pow hx nx (by omega)]
end SB
-- M20
namespace SB
open PySem PySem.Spec PyProof.Rows L2
/-! What the searches of the program and of the law find: the largest number of equal pieces of a row, and the first place at which a row stands in itself written twice. -/
theorem try_le {c : List Nat} (hc : 0 < c.length) {m : Nat} (h1 : 1 ≤ m) (h2 : m ≤ c.length) (h : rep m (c.take (c.length / m)) = c) : m ≤ times c := by
  have e : m * (c.length / m) = c.length := by
    have := congrArg List.length h
    rw [rep_len, List.length_take, Nat.min_eq_left (Nat.div_le_self _ _)] at this
    exact this
  have q1 : 1 ≤ c.length / m := Nat.div_pos h2 h1
  have qd : c.length / m ∣ c.length := ⟨m, by rw [Nat.mul_comm]; exact e.symm⟩
  have ed : c.length / (c.length / m) = m := by
    apply Nat.div_eq_of_eq_mul_left q1
    exact e.symm
  have hd : Div c (c.length / m) := ⟨q1, qd, by rw [ed]; exact h.symm⟩
  have := Nat.le_of_dvd q1 (uq_least hc hd)
  have u1 := (uq_div hc).1
  show m ≤ c.length / uq c
  rw [Nat.le_div_iff_mul_le u1]
  calc m * uq c ≤ m * (c.length / m) := Nat.mul_le_mul_left _ this
    _ = c.length := e
    _ ≤ _ := Nat.le_refl _
theorem times_uq {c : List Nat} (hc : 0 < c.length) : times c * uq c = c.length := Nat.div_mul_cancel (uq_div hc).2.1
theorem div_times {c : List Nat} (hc : 0 < c.length) : c.length / times c = uq c := by
  apply Nat.div_eq_of_eq_mul_right (times_pos hc)
  exact (times_uq hc).symm
theorem try_times {c : List Nat} (hc : 0 < c.length) : rep (times c) (c.take (c.length / times c)) = c := by
  rw [div_times hc]; exact (unit_rep hc).symm
theorem times_le {c : List Nat} : times c ≤ c.length := Nat.div_le_self _ _
theorem twice_rot {c : List Nat} {p : Nat} (h : p ≤ c.length) : ((c ++ c).drop p).take c.length = c.drop p ++ c.take p := by
  rw [List.drop_append_of_le_length h, List.take_append, List.length_drop, List.take_of_length_le (by rw [List.length_drop]; omega)]
  congr 2
  omega
theorem twice_uq {c : List Nat} (hc : 0 < c.length) : ((c ++ c).drop (uq c)).take c.length = c := by
  have hu := unit_rep hc
  have hl := unit_len hc
  have ht := times_pos hc
  obtain ⟨k, hk⟩ : ∃ k, times c = k + 1 := ⟨times c - 1, by omega⟩
  have hle : uq c ≤ c.length := Nat.le_of_dvd hc (uq_div hc).2.1
  rw [twice_rot hle]
  rw [hk] at hu
  have h1 : c.take (uq c) = unit c := rfl
  have h2 : c.drop (uq c) = rep k (unit c) := by
    have h3 : c.drop (uq c) = (rep (k + 1) (unit c)).drop (uq c) := by rw [← hu]
    rw [h3, rep_succ, ← hl, List.drop_left]
  rw [h1, h2, ← rep_snoc]
  exact hu.symm
theorem twice_first {c : List Nat} (hc : 0 < c.length) {p : Nat} (h1 : 1 ≤ p) (h : ((c ++ c).drop p).take c.length = c) : uq c ≤ p := by
  by_cases hp : p ≤ c.length
  · rw [twice_rot hp] at h
    have hz : (c.take p).length = p := by rw [List.length_take]; omega
    have := rot_per (z := c.take p) (d := c.drop p) (List.take_append_drop p c).symm h.symm
    rw [hz] at this
    exact Nat.le_of_dvd h1 (per_gcd_div hc this h1)
  · have hle : uq c ≤ c.length := Nat.le_of_dvd hc (uq_div hc).2.1
    omega
end SB
-- K04H1
namespace K04
open PySem PySem.Spec PyProof.Rows L2 SB
section
variable {P : Program} {w : World} {K : PySem.W.Frag} {mg : Str → Option Value} {base : Heap}
local macro_rules | `(tactic| trivial) => `(tactic| first | assumption | (with_reducible rfl) | rfl | (apply Exists.intro) | (apply And.intro) | (exact Nat.le_of_ble_eq_true rfl) | (rw [sizeLine_eq]; omega) | omega)
def spCoat : Sp := fun vs H Q _ => ∃ z : Str, vs = [.str z] ∧ z.length ≤ 100000 ∧ allL z.cps.toList ∧ Q (.int (coat z.cps.toList : Nat)) H
theorem ok_coat_size {f : Addr} {fd : FuncData} {k : Nat} (F : Fun K "coat_size" "coat_size" s_coat_size f fd) (m_len : mg "len" = none) : FnOk P w K mg base CX0 (k + 1) f fd ["letters"] spCoat := by
  refine F.ok sc_coat_size (fun vs H Q E h => ?_) (fun cdv A outer s H vs Q E hr h => ?_)
  · obtain ⟨z, rfl, _⟩ := h
    rfl
  · obtain ⟨z, rfl, lz, zL, q⟩ := h
    have nd := sc_coat_size.nd
    refine ⟨_, (pss_cons (ps_set (i := 1) nd rfl (.inl rfl) (pe_op op_sub (pe_callB call_len (by rfl) m_len PySem.boot_len (pa_cons (pv 0) pa_nil)) pe_int))
      (pss_cons (ps_set (i := 2) nd rfl (.inl rfl) pe_int)
      (pss_cons (ps_while PassesOwn.never (PW.pt (pw_and (pt_cmpR op_lt (pv 2) (pe_op op_sub (pv 1) (pv 2)) (nomark _)) (pw_and1 (pt_cmpR op_eq (pe_ix ix_str (pv 0) (pv 2) (fun _ _ => rfl)) (pe_m0 PySem.F.slot_str_swapcase PySem.F.type_str_swapcase mt_swapcase (pe_ix ix_str (pv 0) (pe_op op_sub (pv 1) (pv 2)) (fun _ _ => rfl))) (nomark _))))) (pss_one (ps_aug (i := 2) nd rfl (.inl rfl) pe_int ip_add)))
      (pss_one (ps_ret (pv 2)))))), ?_⟩
    have zs : z.length ≤ sizeLine := by
      rw [sizeLine_eq]
      omega
    have hz : z.cps.toList.length = z.length := rfl
    refine ⟨.str z, rfl, .str z, z.length, rfl, ⟨zs, rfl⟩, _, 1, rfl, rfl, ?_⟩
    refine ⟨fun m σ H' => ∃ g : Nat, σ = [some (.str z), some (.int ((z.length : Nat) - 1)), some (.int (g : Nat))] ∧ H' = H ∧ g ≤ z.length ∧ m + g = z.length ∧ coatAt z.cps.toList g = coat z.cps.toList, ⟨z.length, 0, rfl, rfl, Nat.zero_le _, rfl, rfl⟩, ?_⟩
    rintro m σ H' ⟨g, rfl, rfl, gl, em2, es⟩
    rw [coat_step] at es
    refine ⟨.int g, rfl, .int ((z.length : Nat) - 1), rfl, .int g, rfl, _, _, rfl, rfl, _, _, rfl, rfl, _, rfl, ite2 (fun e => ?_) (fun e => ?_)⟩
    · have lt : 2 * g + 1 < z.length := by
        have := of_decide_eq_true e
        omega
      obtain ⟨x, hx⟩ : ∃ x, z.cps.toList[g]? = some x := ⟨_, List.getElem?_eq_getElem (by omega)⟩
      obtain ⟨y, hy⟩ : ∃ y, z.cps.toList[z.cps.toList.length - 1 - g]? = some y := ⟨_, List.getElem?_eq_getElem (by omega)⟩
      have yL : isL y = true := zL y (List.mem_of_getElem? hy)
      have ay : atI z.cps.toList (((z.length : Nat) : Int) - 1 - ((g : Nat) : Int)) = some y := by
        rw [show ((z.length : Nat) : Int) - 1 - ((g : Nat) : Int) = ((z.cps.toList.length - 1 - g : Nat) : Int) by omega]
        exact atI_nat hy
      refine ⟨.str z, rfl, .int g, rfl, z, _, x, rfl, rfl, zs, atI_nat hx, .str z, rfl, .int ((z.length : Nat) - 1), rfl, .int g, rfl, _, _, rfl, rfl, z, _, y, rfl, rfl, zs, ay, ⟨_, rfl⟩, s1 y, rfl, rfl, (by show 1 ≤ 5592405; decide), rfl, _, rfl, ?_⟩
      rw [swap_up y yL]
      rw [hx, hy] at es
      by_cases ec : x = up y
      · rw [decide_eq_true (congrArg (fun c => V.str (s1 c)) ec)]
        refine ⟨fun σ' H'' => ∃ m', m' < m ∧ _, fun σ' H'' h => h, ?_⟩
        refine ⟨.int g, rfl, _, _, rfl, rfl, m - 1, by omega, g + 1, rfl, rfl, by omega, by omega, ?_⟩
        rw [if_pos ⟨by omega, congrArg some ec⟩] at es
        exact es
      · rw [decide_eq_false fun q => ec (s1_inj (V.str.inj q))]
        rw [if_neg fun h => ec (Option.some.inj h.2)] at es
        refine ⟨.int g, rfl, ?_⟩
        rw [es]
        exact q
    · have ge : ¬ (2 * g + 1 < z.length) := fun h => e (decide_eq_true (by omega))
      rw [if_neg fun h => ge h.1] at es
      refine ⟨.int g, rfl, ?_⟩
      rw [es]
      exact q
end
end K04
-- M21
namespace SB
open PySem PySem.Spec PyProof.Rows L2
/-! texts cut at both ends, texts taken many times, as rows of codes -/
theorem cut_mid (z : Str) (a b : Nat) (h : a ≤ b) (hb : b ≤ z.length) : (cutS z (some (a : Int)) (some (b : Int))).cps.toList = (z.cps.toList.drop a).take (b - a) := by
  unfold cutS
  rw [HT.sIx_nat, HT.sIx_nat]
  show ((z.cps.toList.drop (min a z.length)).take (min b z.length - min a z.length)) = _
  rw [Nat.min_eq_left hb, Nat.min_eq_left (by omega)]
theorem cut_core (z : Str) : (cutS z (some ((coat z.cps.toList : Nat) : Int)) (some ((z.length : Nat) - (coat z.cps.toList : Nat) : Int))).cps.toList = mid z.cps.toList := by
  have h1 := (coat_is z.cps.toList).1
  have hz : z.cps.toList.length = z.length := rfl
  rw [hz] at h1
  rw [show ((z.length : Nat) : Int) - ((coat z.cps.toList : Nat) : Int) = ((z.length - coat z.cps.toList : Nat) : Int) by omega, cut_mid _ _ _ (by omega) (by omega)]
  unfold mid
  congr 1
  omega
theorem cut_pre (z : Str) : (cutS z none (some ((coat z.cps.toList : Nat) : Int))).cps.toList = pre z.cps.toList := cut_take _ _
theorem cut_post {z : Str} (hL : allL z.cps.toList) : (cutS z (some ((z.length : Nat) - (coat z.cps.toList : Nat) : Int)) none).cps.toList = inv (pre z.cps.toList) := by
  have h1 := (coat_is z.cps.toList).1
  have hz : z.cps.toList.length = z.length := rfl
  rw [hz] at h1
  rw [show ((z.length : Nat) : Int) - ((coat z.cps.toList : Nat) : Int) = ((z.length - coat z.cps.toList : Nat) : Int) by omega, cut_drop, ← tail_inv hL]
  rfl
theorem foldl_app (x : Array Nat) : ∀ (n : Nat) (acc : Array Nat), ((List.replicate n x).foldl (· ++ ·) acc).toList = acc.toList ++ rep n x.toList
  | 0, acc => by
    rw [rep_zero, List.append_nil]; rfl
  | n + 1, acc => by
    show ((List.replicate n x).foldl (· ++ ·) (acc ++ x)).toList = _
    rw [foldl_app x n, rep_succ, Array.toList_append, List.append_assoc]
theorem rep_codes (z : Str) (n : Int) : (Txt.mul z n).cps.toList = rep n.toNat z.cps.toList := by
  unfold Txt.mul
  by_cases h1 : n < 1
  · rw [if_pos h1, show n.toNat = 0 by omega]; rfl
  · rw [if_neg h1]
    by_cases h2 : (n == 1 || z.length == 0) = true
    · rw [if_pos h2]
      by_cases e : n = 1
      · subst e
        exact (rep_one _).symm
      · have : z.length = 0 := by simpa [e] using h2
        have hz : z.cps.toList = [] := List.eq_nil_of_length_eq_zero this
        rw [hz, rep_nil]
    · rw [if_neg h2]
      exact foldl_app _ _ #[]
theorem mul_ok {z : Str} {n : Int} (h0 : 0 ≤ n) (hn : n ≤ 100000) (hz : z.length ≤ 100000) (hm : n.toNat * z.length ≤ 1000000) : MulOk z n := by
  refine ⟨?_, fun h1 _ => ?_, fun h1 _ => ?_⟩
  · rw [decide_eq_false (by omega), decide_eq_false (by omega)]; rfl
  · have e : (100000 : Int) ≤ (2 ^ 63 - 1) / n := by
      rw [Int.le_ediv_iff_mul_le (by omega)]
      omega
    omega
  · have : ¬ (z.length * n.toNat > 1000000) := by rw [Nat.mul_comm]; omega
    unfold PySem.Builtin.Str.tooLong
    simp only [decide_eq_false_iff_not]
    have hs := sizeLine_eq
    omega
end SB
-- K04H2
namespace K04
open PySem PySem.Spec PyProof.Rows L2 SB
section
variable {P : Program} {w : World} {K : PySem.W.Frag} {mg : Str → Option Value} {base : Heap}
local macro_rules | `(tactic| trivial) => `(tactic| first | assumption | (with_reducible rfl) | rfl | (apply Exists.intro) | (apply And.intro) | (exact Nat.le_of_ble_eq_true rfl) | (rw [sizeLine_eq]; omega) | omega | (exact (show CMul _ _ from Or.inl ⟨by omega, by omega⟩)) | (exact (show CMul _ _ from Or.inr ⟨by omega, by omega⟩)))
/-- a value of a built-in kind, and whether it is an integer -/
def IsInt (K : PySem.W.Frag) (H : Hp) (y : V) (b : Bool) : Prop := ∃ T b1 b2, TyX K H y T ∧ PySem.W.kitOne K T (.type "int") = some b1 ∧ PySem.W.kitOne K T (.type "bool") = some b2 ∧ (b1 && !b2) = b
theorem isInt_int {K : PySem.W.Frag} {H : Hp} (i : Int) : IsInt K H (.int i) true := ⟨.type "int", true, false, .base (.int i), kit_ty (by decide +kernel), kit_ty (by decide +kernel), rfl⟩
def spIsInt (K : PySem.W.Frag) : Sp := fun vs H Q _ => ∃ (y : V) (b : Bool), vs = [y] ∧ IsInt K H y b ∧ Q (.bl b) H
theorem ok_is_integer {f : Addr} {fd : FuncData} {k : Nat} (F : Fun K "is_integer" "is_integer" s_is_integer f fd) (m_isinstance : mg "isinstance" = none) (m_int : mg "int" = none) (m_bool : mg "bool" = none) :
    FnOk P w K mg base CX0 (k + 1) f fd ["value"] (spIsInt K) := by
  refine F.ok sc_is_integer (fun vs H Q E h => ?_) (fun cdv A outer s H vs Q E hr h => ?_)
  · obtain ⟨y, b, rfl, _⟩ := h
    rfl
  · obtain ⟨y, b, rfl, ⟨T, b1, b2, ty, e1, e2, rfl⟩, q⟩ := h
    refine ⟨_, (pss_one (ps_ret (pe_and (pe_callB call_isi (by rfl) m_isinstance boot_isinstance (pa_cons (pv 0) (pa_cons (pe_bltn (v := .ty "int") (by rfl) m_int PyProof.Rows.boot_int rfl) pa_nil))) (pe_one (pe_not (pe_callB call_isi (by rfl) m_isinstance boot_isinstance (pa_cons (pv 0) (pa_cons (pe_bltn (v := .ty "bool") (by rfl) m_bool (by decide +kernel) rfl) pa_nil)))))))), ?_⟩
    refine ⟨y, rfl, y, .ty "int", T, .type "int", b1, rfl, .ty _, ty, e1, b1, rfl, ?_⟩
    cases b1 with
    | false => exact iteF q
    | true => exact iteT ⟨y, rfl, y, .ty "bool", T, .type "bool", b2, rfl, .ty _, ty, e2, b2, rfl, q⟩
def Fits (z : Str) (m : Int) : Prop := m = 0 ∨ 2 * ((coat z.cps.toList : Nat) : Int) + m * ((mid z.cps.toList).length : Nat) ≤ 4000
def spRepeated (CM : Addr) : Sp := fun vs H Q E => ∃ (z : Str) (m : Int), vs = [.str z, .int m, .int 4000] ∧ 0 ≤ m ∧ z.length ≤ 4000 ∧ Fine z.cps.toList ∧
  (Fits z m → Q (.str (T (pw z.cps.toList m.toNat))) H) ∧ (¬ Fits z m → ∀ d, H d = none → E (.ref CM) (some d) (upd H d (.xd [("most", .int 4000), ("what", .str "letters")])))
theorem ok_repeated {f f_coat_size fM CM : Addr} {fd d_coat_size fdM : FuncData} {k : Nat} (F : Fun K "repeated" "repeated" s_repeated f fd) (m_len : mg "len" = none)
    (G_coat_size : FnOk P w K mg base CX0 (k + 1) f_coat_size d_coat_size ["letters"] spCoat) (g_coat_size : mg "coat_size" = some (.ref f_coat_size)) (k_coat_size : PySem.W.keepIn K (.ref f_coat_size) = true) (b_coat_size : Binds K d_coat_size ["letters"] [])
    (T_TooMany : Err2 K mg "TooMany" "what" "most" CM fM) (F_TooMany : Fun K "__init__" "TooMany.__init__" s_TooMany_init fM fdM) (b_TooMany : Binds K fdM ["self", "what", "most"] []) (mM : ∃ t, mg "MOST_LETTERS" = some (.int 4000 t)) :
    FnOk P w K mg base (L2.CX P w) (k + 3) f fd ["letters", "many", "most"] (spRepeated CM) := by
  obtain ⟨tM, m_MOST⟩ := mM
  refine F.okX sc_repeated (fun vs H Q E h => ?_) (fun cdv A outer s H vs Q E hr h => ?_)
  · obtain ⟨z, m, rfl, _⟩ := h
    rfl
  · obtain ⟨z, m, rfl, m0, lz, fz, yes, no⟩ := h
    have nd := sc_repeated.nd
    refine ⟨_, (pss_cons (ps_if (pt_cmpR op_eq (pv 1) pe_int (nomark _)) (pss_one (ps_ret pe_str)) pss_nil)
      (pss_cons (ps_set (i := 3) nd rfl (.inl rfl) (pe_call G_coat_size (hr.mono (by omega)) (by rfl) g_coat_size k_coat_size b_coat_size .nil pass0 (pa_cons (pv 0) pa_nil)))
      (pss_cons (ps_set (i := 4) nd rfl (.inl rfl) (pe_slice sl_str (pv 0) (po_some (pv 3)) (po_some (pe_op op_sub (pe_callB call_len (by rfl) m_len PySem.boot_len (pa_cons (pv 0) pa_nil)) (pv 3)))))
      (pss_cons (ps_if (pt_cmpR op_gt (pe_op op_add (pe_op op_mul pe_int (pv 3)) (pe_op op_mul (pv 1) (pe_callB call_len (by rfl) m_len PySem.boot_len (pa_cons (pv 4) pa_nil)))) (pv 2) (nomark _)) (pss_one (ps_raise2 T_TooMany (ok_TooMany_init (k := k) F_TooMany) b_TooMany (hr.mono (by omega)) rfl (takes_of rfl rfl rfl rfl) pass0 pe_str (pe_glob (v := .int 4000) (by rfl) m_MOST ⟨_, rfl⟩))) pss_nil)
      (pss_cons (ps_if (pt_cmpR op_eq (pv 4) pe_str (nomark _)) (pss_one (ps_ret pe_str)) pss_nil)
      (pss_one (ps_ret (pe_op op_add_str (pe_op op_add_str (pe_slice sl_str (pv 0) po_none (po_some (pv 3))) (pe_op op_repS (pv 4) (pv 1))) (pe_slice sl_str (pv 0) (po_some (pe_op op_sub (pe_callB call_len (by rfl) m_len PySem.boot_len (pa_cons (pv 0) pa_nil)) (pv 3))) po_none))))))))), ?_⟩
    have zs : z.length ≤ sizeLine := by
      rw [sizeLine_eq]
      omega
    have hz : z.cps.toList.length = z.length := rfl
    have hc := (coat_is z.cps.toList).1
    have hml := mid_len z.cps.toList
    refine ⟨.int m, rfl, rfl, _, rfl, ite2 (fun e => ?_) (fun e => ?_)⟩
    · have em : m = 0 := V.int.inj (of_decide_eq_true e)
      have := yes (.inl em)
      subst em
      exact this
    · have em : m ≠ 0 := fun h => e (decide_eq_true (congrArg V.int h))
      refine ⟨.str z, rfl, z, rfl, by omega, fz.1, ?_⟩
      have core : (cutS z (some ((coat z.cps.toList : Nat) : Int)) (some ((z.cps.toList.length : Nat) - (coat z.cps.toList : Nat) : Int))).cps.toList = mid z.cps.toList := cut_core z
      have lc : (cutS z (some ((coat z.cps.toList : Nat) : Int)) (some ((z.cps.toList.length : Nat) - (coat z.cps.toList : Nat) : Int))).length = (mid z.cps.toList).length := congrArg List.length core
      refine ⟨.str z, rfl, .int (coat z.cps.toList : Nat), rfl, ?_⟩
      repeat trivial
      generalize hcz : cutS z (some ((coat z.cps.toList : Nat) : Int)) (some ((z.cps.toList.length : Nat) - (coat z.cps.toList : Nat) : Int)) = c at *
      have lc2 : m * ((c.length : Nat) : Int) = m * ((mid z.cps.toList).length : Nat) := by rw [lc]
      refine ite2 (fun e2 => ?_) (fun e2 => ?_)
      · refine raised2 T_TooMany fun d hd => no ?_ d hd
        have := of_decide_eq_true e2
        rintro (h | h)
        · exact em h
        · omega
      · have ft : 2 * ((coat z.cps.toList : Nat) : Int) + m * ((mid z.cps.toList).length : Nat) ≤ 4000 := by
          have : ¬ _ := fun h => e2 (decide_eq_true h)
          omega
        have y2 := yes (.inr ft)
        have hpw : pw z.cps.toList m.toNat = pre z.cps.toList ++ rep m.toNat (mid z.cps.toList) ++ inv (pre z.cps.toList) := if_neg (by omega)
        refine ⟨.str c, rfl, rfl, _, rfl, ite2 (fun e3 => ?_) (fun e3 => ?_)⟩
        · have ec : c = "" := V.str.inj (of_decide_eq_true e3)
          subst ec
          have hm : mid z.cps.toList = [] := core.symm
          have hn : z.cps.toList = [] := by
            by_cases hz0 : z.cps.toList = []
            · exact hz0
            · exact absurd hm (mid_cr fz hz0).2.1
          have e4 : pw z.cps.toList m.toNat = [] := by
            rw [hpw, hn]
            have h1 : pre [] = [] := by simp [pre]
            have h2 : mid [] = [] := by simp [mid]
            rw [h1, h2, rep_nil]
            rfl
          rw [e4] at y2
          exact y2
        · have lm : 1 ≤ (mid z.cps.toList).length := by
            rcases Nat.eq_zero_or_pos (mid z.cps.toList).length with h | h
            · have : c = "" := str_ext (core.trans (List.eq_nil_of_length_eq_zero h))
              exact absurd (decide_eq_true (congrArg V.str this)) e3
            · exact h
          have m4 : m ≤ 4000 := by
            have : m * 1 ≤ m * ((mid z.cps.toList).length : Nat) := Int.mul_le_mul_of_nonneg_left (by omega) m0
            omega
          have ml : m.toNat * c.length ≤ 4000 := by
            rw [lc]
            have : ((m.toNat * (mid z.cps.toList).length : Nat) : Int) = m * ((mid z.cps.toList).length : Nat) := by
              rw [Int.natCast_mul, Int.toNat_of_nonneg m0]
            omega
          have mo : MulOk c m := mul_ok m0 (by omega) (by omega) (by omega)
          have lr : (Txt.mul c m).length = m.toNat * c.length := (congrArg List.length (rep_codes c m)).trans (rep_len _ _)
          have lp : (cutS z none (some ((coat z.cps.toList : Nat) : Int))).length = coat z.cps.toList := (congrArg List.length (cut_pre z)).trans (pre_len _)
          have lq : (cutS z (some ((z.cps.toList.length : Nat) - (coat z.cps.toList : Nat) : Int)) none).length = coat z.cps.toList := (congrArg List.length (cut_post fz.1)).trans ((inv_len _).trans (pre_len _))
          repeat trivial
          · rw [sizeLine_eq, Str.length_append]
            omega
          · have er : cutS z none (some ((coat z.cps.toList : Nat) : Int)) ++ Txt.mul c m ++ cutS z (some ((z.cps.toList.length : Nat) - (coat z.cps.toList : Nat) : Int)) none = SB.T (pw z.cps.toList m.toNat) := by
              refine str_ext ?_
              rw [app_codes, app_codes, cut_pre, rep_codes, core, hpw]
              exact congrArg _ (cut_post fz.1)
            rw [← er] at y2
            exact y2
end
end K04
-- M22
namespace SB
open PySem PySem.Spec PyProof.Rows L2
/-! powers of words with any exponent -/
theorem pre_nil : pre [] = [] := by simp [pre]
theorem mid_nil : mid [] = [] := by simp [mid]
theorem coat_nil : coat [] = 0 := by
  have : 2 * coat [] ≤ 0 := (coat_is []).1
  omega
theorem pw_nil (n : Nat) : pw [] n = [] := by
  unfold pw
  split
  · rfl
  · rw [pre_nil, mid_nil, rep_nil]; rfl
theorem inv_nil' : inv [] = [] := rfl
theorem coat_inv {l : List Nat} (hl : Fine l) : coat (inv l) = coat l := by
  by_cases hn : l = []
  · subst hn; rfl
  · rw [← pre_len, ← pre_len, (inv_parts hl hn).1]
theorem mid_inv {l : List Nat} (hl : Fine l) : mid (inv l) = inv (mid l) := by
  by_cases hn : l = []
  · subst hn
    rw [inv_nil', mid_nil]
    rfl
  · exact (inv_parts hl hn).2
theorem pre_inv {l : List Nat} (hl : Fine l) : pre (inv l) = pre l := by
  by_cases hn : l = []
  · subst hn; rfl
  · exact (inv_parts hl hn).1
theorem pw_inv {l : List Nat} (hl : Fine l) (n : Nat) : pw (inv l) n = inv (pw l n) := by
  unfold pw
  split
  · rfl
  · rw [pre_inv hl, mid_inv hl, inv_app, inv_app, inv_inv (allL_pre hl.1), rep_inv, List.append_assoc]
theorem pw_len {l : List Nat} {n : Nat} (hn : n ≠ 0) : (pw l n).length = 2 * coat l + n * (mid l).length := by
  unfold pw
  rw [if_neg hn, List.length_append, List.length_append, inv_len, rep_len, pre_len]
  omega
theorem pw_fine {l : List Nat} (hl : Fine l) (n : Nat) : Fine (pw l n) := by
  rw [← pw_strike hl]
  exact fine_strike (allL_rep hl.1)
/-- the product of so many words, of so many undoings if it is negative -/
def powI (l : List Nat) (m : Int) : List Nat := if 0 ≤ m then pw l m.toNat else pw (inv l) (-m).toNat
theorem powI_fine {l : List Nat} (hl : Fine l) (m : Int) : Fine (powI l m) := by
  unfold powI
  split
  · exact pw_fine hl _
  · exact pw_fine (fine_inv hl) _
theorem powI_gp {l : List Nat} (hl : Fine l) (m : Int) : powI l m = strike (gp l m) := by
  unfold powI gp
  split
  · exact (pw_strike hl _).symm
  · exact (pw_strike (fine_inv hl) _).symm
theorem powI_neg {l : List Nat} (hl : Fine l) (m : Int) : powI l (-m) = inv (powI l m) := by
  unfold powI
  rcases Int.lt_trichotomy m 0 with h | h | h
  · rw [if_pos (by omega), if_neg (by omega), pw_inv hl, inv_inv (pw_fine hl _).1]
  · subst h
    rfl
  · rw [if_neg (by omega), if_pos (by omega), pw_inv hl, Int.neg_neg]
theorem powI_len {l : List Nat} (hl : Fine l) {m : Int} (h : m ≠ 0) : (powI l m).length = 2 * coat l + m.natAbs * (mid l).length := by
  unfold powI
  split
  · rw [pw_len (by omega), show m.toNat = m.natAbs by omega]
  · rw [pw_len (by omega), coat_inv hl, mid_inv hl, inv_len, show (-m).toNat = m.natAbs by omega]
theorem powI_zero (l : List Nat) : powI l 0 = [] := rfl
end SB
-- K04H3
namespace K04
open PySem PySem.Spec PyProof.Rows L2 SB
section
variable {P : Program} {w : World} {K : PySem.W.Frag} {mg : Str → Option Value} {base : Heap}
local macro_rules | `(tactic| trivial) => `(tactic| first | assumption | (with_reducible rfl) | rfl | (apply Exists.intro) | (apply And.intro) | (exact Nat.le_of_ble_eq_true rfl) | (rw [sizeLine_eq]; omega) | omega)
theorem ok_BadNumber_init {f : Addr} {fd : FuncData} {k : Nat} (F : Fun K "__init__" "BadNumber.__init__" s_BadNumber_init f fd) : FnOk P w K mg base CX0 (k + 1) f fd ["self", "part"] (spErr1 K "part") := by
  refine F.ok sc_BadNumber_init (fun vs H Q E h => init1_sp h) (fun cdv A outer s H vs Q E hr h => ?_)
  exact ⟨_, pss_one (ps_ost (pv 0) (pv 1)), init1_read rfl h⟩
/-- whether the product of so many has at most 4000 letters -/
def FitsI (l : List Nat) (m : Int) : Prop := m = 0 ∨ 2 * coat l + m.natAbs * (mid l).length ≤ 4000
def spPower (K : PySem.W.Frag) (CW CB1 CM : Addr) : Sp := fun vs H Q E => ∃ (a : Addr) (z : Str) (y : V), vs = [.ref a, y] ∧ WordAt CW H a z ∧ Fine z.cps.toList ∧ z.length ≤ 4000 ∧
  ((∃ m : Int, y = .int m ∧ (FitsI z.cps.toList m → ∀ c H', H c = none → Same H H' → WordAt CW H' c (T (powI z.cps.toList m)) → Q (.ref c) H') ∧
    (¬ FitsI z.cps.toList m → ∀ d, H d = none → E (.ref CM) (some d) (upd H d (.xd [("most", .int 4000), ("what", .str "letters")])))) ∨
   (IsInt K H y false ∧ ∀ d, H d = none → E (.ref CB1) (some d) (upd H d (.xd [("part", .str "many")]))))
theorem ok_Word_power {f CW CB1 CB2 CM f_is_integer f_undone f_repeated fB1 : Addr} {fd d_is_integer d_undone d_repeated fdB1 : FuncData} {k : Nat} (F : Fun K "power" "Word.power" s_Word_power f fd) (MO : MakeOk P w K mg base CW CB2 CM k) (m_abs : mg "abs" = none)
    (G_is_integer : FnOk P w K mg base CX0 (k + 1) f_is_integer d_is_integer ["value"] (spIsInt K)) (g_is_integer : mg "is_integer" = some (.ref f_is_integer)) (k_is_integer : PySem.W.keepIn K (.ref f_is_integer) = true) (b_is_integer : Binds K d_is_integer ["value"] [])
    (G_undone : FnOk P w K mg base CX0 (k + 1) f_undone d_undone ["letters"] spUndone) (g_undone : mg "undone" = some (.ref f_undone)) (k_undone : PySem.W.keepIn K (.ref f_undone) = true) (b_undone : Binds K d_undone ["letters"] [])
    (G_repeated : FnOk P w K mg base (L2.CX P w) (k + 3) f_repeated d_repeated ["letters", "many", "most"] (spRepeated CM)) (g_repeated : mg "repeated" = some (.ref f_repeated)) (k_repeated : PySem.W.keepIn K (.ref f_repeated) = true) (b_repeated : Binds K d_repeated ["letters", "many", "most"] [])
    (T_BadNumber : Err1 K mg "BadNumber" "part" CB1 fB1) (F_BadNumber : Fun K "__init__" "BadNumber.__init__" s_BadNumber_init fB1 fdB1) (b_BadNumber : Binds K fdB1 ["self", "part"] []) (mM : ∃ t, mg "MOST_LETTERS" = some (.int 4000 t)) :
    FnOk P w K mg base (L2.CX P w) (k + 5) f fd ["self", "many"] (spPower K CW CB1 CM) := by
  obtain ⟨tM, m_MOST⟩ := mM
  obtain ⟨fW, fdW, tE, M, GW, bW, bW0, rE⟩ := MO.word
  have gW := MO.gW
  refine F.okX sc_Word_power (fun vs H Q E h => ?_) (fun cdv A outer s H vs Q E hr h => ?_)
  · obtain ⟨a, z, y, rfl, _⟩ := h
    rfl
  · obtain ⟨a, z, y, rfl, ⟨dx, ha⟩, fz, lz, h⟩ := h
    have nd := sc_Word_power.nd
    refine ⟨_, (pss_cons (ps_if (pt_not (pt_val (pe_call G_is_integer (hr.mono (by omega)) (by rfl) g_is_integer k_is_integer b_is_integer .nil pass0 (pa_cons (pv 1) pa_nil)))) (pss_one (ps_raise1 T_BadNumber (ok_BadNumber_init (k := k) F_BadNumber) b_BadNumber (hr.mono (by omega)) rfl (takes_of rfl rfl rfl rfl) pass0 pe_str)) pss_nil)
      (C8.pss_cut (ps_set (i := 2) nd rfl (.inl rfl) (pe_ifExp (pt_cmpR op_ge (pv 1) pe_int (nomark _)) (pe_fld (pv 0) rfl) (pe_call G_undone (hr.mono (by omega)) (by rfl) g_undone k_undone b_undone .nil pass0 (pa_cons (pe_fld (pv 0) rfl) pa_nil))))
      (pss_one (ps_ret (pe_make M GW (hr.mono (by omega)) (by rfl) gW bW .nil (E := E) (passes_call (takes_of rfl rfl rfl rfl) fun _ _ _ _ q => q) (pa_cons (pe_call G_repeated (hr.mono (by omega)) (by rfl) g_repeated k_repeated b_repeated .nil (E := E) (passes_call (takes_of rfl rfl rfl rfl) fun _ _ _ _ q => q) (pa_cons (pv 2) (pa_cons (pe_callB call_abs (by rfl) m_abs PyProof.Rows.boot_abs (pa_cons (pv 1) pa_nil)) (pa_cons (pe_glob (v := .int 4000) (by rfl) m_MOST ⟨_, rfl⟩) pa_nil)))) pa_nil)))))), ?_⟩
    rcases h with ⟨m, rfl, yes, no⟩ | ⟨iy, bad⟩
    · refine ⟨.int m, rfl, .int m, true, rfl, isInt_int m, true, rfl, iteF ?_⟩
      refine ⟨fun σ H' => ∃ l : List Nat, σ = [some (.ref a), some (.int m), some (.str (SB.T l))] ∧ H' = H ∧ l = (if 0 ≤ m then z.cps.toList else inv z.cps.toList), ?_, ?_⟩
      · refine ⟨.int m, rfl, _, _, rfl, rfl, _, rfl, ite2 (fun e => ?_) (fun e => ?_)⟩
        · refine ⟨.ref a, rfl, a, CW, dx, _, .str z, rfl, ha, MO.cl, MO.na, rfl, z.cps.toList, rfl, rfl, ?_⟩
          rw [if_pos (of_decide_eq_true e)]
        · refine ⟨.ref a, rfl, a, CW, dx, _, .str z, rfl, ha, MO.cl, MO.na, rfl, z, rfl, by omega, fz.1, inv z.cps.toList, rfl, rfl, ?_⟩
          rw [if_neg fun h => e (decide_eq_true h)]
      · rintro σ H' ⟨l, rfl, rfl, el⟩
        have fl : Fine l := by
          rw [el]
          split
          · exact fz
          · exact fine_inv fz
        have ll : l.length = z.length := by
          rw [el]
          split
          · rfl
          · exact inv_len _
        have cl_ : coat l = coat z.cps.toList := by
          rw [el]
          split
          · rfl
          · exact coat_inv fz
        have ml_ : (mid l).length = (mid z.cps.toList).length := by
          rw [el]
          split
          · rfl
          · rw [mid_inv fz, inv_len]
        have ft : Fits (SB.T l) (if m < 0 then -m else m) ↔ FitsI z.cps.toList m := by
          show ((if m < 0 then -m else m) = 0 ∨ 2 * ((coat l : Nat) : Int) + (if m < 0 then -m else m) * ((mid l).length : Nat) ≤ 4000) ↔ (m = 0 ∨ 2 * coat z.cps.toList + m.natAbs * (mid z.cps.toList).length ≤ 4000)
          rw [cl_, ml_, show (if m < 0 then -m else m) = ((m.natAbs : Nat) : Int) by split <;> omega, ← Int.natCast_mul]
          omega
        have ep : pw l (if m < 0 then -m else m).toNat = powI z.cps.toList m := by
          unfold powI
          rw [el]
          split
          · rw [show (if m < 0 then -m else m) = m by split <;> omega]
          · rw [show (if m < 0 then -m else m) = -m by split <;> omega]
        refine ⟨.str (SB.T l), rfl, .int m, rfl, m, rfl, SB.T l, (if m < 0 then -m else m), rfl, by split <;> omega, by show l.length ≤ 4000; omega, fl, fun hf => ?_, fun hf => ?_⟩
        · have hf' := ft.mp hf
          rw [show (SB.T l).cps.toList = l from rfl, ep]
          have fS : Fine (SB.T (powI z.cps.toList m)).cps.toList := powI_fine fz m
          have eS := fine_word fS
          have lS : (SB.T (powI z.cps.toList m)).length ≤ 4000 := by
            show (powI z.cps.toList m).length ≤ 4000
            rcases hf' with h | h
            · subst h; rw [powI_zero]; show 0 ≤ 4000; omega
            · by_cases h0 : m = 0
              · subst h0; rw [powI_zero]; show 0 ≤ 4000; omega
              · rw [powI_len fz h0]; exact h
          refine fun x dx2 nx nd' ne => ⟨x, dx2, .str (SB.T (powI z.cps.toList m)), rfl, upd_same, .inl ⟨_, rfl⟩, fun z' hz' => ?_, fun nz => (nz _ rfl).elim⟩
          cases hz'
          refine ⟨by omega, (fun j hj => by rw [eS] at hj; cases hj), (fun _ l4 => absurd l4 (by omega)), fun _ _ H2 s2 => ⟨rfl, ?_⟩⟩
          obtain ⟨s3, w3⟩ := made_word (z := SB.T (powI z.cps.toList m)) nx nd' s2
          exact yes hf' x _ nx s3 w3
        · exact fun d hd => no (fun h => hf (ft.mpr h)) d hd
    · refine ⟨y, rfl, y, false, rfl, iy, false, rfl, iteT ?_⟩
      exact raised1 T_BadNumber fun d hd => bad d hd
end
end K04
-- M23
namespace SB
open PySem PySem.Spec PyProof.Rows L2 PySem.StrLaws PySem.Builtin PySem.Builtin.Str
/-! where a text is found first, from a place on -/
theorem occ_full (s sub : Str) (hi : Nat) : ∀ (l : List Nat) (st : Array Nat × Nat), 1 ≤ st.fst.size → (forIn l st (occBody s sub hi 1)).run.fst = st.fst
  | [], st, h => rfl
  | a :: l, st, h => by
    rw [List.forIn_cons]
    unfold occBody
    rw [if_neg fun c => absurd c.1.1.1 (by omega)]
    exact occ_full s sub hi l st h
theorem occ_first (s sub : Str) (hi : Nat) : ∀ (n lo free u : Nat), free ≤ lo → lo ≤ u → u < lo + n → (u + sub.length ≤ hi ∧ subAt s sub u = true) →
    (∀ i, lo ≤ i → i < u → ¬ (i + sub.length ≤ hi ∧ subAt s sub i = true)) → (forIn (List.range' lo n) ((#[] : Array Nat), free) (occBody s sub hi 1)).run.fst = #[u]
  | 0, lo, free, u, _, h1, h2, _, _ => by omega
  | n + 1, lo, free, u, hf, h1, h2, hu, hn => by
    rw [List.range'_succ, List.forIn_cons]
    unfold occBody
    by_cases e : lo = u
    · subst e
      rw [if_pos ⟨⟨⟨by simp, hf⟩, hu.1⟩, hu.2⟩]
      exact occ_full s sub hi _ _ (by simp)
    · rw [if_neg fun c => hn lo (Nat.le_refl _) (by omega) ⟨c.1.2, c.2⟩]
      exact occ_first s sub hi n (lo + 1) free u (by omega) (by omega) (by omega) hu fun i h3 h4 => hn i (by omega) h4
theorem find3_first {x y : Str} {i u : Nat} (h1 : i ≤ u) (hu : u + y.length ≤ x.length ∧ subAt x y u = true) (hn : ∀ j, i ≤ j → j < u → ¬ (j + y.length ≤ x.length ∧ subAt x y j = true)) : Txt.find3 x y (i : Int) = (u : Int) := by
  unfold Txt.find3
  have e : fromIndex x.length (i : Int) = i := by
    unfold fromIndex
    rw [if_neg (by omega)]
    omega
  rw [e, occ_eq, occ_first x y x.length _ i i u (Nat.le_refl _) h1 (by omega) hu hn]
theorem find3_twice {c : Str} (hc : 0 < c.length) : Txt.find3 (c ++ c) c 1 = ((uq c.cps.toList : Nat) : Int) := by
  have hl : c.cps.toList.length = c.length := rfl
  have hc' : 0 < c.cps.toList.length := hc
  have hle : uq c.cps.toList ≤ c.cps.toList.length := Nat.le_of_dvd hc' (uq_div hc').2.1
  have h1 := (uq_div hc').1
  have len : (c ++ c).length = c.length + c.length := Str.length_append c c
  have at_ : ∀ j, (subAt (c ++ c) c j = true) ↔ ((c.cps.toList ++ c.cps.toList).drop j).take c.cps.toList.length = c.cps.toList := fun j => by
    rw [subAt_eq, beq_iff_eq, app_codes]
    exact Iff.rfl
  have := find3_first (x := c ++ c) (y := c) (i := 1) (u := uq c.cps.toList) h1 ⟨by omega, (at_ _).mpr (twice_uq hc')⟩ (fun j h2 h3 h4 => by
    have := twice_first hc' h2 ((at_ j).mp h4.2)
    omega)
  exact this
end SB
-- K04H4
namespace K04
open PySem PySem.Spec PyProof.Rows L2 SB
section
variable {P : Program} {w : World} {K : PySem.W.Frag} {mg : Str → Option Value} {base : Heap}
local macro_rules | `(tactic| trivial) => `(tactic| first | assumption | (with_reducible rfl) | rfl | (apply Exists.intro) | (apply And.intro) | (exact Nat.le_of_ble_eq_true rfl) | (rw [sizeLine_eq]; omega) | omega)
def spCore (CW : Addr) : Sp := fun vs H Q _ => ∃ (a : Addr) (z : Str), vs = [.ref a] ∧ WordAt CW H a z ∧ Fine z.cps.toList ∧ z.length ≤ 4000 ∧
  ∀ c d p H', H c = none → H d = none → Same H H' → WordAt CW H' c (T (pre z.cps.toList)) → WordAt CW H' d (T (mid z.cps.toList)) → H' p = none → Q (.ref p) (upd H' p (.tup [.ref c, .ref d]))
theorem ok_Word_core {f CW CB2 CM f_coat_size : Addr} {fd d_coat_size : FuncData} {k : Nat} (F : Fun K "core" "Word.core" s_Word_core f fd) (MO : MakeOk P w K mg base CW CB2 CM k) (m_len : mg "len" = none)
    (G_coat_size : FnOk P w K mg base CX0 (k + 1) f_coat_size d_coat_size ["letters"] spCoat) (g_coat_size : mg "coat_size" = some (.ref f_coat_size)) (k_coat_size : PySem.W.keepIn K (.ref f_coat_size) = true) (b_coat_size : Binds K d_coat_size ["letters"] []) :
    FnOk P w K mg base CX0 (k + 5) f fd ["self"] (spCore CW) := by
  obtain ⟨fW, fdW, tE, M, GW, bW, bW0, rE⟩ := MO.word
  have gW := MO.gW
  refine F.ok sc_Word_core (fun vs H Q E h => ?_) (fun cdv A outer s H vs Q E hr h => ?_)
  · obtain ⟨a, z, rfl, _⟩ := h
    rfl
  · obtain ⟨a, z, rfl, ⟨dx, ha⟩, fz, lz, q⟩ := h
    have nd := sc_Word_core.nd
    refine ⟨_, (pss_cons (ps_set (i := 1) nd rfl (.inl rfl) (pe_call G_coat_size (hr.mono (by omega)) (by rfl) g_coat_size k_coat_size b_coat_size .nil pass0 (pa_cons (pe_fld (pv 0) rfl) pa_nil)))
      (pss_one (ps_ret (pe_tup (pa_cons (pe_make M GW (hr.mono (by omega)) (by rfl) gW bW .nil passL (pa_cons (pe_slice sl_str (pe_fld (pv 0) rfl) po_none (po_some (pv 1))) pa_nil)) (pa_cons (pe_make M GW (hr.mono (by omega)) (by rfl) gW bW .nil passL (pa_cons (pe_slice sl_str (pe_fld (pv 0) rfl) (po_some (pv 1)) (po_some (pe_op op_sub (pe_callB call_len (by rfl) m_len PySem.boot_len (pa_cons (pe_fld (pv 0) rfl) pa_nil)) (pv 1)))) pa_nil)) pa_nil)))))), ?_⟩
    refine ⟨.ref a, rfl, a, CW, dx, _, .str z, rfl, ha, MO.cl, MO.na, rfl, z, rfl, by omega, fz.1, ?_⟩
    refine ⟨.ref a, rfl, a, CW, dx, _, .str z, rfl, ha, MO.cl, MO.na, rfl, ?_⟩
    have ep : cutS z none (some ((coat z.cps.toList : Nat) : Int)) = SB.T (pre z.cps.toList) := str_ext (cut_pre z)
    have em : cutS z (some ((coat z.cps.toList : Nat) : Int)) (some ((z.cps.toList.length : Nat) - (coat z.cps.toList : Nat) : Int)) = SB.T (mid z.cps.toList) := str_ext (cut_core z)
    have hc := (coat_is z.cps.toList).1
    have hz : z.cps.toList.length = z.length := rfl
    have fp : Fine (pre z.cps.toList) := fine_take fz _
    have fm : Fine (mid z.cps.toList) := fine_take (fine_drop fz _) _
    have lp : (pre z.cps.toList).length ≤ 4000 := by rw [pre_len]; omega
    have lm : (mid z.cps.toList).length ≤ 4000 := by rw [mid_len]; omega
    repeat trivial
    refine fun x dx2 nx nd' ne => make_q nx nd' ne (by rw [ep]; exact fp) (by rw [ep]; exact lp) fun H2 s2 w2 => ⟨rfl, ?_⟩
    obtain ⟨dx3, ha2⟩ := WordAt.same ⟨dx, ha⟩ s2
    have cl := MO.cl
    have na := MO.na
    refine ⟨.ref a, rfl, a, CW, dx3, _, .str z, rfl, ha2, MO.cl, MO.na, rfl, ?_⟩
    repeat trivial
    refine fun y dy ny ndy ney => make_q ny ndy ney (by rw [em]; exact fm) (by rw [em]; exact lm) fun H3 s3 w3 => ⟨rfl, ?_⟩
    refine ⟨by show 2 ≤ sizeLine; rw [sizeLine_eq]; omega, fun p hp => ?_⟩
    rw [ep] at w2
    rw [em] at w3
    have ny0 : H y = none := by
      rcases e : H y with _ | o
      · rfl
      · exact absurd (s2 _ _ e) (by rw [ny]; exact nofun)
    exact q x y p H3 nx ny0 (s2.trans s3) (w2.same s3) w3 hp
def spRoot (CW : Addr) : Sp := fun vs H Q _ => ∃ (a : Addr) (z : Str), vs = [.ref a] ∧ WordAt CW H a z ∧ Fine z.cps.toList ∧ z.length ≤ 4000 ∧
  ∀ c p H', H c = none → Same H H' → WordAt CW H' c (T (root z.cps.toList)) → H' p = none → Q (.ref p) (upd H' p (.tup [.ref c, .int (times (mid z.cps.toList) : Nat)]))
theorem ok_Word_root {f CW CB2 CM f_coat_size f_undone : Addr} {fd d_coat_size d_undone : FuncData} {k : Nat} (F : Fun K "root" "Word.root" s_Word_root f fd) (MO : MakeOk P w K mg base CW CB2 CM k) (m_len : mg "len" = none)
    (G_coat_size : FnOk P w K mg base CX0 (k + 1) f_coat_size d_coat_size ["letters"] spCoat) (g_coat_size : mg "coat_size" = some (.ref f_coat_size)) (k_coat_size : PySem.W.keepIn K (.ref f_coat_size) = true) (b_coat_size : Binds K d_coat_size ["letters"] [])
    (G_undone : FnOk P w K mg base CX0 (k + 1) f_undone d_undone ["letters"] spUndone) (g_undone : mg "undone" = some (.ref f_undone)) (k_undone : PySem.W.keepIn K (.ref f_undone) = true) (b_undone : Binds K d_undone ["letters"] []) :
    FnOk P w K mg base CX0 (k + 5) f fd ["self"] (spRoot CW) := by
  obtain ⟨fW, fdW, tE, M, GW, bW, bW0, rE⟩ := MO.word
  have gW := MO.gW
  refine F.ok sc_Word_root (fun vs H Q E h => ?_) (fun cdv A outer s H vs Q E hr h => ?_)
  · obtain ⟨a, z, rfl, _⟩ := h
    rfl
  · obtain ⟨a, z, rfl, ⟨dx, ha⟩, fz, lz, q⟩ := h
    have nd := sc_Word_root.nd
    refine ⟨_, (pss_cons (ps_if (pt_cmpR op_eq (pe_fld (pv 0) rfl) pe_str (nomark _)) (pss_one (ps_ret (pe_tup (pa_cons (pe_make0 M GW (hr.mono (by omega)) (by rfl) gW bW0 (.cons rE .nil) passL) (pa_cons pe_int pa_nil))))) pss_nil)
      (pss_cons (ps_set (i := 1) nd rfl (.inl rfl) (pe_call G_coat_size (hr.mono (by omega)) (by rfl) g_coat_size k_coat_size b_coat_size .nil pass0 (pa_cons (pe_fld (pv 0) rfl) pa_nil)))
      (pss_cons (ps_set (i := 2) nd rfl (.inl rfl) (pe_slice sl_str (pe_fld (pv 0) rfl) (po_some (pv 1)) (po_some (pe_op op_sub (pe_callB call_len (by rfl) m_len PySem.boot_len (pa_cons (pe_fld (pv 0) rfl) pa_nil)) (pv 1)))))
      (pss_cons (ps_set (i := 3) nd rfl (.inl rfl) (pe_bm PySem.F.plainAttrs_str PySem.F.slot_str_find PySem.F.type_str_find mt_find3 (pe_op op_add_str (pv 2) (pv 2)) (pa_cons (pv 2) (pa_cons pe_int pa_nil))))
      (pss_cons (ps_set (i := 4) nd rfl (.inl rfl) (pe_op op_add_str (pe_op op_add_str (pe_slice sl_str (pe_fld (pv 0) rfl) po_none (po_some (pv 1))) (pe_slice sl_str (pv 2) po_none (po_some (pv 3)))) (pe_call G_undone (hr.mono (by omega)) (by rfl) g_undone k_undone b_undone .nil pass0 (pa_cons (pe_slice sl_str (pe_fld (pv 0) rfl) po_none (po_some (pv 1))) pa_nil))))
      (pss_one (ps_ret (pe_tup (pa_cons (pe_make M GW (hr.mono (by omega)) (by rfl) gW bW .nil passL (pa_cons (pv 4) pa_nil)) (pa_cons (pe_op op_fdiv (pe_callB call_len (by rfl) m_len PySem.boot_len (pa_cons (pv 2) pa_nil)) (pv 3)) pa_nil)))))))))), ?_⟩
    refine ⟨.ref a, rfl, a, CW, dx, _, .str z, rfl, ha, MO.cl, MO.na, rfl, rfl, _, rfl, ite2 (fun e => ?_) (fun e => ?_)⟩
    · have ez : z = "" := V.str.inj (of_decide_eq_true e)
      subst ez
      have er : root (Str.cps "").toList = [] := by
        show root [] = []
        unfold root
        rw [pre_nil, mid_nil]
        rfl
      have et : times (mid (Str.cps "").toList) = 0 := by
        show times (mid []) = 0
        rw [mid_nil]
        show 0 / uq [] = 0
        exact Nat.zero_div _
      rw [er, et] at q
      have fe : Fine (Str.cps "").toList := fz
      refine fun x dx2 nx nd' ne => make_q (z := "") nx nd' ne fe (by show 0 ≤ 4000; omega) fun H2 s2 w2 => ⟨rfl, ?_⟩
      refine ⟨by show 2 ≤ sizeLine; rw [sizeLine_eq]; omega, fun p hp => ?_⟩
      exact q x p H2 nx s2 w2 hp
    · have hn : z.cps.toList ≠ [] := fun h => e (decide_eq_true (congrArg V.str (str_ext h)))
      have em : cutS z (some ((coat z.cps.toList : Nat) : Int)) (some ((z.cps.toList.length : Nat) - (coat z.cps.toList : Nat) : Int)) = SB.T (mid z.cps.toList) := str_ext (cut_core z)
      have ep : cutS z none (some ((coat z.cps.toList : Nat) : Int)) = SB.T (pre z.cps.toList) := str_ext (cut_pre z)
      have hc := (coat_is z.cps.toList).1
      have hz : z.cps.toList.length = z.length := rfl
      have crm := mid_cr fz hn
      have lp : (pre z.cps.toList).length = coat z.cps.toList := pre_len _
      have lm : (mid z.cps.toList).length = z.cps.toList.length - 2 * coat z.cps.toList := mid_len _
      have m1 : 0 < (mid z.cps.toList).length := crm.pos
      have hu := uq_div m1
      have hule : uq (mid z.cps.toList) ≤ (mid z.cps.toList).length := Nat.le_of_dvd m1 hu.2.1
      have pL : allL (pre z.cps.toList) := allL_pre fz.1
      have lT : (SB.T (mid z.cps.toList)).length = (mid z.cps.toList).length := rfl
      have lP : (SB.T (pre z.cps.toList)).length = (pre z.cps.toList).length := rfl
      have hf := find3_twice (c := SB.T (mid z.cps.toList)) (by show 0 < (mid z.cps.toList).length; exact m1)
      have lz' : z.length ≤ sizeLine := by rw [sizeLine_eq]; omega
      have lc : (cutS z (some ((coat z.cps.toList : Nat) : Int)) (some ((z.cps.toList.length : Nat) - (coat z.cps.toList : Nat) : Int))).length = (mid z.cps.toList).length := congrArg Str.length em
      have lq : (cutS z none (some ((coat z.cps.toList : Nat) : Int))).length = coat z.cps.toList := (congrArg Str.length ep).trans lp
      have cl := MO.cl
      have na := MO.na
      refine ⟨.ref a, rfl, a, CW, dx, _, .str z, rfl, ha, MO.cl, MO.na, rfl, z, rfl, by omega, fz.1, ?_⟩
      refine ⟨.ref a, rfl, a, CW, dx, _, .str z, rfl, ha, MO.cl, MO.na, rfl, ?_⟩
      refine ⟨.int (coat z.cps.toList : Nat), rfl, _, rfl, .ref a, rfl, a, CW, dx, _, .str z, rfl, ha, MO.cl, MO.na, rfl, ?_⟩
      repeat trivial
      · rw [sizeLine_eq, em, hf]
        have := cutS_length (SB.T (mid z.cps.toList)) none (some ((uq (SB.T (mid z.cps.toList)).cps.toList : Nat) : Int))
        omega
      · refine ⟨.ref a, rfl, a, CW, dx, _, .str z, rfl, ha, MO.cl, MO.na, rfl, ?_⟩
        repeat trivial
        · rw [ep]; exact pL
        · have ei : (cutS z none (some ((coat z.cps.toList : Nat) : Int))).cps.toList = pre z.cps.toList := cut_pre z
          have er : cutS z none (some ((coat z.cps.toList : Nat) : Int)) ++ cutS (cutS z (some ((coat z.cps.toList : Nat) : Int)) (some ((z.cps.toList.length : Nat) - (coat z.cps.toList : Nat) : Int))) none (some (Txt.find3 (cutS z (some ((coat z.cps.toList : Nat) : Int)) (some ((z.cps.toList.length : Nat) - (coat z.cps.toList : Nat) : Int)) ++ cutS z (some ((coat z.cps.toList : Nat) : Int)) (some ((z.cps.toList.length : Nat) - (coat z.cps.toList : Nat) : Int))) (cutS z (some ((coat z.cps.toList : Nat) : Int)) (some ((z.cps.toList.length : Nat) - (coat z.cps.toList : Nat) : Int))) 1)) ++ SB.T (inv (cutS z none (some ((coat z.cps.toList : Nat) : Int))).cps.toList) = SB.T (root z.cps.toList) := by
            rw [em, hf, ei]
            refine str_ext ?_
            rw [app_codes, app_codes, ei, cut_take]
            rfl
          have fr := root_fine fz hn
          have lr : (root z.cps.toList).length ≤ 4000 := by
            unfold root
            rw [List.length_append, List.length_append, inv_len, lp, unit_len m1]
            omega
          refine ⟨_, _, rfl, rfl, ?_, ?_⟩
          · rw [sizeLine_eq, em, hf, ei, Str.length_append]
            have h1 := cutS_length (SB.T (mid z.cps.toList)) none (some ((uq (SB.T (mid z.cps.toList)).cps.toList : Nat) : Int))
            have h2 : (SB.T (inv (pre z.cps.toList))).length = coat z.cps.toList := (inv_len _).trans lp
            omega
          · rw [er]
            repeat trivial
            refine fun x dx2 nx nd' ne => make_q nx nd' ne fr lr fun H2 s2 w2 => ⟨rfl, ?_⟩
            have hf2 : Txt.find3 (SB.T (mid z.cps.toList) ++ SB.T (mid z.cps.toList)) (SB.T (mid z.cps.toList)) 1 = ((uq (mid z.cps.toList) : Nat) : Int) := hf
            have u1 := hu.1
            repeat trivial
            · rw [em, hf2]; omega
            · rw [em, hf2]; omega
            · refine ⟨by show 2 ≤ sizeLine; rw [sizeLine_eq]; omega, fun p hp => ?_⟩
              have := q x p H2 nx s2 w2 hp
              rw [lc, em, hf2]
              exact this
end
end K04
-- K04H5
namespace K04
open PySem PySem.Spec PyProof.Rows L2 SB
section
variable {P : Program} {w : World} {K : PySem.W.Frag} {mg : Str → Option Value} {base : Heap}
local macro_rules | `(tactic| trivial) => `(tactic| first | assumption | (with_reducible rfl) | rfl | (apply Exists.intro) | (apply And.intro) | (exact Nat.le_of_ble_eq_true rfl) | (rw [sizeLine_eq]; omega) | omega)
def commB (z v : Str) : Bool := decide (strike (z.cps.toList ++ v.cps.toList) = strike (v.cps.toList ++ z.cps.toList))
def NoWord (K : PySem.W.Frag) (CW : Addr) (H : Hp) (x : V) : Prop := ∃ t, TyX K H x t ∧ PySem.W.kitOne K t (.ref CW) = some false
def spCommute (K : PySem.W.Frag) (CW CB2 : Addr) : Sp := fun vs H Q E => ∃ x y, vs = [x, y] ∧
  ((∃ (a b : Addr) (z v : Str), x = .ref a ∧ y = .ref b ∧ WordAt CW H a z ∧ WordAt CW H b v ∧ Fine z.cps.toList ∧ Fine v.cps.toList ∧ z.length ≤ 4000 ∧ v.length ≤ 4000 ∧ Q (.bl (commB z v)) H) ∨
   ((NoWord K CW H x ∨ (∃ a z, x = .ref a ∧ WordAt CW H a z) ∧ NoWord K CW H y) ∧ ∀ d, H d = none → E (.ref CB2) (some d) (upd H d (.xd [("at", .int 0)]))))
theorem ok_commute {f CW CB2 CM fB f_joined : Addr} {fd fdB d_joined : FuncData} {k : Nat} (F : Fun K "commute" "commute" s_commute f fd) (MO : MakeOk P w K mg base CW CB2 CM k) (T_BadWord : Err1 K mg "BadWord" "at" CB2 fB) (F_BadWord : Fun K "__init__" "BadWord.__init__" s_BadWord_init fB fdB) (b_BadWord : Binds K fdB ["self", "at"] [])
    (G_joined : FnOk P w K mg base CX0 (k + 1) f_joined d_joined ["one", "other"] spJoined) (g_joined : mg "joined" = some (.ref f_joined)) (k_joined : PySem.W.keepIn K (.ref f_joined) = true) (b_joined : Binds K d_joined ["one", "other"] []) (m_isinstance : mg "isinstance" = none) :
    FnOk P w K mg base (L2.CX P w) (k + 5) f fd ["one", "other"] (spCommute K CW CB2) := by
  have gW := MO.gW
  refine F.okX sc_commute (fun vs H Q E h => ?_) (fun cdv A outer s H vs Q E hr h => ?_)
  · obtain ⟨x, y, rfl, _⟩ := h
    rfl
  · obtain ⟨x, y, rfl, h⟩ := h
    have nd := sc_commute.nd
    refine ⟨_, (pss_cons (ps_if (PW.pt (pw_or (pt_not (pt_val (pe_callB call_isi (by rfl) m_isinstance boot_isinstance (pa_cons (pv 0) (pa_cons (pe_glob (v := .ref CW) (by rfl) gW rfl) pa_nil))))) (pw_or1 (pt_not (pt_val (pe_callB call_isi (by rfl) m_isinstance boot_isinstance (pa_cons (pv 1) (pa_cons (pe_glob (v := .ref CW) (by rfl) gW rfl) pa_nil)))))))) (pss_one (ps_raise1 T_BadWord (ok_BadWord_init (k := k) F_BadWord) b_BadWord (hr.mono (by omega)) rfl (takes_of rfl rfl rfl rfl) pass0 pe_int)) pss_nil)
      (pss_one (ps_ret (pe_cmpR op_eq (pe_call G_joined (hr.mono (by omega)) (by rfl) g_joined k_joined b_joined .nil pass0 (pa_cons (pe_fld (pv 0) rfl) (pa_cons (pe_fld (pv 1) rfl) pa_nil))) (pe_call G_joined (hr.mono (by omega)) (by rfl) g_joined k_joined b_joined .nil pass0 (pa_cons (pe_fld (pv 1) rfl) (pa_cons (pe_fld (pv 0) rfl) pa_nil))) (nomark _))))), ?_⟩
    rcases h with ⟨a, b, z, v, rfl, rfl, wa, wb, fz, fv, lz, lv, q⟩ | ⟨⟨t, ty, ek⟩ | ⟨⟨a, z, rfl, wa⟩, t, ty, ek⟩, bad⟩
    · refine ⟨.ref a, rfl, .ref a, .ref CW, .ref CW, .ref CW, true, rfl, .own CW, isC_ty MO.cl MO.ic wa, kit_self, true, rfl, ?_⟩
      refine iteF ⟨.ref b, rfl, .ref b, .ref CW, .ref CW, .ref CW, true, rfl, .own CW, isC_ty MO.cl MO.ic wb, kit_self, true, rfl, ?_⟩
      obtain ⟨dx, ha⟩ := wa
      obtain ⟨dy, hb⟩ := wb
      have cl := MO.cl
      have na := MO.na
      refine iteF ⟨.ref a, rfl, a, CW, dx, _, .str z, rfl, ha, MO.cl, MO.na, rfl, .ref b, rfl, b, CW, dy, _, .str v, rfl, hb, MO.cl, MO.na, rfl, z, v, rfl, by omega, by omega, fz, fv, ?_⟩
      refine ⟨.ref b, rfl, b, CW, dy, _, .str v, rfl, hb, MO.cl, MO.na, rfl, .ref a, rfl, a, CW, dx, _, .str z, rfl, ha, MO.cl, MO.na, rfl, v, z, rfl, by omega, by omega, fv, fz, ?_⟩
      refine ⟨rfl, ?_⟩
      have e : decide (V.str (SB.T (strike (z.cps.toList ++ v.cps.toList))) = V.str (SB.T (strike (v.cps.toList ++ z.cps.toList)))) = commB z v := by
        unfold commB
        refine decide_eq_decide.mpr ⟨fun h => ?_, fun h => by rw [h]⟩
        have := V.str.inj h
        exact congrArg (fun s : Str => s.cps.toList) this
      rw [e]
      exact q
    · refine ⟨x, rfl, x, .ref CW, t, .ref CW, false, rfl, .own CW, ty, ek, false, rfl, ?_⟩
      refine iteT ?_
      exact raised1 T_BadWord fun d hd => bad d hd
    · refine ⟨.ref a, rfl, .ref a, .ref CW, .ref CW, .ref CW, true, rfl, .own CW, isC_ty MO.cl MO.ic wa, kit_self, true, rfl, ?_⟩
      refine iteF ⟨y, rfl, y, .ref CW, t, .ref CW, false, rfl, .own CW, ty, ek, false, rfl, ?_⟩
      refine iteT ?_
      exact raised1 T_BadWord fun d hd => bad d hd
end
end K04
-- M24
namespace SB
open PySem PySem.Spec PyProof.Rows L2
/-! texts without their last letter, without their first and last one -/
theorem sIx_m1 (n d : Nat) : HT.sIx n d (some (-1)) = n - 1 := by
  unfold HT.sIx
  simp
  omega
theorem cut_butlast (z : Str) : (cutS z none (some (-1))).cps.toList = z.cps.toList.take (z.cps.toList.length - 1) := by
  unfold cutS
  rw [HT.sIx_none, sIx_m1]
  rfl
theorem cut_inner (z : Str) : (cutS z (some 1) (some (-1))).cps.toList = (z.cps.toList.drop 1).take (z.cps.toList.length - 2) := by
  unfold cutS
  have h1 : HT.sIx z.length 0 (some 1) = min 1 z.length := HT.sIx_nat _ _ 1
  rw [h1, sIx_m1]
  show ((z.cps.toList.drop (min 1 z.length)).take (z.length - 1 - min 1 z.length)) = _
  have hz : z.cps.toList.length = z.length := rfl
  rcases Nat.eq_zero_or_pos z.length with h | h
  · have : z.cps.toList = [] := List.eq_nil_of_length_eq_zero (hz.trans h)
    rw [this]; simp
  · rw [Nat.min_eq_left (by omega), hz]
    congr 1
end SB
-- K04I1
namespace K04
open PySem PySem.Spec PyProof.Rows L2 SB
section
variable {P : Program} {w : World} {K : PySem.W.Frag} {mg : Str → Option Value} {base : Heap}
local macro_rules | `(tactic| trivial) => `(tactic| first | assumption | (with_reducible rfl) | rfl | (apply Exists.intro) | (apply And.intro) | (exact Nat.le_of_ble_eq_true rfl) | (rw [sizeLine_eq]; omega) | omega)
def spJoin : Sp := fun vs H Q _ => ∃ a b : Str, vs = [.str a, .str b] ∧ a.length ≤ 100000 ∧ b.length ≤ 100000 ∧ Fine a.cps.toList ∧ Fine b.cps.toList ∧ Q (.str (T (strike (a.cps.toList ++ b.cps.toList)))) H
theorem ok_law_join {f f__law_undo : Addr} {fd d__law_undo : FuncData} {k : Nat} (F : Fun K "_law_join" "_law_join" s__law_join f fd)
    (G__law_undo : FnOk P w K mg base CX0 (k + 1) f__law_undo d__law_undo ["letter"] spUndo) (g__law_undo : mg "_law_undo" = some (.ref f__law_undo)) (k__law_undo : PySem.W.keepIn K (.ref f__law_undo) = true) (b__law_undo : Binds K d__law_undo ["letter"] []) :
    FnOk P w K mg base CX0 (k + 2) f fd ["one", "other"] spJoin := by
  refine F.ok sc__law_join (fun vs H Q E h => ?_) (fun cdv A outer s H vs Q E hr h => ?_)
  · obtain ⟨a, b, rfl, _⟩ := h
    rfl
  · obtain ⟨a, b, rfl, la, lb, fa, fb, q⟩ := h
    have nd := sc__law_join.nd
    refine ⟨_, (pss_cons (ps_par (i := 2) (j := 3) (by rfl) nd rfl rfl (by decide) rfl rfl (pa_cons (pv 0) (pa_cons (pv 1) pa_nil)) (by rfl))
      (pss_cons (ps_while PassesOwn.never (PW.pt (pw_and (pt_cmpR op_ne (pv 2) pe_str (nomark _)) (pw_and (pt_cmpR op_ne (pv 3) pe_str (nomark _)) (pw_and1 (pt_cmpR op_eq (pe_ix ix_str (pv 2) (pe_un un_neg pe_int) (fun _ _ => rfl)) (pe_call G__law_undo (hr.mono (by omega)) (by rfl) g__law_undo k__law_undo b__law_undo .nil pass0 (pa_cons (pe_ix ix_str (pv 3) pe_int (fun _ _ => rfl)) pa_nil)) (nomark _)))))) (pss_one (ps_par (i := 2) (j := 3) (by rfl) nd rfl rfl (by decide) rfl rfl (pa_cons (pe_slice sl_str (pv 2) po_none (po_some (pe_un un_neg pe_int))) (pa_cons (pe_slice sl_str (pv 3) (po_some pe_int) po_none) pa_nil)) (by rfl))))
      (pss_one (ps_ret (pe_op op_add_str (pv 2) (pv 3)))))), ?_⟩
    refine ⟨.str a, rfl, .str b, rfl, _, _, rfl, ?_⟩
    refine ⟨fun m σ H' => ∃ u v : Str, σ = [some (.str a), some (.str b), some (.str u), some (.str v)] ∧ H' = H ∧ u.length = m ∧ u.length ≤ 100000 ∧ v.length ≤ 100000 ∧ Fine u.cps.toList ∧ Fine v.cps.toList ∧ strike (u.cps.toList ++ v.cps.toList) = strike (a.cps.toList ++ b.cps.toList), ⟨a.length, a, b, rfl, rfl, rfl, la, lb, fa, fb, rfl⟩, ?_⟩
    rintro m σ H' ⟨u, v, rfl, rfl, rfl, lu, lv, fu, fv, es⟩
    have us : u.length ≤ sizeLine := by rw [sizeLine_eq]; omega
    have vs_ : v.length ≤ sizeLine := by rw [sizeLine_eq]; omega
    have out : (∀ x y, u.cps.toList.getLast? = some x → v.cps.toList[0]? = some y → y ≠ up x) → Q (.str (u ++ v)) H' := fun n => by
      have e1 : strike (u.cps.toList ++ v.cps.toList) = u.cps.toList ++ v.cps.toList := strike_fine (fine_join fu fv n)
      have e2 : u ++ v = SB.T (strike (a.cps.toList ++ b.cps.toList)) := by
        rw [← es, e1]
        exact str_ext (app_codes u v)
      rw [e2]
      exact q
    refine ⟨.str u, rfl, rfl, _, rfl, ite2 (fun e => ?_) (fun e => ?_)⟩
    · have un : u.cps.toList ≠ [] := fun h => by
        have : u = "" := str_ext h
        subst this
        exact nomatch e
      refine ⟨.str v, rfl, rfl, _, rfl, ite2 (fun e2 => ?_) (fun e2 => ?_)⟩
      · have vn : v.cps.toList ≠ [] := fun h => by
          have : v = "" := str_ext h
          subst this
          exact nomatch e2
        obtain ⟨x, hx⟩ : ∃ x, u.cps.toList.getLast? = some x := ⟨_, List.getLast?_eq_getLast un⟩
        obtain ⟨r, er⟩ := last_split hx
        obtain ⟨y, t, ev⟩ : ∃ y t, v.cps.toList = y :: t := by
          cases hv : v.cps.toList with
          | nil => exact absurd hv vn
          | cons y t => exact ⟨y, t, rfl⟩
        have hy : v.cps.toList[0]? = some y := by rw [ev]; rfl
        have yL : isL y = true := fv.1 y (List.mem_of_getElem? hy)
        have at1 : atI u.cps.toList (-1) = some x := by
          rw [er]
          exact atI_last _ _
        have at0 : atI v.cps.toList 0 = some y := atI_nat hy
        refine ⟨.str u, rfl, 1, rfl, u, -1, x, rfl, rfl, us, at1, .str v, rfl, v, 0, y, rfl, rfl, vs_, at0, y, rfl, yL, rfl, _, rfl, ?_⟩
        by_cases ec : x = up y
        · rw [decide_eq_true (congrArg (fun c => V.str (s1 c)) ec)]
          refine ⟨fun σ' H'' => ∃ m', m' < u.length ∧ _, fun σ' H'' h => h, ?_⟩
          have lu1 : (cutS u none (some (-1))).cps.toList = r := by
            rw [cut_butlast, er, List.length_append]
            show (r ++ [x]).take (r.length + 1 - 1) = r
            rw [Nat.add_sub_cancel, List.take_left]
          have lv1 : (cutS v (some 1) none).cps.toList = t := by
            have := cut_drop v 1
            rw [ev] at this
            exact this
          have ul : u.length = r.length + 1 := by
            show u.cps.toList.length = _
            rw [er, List.length_append]
            rfl
          have vl : v.length = t.length + 1 := by
            show v.cps.toList.length = _
            rw [ev]
            rfl
          repeat trivial
          rotate_left 2
          · exact r.length
          · omega
          · refine ⟨cutS u none (some (-1)), cutS v (some 1) none, rfl, rfl, congrArg List.length lu1, ?_, ?_, ?_, ?_, ?_⟩
            · have : (cutS u none (some (-1))).length = r.length := congrArg List.length lu1
              omega
            · have : (cutS v (some 1) none).length = t.length := congrArg List.length lv1
              omega
            · rw [lu1]
              rw [er] at fu
              exact fine_pre fu
            · rw [lv1]
              rw [ev] at fv
              exact fine_suf (a := [y]) fv
            · rw [lu1, lv1, ← es, er, ev, List.append_assoc]
              refine (strike_pair ?_ ec).symm
              have hL := allL_app fu.1 fv.1
              rw [er, ev, List.append_assoc] at hL
              exact hL
        · rw [decide_eq_false fun q => ec (s1_inj (V.str.inj q))]
          have o := out fun x' y' hx' hy' h => by
            rw [hx] at hx'
            rw [hy] at hy'
            cases hx'
            cases hy'
            rw [h, up_up x (fu.1 x (by rw [er]; exact List.mem_append_right _ List.mem_cons_self))] at ec
            exact ec rfl
          repeat trivial
      · have ev : v = "" := by
          by_cases h : v = ""
          · exact h
          · exact absurd (by simp [h]) e2
        have o := out fun x' y' hx' hy' => by
          rw [ev] at hy'
          exact nomatch hy'
        refine iteF ?_
        repeat trivial
    · have ev : u = "" := by
        by_cases h : u = ""
        · exact h
        · exact absurd (by simp [h]) e
      have o := out fun x' y' hx' hy' => by
        rw [ev] at hx'
        exact nomatch hx'
      refine iteF ?_
      repeat trivial
end
end K04
-- K04I2
namespace K04
open PySem PySem.Spec PyProof.Rows L2 SB
section
variable {P : Program} {w : World} {K : PySem.W.Frag} {mg : Str → Option Value} {base : Heap}
local macro_rules | `(tactic| trivial) => `(tactic| first | assumption | (with_reducible rfl) | rfl | (apply Exists.intro) | (apply And.intro) | (exact Nat.le_of_ble_eq_true rfl) | (rw [sizeLine_eq]; omega) | omega)
def spPow : Sp := fun vs H Q _ => ∃ (z : Str) (m : Int), vs = [.str z, .int m] ∧ Fine z.cps.toList ∧ z.length ≤ 1000 ∧ -50 ≤ m ∧ m ≤ 50 ∧ Q (.str (T (powI z.cps.toList m))) H
theorem rep_small {l : List Nat} {n : Nat} (hl : l.length ≤ 1000) (hn : n ≤ 50) : (strike (rep n l)).length ≤ 50000 := by
  have h1 := len_strike (rep n l)
  rw [rep_len] at h1
  have : n * l.length ≤ 50 * 1000 := Nat.mul_le_mul hn hl
  omega
theorem rep_next {l : List Nat} (h : Fine l) (n : Nat) : strike (strike (rep n l) ++ l) = strike (rep (n + 1) l) := by
  rw [(strike_app (allL_rep h.1) h.1).1, rep_snoc]
theorem ok_law_power {f f__law_join f__law_back : Addr} {fd d__law_join d__law_back : FuncData} {k : Nat} (F : Fun K "_law_power" "_law_power" s__law_power f fd)
    (G__law_join : FnOk P w K mg base CX0 (k + 2) f__law_join d__law_join ["one", "other"] spJoin) (g__law_join : mg "_law_join" = some (.ref f__law_join)) (k__law_join : PySem.W.keepIn K (.ref f__law_join) = true) (b__law_join : Binds K d__law_join ["one", "other"] [])
    (G__law_back : FnOk P w K mg base CX0 (k + 2) f__law_back d__law_back ["row"] spBack) (g__law_back : mg "_law_back" = some (.ref f__law_back)) (k__law_back : PySem.W.keepIn K (.ref f__law_back) = true) (b__law_back : Binds K d__law_back ["row"] [])
    (m_range : mg "range" = none) (m_abs : mg "abs" = none) : FnOk P w K mg base CX0 (k + 3) f fd ["row", "many"] spPow := by
  refine F.ok sc__law_power (fun vs H Q E h => ?_) (fun cdv A outer s H vs Q E hr h => ?_)
  · obtain ⟨z, m, rfl, _⟩ := h
    rfl
  · obtain ⟨z, m, rfl, fz, lz, m0, m1, q⟩ := h
    have nd := sc__law_power.nd
    refine ⟨_, (pss_cons (ps_par (i := 2) (j := 3) (by rfl) nd rfl rfl (by decide) rfl rfl (pa_cons (pe_ifExp (pt_cmpR op_gt (pv 1) pe_int (nomark _)) (pv 0) (pe_call G__law_back (hr.mono (by omega)) (by rfl) g__law_back k__law_back b__law_back .nil pass0 (pa_cons (pv 0) pa_nil))) (pa_cons pe_str pa_nil)) (by rfl))
      (pss_cons (ps_for PassesOwn.never rfl (pi_range1 (by rfl) m_range (pa_cons (pe_callB call_abs (by rfl) m_abs PyProof.Rows.boot_abs (pa_cons (pv 1) pa_nil)) pa_nil)) (pg_name (i := 4) nd rfl (.inl rfl)) (pss_one (ps_set (i := 3) nd rfl (.inl rfl) (pe_call G__law_join (hr.mono (by omega)) (by rfl) g__law_join k__law_join b__law_join .nil pass0 (pa_cons (pv 3) (pa_cons (pv 2) pa_nil))))))
      (pss_one (ps_ret (pv 3))))), ?_⟩
    have lz' : z.cps.toList.length ≤ 1000 := lz
    refine ⟨.int m, rfl, _, _, rfl, rfl, _, rfl, ite2 (fun e => ?_) (fun e => ?_)⟩
    · refine ⟨.str z, rfl, ?_⟩
      have fu : Fine z.cps.toList := fz
      have lu : z.cps.toList.length ≤ 1000 := lz
      have ab : (if m < 0 then -m else m) = ((m.natAbs : Nat) : Int) := by split <;> omega
      have fin : strike (rep m.natAbs z.cps.toList) = powI z.cps.toList m := by
        have h0 := of_decide_eq_true e
        unfold powI
        rw [if_pos (by omega), show m.natAbs = m.toNat by omega, pw_strike fz]
      refine ⟨_, _, rfl, .int m, rfl, m, rfl, (if m < 0 then -m else m), rfl, by split <;> omega, by split <;> omega, for_range (lo := 0) (n := (if m < 0 then -m else m).toNat) (fun i σ H' => ∃ y4, σ = [some (.str z), some (.int m), some (.str z), some (.str (SB.T (strike (rep i z.cps.toList)))), y4] ∧ H' = H) ⟨none, rfl, rfl⟩ (fun i σ H4 hi hPv => ?_) (fun σ H4 hPv => ?_)⟩
      · obtain ⟨y4, rfl, rfl⟩ := hPv
        have i50 : i ≤ 50 := by rw [ab] at hi; omega
        have r1 := rep_small lu i50
        refine ⟨.str (SB.T (strike (rep i z.cps.toList))), rfl, .str z, rfl, SB.T (strike (rep i z.cps.toList)), z, rfl, ?_, ?_, fine_strike (allL_rep fu.1), fu, ?_⟩
        · show (strike (rep i z.cps.toList)).length ≤ 100000
          omega
        · show z.cps.toList.length ≤ 100000
          omega
        · refine ⟨some (.int (0 + (i : Nat))), ?_, rfl⟩
          rw [show (SB.T (strike (rep i z.cps.toList))).cps.toList = strike (rep i z.cps.toList) from rfl, rep_next fu]
          rfl
      · obtain ⟨y4, rfl, rfl⟩ := hPv
        rw [show (if m < 0 then -m else m).toNat = m.natAbs by split <;> omega, fin]
        exact ⟨_, rfl, q⟩
    · refine ⟨.str z, rfl, z, rfl, by omega, fz.1, ?_⟩
      have fu : Fine (SB.T (inv z.cps.toList)).cps.toList := fine_inv fz
      have lu : (SB.T (inv z.cps.toList)).cps.toList.length ≤ 1000 := by show (inv z.cps.toList).length ≤ 1000; rw [inv_len]; exact lz
      have ab : (if m < 0 then -m else m) = ((m.natAbs : Nat) : Int) := by split <;> omega
      have fin : strike (rep m.natAbs (SB.T (inv z.cps.toList)).cps.toList) = powI z.cps.toList m := by
        have h0 : ¬ (0 < m) := fun h => e (decide_eq_true h)
        unfold powI
        by_cases h1 : m = 0
        · subst h1; rfl
        · rw [if_neg (by omega), show m.natAbs = (-m).toNat by omega]
          exact pw_strike (fine_inv fz) _
      refine ⟨_, _, rfl, .int m, rfl, m, rfl, (if m < 0 then -m else m), rfl, by split <;> omega, by split <;> omega, for_range (lo := 0) (n := (if m < 0 then -m else m).toNat) (fun i σ H' => ∃ y4, σ = [some (.str z), some (.int m), some (.str (SB.T (inv z.cps.toList))), some (.str (SB.T (strike (rep i (SB.T (inv z.cps.toList)).cps.toList)))), y4] ∧ H' = H) ⟨none, rfl, rfl⟩ (fun i σ H4 hi hPv => ?_) (fun σ H4 hPv => ?_)⟩
      · obtain ⟨y4, rfl, rfl⟩ := hPv
        have i50 : i ≤ 50 := by rw [ab] at hi; omega
        have r1 := rep_small lu i50
        refine ⟨.str (SB.T (strike (rep i (SB.T (inv z.cps.toList)).cps.toList))), rfl, .str (SB.T (inv z.cps.toList)), rfl, SB.T (strike (rep i (SB.T (inv z.cps.toList)).cps.toList)), (SB.T (inv z.cps.toList)), rfl, ?_, ?_, fine_strike (allL_rep fu.1), fu, ?_⟩
        · show (strike (rep i (SB.T (inv z.cps.toList)).cps.toList)).length ≤ 100000
          omega
        · show (SB.T (inv z.cps.toList)).cps.toList.length ≤ 100000
          omega
        · refine ⟨some (.int (0 + (i : Nat))), ?_, rfl⟩
          rw [show (SB.T (strike (rep i (SB.T (inv z.cps.toList)).cps.toList))).cps.toList = strike (rep i (SB.T (inv z.cps.toList)).cps.toList) from rfl, rep_next fu]
          rfl
      · obtain ⟨y4, rfl, rfl⟩ := hPv
        rw [show (if m < 0 then -m else m).toNat = m.natAbs by split <;> omega, fin]
        exact ⟨_, rfl, q⟩
end
end K04
-- K04I3
namespace K04
open PySem PySem.Spec PyProof.Rows L2 SB
section
variable {P : Program} {w : World} {K : PySem.W.Frag} {mg : Str → Option Value} {base : Heap}
local macro_rules | `(tactic| trivial) => `(tactic| first | assumption | (with_reducible rfl) | rfl | (apply Exists.intro) | (apply And.intro) | (exact Nat.le_of_ble_eq_true rfl) | (rw [sizeLine_eq]; omega) | omega)
def spDrawn : Sp := fun vs H Q _ => ∃ (p l : Addr) (N : Int), vs = [.ref p] ∧ PenQ l N H p ∧ N ≤ 90000 ∧ ∀ z H', Fine z.cps.toList → z.length ≤ 24 → Kept p H H' → PenQ l (N + 13) H' p → Q (.str z) H'
theorem ok_law_drawn {f f__law_row f__law_join f__law_power f__law_draw f__law_back : Addr} {fd d__law_row d__law_join d__law_power d__law_draw d__law_back : FuncData} {k : Nat} (F : Fun K "_law_drawn" "_law_drawn" s__law_drawn f fd)
    (G__law_row : FnOk P w K mg base CX0 (k + 3) f__law_row d__law_row ["pen", "most"] spRow) (g__law_row : mg "_law_row" = some (.ref f__law_row)) (k__law_row : PySem.W.keepIn K (.ref f__law_row) = true) (b__law_row : Binds K d__law_row ["pen", "most"] [])
    (G__law_join : FnOk P w K mg base CX0 (k + 3) f__law_join d__law_join ["one", "other"] spJoin) (g__law_join : mg "_law_join" = some (.ref f__law_join)) (k__law_join : PySem.W.keepIn K (.ref f__law_join) = true) (b__law_join : Binds K d__law_join ["one", "other"] [])
    (G__law_power : FnOk P w K mg base CX0 (k + 3) f__law_power d__law_power ["row", "many"] spPow) (g__law_power : mg "_law_power" = some (.ref f__law_power)) (k__law_power : PySem.W.keepIn K (.ref f__law_power) = true) (b__law_power : Binds K d__law_power ["row", "many"] [])
    (G__law_draw : FnOk P w K mg base CX0 (k + 3) f__law_draw d__law_draw ["pen", "many"] spDraw) (g__law_draw : mg "_law_draw" = some (.ref f__law_draw)) (k__law_draw : PySem.W.keepIn K (.ref f__law_draw) = true) (b__law_draw : Binds K d__law_draw ["pen", "many"] [])
    (G__law_back : FnOk P w K mg base CX0 (k + 3) f__law_back d__law_back ["row"] spBack) (g__law_back : mg "_law_back" = some (.ref f__law_back)) (k__law_back : PySem.W.keepIn K (.ref f__law_back) = true) (b__law_back : Binds K d__law_back ["row"] []) :
    FnOk P w K mg base CX0 (k + 4) f fd ["pen"] spDrawn := by
  refine F.ok sc__law_drawn (fun vs H Q E h => ?_) (fun cdv A outer s H vs Q E hr h => ?_)
  · obtain ⟨p, l, N, rfl, _⟩ := h
    rfl
  · obtain ⟨p, l, N, rfl, hP, hN, q⟩ := h
    have nd := sc__law_drawn.nd
    refine ⟨_, (pss_cons (ps_par (i := 1) (j := 2) (by rfl) nd rfl rfl (by decide) rfl rfl (pa_cons (pe_call G__law_row (hr.mono (by omega)) (by rfl) g__law_row k__law_row b__law_row .nil pass0 (pa_cons (pv 0) (pa_cons pe_int pa_nil))) (pa_cons (pe_call G__law_row (hr.mono (by omega)) (by rfl) g__law_row k__law_row b__law_row .nil pass0 (pa_cons (pv 0) (pa_cons pe_int pa_nil))) pa_nil)) (by rfl))
      (pss_one (ps_ret (pe_call G__law_join (hr.mono (by omega)) (by rfl) g__law_join k__law_join b__law_join .nil pass0 (pa_cons (pe_call G__law_join (hr.mono (by omega)) (by rfl) g__law_join k__law_join b__law_join .nil pass0 (pa_cons (pv 1) (pa_cons (pe_call G__law_power (hr.mono (by omega)) (by rfl) g__law_power k__law_power b__law_power .nil pass0 (pa_cons (pv 2) (pa_cons (pe_op op_add pe_int (pe_call G__law_draw (hr.mono (by omega)) (by rfl) g__law_draw k__law_draw b__law_draw .nil pass0 (pa_cons (pv 0) (pa_cons pe_int pa_nil)))) pa_nil))) pa_nil))) (pa_cons (pe_call G__law_back (hr.mono (by omega)) (by rfl) g__law_back k__law_back b__law_back .nil pass0 (pa_cons (pv 1) pa_nil)) pa_nil)))))), ?_⟩
    refine ⟨.ref p, rfl, p, l, N, 4, rfl, hP, by omega, by omega, by omega, fun c H1 oc k1 p1 => ?_⟩
    refine ⟨.ref p, rfl, p, l, N + 4 + 2, 4, rfl, p1, by omega, by omega, by omega, fun u H2 ou k2 p2 => ?_⟩
    have fc : Fine c.cps.toList := (fine_iff _).mp oc.1
    have fu : Fine u.cps.toList := (fine_iff _).mp ou.1
    have lc : c.length ≤ 4 := oc.2
    have lu : u.length ≤ 4 := ou.2
    refine ⟨_, _, rfl, .str c, rfl, .str u, rfl, .ref p, rfl, p, l, N + 4 + 2 + 4 + 2, 4, rfl, p2, by omega, by omega, by omega, fun d H3 d0 d1 k3 p3 => ?_⟩
    have fp := powI_fine fu (1 + d)
    have lu' : u.cps.toList.length ≤ 4 := lu
    have lp : (powI u.cps.toList (1 + d)).length ≤ 16 := by
      rw [powI_gp fu]
      refine Nat.le_trans (len_strike _) ?_
      unfold gp
      rw [if_pos (by omega), rep_len]
      have : (1 + d).toNat * u.cps.toList.length ≤ 4 * 4 := Nat.mul_le_mul (by omega) lu'
      omega
    have lp2 : (SB.T (powI u.cps.toList (1 + d))).length ≤ 16 := lp
    have lj : (SB.T (strike (c.cps.toList ++ powI u.cps.toList (1 + d)))).length ≤ 20 := by
      refine Nat.le_trans (len_strike _) ?_
      rw [List.length_append]
      have : c.cps.toList.length ≤ 4 := lc
      omega
    have fj : Fine (strike (c.cps.toList ++ powI u.cps.toList (1 + d))) := fine_strike (allL_app fc.1 fp.1)
    have lb : (SB.T (inv c.cps.toList)).length ≤ 4 := by
      show (inv c.cps.toList).length ≤ 4
      rw [inv_len]
      exact lc
    refine ⟨_, _, rfl, rfl, u, 1 + d, rfl, fu, by omega, by omega, by omega, ?_⟩
    refine ⟨c, SB.T (powI u.cps.toList (1 + d)), rfl, by omega, by omega, fc, fp, ?_⟩
    refine ⟨.str c, rfl, c, rfl, by omega, fc.1, ?_⟩
    refine ⟨SB.T (strike (c.cps.toList ++ powI u.cps.toList (1 + d))), SB.T (inv c.cps.toList), rfl, by omega, by omega, fj, fine_inv fc, ?_⟩
    refine q _ H3 (fine_strike (allL_app fj.1 (fine_inv fc).1)) ?_ (k1.trans (k2.trans k3)) (p3.mono (by omega))
    refine Nat.le_trans (len_strike _) ?_
    rw [List.length_append]
    have h1 : (SB.T (strike (c.cps.toList ++ powI u.cps.toList (1 + d)))).cps.toList.length ≤ 20 := lj
    have h2 : (SB.T (inv c.cps.toList)).cps.toList.length ≤ 4 := lb
    exact Nat.add_le_add h1 h2
end
end K04
-- K04I4
namespace K04
open PySem PySem.Spec PyProof.Rows L2 SB
theorem inner_at {l : List Nat} {g i : Nat} (hg : 2 * g + i < l.length) : ((l.drop g).take (l.length - 2 * g))[i]? = l[g + i]? := by
  rw [List.getElem?_take_of_lt (by omega), List.getElem?_drop]
theorem inner_next {l : List Nat} {g : Nat} (hg : 2 * g + 1 < l.length) : ((((l.drop g).take (l.length - 2 * g)).drop 1).take (((l.drop g).take (l.length - 2 * g)).length - 2)) = (l.drop (g + 1)).take (l.length - 2 * (g + 1)) := by
  rw [List.length_take, List.length_drop, List.drop_take, List.drop_drop, List.take_take]
  congr 1
  omega
section
variable {P : Program} {w : World} {K : PySem.W.Frag} {mg : Str → Option Value} {base : Heap}
local macro_rules | `(tactic| trivial) => `(tactic| first | assumption | (with_reducible rfl) | rfl | (apply Exists.intro) | (apply And.intro) | (exact Nat.le_of_ble_eq_true rfl) | (rw [sizeLine_eq]; omega) | omega)
def spPeeled : Sp := fun vs H Q _ => ∃ z : Str, vs = [.str z] ∧ z.length ≤ 4000 ∧ allL z.cps.toList ∧ ∀ p, H p = none → Q (.ref p) (upd H p (.tup [.str (T (pre z.cps.toList)), .str (T (mid z.cps.toList))]))
theorem ok_law_peeled {f f__law_undo : Addr} {fd d__law_undo : FuncData} {k : Nat} (F : Fun K "_law_peeled" "_law_peeled" s__law_peeled f fd) (m_len : mg "len" = none)
    (G__law_undo : FnOk P w K mg base CX0 (k + 1) f__law_undo d__law_undo ["letter"] spUndo) (g__law_undo : mg "_law_undo" = some (.ref f__law_undo)) (k__law_undo : PySem.W.keepIn K (.ref f__law_undo) = true) (b__law_undo : Binds K d__law_undo ["letter"] []) :
    FnOk P w K mg base CX0 (k + 2) f fd ["row"] spPeeled := by
  refine F.ok sc__law_peeled (fun vs H Q E h => ?_) (fun cdv A outer s H vs Q E hr h => ?_)
  · obtain ⟨z, rfl, _⟩ := h
    rfl
  · obtain ⟨z, rfl, lz, zL, q⟩ := h
    have nd := sc__law_peeled.nd
    refine ⟨_, (pss_cons (ps_par (i := 1) (j := 2) (by rfl) nd rfl rfl (by decide) rfl rfl (pa_cons pe_str (pa_cons (pv 0) pa_nil)) (by rfl))
      (pss_cons (ps_while PassesOwn.never (PW.pt (pw_and (pt_cmpR op_gt (pe_callB call_len (by rfl) m_len PySem.boot_len (pa_cons (pv 2) pa_nil)) pe_int (nomark _)) (pw_and1 (pt_cmpR op_eq (pe_ix ix_str (pv 2) pe_int (fun _ _ => rfl)) (pe_call G__law_undo (hr.mono (by omega)) (by rfl) g__law_undo k__law_undo b__law_undo .nil pass0 (pa_cons (pe_ix ix_str (pv 2) (pe_un un_neg pe_int) (fun _ _ => rfl)) pa_nil)) (nomark _))))) (pss_one (ps_par (i := 1) (j := 2) (by rfl) nd rfl rfl (by decide) rfl rfl (pa_cons (pe_op op_add_str (pv 1) (pe_ix ix_str (pv 2) pe_int (fun _ _ => rfl))) (pa_cons (pe_slice sl_str (pv 2) (po_some pe_int) (po_some (pe_un un_neg pe_int))) pa_nil)) (by rfl))))
      (pss_one (ps_ret (pe_tup (pa_cons (pv 1) (pa_cons (pv 2) pa_nil))))))), ?_⟩
    have hz : z.cps.toList.length = z.length := rfl
    refine ⟨.str z, rfl, _, _, rfl, ?_⟩
    refine ⟨fun m σ H' => ∃ (g : Nat) (u v : Str), σ = [some (.str z), some (.str u), some (.str v)] ∧ H' = H ∧ v.length = m ∧ 2 * g ≤ z.length ∧ u.cps.toList = z.cps.toList.take g ∧ v.cps.toList = (z.cps.toList.drop g).take (z.cps.toList.length - 2 * g) ∧ coatAt z.cps.toList g = coat z.cps.toList, ⟨z.length, 0, "", z, rfl, rfl, rfl, Nat.zero_le _, rfl, ?_, rfl⟩, ?_⟩
    · rw [List.drop_zero]
      exact (List.take_of_length_le (Nat.le_refl _)).symm
    rintro m σ H' ⟨g, u, v, rfl, rfl, rfl, lg, hu, hv, es⟩
    rw [coat_step] at es
    have lv : v.length = z.length - 2 * g := by
      show v.cps.toList.length = _
      rw [hv, List.length_take, List.length_drop]
      omega
    have lu : u.length = g := by
      show u.cps.toList.length = _
      rw [hu, List.length_take]
      omega
    have vs_ : v.length ≤ sizeLine := by rw [sizeLine_eq]; omega
    have us : u.length ≤ sizeLine := by rw [sizeLine_eq]; omega
    have out : coat z.cps.toList = g → ∀ p, H' p = none → Q (.ref p) (upd H' p (.tup [.str u, .str v])) := fun e p hp => by
      have e1 : u = SB.T (pre z.cps.toList) := str_ext (by rw [hu]; unfold pre; rw [e]; rfl)
      have e2 : v = SB.T (mid z.cps.toList) := str_ext (by rw [hv]; unfold mid; rw [e]; rfl)
      rw [e1, e2]
      exact q p hp
    refine ⟨.str v, rfl, .str v, v.length, rfl, ⟨vs_, rfl⟩, _, _, rfl, rfl, _, rfl, ite2 (fun e => ?_) (fun e => ?_)⟩
    · have l1 : 2 * g + 1 < z.length := by
        have := of_decide_eq_true e
        omega
      obtain ⟨x, hx⟩ : ∃ x, z.cps.toList[g]? = some x := ⟨_, List.getElem?_eq_getElem (by omega)⟩
      obtain ⟨y, hy⟩ : ∃ y, z.cps.toList[z.cps.toList.length - 1 - g]? = some y := ⟨_, List.getElem?_eq_getElem (by omega)⟩
      have yL : isL y = true := zL y (List.mem_of_getElem? hy)
      have at0 : atI v.cps.toList 0 = some x := by
        have h0 : v.cps.toList[0]? = some x := by
          rw [hv, inner_at (by omega)]
          exact hx
        exact atI_nat h0
      have at1 : atI v.cps.toList (-1) = some y := by
        have hl : v.cps.toList.getLast? = some y := by
          rw [List.getLast?_eq_getElem?, show v.cps.toList.length - 1 = z.length - 2 * g - 1 by rw [show v.cps.toList.length = v.length from rfl, lv], hv, inner_at (by omega)]
          rw [show g + (z.length - 2 * g - 1) = z.cps.toList.length - 1 - g by omega]
          exact hy
        obtain ⟨r, er⟩ := last_split hl
        rw [er]
        exact atI_last _ _
      rw [hx, hy] at es
      refine ⟨.str v, rfl, v, 0, x, rfl, rfl, vs_, at0, .str v, rfl, 1, rfl, v, -1, y, rfl, rfl, vs_, at1, y, rfl, yL, rfl, _, rfl, ?_⟩
      by_cases ec : x = up y
      · rw [decide_eq_true (congrArg (fun c => V.str (s1 c)) ec)]
        rw [if_pos ⟨by omega, congrArg some ec⟩] at es
        refine ⟨fun σ' H'' => ∃ m', m' < v.length ∧ _, fun σ' H'' h => h, ?_⟩
        have ux : u.length + (s1 x).length ≤ sizeLine := by
          show u.length + 1 ≤ _
          rw [sizeLine_eq]
          omega
        repeat trivial
        rotate_left 2
        · exact v.length - 2
        · omega
        · have li : (cutS v (some 1) (some (-1))).cps.toList = (z.cps.toList.drop (g + 1)).take (z.cps.toList.length - 2 * (g + 1)) := by
            rw [cut_inner, hv]
            exact inner_next (by omega)
          refine ⟨g + 1, u ++ s1 x, cutS v (some 1) (some (-1)), rfl, rfl, ?_, by omega, ?_, li, es⟩
          · show (cutS v (some 1) (some (-1))).cps.toList.length = _
            rw [li, List.length_take, List.length_drop]
            omega
          · rw [app_codes, hu, List.take_add_one, hx]
            rfl
      · rw [decide_eq_false fun q => ec (s1_inj (V.str.inj q))]
        rw [if_neg fun h => ec (Option.some.inj h.2)] at es
        have o := out es.symm
        repeat trivial
        done
    · have ge : ¬ (2 * g + 1 < z.length) := fun h => e (decide_eq_true (by omega))
      rw [if_neg fun h => ge h.1] at es
      have o := out es.symm
      refine iteF ?_
      repeat trivial
      done
end
end K04
-- K04I5
namespace K04
open PySem PySem.Spec PyProof.Rows L2 SB
section
variable {P : Program} {w : World} {K : PySem.W.Frag} {mg : Str → Option Value} {base : Heap}
local macro_rules | `(tactic| trivial) => `(tactic| first | assumption | (with_reducible rfl) | rfl | (apply Exists.intro) | (apply And.intro) | (exact Nat.le_of_ble_eq_true rfl) | (rw [sizeLine_eq]; omega) | omega)
def spRootL : Sp := fun vs H Q _ => ∃ z : Str, vs = [.str z] ∧ z.length ≤ 4000 ∧ Fine z.cps.toList ∧ z.cps.toList ≠ [] ∧ ∀ p H', Same H H' → H' p = none → Q (.ref p) (upd H' p (.tup [.str (T (root z.cps.toList)), .int (times (mid z.cps.toList) : Nat)]))
theorem ok_law_root {f f__law_peeled f__law_back : Addr} {fd d__law_peeled d__law_back : FuncData} {k : Nat} (F : Fun K "_law_root" "_law_root" s__law_root f fd) (m_len : mg "len" = none) (m_range : mg "range" = none)
    (G__law_peeled : FnOk P w K mg base CX0 (k + 2) f__law_peeled d__law_peeled ["row"] spPeeled) (g__law_peeled : mg "_law_peeled" = some (.ref f__law_peeled)) (k__law_peeled : PySem.W.keepIn K (.ref f__law_peeled) = true) (b__law_peeled : Binds K d__law_peeled ["row"] [])
    (G__law_back : FnOk P w K mg base CX0 (k + 2) f__law_back d__law_back ["row"] spBack) (g__law_back : mg "_law_back" = some (.ref f__law_back)) (k__law_back : PySem.W.keepIn K (.ref f__law_back) = true) (b__law_back : Binds K d__law_back ["row"] []) :
    FnOk P w K mg base CX0 (k + 3) f fd ["row"] spRootL := by
  refine F.ok sc__law_root (fun vs H Q E h => ?_) (fun cdv A outer s H vs Q E hr h => ?_)
  · obtain ⟨z, rfl, _⟩ := h
    rfl
  · obtain ⟨z, rfl, lz, fz, hn, q⟩ := h
    have nd := sc__law_root.nd
    refine ⟨_, (pss_cons (ps_asg (pe_call G__law_peeled (hr.mono (by omega)) (by rfl) g__law_peeled k__law_peeled b__law_peeled .nil pass0 (pa_cons (pv 0) pa_nil)) (pg_tup rfl (pgs_cons (pg_name (i := 1) nd rfl (.inl rfl)) (pgs_cons (pg_name (i := 2) nd rfl (.inl rfl)) pgs_nil))))
      (pss_cons (ps_for PassesOwn.never rfl (pi_range3 (by rfl) m_range (pa_cons (pe_callB call_len (by rfl) m_len PySem.boot_len (pa_cons (pv 2) pa_nil)) (pa_cons pe_int (pa_cons (pe_un un_neg pe_int) pa_nil)))) (pg_name (i := 3) nd rfl (.inl rfl)) (pss_cons (ps_set (i := 4) nd rfl (.inl rfl) (pe_slice sl_str (pv 2) po_none (po_some (pe_op op_fdiv (pe_callB call_len (by rfl) m_len PySem.boot_len (pa_cons (pv 2) pa_nil)) (pv 3)))))
      (pss_one (ps_if (pt_cmpR op_eq (pe_op op_repS (pv 4) (pv 3)) (pv 2) (nomark _)) (pss_one (ps_ret (pe_tup (pa_cons (pe_op op_add_str (pe_op op_add_str (pv 1) (pv 4)) (pe_call G__law_back (hr.mono (by omega)) (by rfl) g__law_back k__law_back b__law_back .nil pass0 (pa_cons (pv 1) pa_nil))) (pa_cons (pv 3) pa_nil))))) pss_nil))))
      (pss_one (ps_ret (pe_tup (pa_cons (pv 0) (pa_cons pe_int pa_nil))))))), ?_⟩
    have lz' : z.cps.toList.length ≤ 4000 := lz
    have hc := (coat_is z.cps.toList).1
    have crm := mid_cr fz hn
    have lp : (pre z.cps.toList).length = coat z.cps.toList := pre_len _
    have lm : (mid z.cps.toList).length = z.cps.toList.length - 2 * coat z.cps.toList := mid_len _
    have m1 : 0 < (mid z.cps.toList).length := crm.pos
    have lT : (SB.T (mid z.cps.toList)).length = (mid z.cps.toList).length := rfl
    have ls : (SB.T (mid z.cps.toList)).length ≤ sizeLine := by rw [sizeLine_eq]; omega
    refine ⟨.str z, rfl, z, rfl, by omega, fz.1, fun p0 hp0 => ?_⟩
    have s0 := same_new (o := .tup [.str (SB.T (pre z.cps.toList)), .str (SB.T (mid z.cps.toList))]) hp0
    refine ⟨p0, _, rfl, .inl (.inl upd_same), rfl, _, _, rfl, _, _, rfl, rfl, ?_⟩
    refine ⟨.str (SB.T (mid z.cps.toList)), rfl, .str (SB.T (mid z.cps.toList)), (mid z.cps.toList).length, rfl, ⟨ls, rfl⟩, 1, rfl, _, _, _, (mid z.cps.toList).length, rfl, ?_, ?_⟩
    · have := RgC.neg (i := ((mid z.cps.toList).length : Nat)) (j := 0) (by omega) (by omega) (by omega) (by omega)
      rw [Int.sub_zero, Int.toNat_natCast] at this
      exact this
    · refine for_rangeC (fun i σ H' => ∃ y3 y4, σ = [some (.str z), some (.str (SB.T (pre z.cps.toList))), some (.str (SB.T (mid z.cps.toList))), y3, y4] ∧ Same H H' ∧ times (mid z.cps.toList) + i ≤ (mid z.cps.toList).length) ⟨none, none, rfl, s0, times_le⟩ (fun i σ H1 hi hPv => ?_) (fun σ H1 hPv => ?_)
      · obtain ⟨y3, y4, rfl, s1', ht⟩ := hPv
        obtain ⟨M, hM⟩ : ∃ M, M = (mid z.cps.toList).length - i := ⟨_, rfl⟩
        have eM : (((mid z.cps.toList).length : Nat) : Int) + ((i : Nat) : Int) * (-1) = ((M : Nat) : Int) := by omega
        rw [eM]
        have M1 : 1 ≤ M := by omega
        have eD : (((mid z.cps.toList).length : Nat) : Int) / ((M : Nat) : Int) = (((mid z.cps.toList).length / M : Nat) : Int) := (Int.natCast_ediv _ _).symm
        have cu : (cutS (SB.T (mid z.cps.toList)) none (some (((mid z.cps.toList).length / M : Nat) : Int))).cps.toList = (mid z.cps.toList).take ((mid z.cps.toList).length / M) := cut_take _ _
        have lu : (cutS (SB.T (mid z.cps.toList)) none (some (((mid z.cps.toList).length / M : Nat) : Int))).length = (mid z.cps.toList).length / M := by
          refine (congrArg List.length cu).trans ?_
          rw [List.length_take]
          exact Nat.min_eq_left (Nat.div_le_self _ _)
        have mm : M * ((mid z.cps.toList).length / M) ≤ (mid z.cps.toList).length := Nat.mul_div_le _ _
        have dle := Nat.div_le_self (mid z.cps.toList).length M
        have mo : MulOk (cutS (SB.T (mid z.cps.toList)) none (some (((mid z.cps.toList).length / M : Nat) : Int))) ((M : Nat) : Int) := mul_ok (by omega) (by omega) (by omega) (by rw [Int.toNat_natCast, lu]; omega)
        have cr : (Txt.mul (cutS (SB.T (mid z.cps.toList)) none (some (((mid z.cps.toList).length / M : Nat) : Int))) ((M : Nat) : Int)).cps.toList = rep M ((mid z.cps.toList).take ((mid z.cps.toList).length / M)) := by
          rw [rep_codes, cu, Int.toNat_natCast]
        refine ⟨.str (SB.T (mid z.cps.toList)), rfl, .str (SB.T (mid z.cps.toList)), rfl, .str (SB.T (mid z.cps.toList)), (mid z.cps.toList).length, rfl, ⟨ls, rfl⟩, .int (M : Nat), rfl, _, _, rfl, rfl, ⟨by omega, by omega⟩, ?_⟩
        refine ⟨_, congrArg V.int eD, ?_⟩
        repeat trivial
        refine ite2 (fun e => ?_) (fun e => ?_)
        · have e1 : rep M ((mid z.cps.toList).take ((mid z.cps.toList).length / M)) = mid z.cps.toList := by
            rw [← cr]
            exact congrArg (fun s : Str => s.cps.toList) (V.str.inj (of_decide_eq_true e))
          have e2 := try_le m1 M1 (by omega) e1
          have e3 : M = times (mid z.cps.toList) := by omega
          have e4 : (mid z.cps.toList).length / M = uq (mid z.cps.toList) := by rw [e3, div_times m1]
          have pL : allL (pre z.cps.toList) := allL_pre fz.1
          have lP : (SB.T (pre z.cps.toList)).length = coat z.cps.toList := lp
          have lI : (SB.T (inv (pre z.cps.toList))).length = coat z.cps.toList := (inv_len _).trans lp
          have er : SB.T (pre z.cps.toList) ++ cutS (SB.T (mid z.cps.toList)) none (some (((mid z.cps.toList).length / M : Nat) : Int)) ++ SB.T (inv (pre z.cps.toList)) = SB.T (root z.cps.toList) := by
            refine str_ext ?_
            rw [app_codes, app_codes, cu, e4]
            rfl
          have hl : (SB.T (pre z.cps.toList) ++ cutS (SB.T (mid z.cps.toList)) none (some (((mid z.cps.toList).length / M : Nat) : Int))).length + (SB.T (inv (pre z.cps.toList))).length ≤ sizeLine := by
            rw [sizeLine_eq, Str.length_append, lu]
            omega
          have fin : ∀ p, H1 p = none → Q (.ref p) (upd H1 p (.tup [.str (SB.T (pre z.cps.toList) ++ cutS (SB.T (mid z.cps.toList)) none (some (((mid z.cps.toList).length / M : Nat) : Int)) ++ SB.T (inv (pre z.cps.toList))), .int (M : Nat)])) := fun p hp => by
            rw [er, e3]
            exact q p H1 s1' hp
          refine ⟨.str (SB.T (pre z.cps.toList)), rfl, _, rfl, _, _, rfl, rfl, by rw [sizeLine_eq, lu]; omega, .str (SB.T (pre z.cps.toList)), rfl, SB.T (pre z.cps.toList), rfl, by omega, pL, _, _, rfl, rfl, hl, ?_⟩
          repeat trivial
          done
        · have e3 : M ≠ times (mid z.cps.toList) := fun h => e (decide_eq_true (congrArg V.str (str_ext (cr.trans (by rw [h]; exact try_times m1)))))
          refine ⟨_, _, rfl, s1', ?_⟩
          omega
      · obtain ⟨y3, y4, rfl, s1', ht⟩ := hPv
        have := times_pos m1
        omega
end
end K04
-- K04I6
namespace K04
open PySem PySem.Spec PyProof.Rows L2 SB
theorem commB_nil {a b : Str} (h : a = "" ∨ b = "") : commB a b = true := by
  refine decide_eq_true ?_
  rcases h with h | h
  · subst h
    show strike ([] ++ b.cps.toList) = strike (b.cps.toList ++ [])
    rw [List.append_nil, List.nil_append]
  · subst h
    show strike (a.cps.toList ++ []) = strike ([] ++ a.cps.toList)
    rw [List.append_nil, List.nil_append]
theorem commB_roots {a b : Str} (fa : Fine a.cps.toList) (fb : Fine b.cps.toList) (na : a.cps.toList ≠ []) (nb : b.cps.toList ≠ []) :
    commB a b = (decide (V.str (T (root a.cps.toList)) = V.str (T (root b.cps.toList))) || decide (V.str (T (root a.cps.toList)) = V.str (T (inv (root b.cps.toList))))) := by
  have inj : ∀ x y : List Nat, V.str (T x) = V.str (T y) ↔ x = y := fun x y => ⟨fun h => congrArg (fun s : Str => s.cps.toList) (V.str.inj h), fun h => by rw [h]⟩
  rw [← Bool.decide_or]
  refine decide_eq_decide.mpr ?_
  rw [inj, inj]
  constructor
  · intro h
    exact comm_roots fb fa nb na h.symm
  · intro h
    exact (same_roots fb fa nb na h).symm
section
variable {P : Program} {w : World} {K : PySem.W.Frag} {mg : Str → Option Value} {base : Heap}
local macro_rules | `(tactic| trivial) => `(tactic| first | assumption | (with_reducible rfl) | rfl | (apply Exists.intro) | (apply And.intro) | (exact Nat.le_of_ble_eq_true rfl) | (rw [sizeLine_eq]; omega) | omega)
def spAlike : Sp := fun vs H Q _ => ∃ a b : Str, vs = [.str a, .str b] ∧ a.length ≤ 4000 ∧ b.length ≤ 4000 ∧ Fine a.cps.toList ∧ Fine b.cps.toList ∧ ∀ H', Same H H' → Q (.bl (commB a b)) H'
theorem ok_law_alike {f f__law_root f__law_back : Addr} {fd d__law_root d__law_back : FuncData} {k : Nat} (F : Fun K "_law_alike" "_law_alike" s__law_alike f fd)
    (G__law_root : FnOk P w K mg base CX0 (k + 3) f__law_root d__law_root ["row"] spRootL) (g__law_root : mg "_law_root" = some (.ref f__law_root)) (k__law_root : PySem.W.keepIn K (.ref f__law_root) = true) (b__law_root : Binds K d__law_root ["row"] [])
    (G__law_back : FnOk P w K mg base CX0 (k + 3) f__law_back d__law_back ["row"] spBack) (g__law_back : mg "_law_back" = some (.ref f__law_back)) (k__law_back : PySem.W.keepIn K (.ref f__law_back) = true) (b__law_back : Binds K d__law_back ["row"] []) :
    FnOk P w K mg base CX0 (k + 4) f fd ["one", "other"] spAlike := by
  refine F.ok sc__law_alike (fun vs H Q E h => ?_) (fun cdv A outer s H vs Q E hr h => ?_)
  · obtain ⟨a, b, rfl, _⟩ := h
    rfl
  · obtain ⟨a, b, rfl, la, lb, fa, fb, q⟩ := h
    have nd := sc__law_alike.nd
    refine ⟨_, (pss_cons (ps_if (PW.pt (pw_or (pt_cmpR op_eq (pv 0) pe_str (nomark _)) (pw_or1 (pt_cmpR op_eq (pv 1) pe_str (nomark _))))) (pss_one (ps_ret pe_bl)) pss_nil)
      (pss_cons (ps_par (i := 2) (j := 3) (by rfl) nd rfl rfl (by decide) rfl rfl (pa_cons (pe_ix ix_tup (pe_call G__law_root (hr.mono (by omega)) (by rfl) g__law_root k__law_root b__law_root .nil pass0 (pa_cons (pv 0) pa_nil)) pe_int (fun _ _ => rfl)) (pa_cons (pe_ix ix_tup (pe_call G__law_root (hr.mono (by omega)) (by rfl) g__law_root k__law_root b__law_root .nil pass0 (pa_cons (pv 1) pa_nil)) pe_int (fun _ _ => rfl)) pa_nil)) (by rfl))
      (pss_one (ps_ret (pe_or (pe_cmpR op_eq (pv 2) (pv 3) (nomark _)) (pe_one (pe_cmpR op_eq (pv 2) (pe_call G__law_back (hr.mono (by omega)) (by rfl) g__law_back k__law_back b__law_back .nil pass0 (pa_cons (pv 3) pa_nil)) (nomark _)))))))), ?_⟩
    have nil : (a = "" ∨ b = "") → Q (.bl true) H := fun h => by
      have := q H (fun _ _ e => e)
      rw [commB_nil h] at this
      exact this
    refine ⟨.str a, rfl, rfl, _, rfl, ite2 (fun e => ?_) (fun e => ?_)⟩
    · have := nil (.inl (V.str.inj (of_decide_eq_true e)))
      refine iteT ?_
      exact this
    · refine ⟨.str b, rfl, rfl, _, rfl, ite2 (fun e2 => ?_) (fun e2 => ?_)⟩
      · have := nil (.inr (V.str.inj (of_decide_eq_true e2)))
        exact this
      · have na : a.cps.toList ≠ [] := fun h => e (decide_eq_true (congrArg V.str (str_ext h)))
        have nb : b.cps.toList ≠ [] := fun h => e2 (decide_eq_true (congrArg V.str (str_ext h)))
        refine ⟨.str a, rfl, a, rfl, la, fa, na, fun p1 H1 s1' h1 => ?_⟩
        have t1 := same_new (o := .tup [.str (SB.T (root a.cps.toList)), .int (times (mid a.cps.toList) : Nat)]) h1
        refine ⟨p1, _, 0, .str (SB.T (root a.cps.toList)), rfl, rfl, .inl (.inl upd_same), rfl, ?_⟩
        refine ⟨.str b, rfl, b, rfl, lb, fb, nb, fun p2 H2 s2' h2 => ?_⟩
        have t2 := same_new (o := .tup [.str (SB.T (root b.cps.toList)), .int (times (mid b.cps.toList) : Nat)]) h2
        refine ⟨p2, _, 0, .str (SB.T (root b.cps.toList)), rfl, rfl, .inl (.inl upd_same), rfl, ?_⟩
        have fin := q _ (s1'.trans (t1.trans (s2'.trans t2)))
        rw [commB_roots fa fb na nb] at fin
        refine ⟨_, _, rfl, ?_⟩
        have rb := root_fine fb nb
        have lr : (root b.cps.toList).length ≤ 100000 := by
          have h1 := mid_len b.cps.toList
          have h2 := unit_len (mid_cr fb nb).pos
          have h3 := Nat.le_of_dvd (mid_cr fb nb).pos (uq_div (mid_cr fb nb).pos).2.1
          have h4 := (coat_is b.cps.toList).1
          have h5 : b.cps.toList.length ≤ 4000 := lb
          unfold root
          rw [List.length_append, List.length_append, inv_len, pre_len, h2]
          omega
        refine ⟨.str (SB.T (root a.cps.toList)), rfl, .str (SB.T (root b.cps.toList)), rfl, rfl, ?_⟩
        refine ⟨_, rfl, ite2 (fun e3 => ?_) (fun e3 => ?_)⟩
        · rw [e3, Bool.true_or] at fin
          exact fin
        · rw [Bool.eq_false_iff.mpr e3, Bool.false_or] at fin
          exact ⟨.str (SB.T (root a.cps.toList)), rfl, .str (SB.T (root b.cps.toList)), rfl, SB.T (root b.cps.toList), rfl, lr, rb.1, rfl, fin⟩
end
end K04
-- K04J1
namespace K04
open PySem PySem.Spec PyProof.Rows L2 SB
/-- what is told of Words under operators and methods -/
structure OpsOk (P : Program) (w : World) (K : PySem.W.Frag) (mg : Str → Option Value) (base : Heap) (CW CB1 CB2 CM : Addr) (k : Nat) : Prop where
  sf : PySem.W.selfFirst K CW = true
  mul_ : ∃ f fd, PySem.W.findIn K (.ref CW) "__mul__" = some (some (.ref f)) ∧ PySem.W.isFn K (.ref f) = true ∧ FnOk P w K mg base (L2.CX P w) (k + 5) f fd ["self", "other"] (spMul K CW CB2 CM) ∧ Binds K fd ["self", "other"] []
  inv_ : ∃ f fd, PySem.W.findIn K (.ref CW) "__invert__" = some (some (.ref f)) ∧ PySem.W.isFn K (.ref f) = true ∧ FnOk P w K mg base CX0 (k + 5) f fd ["self"] (spInvert CW) ∧ Binds K fd ["self"] []
  eq_ : ∃ f fd, EqC K CW f ∧ FnOk P w K mg base CX0 (k + 1) f fd ["self", "other"] (spEq K CW) ∧ Binds K fd ["self", "other"] []
  pw_ : ∃ f fd, Meth K CW "power" f ∧ FnOk P w K mg base (L2.CX P w) (k + 5) f fd ["self", "many"] (spPower K CW CB1 CM) ∧ Binds K fd ["self", "many"] [] ∧ KBn K fd ["self", "many"] 1 ["many"] (fun us ws => us ++ ws) (fun vs zs => vs ++ zs)
  ro_ : ∃ f fd, Meth K CW "root" f ∧ FnOk P w K mg base CX0 (k + 5) f fd ["self"] (spRoot CW) ∧ Binds K fd ["self"] []
  co_ : ∃ f fd, Meth K CW "core" f ∧ FnOk P w K mg base CX0 (k + 5) f fd ["self"] (spCore CW) ∧ Binds K fd ["self"] []
  nf : PySem.W.notFirst K CW (.ref CW) = true
theorem WordAt.kept {CW : Addr} {H H' : Hp} {a p : Addr} {z : Str} (w : WordAt CW H a z) (k : Kept p H H') (n : a ≠ p) : WordAt CW H' a z := by
  obtain ⟨dx, h⟩ := w
  exact ⟨dx, k _ _ h n⟩
/-- lengths that a word of at most 24 letters and its powers to 10 keep below -/
theorem fits_small {l : List Nat} {m : Int} (hl : l.length ≤ 24) (h1 : -24 ≤ m) (h2 : m ≤ 24) : FitsI l m := by
  right
  have h3 := (coat_is l).1
  have h4 := mid_len l
  have : m.natAbs * (mid l).length ≤ 24 * 24 := Nat.mul_le_mul (by omega) (by omega)
  omega
theorem powI_small {l : List Nat} {m : Int} (fl : Fine l) (hl : l.length ≤ 24) (h1 : -20 ≤ m) (h2 : m ≤ 20) : (powI l m).length ≤ 480 := by
  by_cases h0 : m = 0
  · subst h0; rw [powI_zero]; show 0 ≤ 480; omega
  · rw [powI_gp fl]
    refine Nat.le_trans (len_strike _) ?_
    unfold gp
    split
    · rw [rep_len]
      have : m.toNat * l.length ≤ 20 * 24 := Nat.mul_le_mul (by omega) hl
      omega
    · rw [rep_len, inv_len]
      have : (-m).toNat * l.length ≤ 20 * 24 := Nat.mul_le_mul (by omega) hl
      omega
/-- one power more -/
theorem powI_next {l : List Nat} (fl : Fine l) (m : Int) : strike (powI l m ++ l) = powI l (m + 1) := by
  have h : strike (l ++ gp l m) = strike (gp l (m + 1)) := by
    have := gp_pred (u := inv l) (allL_inv fl.1) (-m) (q := []) (fun x hx => by cases hx)
    rw [inv_inv fl.1, gp_neg fl.1, gp_neg fl.1, List.append_nil, List.append_nil, Int.neg_neg, show -(-m - 1) = m + 1 by omega] at this
    exact this
  have hc : ∀ e : Int, strike (gp l e ++ l) = strike (l ++ gp l e) := by
    intro e
    unfold gp
    split
    · rw [← rep_snoc, ← rep_succ]
    · generalize (-e).toNat = n
      cases n with
      | zero => rw [rep_zero]; rw [List.append_nil, List.nil_append]
      | succ n =>
        have a1 : strike (rep (n + 1) (inv l) ++ l) = strike (rep n (inv l)) := by
          rw [rep_snoc]
          have := strike_inv_right (a := rep n (inv l)) (b := inv l) (allL_rep (allL_inv fl.1)) (allL_inv fl.1)
          rw [inv_inv fl.1] at this
          exact this
        have a2 : strike (l ++ rep (n + 1) (inv l)) = strike (rep n (inv l)) := by
          rw [rep_succ]
          have := strike_inv_left (a := inv l) (b := rep n (inv l)) (allL_inv fl.1) (allL_rep (allL_inv fl.1))
          rw [inv_inv fl.1] at this
          exact this
        rw [a1, a2]
  rw [powI_gp fl, powI_gp fl, (strike_app (allL_gp fl.1 m) fl.1).1, hc, h]
section
variable {K : PySem.W.Frag} {CW CB1 CB2 CM : Addr}
theorem pow_q {H : Hp} {Q : VK} {E : XK} {a : Addr} {z : Str} {m : Int} (wa : WordAt CW H a z) (fz : Fine z.cps.toList) (lz : z.length ≤ 4000) (ft : FitsI z.cps.toList m)
    (q : ∀ c H', H c = none → Same H H' → WordAt CW H' c (SB.T (powI z.cps.toList m)) → Q (.ref c) H') : spPower K CW CB1 CM (.ref a :: ([.int m] ++ [])) H Q E :=
  ⟨a, z, .int m, rfl, wa, fz, lz, .inl ⟨m, rfl, fun _ => q, fun nf => absurd ft nf⟩⟩
theorem eq_q {H : Hp} {Q : VK} {E : XK} {a b : Addr} {z v : Str} (cl : Cls K CW) (ic : IsC K CW) (nf : PySem.W.notFirst K CW (.ref CW) = true) (wa : WordAt CW H a z) (wb : WordAt CW H b v) (fz : Fine z.cps.toList) (fv : Fine v.cps.toList) (lz : z.length ≤ 1000) (lv : v.length ≤ 1000)
    (q : ∀ H', Same H H' → Q (.bl (decide (z = v))) H') : rEqOwn K CW (spEq K CW) E (.ref a) (.ref b) H Q := by
  have wa' := wa
  obtain ⟨dx, ha⟩ := wa
  exact ⟨a, dx, _, .ref CW, rfl, ha, isC_ty cl ic wb, nf, a, z, .ref b, rfl, wa', fz, by omega, .inl ⟨b, v, rfl, wb, fv, by omega, fun H' s => ⟨_, rfl, q H' s⟩⟩⟩
theorem root_q {H : Hp} {Q : VK} {E : XK} {a : Addr} {z : Str} (wa : WordAt CW H a z) (fz : Fine z.cps.toList) (lz : z.length ≤ 4000)
    (q : ∀ c p H', H c = none → Same H H' → WordAt CW H' c (SB.T (root z.cps.toList)) → H' p = none → Q (.ref p) (upd H' p (.tup [.ref c, .int (times (mid z.cps.toList) : Nat)]))) : spRoot CW (.ref a :: ([] ++ [])) H Q E :=
  ⟨a, z, rfl, wa, fz, lz, q⟩
theorem core_q {H : Hp} {Q : VK} {E : XK} {a : Addr} {z : Str} (wa : WordAt CW H a z) (fz : Fine z.cps.toList) (lz : z.length ≤ 4000)
    (q : ∀ c d p H', H c = none → H d = none → Same H H' → WordAt CW H' c (SB.T (pre z.cps.toList)) → WordAt CW H' d (SB.T (mid z.cps.toList)) → H' p = none → Q (.ref p) (upd H' p (.tup [.ref c, .ref d]))) : spCore CW (.ref a :: ([] ++ [])) H Q E :=
  ⟨a, z, rfl, wa, fz, lz, q⟩
end
end K04
-- K04J2
namespace K04
open PySem PySem.Spec PyProof.Rows L2 SB
theorem eqv_texts (a b : Str) : PyData.eqv (.tuple [.str a, .str b]) (.tuple [.str a, .str b]) = true := by
  show ((a == a) && ((b == b) && true)) = true
  simp
theorem eqv_textInt (a : Str) (i : Int) : PyData.eqv (.tuple [.str a, .int i]) (.tuple [.str a, .int i]) = true := by
  show ((a == a) && ((i == i) && true)) = true
  simp
theorem shaped_texts {a b : Str} (ha : fault a.cps.toList = none) (hb : fault b.cps.toList = none) : SeqAt.shaped (.tuple [.str a, .str b]) = true := by
  have e : PyData.canLay0 (.tuple [.str a, .str b]) = true := by
    show ((a.cps.all fun c => decide (c < 0x110000)) && ((b.cps.all fun c => decide (c < 0x110000)) && true)) = true
    rw [ok_word ha, ok_word hb]
    rfl
  unfold SeqAt.shaped
  rw [e]
  rfl
theorem shaped_textInt {a : Str} (i : Int) (ha : fault a.cps.toList = none) : SeqAt.shaped (.tuple [.str a, .int i]) = true := by
  have e : PyData.canLay0 (.tuple [.str a, .int i]) = true := by
    show ((a.cps.all fun c => decide (c < 0x110000)) && (true && true)) = true
    rw [ok_word ha]
    rfl
  unfold SeqAt.shaped
  rw [e]
  rfl
theorem root_len {l : List Nat} (hl : Fine l) (hn : l ≠ []) : (root l).length ≤ l.length := by
  have h1 := mid_len l
  have m1 := (mid_cr hl hn).pos
  have h3 := Nat.le_of_dvd m1 (uq_div m1).2.1
  have h4 := (coat_is l).1
  unfold root
  rw [List.length_append, List.length_append, inv_len, pre_len, unit_len m1]
  omega
theorem root_all {l : List Nat} (hl : Fine l) : Fine (root l) ∧ (root l).length ≤ l.length ∧ powI (root l) (times (mid l) : Nat) = l ∧ times (mid l) ≤ l.length := by
  by_cases hn : l = []
  · subst hn
    have h1 : root [] = [] := by
      unfold root
      rw [pre_nil, mid_nil]
      rfl
    have h2 : times (mid []) = 0 := by
      rw [mid_nil]
      exact Nat.zero_div _
    rw [h1, h2]
    exact ⟨hl, Nat.le_refl _, rfl, Nat.le_refl _⟩
  · refine ⟨root_fine hl hn, root_len hl hn, ?_, Nat.le_trans times_le (by rw [mid_len]; omega)⟩
    unfold powI
    rw [if_pos (by omega), Int.toNat_natCast, ← pw_strike (root_fine hl hn)]
    exact root_times hl hn
section
variable {P : Program} {w : World} {K : PySem.W.Frag} {mg : Str → Option Value} {base : Heap}
local macro_rules | `(tactic| trivial) => `(tactic| first | assumption | (with_reducible rfl) | rfl | (apply Exists.intro) | (apply And.intro) | (exact xd_no _ _ _ (by decide +kernel)) | (exact Nat.le_of_ble_eq_true rfl) | (rw [sizeLine_eq]; omega) | omega)
def spWordR : Sp := fun vs H Q _ => ∃ (p l : Addr) (N : Int) (z : Str), vs = [.ref p, .str z] ∧ PenQ l N H p ∧ N ≤ 90000 ∧ Fine z.cps.toList ∧ z.length ≤ 24 ∧ ∀ H', Kept p H H' → PenQ l (N + 1) H' p → Q (.bl true) H'
theorem ok_law_word_right {f CB1 CB2 CM CW f__law_draw f__law_peeled f__law_root f__law_power : Addr} {fd d__law_draw d__law_peeled d__law_root d__law_power : FuncData} {k : Nat} (F : Fun K "_law_word_right" "_law_word_right" s__law_word_right f fd)
    (MO : MakeOk P w K mg base CW CB2 CM k) (OO : OpsOk P w K mg base CW CB1 CB2 CM k)
    (G__law_draw : FnOk P w K mg base CX0 (k + 3) f__law_draw d__law_draw ["pen", "many"] spDraw) (g__law_draw : mg "_law_draw" = some (.ref f__law_draw)) (k__law_draw : PySem.W.keepIn K (.ref f__law_draw) = true) (b__law_draw : Binds K d__law_draw ["pen", "many"] [])
    (G__law_peeled : FnOk P w K mg base CX0 (k + 3) f__law_peeled d__law_peeled ["row"] spPeeled) (g__law_peeled : mg "_law_peeled" = some (.ref f__law_peeled)) (k__law_peeled : PySem.W.keepIn K (.ref f__law_peeled) = true) (b__law_peeled : Binds K d__law_peeled ["row"] [])
    (G__law_root : FnOk P w K mg base CX0 (k + 3) f__law_root d__law_root ["row"] spRootL) (g__law_root : mg "_law_root" = some (.ref f__law_root)) (k__law_root : PySem.W.keepIn K (.ref f__law_root) = true) (b__law_root : Binds K d__law_root ["row"] [])
    (G__law_power : FnOk P w K mg base CX0 (k + 3) f__law_power d__law_power ["row", "many"] spPow) (g__law_power : mg "_law_power" = some (.ref f__law_power)) (k__law_power : PySem.W.keepIn K (.ref f__law_power) = true) (b__law_power : Binds K d__law_power ["row", "many"] []) :
    FnOk P w K mg base CX0 (k + 6) f fd ["pen", "row"] spWordR := by
  obtain ⟨fW, fdW, tE, M, GW, bW, bW0, rE⟩ := MO.word
  obtain ⟨fM, fdM, wm, wmf, GM, bM⟩ := OO.mul_
  obtain ⟨fI, fdI, wi, wif, GI, bI⟩ := OO.inv_
  obtain ⟨fE, fdE, EqW, GE, bE⟩ := OO.eq_
  obtain ⟨fPw, fdPw, mPw, GPw, bPw, kPw⟩ := OO.pw_
  obtain ⟨fRo, fdRo, mRo, GRo, bRo⟩ := OO.ro_
  obtain ⟨fCo, fdCo, mCo, GCo, bCo⟩ := OO.co_
  have sf := OO.sf
  have gW := MO.gW
  have cl := MO.cl
  have na := MO.na
  refine F.ok sc__law_word_right (fun vs H Q E h => ?_) (fun cdv A outer s H vs Q E hr h => ?_)
  · obtain ⟨p, l, N, z, rfl, _⟩ := h
    rfl
  · obtain ⟨p, l, N, z, rfl, hP, hN, fz, lz, q⟩ := h
    have nd := sc__law_word_right.nd
    refine ⟨_, (pss_cons (ps_par (i := 2) (j := 3) (by rfl) nd rfl rfl (by decide) rfl rfl (pa_cons (pe_make M GW (hr.mono (by omega)) (by rfl) gW bW .nil passL (pa_cons (pv 1) pa_nil)) (pa_cons (pe_op op_sub (pe_call G__law_draw (hr.mono (by omega)) (by rfl) g__law_draw k__law_draw b__law_draw .nil pass0 (pa_cons (pv 0) (pa_cons pe_int pa_nil))) pe_int) pa_nil)) (by rfl))
      (pss_cons (ps_asg (pe_meth0 (pv 2) cl mCo GCo (hr.mono (by omega)) bCo .nil pass0) (pg_tup rfl (pgs_cons (pg_name (i := 4) nd rfl (.inl rfl)) (pgs_cons (pg_name (i := 5) nd rfl (.inl rfl)) pgs_nil))))
      (pss_cons (ps_if (PW.pt (pw_or (pt_cmpR (op_neD hr.units) (pe_tup (pa_cons (pe_fld (pv 4) rfl) (pa_cons (pe_fld (pv 5) rfl) pa_nil))) (pe_call G__law_peeled (hr.mono (by omega)) (by rfl) g__law_peeled k__law_peeled b__law_peeled .nil pass0 (pa_cons (pv 1) pa_nil)) (nomark _)) (pw_or1 (pt_cmpR (op_neOwn EqW GE (hr.mono (by omega)) bE pass0) (pe_op (op_mulOwn sf wm wmf GM (hr.mono (by omega)) bM passL) (pe_op (op_mulOwn sf wm wmf GM (hr.mono (by omega)) bM passL) (pv 4) (pv 5)) (pe_un (un_invOwn wi wif GI (hr.mono (by omega)) bI pass0) (pv 4))) (pv 2) (nomark _))))) (pss_one (ps_ret pe_bl)) pss_nil)
      (pss_cons (ps_asg (pe_meth0 (pv 2) cl mRo GRo (hr.mono (by omega)) bRo .nil pass0) (pg_tup rfl (pgs_cons (pg_name (i := 6) nd rfl (.inl rfl)) (pgs_cons (pg_name (i := 7) nd rfl (.inl rfl)) pgs_nil))))
      (C8.pss_cut (ps_set (i := 8) nd rfl (.inl rfl) (pe_ifExp (pt_cmpR op_ne (pv 1) pe_str (nomark _)) (pe_call G__law_root (hr.mono (by omega)) (by rfl) g__law_root k__law_root b__law_root .nil pass0 (pa_cons (pv 1) pa_nil)) (pe_tup (pa_cons pe_str (pa_cons pe_int pa_nil)))))
      (pss_cons (ps_if (PW.pt (pw_or (pt_cmpR (op_neD hr.units) (pe_tup (pa_cons (pe_fld (pv 6) rfl) (pa_cons (pv 7) pa_nil))) (pv 8) (nomark _)) (pw_or (pt_cmpR op_isIB (pv 7) pe_bl (nomark _)) (pw_or1 (pt_cmpR (op_neOwn EqW GE (hr.mono (by omega)) bE pass0) (pe_meth (pv 6) cl mPw GPw (hr.mono (by omega)) bPw .nil passL (pa_cons (pv 7) pa_nil)) (pv 2) (nomark _)))))) (pss_one (ps_ret pe_bl)) pss_nil)
      (pss_cons (ps_set (i := 9) nd rfl (.inl rfl) (pe_meth (pv 2) cl mPw GPw (hr.mono (by omega)) bPw .nil passL (pa_cons (pv 3) pa_nil)))
      (pss_cons (ps_if (PW.pt (pw_or (pt_cmpR op_ne (pe_fld (pv 9) rfl) (pe_call G__law_power (hr.mono (by omega)) (by rfl) g__law_power k__law_power b__law_power .nil pass0 (pa_cons (pv 1) (pa_cons (pv 3) pa_nil))) (nomark _)) (pw_or (pt_cmpR (op_neOwn EqW GE (hr.mono (by omega)) bE pass0) (pe_methK (pv 2) cl mPw GPw (hr.mono (by omega)) kPw passL (pk_cons (pe_un un_neg (pv 3)) pk_nil)) (pe_un (un_invOwn wi wif GI (hr.mono (by omega)) bI pass0) (pv 9)) (nomark _)) (pw_or1 (pt_cmpR op_ne (pe_fld (pv 2) rfl) (pv 1) (nomark _)))))) (pss_one (ps_ret pe_bl)) pss_nil)
      (pss_one (ps_ret (pe_cmpR (op_eqOwn EqW.find EqW.fn GE (hr.mono (by omega)) bE pass0) (pe_meth (pv 2) cl mPw GPw (hr.mono (by omega)) bPw .nil passL (pa_cons (pe_op op_add (pv 3) pe_int) pa_nil)) (pe_op (op_mulOwn sf wm wmf GM (hr.mono (by omega)) bM passL) (pv 9) (pv 2)) (nomark _)))))))))))), ?_⟩
    have lz' : z.cps.toList.length ≤ 24 := lz
    refine ⟨.str z, rfl, fun x1 dx1 n1 d1 e1 => make_q n1 d1 e1 fz (by omega) fun H1 s1' w1 => ⟨rfl, ?_⟩⟩
    refine ⟨.ref p, rfl, p, l, N, 19, rfl, hP.same s1', by omega, by omega, by omega, fun d H2 d0 d19 k2 p2 => ?_⟩
    have w1 := w1.kept k2 (hP.ne_p n1)
    have kk := (Kept.of s1').trans k2
    obtain ⟨m, hm⟩ : ∃ m : Int, m = d - 9 := ⟨_, rfl⟩
    refine ⟨_, _, rfl, rfl, _, _, rfl, ?_⟩
    obtain ⟨dy1, h1⟩ := id w1
    refine ⟨.ref x1, rfl, x1, dy1, _, rfl, h1, xd_no _ _ _ (by decide +kernel), ?_⟩
    refine ⟨x1, z, rfl, w1, fz, by omega, ?_⟩
    intro c dd p3 H3 nc ndd s3 wc wd hp3
    have t3 := same_new (o := .tup [.ref c, .ref dd]) hp3
    refine ⟨p3, _, rfl, .inl (.inl upd_same), rfl, _, _, rfl, _, _, rfl, rfl, ?_⟩
    have S3 := s3.trans t3
    have w1 := w1.same S3
    have wc := wc.same t3
    have wd := wd.same t3
    have kk := kk.trans (Kept.of S3)
    have p2 := p2.same S3
    generalize upd H3 p3 (.tup [.ref c, .ref dd]) = H4 at w1 wc wd kk p2 ⊢
    obtain ⟨dc, hc⟩ := id wc
    obtain ⟨de, hd⟩ := id wd
    refine ⟨.ref c, rfl, c, CW, dc, _, .str (SB.T (pre z.cps.toList)), rfl, hc, cl, na, rfl, .ref dd, rfl, dd, CW, de, _, .str (SB.T (mid z.cps.toList)), rfl, hd, cl, na, rfl, ?_⟩
    have lpre : (pre z.cps.toList).length ≤ 24 := by
      rw [pre_len]
      have := (coat_is z.cps.toList).1
      omega
    have lmid : (mid z.cps.toList).length ≤ 24 := by
      rw [mid_len]
      omega
    have fp : Fine (pre z.cps.toList) := fine_take fz _
    have fm : Fine (mid z.cps.toList) := fine_take (fine_drop fz _) _
    refine ⟨by show 2 ≤ sizeLine; rw [sizeLine_eq]; omega, fun p4 hp4 => ?_⟩
    have t4 := same_new (o := .tup [.str (SB.T (pre z.cps.toList)), .str (SB.T (mid z.cps.toList))]) hp4
    refine ⟨.str z, rfl, z, rfl, by omega, fz.1, fun p5 hp5 => ?_⟩
    have t5 := same_new (o := .tup [.str (SB.T (pre z.cps.toList)), .str (SB.T (mid z.cps.toList))]) hp5
    have u4 : upd (upd H4 p4 (.tup [.str (SB.T (pre z.cps.toList)), .str (SB.T (mid z.cps.toList))])) p5 (.tup [.str (SB.T (pre z.cps.toList)), .str (SB.T (mid z.cps.toList))]) p4 = some (.tup [.str (SB.T (pre z.cps.toList)), .str (SB.T (mid z.cps.toList))]) := t5 _ _ upd_same
    have shp : SeqAt.shaped (.tuple [.str (SB.T (pre z.cps.toList)), .str (SB.T (mid z.cps.toList))]) = true := shaped_texts (fine_word (z := SB.T (pre z.cps.toList)) fp) (fine_word (z := SB.T (mid z.cps.toList)) fm)
    refine ⟨_, _, .tup (.inl (.inl u4)) (.cons (.str _) (.cons (.str _) .nil)), .tup (.inl (.inl upd_same)) (.cons (.str _) (.cons (.str _) .nil)), shp, shp, ?_⟩
    rw [eqv_texts]
    refine ⟨_, rfl, ?_⟩
    have S5 := t4.trans t5
    have w1 := w1.same S5
    have wc := wc.same S5
    have wd := wd.same S5
    have kk := kk.trans (Kept.of S5)
    have p2 := p2.same S5
    generalize upd (upd H4 p4 (.tup [.str (SB.T (pre z.cps.toList)), .str (SB.T (mid z.cps.toList))])) p5 (.tup [.str (SB.T (pre z.cps.toList)), .str (SB.T (mid z.cps.toList))]) = H5 at w1 wc wd kk p2 ⊢
    refine iteF ?_
    have hsh := shape fz.1
    have fpm : Fine (pre z.cps.toList ++ mid z.cps.toList) := fine_pre (b := inv (pre z.cps.toList)) (by rw [← hsh]; exact fz)
    have e6 : strike (pre z.cps.toList ++ mid z.cps.toList) = pre z.cps.toList ++ mid z.cps.toList := strike_fine fpm
    have e8 : strike (strike (pre z.cps.toList ++ mid z.cps.toList) ++ inv (pre z.cps.toList)) = z.cps.toList := by
      rw [e6, ← hsh]
      exact strike_fine fz
    have lp4 : (SB.T (pre z.cps.toList)).length ≤ 1000 := Nat.le_trans lpre (by omega)
    have lm4 : (SB.T (mid z.cps.toList)).length ≤ 1000 := Nat.le_trans lmid (by omega)
    refine ⟨.ref c, rfl, .ref dd, rfl, mul_q wc wd fp fm lp4 lm4 fun x6 H6 n6 s6 w6 => ?_⟩
    have w1 := w1.same s6
    have wc := wc.same s6
    refine ⟨.ref c, rfl, inv_q wc fp lp4 fun x7 H7 n7 s7 w7 => ?_⟩
    have w1 := w1.same s7
    have w6 := w6.same s7
    have l6 : (SB.T (strike (pre z.cps.toList ++ mid z.cps.toList))).length ≤ 1000 := by
      refine Nat.le_trans (len_strike _) ?_
      rw [List.length_append]
      omega
    have l7 : (SB.T (inv (pre z.cps.toList))).length ≤ 1000 := by
      show (inv (pre z.cps.toList)).length ≤ 1000
      rw [inv_len]
      omega
    refine mul_q w6 w7 (fine_strike (allL_app fp.1 fm.1)) (fine_inv fp) l6 l7 fun x8 H8 n8 s8 w8 => ?_
    have w1 := w1.same s8
    have w8 : WordAt CW H8 x8 (SB.T (strike (strike (pre z.cps.toList ++ mid z.cps.toList) ++ inv (pre z.cps.toList)))) := w8
    rw [show SB.T (strike (strike (pre z.cps.toList ++ mid z.cps.toList) ++ inv (pre z.cps.toList))) = z from str_ext e8] at w8
    refine ⟨.ref x1, rfl, ne_q w8 w1 fz fz (by omega) (by omega) rfl fun H9 s9 => ⟨_, rfl, iteF ?_⟩⟩
    have S9 := s6.trans (s7.trans (s8.trans s9))
    have w1 := w1.same s9
    have kk := kk.trans (Kept.of S9)
    have p2 := p2.same S9
    obtain ⟨dy9, h9⟩ := id w1
    refine ⟨.ref x1, rfl, x1, dy9, _, rfl, h9, xd_no _ _ _ (by decide +kernel), x1, z, rfl, w1, fz, by omega, fun r pr H10 nr s10 wr hpr => ?_⟩
    have t10 := same_new (o := .tup [.ref r, .int (times (mid z.cps.toList) : Nat)]) hpr
    refine ⟨pr, _, rfl, .inl (.inl upd_same), rfl, _, _, rfl, _, _, rfl, rfl, ?_⟩
    have S10 := s10.trans t10
    have w1 := w1.same S10
    have wr := wr.same t10
    have kk := kk.trans (Kept.of S10)
    have p2 := p2.same S10
    generalize upd H10 pr (.tup [.ref r, .int (times (mid z.cps.toList) : Nat)]) = H11 at w1 wr kk p2 ⊢
    obtain ⟨fr, lr, er, lt⟩ := root_all fz
    refine ⟨fun σ H' => ∃ q8, σ = [some (.ref p), some (.str z), some (.ref x1), some (.int (d - 9)), some (.ref c), some (.ref dd), some (.ref r), some (.int (times (mid z.cps.toList) : Nat)), some (.ref q8), none] ∧ Same H11 H' ∧ H' q8 = some (.tup [.str (SB.T (root z.cps.toList)), .int (times (mid z.cps.toList) : Nat)]), ?_, ?_⟩
    · refine ⟨.str z, rfl, rfl, _, rfl, ite2 (fun e => ?_) (fun e => ?_)⟩
      · have hn : z.cps.toList ≠ [] := fun h => by
          have : z = "" := str_ext h
          subst this
          exact nomatch e
        exact ⟨.str z, rfl, z, rfl, by omega, fz, hn, fun q8 H' s12 hq => ⟨q8, rfl, s12.trans (same_new hq), upd_same⟩⟩
      · have ez : z = "" := by
          by_cases h : z = ""
          · exact h
          · exact absurd (by simp [h]) e
        subst ez
        have h1 : root (Str.cps "").toList = [] := by
          show root [] = []
          unfold root
          rw [pre_nil, mid_nil]
          rfl
        have h2 : times (mid (Str.cps "").toList) = 0 := by
          show times (mid []) = 0
          rw [mid_nil]
          exact Nat.zero_div _
        rw [h1, h2]
        exact ⟨by show 2 ≤ sizeLine; rw [sizeLine_eq]; omega, fun q8 hq => ⟨q8, rfl, same_new hq, upd_same⟩⟩
    · rintro σ H12 ⟨q8, rfl, s12, hq8⟩
      have w1 := w1.same s12
      have wr := wr.same s12
      have kk := kk.trans (Kept.of s12)
      have p2 := p2.same s12
      obtain ⟨dr, hr12⟩ := id wr
      refine ⟨.ref r, rfl, r, CW, dr, _, .str (SB.T (root z.cps.toList)), rfl, hr12, cl, na, rfl, .int (times (mid z.cps.toList) : Nat), rfl, by show 2 ≤ sizeLine; rw [sizeLine_eq]; omega, fun p13 hp13 => ?_⟩
      have t13 := same_new (o := .tup [.str (SB.T (root z.cps.toList)), .int (times (mid z.cps.toList) : Nat)]) hp13
      have shp2 := shaped_textInt (a := SB.T (root z.cps.toList)) (times (mid z.cps.toList) : Nat) (fine_word (z := SB.T (root z.cps.toList)) fr)
      refine ⟨.ref q8, rfl, _, _, .tup (.inl (.inl upd_same)) (.cons (.str _) (.cons (.int _) .nil)), .tup (.inl (.inl (t13 _ _ hq8))) (.cons (.str _) (.cons (.int _) .nil)), shp2, shp2, ?_⟩
      rw [eqv_textInt]
      refine ⟨_, rfl, iteF ?_⟩
      have w1 := w1.same t13
      have wr := wr.same t13
      have kk := kk.trans (Kept.of t13)
      have p2 := p2.same t13
      generalize upd H12 p13 (.tup [.str (SB.T (root z.cps.toList)), .int (times (mid z.cps.toList) : Nat)]) = H13 at w1 wr kk p2 ⊢
      refine ⟨.int (times (mid z.cps.toList) : Nat), rfl, _, _, rfl, rfl, _, rfl, iteF ?_⟩
      obtain ⟨dr13, hr13⟩ := id wr
      refine ⟨.ref r, rfl, r, dr13, _, rfl, hr13, xd_no _ _ _ (by decide +kernel), .int (times (mid z.cps.toList) : Nat), rfl, r, SB.T (root z.cps.toList), .int (times (mid z.cps.toList) : Nat), rfl, wr, fr, ?_, .inl ⟨(times (mid z.cps.toList) : Nat), rfl, fun _ x14 H14 n14 s14 w14 => ?_, fun nf => absurd (fits_small (l := root z.cps.toList) (by omega) (by omega) (by omega)) nf⟩⟩
      · exact Nat.le_trans lr (by omega)
      have w14 : WordAt CW H14 x14 (SB.T (powI (root z.cps.toList) (times (mid z.cps.toList) : Nat))) := w14
      rw [show SB.T (powI (root z.cps.toList) (times (mid z.cps.toList) : Nat)) = z from str_ext er] at w14
      have w1 := w1.same s14
      refine ⟨.ref x1, rfl, ne_q w14 w1 fz fz (by omega) (by omega) rfl fun H15 s15 => ⟨_, rfl, iteF ?_⟩⟩
      have S15 := s14.trans s15
      have w1 := w1.same s15
      have kk := kk.trans (Kept.of S15)
      have p2 := p2.same S15
      obtain ⟨dy15, h15⟩ := id w1
      have fpw := fun e => powI_fine fz e
      have lpw : ∀ e : Int, -10 ≤ e → e ≤ 10 → (SB.T (powI z.cps.toList e)).length ≤ 480 := fun e h1 h2 => powI_small fz lz' (by omega) (by omega)
      refine ⟨.ref x1, rfl, x1, dy15, _, rfl, h15, xd_no _ _ _ (by decide +kernel), .int (d - 9), rfl, x1, z, .int (d - 9), rfl, w1, fz, by omega, .inl ⟨d - 9, rfl, fun _ x16 H16 n16 s16 w16 => ?_, fun nf => absurd (fits_small (l := z.cps.toList) lz' (by omega) (by omega)) nf⟩⟩
      have w1 := w1.same s16
      have kk := kk.trans (Kept.of s16)
      have p2 := p2.same s16
      have fm1 := fpw (d - 9)
      have lm1 := lpw (d - 9) (by omega) (by omega)
      obtain ⟨d16, h16⟩ := id w16
      refine ⟨.ref x16, rfl, x16, CW, d16, _, .str (SB.T (powI z.cps.toList (d - 9))), rfl, h16, cl, na, rfl, .str z, rfl, .int (d - 9), rfl, z, d - 9, rfl, fz, by omega, by omega, by omega, ?_⟩
      refine ⟨rfl, _, rfl, ?_⟩
      rw [show (!decide (V.str (SB.T (powI z.cps.toList (d - 9))) = V.str (SB.T (powI z.cps.toList (d - 9))))) = false by simp]
      refine iteF ?_
      obtain ⟨dy16, h16'⟩ := id w1
      refine ⟨.ref x1, rfl, x1, dy16, _, rfl, h16', xd_no _ _ _ (by decide +kernel), .int (d - 9), rfl, _, rfl, rfl, x1, z, .int (-(d - 9)), rfl, w1, fz, by omega, .inl ⟨-(d - 9), rfl, fun _ x17 H17 n17 s17 w17 => ?_, fun nf => absurd (fits_small (l := z.cps.toList) lz' (by omega) (by omega)) nf⟩⟩
      have w1 := w1.same s17
      have w16 := w16.same s17
      refine ⟨.ref x16, rfl, inv_q w16 fm1 (by omega) fun x18 H18 n18 s18 w18 => ?_⟩
      have w17 := w17.same s18
      have w1 := w1.same s18
      have w16 := w16.same s18
      have en : SB.T (powI z.cps.toList (-(d - 9))) = SB.T (inv (SB.T (powI z.cps.toList (d - 9))).cps.toList) := congrArg SB.T (powI_neg fz (d - 9))
      have ln1 := lpw (-(d - 9)) (by omega) (by omega)
      have lv1 : (SB.T (inv (SB.T (powI z.cps.toList (d - 9))).cps.toList)).length ≤ 480 := by rw [← en]; exact ln1
      refine ne_q w17 w18 (fpw _) (fine_inv fm1) (by omega) (by omega) en fun H19 s19 => ⟨_, rfl, iteF ?_⟩
      have S19 := s17.trans (s18.trans s19)
      have w1 := w1.same s19
      have w16 := w16.same s19
      have kk := kk.trans (Kept.of S19)
      have p2 := p2.same S19
      obtain ⟨dy19, h19⟩ := id w1
      refine ⟨.ref x1, rfl, x1, CW, dy19, _, .str z, rfl, h19, cl, na, rfl, .str z, rfl, rfl, _, rfl, ?_⟩
      rw [show (!decide (V.str z = V.str z)) = false by simp]
      refine iteF ?_
      refine ⟨.ref x1, rfl, x1, dy19, _, rfl, h19, xd_no _ _ _ (by decide +kernel), .int (d - 9), rfl, _, _, rfl, rfl, x1, z, .int (d - 9 + 1), rfl, w1, fz, by omega, .inl ⟨d - 9 + 1, rfl, fun _ x20 H20 n20 s20 w20 => ?_, fun nf => absurd (fits_small (l := z.cps.toList) lz' (by omega) (by omega)) nf⟩⟩
      have w1 := w1.same s20
      have w16 := w16.same s20
      refine ⟨.ref x16, rfl, .ref x1, rfl, mul_q w16 w1 fm1 fz (by omega) (by omega) fun x21 H21 n21 s21 w21 => ?_⟩
      have w20 := w20.same s21
      have ee : SB.T (powI z.cps.toList (d - 9 + 1)) = SB.T (strike ((SB.T (powI z.cps.toList (d - 9))).cps.toList ++ z.cps.toList)) := congrArg SB.T (powI_next fz (d - 9)).symm
      have l20 := lpw (d - 9 + 1) (by omega) (by omega)
      have l21 : (SB.T (strike ((SB.T (powI z.cps.toList (d - 9))).cps.toList ++ z.cps.toList))).length ≤ 480 := by rw [← ee]; exact l20
      refine eq_q cl MO.ic OO.nf w20 w21 (fpw _) (fine_strike (allL_app fm1.1 fz.1)) (by omega) (by omega) fun H22 s22 => ?_
      rw [decide_eq_true ee]
      have S22 := s20.trans (s21.trans s22)
      exact q H22 (kk.trans (Kept.of S22)) (p2.same S22)
end
end K04
-- R28
namespace SB
open PySem PySem.Spec PyProof.Rows L2
/-! a function called with keywords alone -/
section
variable {X : Cx} {CX : CXT} {k n : Nat} {f : Addr} {fd : FuncData} {ps ks : List Str} {sp : Sp} {E : XK} {x : Str} {p pos : Pos} {kws : List Keyword} {tk : TA} {g : List Value → List Value → List Value} {gV : List V → List V → List V}
def tCallKO (m : Nat) (sp : Sp) (gV : List V → List V → List V) (E : XK) (tk : TA) : TE := fun σ H Q => tk σ H fun zs H2 => zs.length = m ∧ sp (gV [] zs) H2 Q E
/-- f(k = v, ..) -/
theorem pe_callKO (F : FnOk X.prog X.w X.K X.mg X.base CX k f fd ps sp) (hr : Room k X.A) (hg : Gl X x) (hm : X.mg x = some (.ref f)) (hk : PySem.W.keepIn X.K (.ref f) = true) (hb : KBn X.K fd ps 0 ks g gV) (hx : Passes CX X E)
    (hkw : PK X kws tk) (hall : (backToKw pos (keywordEach kws X.env)).all (·.1.isSome) = true := by rfl) (hks : (backToKw pos (keywordEach kws X.env)).filterMap (·.1) = ks := by rfl)
    (hdb : (x == ("__debug__" : Str)) = false := by decide)
    (hpl : ((backTo pos (starEach [] X.env)).any (·.1) || (backToKw pos (keywordEach kws X.env)).any (·.1.isNone)) = false := by rfl) :
    PE X (.Call (.Name x p) [] kws pos) (tCallKO ks.length sp gV E tk) := by
  refine ⟨fun pins s σ H Q I h => ?_⟩
  refine wpAny_Call_Name_kw (ld_glob I hg hm ?_ hdb)
  refine PySem.W.callWith_KW0 (first := []) (h₀ := X.base) I.ok.mod.kin hk hall ?_ hpl
  refine thn (hkw.run pos pins s σ H _ I h) fun ws s2 ⟨zs, H2, I2, rz, l2, q2⟩ => ⟨I2.kIn, ?_⟩
  rw [hks]
  exact run_fnN (us := []) (vs := []) F hr hb hx I2 .nil rz rfl l2 q2
end
end SB
-- K04J3
namespace K04
open PySem PySem.Spec PyProof.Rows L2 SB
theorem commB_symm (a b : Str) : commB b a = commB a b := decide_eq_decide.mpr ⟨fun h => h.symm, fun h => h.symm⟩
section
variable {P : Program} {w : World} {K : PySem.W.Frag} {mg : Str → Option Value} {base : Heap}
def spPairR : Sp := fun vs H Q _ => ∃ (p l : Addr) (N : Int) (z : Str), vs = [.ref p, .str z] ∧ PenQ l N H p ∧ N ≤ 80000 ∧ Fine z.cps.toList ∧ z.length ≤ 24 ∧ ∀ H', Kept p H H' → PenQ l (N + 15) H' p → Q (.bl true) H'
theorem ok_law_pair_right {f CB1 CB2 CM CW f_commute f__law_draw f__law_drawn f__law_root f__law_power f__law_join f__law_told f__law_alike : Addr} {fd d_commute d__law_draw d__law_drawn d__law_root d__law_power d__law_join d__law_told d__law_alike : FuncData} {k : Nat} (F : Fun K "_law_pair_right" "_law_pair_right" s__law_pair_right f fd)
    (MO : MakeOk P w K mg base CW CB2 CM k) (OO : OpsOk P w K mg base CW CB1 CB2 CM k)
    (G_commute : FnOk P w K mg base (L2.CX P w) (k + 5) f_commute d_commute ["one", "other"] (spCommute K CW CB2)) (g_commute : mg "commute" = some (.ref f_commute)) (k_commute : PySem.W.keepIn K (.ref f_commute) = true) (b_commute : Binds K d_commute ["one", "other"] []) (kw_commute : KBn K d_commute ["one", "other"] 0 ["other", "one"] (fun us ws => us ++ ws.reverse) (fun vs zs => vs ++ zs.reverse))
    (G__law_draw : FnOk P w K mg base CX0 (k + 3) f__law_draw d__law_draw ["pen", "many"] spDraw) (g__law_draw : mg "_law_draw" = some (.ref f__law_draw)) (k__law_draw : PySem.W.keepIn K (.ref f__law_draw) = true) (b__law_draw : Binds K d__law_draw ["pen", "many"] [])
    (G__law_drawn : FnOk P w K mg base CX0 (k + 5) f__law_drawn d__law_drawn ["pen"] spDrawn) (g__law_drawn : mg "_law_drawn" = some (.ref f__law_drawn)) (k__law_drawn : PySem.W.keepIn K (.ref f__law_drawn) = true) (b__law_drawn : Binds K d__law_drawn ["pen"] [])
    (G__law_root : FnOk P w K mg base CX0 (k + 3) f__law_root d__law_root ["row"] spRootL) (g__law_root : mg "_law_root" = some (.ref f__law_root)) (k__law_root : PySem.W.keepIn K (.ref f__law_root) = true) (b__law_root : Binds K d__law_root ["row"] [])
    (G__law_power : FnOk P w K mg base CX0 (k + 3) f__law_power d__law_power ["row", "many"] spPow) (g__law_power : mg "_law_power" = some (.ref f__law_power)) (k__law_power : PySem.W.keepIn K (.ref f__law_power) = true) (b__law_power : Binds K d__law_power ["row", "many"] [])
    (G__law_join : FnOk P w K mg base CX0 (k + 3) f__law_join d__law_join ["one", "other"] spJoin) (g__law_join : mg "_law_join" = some (.ref f__law_join)) (k__law_join : PySem.W.keepIn K (.ref f__law_join) = true) (b__law_join : Binds K d__law_join ["one", "other"] [])
    (G__law_told : FnOk P w K mg base CX0 (k + 1) f__law_told d__law_told ["told", "due"] spTold) (g__law_told : mg "_law_told" = some (.ref f__law_told)) (k__law_told : PySem.W.keepIn K (.ref f__law_told) = true) (b__law_told : Binds K d__law_told ["told", "due"] [])
    (G__law_alike : FnOk P w K mg base CX0 (k + 4) f__law_alike d__law_alike ["one", "other"] spAlike) (g__law_alike : mg "_law_alike" = some (.ref f__law_alike)) (k__law_alike : PySem.W.keepIn K (.ref f__law_alike) = true) (b__law_alike : Binds K d__law_alike ["one", "other"] []) :
    FnOk P w K mg base CX0 (k + 6) f fd ["pen", "row"] spPairR := by
  obtain ⟨fW, fdW, tE, M, GW, bW, bW0, rE⟩ := MO.word
  have gW := MO.gW
  have cl := MO.cl
  have na := MO.na
  refine F.ok sc__law_pair_right (fun vs H Q E h => ?_) (fun cdv A outer s H vs Q E hr h => ?_)
  · obtain ⟨p, l, N, z, rfl, _⟩ := h
    rfl
  · obtain ⟨p, l, N, z, rfl, hP, hN, fz, lz, q⟩ := h
    have nd := sc__law_pair_right.nd
    refine ⟨_, (pss_cons (ps_set (i := 2) nd rfl (.inl rfl) (pe_call G__law_draw (hr.mono (by omega)) (by rfl) g__law_draw k__law_draw b__law_draw .nil pass0 (pa_cons (pv 0) (pa_cons pe_int pa_nil))))
      (pss_cons (ps_set (i := 3) nd rfl (.inl rfl) (pe_call G__law_drawn (hr.mono (by omega)) (by rfl) g__law_drawn k__law_drawn b__law_drawn .nil pass0 (pa_cons (pv 0) pa_nil)))
      (C8.pss_cut (ps_if (pt_cmpR op_lt (pv 2) pe_int (nomark _)) (C8.pss_cut (ps_set (i := 4) nd rfl (.inl rfl) (pe_ifExp (pt_cmpR op_ne (pv 1) pe_str (nomark _)) (pe_ix ix_tup (pe_call G__law_root (hr.mono (by omega)) (by rfl) g__law_root k__law_root b__law_root .nil pass0 (pa_cons (pv 1) pa_nil)) pe_int (fun _ _ => rfl)) pe_str))
      (pss_one (ps_set (i := 3) nd rfl (.inl rfl) (pe_call G__law_power (hr.mono (by omega)) (by rfl) g__law_power k__law_power b__law_power .nil pass0 (pa_cons (pv 4) (pa_cons (pe_op op_sub (pe_call G__law_draw (hr.mono (by omega)) (by rfl) g__law_draw k__law_draw b__law_draw .nil pass0 (pa_cons (pv 0) (pa_cons pe_int pa_nil))) pe_int) pa_nil)))))) (pss_one (ps_if (pt_cmpR op_eq (pv 2) pe_int (nomark _)) (pss_one (ps_set (i := 3) nd rfl (.inl rfl) (pe_call G__law_join (hr.mono (by omega)) (by rfl) g__law_join k__law_join b__law_join .nil pass0 (pa_cons (pv 3) (pa_cons (pv 1) pa_nil))))) pss_nil)))
      (pss_cons (ps_set (i := 5) nd rfl (.inl rfl) (pe_call G_commute (hr.mono (by omega)) (by rfl) g_commute k_commute b_commute .nil passL (pa_cons (pe_make M GW (hr.mono (by omega)) (by rfl) gW bW .nil passL (pa_cons (pv 1) pa_nil)) (pa_cons (pe_make M GW (hr.mono (by omega)) (by rfl) gW bW .nil passL (pa_cons (pv 3) pa_nil)) pa_nil))))
      (pss_one (ps_ret (pe_and (pe_call G__law_told (hr.mono (by omega)) (by rfl) g__law_told k__law_told b__law_told .nil pass0 (pa_cons (pv 5) (pa_cons (pe_call G__law_alike (hr.mono (by omega)) (by rfl) g__law_alike k__law_alike b__law_alike .nil pass0 (pa_cons (pv 1) (pa_cons (pv 3) pa_nil))) pa_nil))) (pe_one (pe_cmpR op_eq (pe_callKO G_commute (hr.mono (by omega)) (by rfl) g_commute k_commute kw_commute passL (pk_cons (pe_make M GW (hr.mono (by omega)) (by rfl) gW bW .nil passL (pa_cons (pv 1) pa_nil)) (pk_cons (pe_make M GW (hr.mono (by omega)) (by rfl) gW bW .nil passL (pa_cons (pv 3) pa_nil)) pk_nil))) (pv 5) (nomark _)))))))))), ?_⟩
    have lz' : z.cps.toList.length ≤ 24 := lz
    refine ⟨.ref p, rfl, p, l, N, 4, rfl, hP, by omega, by omega, by omega, fun d H1 d0 d4 k1 p1 => ?_⟩
    refine ⟨.ref p, rfl, p, l, N + 1, rfl, p1, by omega, fun v H2 fv lv k2 p2 => ?_⟩
    have kk := k1.trans k2
    refine ⟨fun σ H' => ∃ (u : Str) (y4 : Option V), σ = [some (.ref p), some (.str z), some (.int d), some (.str u), y4, none] ∧ Fine u.cps.toList ∧ u.length ≤ 480 ∧ Kept p H H' ∧ PenQ l (N + 15) H' p, ?_, ?_⟩
    · refine ⟨.int d, rfl, _, _, rfl, rfl, _, rfl, ite2 (fun e => ?_) (fun e => ?_)⟩
      · refine ⟨fun σ H' => ∃ (r : Str), σ = [some (.ref p), some (.str z), some (.int d), some (.str v), some (.str r), none] ∧ Fine r.cps.toList ∧ r.length ≤ 24 ∧ Kept p H H' ∧ PenQ l (N + 14) H' p, ?_, ?_⟩
        · refine ⟨.str z, rfl, rfl, _, rfl, ite2 (fun e => ?_) (fun e => ?_)⟩
          · have hn : z.cps.toList ≠ [] := fun h => by
              have : z = "" := str_ext h
              subst this
              exact nomatch e
            have ⟨fr, lr, _, _⟩ := root_all fz
            exact ⟨.str z, rfl, z, rfl, by omega, fz, hn, fun q8 H' s12 hq => ⟨q8, _, 0, .str (SB.T (root z.cps.toList)), rfl, rfl, .inl (.inl upd_same), rfl, SB.T (root z.cps.toList), rfl, fr, Nat.le_trans lr (by omega), kk.trans (Kept.of (s12.trans (same_new hq))), (p2.same (s12.trans (same_new hq))).mono (by omega)⟩⟩
          · exact ⟨"", rfl, (fine_iff _).mp (by decide +kernel), by show 0 ≤ 24; omega, kk, p2.mono (by omega)⟩
        · rintro σ H3 ⟨r, rfl, fr, lr, k3, p3⟩
          have lr' : r.cps.toList.length ≤ 24 := lr
          refine ⟨.str r, rfl, .ref p, rfl, p, l, N + 14, 7, rfl, p3, by omega, by omega, by omega, fun g H4 g0 g7 k4 p4 => ?_⟩
          refine ⟨_, _, rfl, rfl, r, g - 3, rfl, fr, by omega, by omega, by omega, ?_⟩
          exact ⟨SB.T (powI r.cps.toList (g - 3)), _, rfl, powI_fine fr _, powI_small fr lr' (by omega) (by omega), k3.trans k4, p4.mono (by omega)⟩
      · refine ⟨.int d, rfl, rfl, _, rfl, ite2 (fun e2 => ?_) (fun e2 => ?_)⟩
        · refine ⟨.str v, rfl, .str z, rfl, v, z, rfl, by omega, by omega, fv, fz, ?_⟩
          refine ⟨SB.T (strike (v.cps.toList ++ z.cps.toList)), _, rfl, fine_strike (allL_app fv.1 fz.1), ?_, kk, p2.mono (by omega)⟩
          refine Nat.le_trans (len_strike _) ?_
          rw [List.length_append]
          have : v.cps.toList.length ≤ 24 := lv
          omega
        · exact ⟨v, _, rfl, fv, by omega, kk, p2.mono (by omega)⟩
    · rintro σ H3 ⟨u, y4, rfl, fu, lu, k3, p3⟩
      have lu' : u.length ≤ 4000 := by omega
      refine ⟨.str z, rfl, fun x1 dx1 n1 d1 e1 => make_q n1 d1 e1 fz (by omega) fun H4 s4 w1 => ⟨rfl, .str u, rfl, fun x2 dx2 n2 d2 e2 => make_q n2 d2 e2 fu lu' fun H5 s5 w2 => ⟨rfl, ?_⟩⟩⟩
      refine ⟨.ref x1, .ref x2, rfl, .inl ⟨x1, x2, z, u, rfl, rfl, w1.same s5, w2, fz, fu, by omega, by omega, ?_⟩⟩
      refine ⟨.bl (commB z u), rfl, .str z, rfl, .str u, rfl, z, u, rfl, by omega, by omega, fz, fu, fun H6 s6 => ⟨commB z u, rfl, _, rfl, iteT ?_⟩⟩
      refine ⟨.str z, rfl, fun x3 dx3 n3 d3 e3 => make_q n3 d3 e3 fz (by omega) fun H7 s7 w3 => ⟨rfl, .str u, rfl, fun x4 dx4 n4 d4 e4 => make_q n4 d4 e4 fu lu' fun H8 s8 w4 => ⟨rfl, rfl, ?_⟩⟩⟩
      refine ⟨.ref x4, .ref x3, rfl, .inl ⟨x4, x3, u, z, rfl, rfl, w4, w3.same s8, fu, fz, by omega, by omega, ?_⟩⟩
      refine ⟨.bl (commB z u), rfl, rfl, ?_⟩
      rw [commB_symm z u, decide_eq_true rfl]
      have SS := s4.trans (s5.trans (s6.trans (s7.trans s8)))
      exact q H8 (k3.trans (Kept.of SS)) (p3.same SS)
end
end K04
-- K04K1
namespace K04
open PySem PySem.Spec PyProof.Rows L2 SB
local macro_rules | `(tactic| trivial) => `(tactic| first | assumption | (with_reducible rfl) | rfl | (apply Exists.intro) | (apply And.intro) | (exact xd_no _ _ _ (by decide +kernel)) | (exact Nat.le_of_ble_eq_true rfl) | (rw [sizeLine_eq]; omega) | omega)
/-- the name of the lambda in a def -/
def lq (x : Str) : Str := (envOfC x (defScope s__law_heard) 0 0 .none).qual ++ "<lambda>"
theorem extN_same {H H' : Hp} (s : Same H H') : LamX.ExtN H H' := LamX.ExtN.of s
theorem tabs_same {T : List (Addr × Str)} {H H' : Hp} (t : LamX.Tabs T H) (s : Same H H') : LamX.Tabs T H' := t.ext s
theorem xd_fld (g : Str) (v : V) : ([(g, v)] : List (Str × V)).lookup g = some v := by simp [List.lookup]
/-- the pen, the tables, what was, the word -/
structure Sta (CW p l : Addr) (N : Int) (T : List (Addr × Str)) (x : Addr) (z : Str) (H0 H : Hp) : Prop where
  pen : PenQ l N H p
  tab : LamX.Tabs T H
  kn : KN p H0 H
  wd : WordAt CW H x z
theorem Sta.same {CW p l : Addr} {N : Int} {T : List (Addr × Str)} {x : Addr} {z : Str} {H0 H H' : Hp} (s : Sta CW p l N T x z H0 H) (e : Same H H') : Sta CW p l N T x z H0 H' :=
  ⟨s.pen.same e, tabs_same s.tab e, s.kn.trans (KN.of e), s.wd.same e⟩
theorem Sta.kept {CW p l : Addr} {N M : Int} {T : List (Addr × Str)} {x : Addr} {z : Str} {H0 H H' : Hp} (s : Sta CW p l N T x z H0 H) (k : Kept p H H') (q : PenQ l M H' p) : Sta CW p l M T x z H0 H' :=
  ⟨q, tabs_keptQ s.tab s.pen k, s.kn.trans (KN.kept k), by
    obtain ⟨d, h⟩ := s.wd
    exact ⟨d, k _ _ h (s.pen.not_p h fun xs z => nomatch z)⟩⟩
theorem Sta.ext {CW p l : Addr} {N : Int} {T : List (Addr × Str)} {x : Addr} {z : Str} {H0 H H' : Hp} (s : Sta CW p l N T x z H0 H) (e : LamX.ExtN H H') (t : LamX.Tabs T H') : Sta CW p l N T x z H0 H' :=
  ⟨penQ_ext s.pen e, t, s.kn.trans (KN.ext e), by
    obtain ⟨d, h⟩ := s.wd
    exact ⟨d, e _ _ h (fun _ z => nomatch z)⟩⟩
theorem fresh_of {p G : Addr} {H0 H : Hp} (kn : KN p H0 H) (hG : H G = none) : ∀ b o, H0 b = some o → b ≠ p → (∀ ps, o ≠ .tbl ps) → b ≠ G := fun b o h np nt e => by
  have := kn b o h np nt
  rw [e, hG] at this
  cases this
theorem Sta.put {CW p l : Addr} {N : Int} {T : List (Addr × Str)} {x : Addr} {z : Str} {H0 H : Hp} {G : Addr} {xs ys : List V} (s : Sta CW p l N T x z H0 H) (hG : H G = some (.lst xs)) (hn : ∀ b o, H0 b = some o → b ≠ p → (∀ ps, o ≠ .tbl ps) → b ≠ G) (np : G ≠ p) (nl : G ≠ l) : Sta CW p l N T x z H0 (upd H G (.lst ys)) :=
  ⟨s.pen.write np nl, tabs_put s.tab hG, fun b o h npb nt => by
    rw [upd_ne (hn b o h npb nt)]
    exact s.kn b o h npb nt, by
    obtain ⟨d, h⟩ := s.wd
    refine ⟨d, ?_⟩
    rw [upd_ne (ne_of h hG fun q => nomatch q)]
    exact h⟩
/-- kept errors of the class C, told at 0 -/
def Errs (C : Addr) (es : List (Addr × Addr)) (H : Hp) : Prop := ∀ e ∈ es, H e.1 = some (ErrO C e.2 e.1) ∧ H e.2 = some (.xd [("at", .int 0)])
theorem Errs.same {C : Addr} {es : List (Addr × Addr)} {H H' : Hp} (o : Errs C es H) (s : Same H H') : Errs C es H' := fun e he => ⟨s _ _ (o e he).1, s _ _ (o e he).2⟩
theorem Errs.ext {C : Addr} {es : List (Addr × Addr)} {H H' : Hp} (o : Errs C es H) (s : LamX.ExtN H H') : Errs C es H' := fun e he => ⟨s _ _ (o e he).1 errO_ne, s _ _ (o e he).2 (fun _ z => nomatch z)⟩
theorem Errs.put {C : Addr} {es : List (Addr × Addr)} {H : Hp} {G : Addr} {xs ys : List V} (o : Errs C es H) (hG : H G = some (.lst xs)) : Errs C es (upd H G (.lst ys)) := fun e he => by
  obtain ⟨h1, h2⟩ := o e he
  refine ⟨?_, ?_⟩
  · rw [upd_ne fun z => by
      rw [z, hG] at h1
      exact errO_lst _ (Option.some.inj h1).symm]
    exact h1
  · rw [upd_ne fun z => by
      rw [z, hG] at h2
      cases h2]
    exact h2
theorem Errs.cons {C a d : Addr} {es : List (Addr × Addr)} {H : Hp} (o : Errs C es H) (h1 : H a = some (ErrO C d a)) (h2 : H d = some (.xd [("at", .int 0)])) : Errs C (es ++ [(a, d)]) H := fun e he => by
  rcases List.mem_append.mp he with he | he
  · exact o e he
  · rw [List.mem_singleton.mp he]
    exact ⟨h1, h2⟩
theorem xd2_a (f g : Str) (y z : V) : ([(f, y), (g, z)] : List (Str × V)).lookup f = some y := by simp [List.lookup]
theorem xd2_b (f g : Str) (y z : V) (h : g ≠ f) : ([(f, y), (g, z)] : List (Str × V)).lookup g = some z := by
  have e : (g == f) = false := by simpa using h
  simp [List.lookup, e]
section
variable {P : Program} {w : World} {K : PySem.W.Frag} {mg : Str → Option Value} {base : Heap}
def spLen (CW : Addr) : Sp := fun vs H Q _ => ∃ a z, vs = [.ref a] ∧ WordAt CW H a z ∧ z.length ≤ 100000 ∧ Q (.int (z.length : Nat)) H
theorem ok_Word_len {f CW : Addr} {fd : FuncData} {k : Nat} (F : Fun K "__len__" "Word.__len__" s_Word_len f fd) (cl : Cls K CW) (na : NoAttr K CW "letters") (ml : mg "len" = none) :
    FnOk P w K mg base CX0 (k + 1) f fd ["self"] (spLen CW) := by
  refine F.ok sc_Word_len (fun vs H Q E h => ?_) (fun cdv A outer s H vs Q E hr h => ?_)
  · obtain ⟨a, z, rfl, _⟩ := h
    rfl
  · obtain ⟨a, z, rfl, ⟨dx, ha⟩, hl, q⟩ := h
    refine ⟨_, pss_one (ps_ret (pe_callB call_len (by rfl) ml PySem.boot_len (pa_cons (pe_fld (pv 0) rfl) pa_nil))), ?_⟩
    exact ⟨.ref a, rfl, a, CW, dx, _, .str z, rfl, ha, cl, na, rfl, .str z, z.length, rfl, ⟨by rw [sizeLine_eq]; omega, rfl⟩, q⟩
end
/-- what is told of the values that are no Words -/
def OddOk (K : PySem.W.Frag) (C : Addr) : Prop := ∀ T ∈ (["NoneType", "int", "str", "list", "bool"] : List String), PySem.W.kitOne K (.type T) (.ref C) = some false
theorem odd_of {K : PySem.W.Frag} {C : Addr} {H : Hp} {l : Addr} {x : V} (O : OddOk K C) (h1 : H l = some (.lst [])) (hx : x ∈ [V.non, .str "1", .bl true, .ref l, .str "A", .int 0]) : NoWord K C H x := by
  simp only [List.mem_cons, List.not_mem_nil, or_false] at hx
  rcases hx with rfl | rfl | rfl | rfl | rfl | rfl
  · exact ⟨_, .base .non, O "NoneType" (by simp)⟩
  · exact ⟨_, .base (.str _), O "str" (by simp)⟩
  · exact ⟨_, .base (.bl _), O "bool" (by simp)⟩
  · exact ⟨_, .base (.lst h1), O "list" (by simp)⟩
  · exact ⟨_, .base (.str _), O "str" (by simp)⟩
  · exact ⟨_, .base (.int _), O "int" (by simp)⟩
theorem odd_int {K : PySem.W.Frag} {H : Hp} {l : Addr} {x : V} (h1 : H l = some (.lst [])) (hx : x ∈ [V.non, .str "1", .bl true, .ref l, .str "A", .int 0]) (n : x ≠ .int 0) : IsInt K H x false := by
  simp only [List.mem_cons, List.not_mem_nil, or_false] at hx
  rcases hx with rfl | rfl | rfl | rfl | rfl | rfl
  · exact ⟨.type "NoneType", false, false, .base .non, kit_ty (by decide +kernel), kit_ty (by decide +kernel), rfl⟩
  · exact ⟨.type "str", false, false, .base (.str _), kit_ty (by decide +kernel), kit_ty (by decide +kernel), rfl⟩
  · exact ⟨.type "bool", true, true, .base (.bl _), kit_ty (by decide +kernel), kit_ty (by decide +kernel), rfl⟩
  · exact ⟨.type "list", false, false, .base (.lst h1), kit_ty (by decide +kernel), kit_ty (by decide +kernel), rfl⟩
  · exact ⟨.type "str", false, false, .base (.str _), kit_ty (by decide +kernel), kit_ty (by decide +kernel), rfl⟩
  · exact absurd rfl n
theorem odd_ne {K : PySem.W.Frag} {H : Hp} {l : Addr} {x : V} (h1 : H l = some (.lst [])) (hx : x ∈ [V.non, .str "1", .bl true, .ref l, .str "A", .int 0]) : ∃ d b, Dp K H x d ∧ SeqAt.shaped d = true ∧ PyData.eqv d (.int 0) = b ∧ (b = true → x = .int 0) ∧ (b = false → x ≠ .int 0) := by
  simp only [List.mem_cons, List.not_mem_nil, or_false] at hx
  rcases hx with rfl | rfl | rfl | rfl | rfl | rfl
  · exact ⟨_, false, .non, by decide +kernel, by decide +kernel, (fun h => by cases h), (fun _ h => by cases h)⟩
  · exact ⟨_, false, .str _, by decide +kernel, by decide +kernel, (fun h => by cases h), (fun _ h => by cases h)⟩
  · exact ⟨_, false, .bl _, by decide +kernel, by decide +kernel, (fun h => by cases h), (fun _ h => by cases h)⟩
  · exact ⟨_, false, .lst (.inl (.inl h1)) .nil, by decide +kernel, by decide +kernel, (fun h => by cases h), (fun _ h => by cases h)⟩
  · exact ⟨_, false, .str _, by decide +kernel, by decide +kernel, (fun h => by cases h), (fun _ h => by cases h)⟩
  · exact ⟨_, true, .int _, by decide +kernel, by decide +kernel, (fun _ => rfl), (fun h => by cases h)⟩
theorem cut_last (z : Str) : (cutS z (some (-1)) none).cps.toList = z.cps.toList.drop (z.cps.toList.length - 1) := by
  unfold cutS
  rw [HT.sIx_none, sIx_m1]
  show ((z.cps.toList.drop (z.length - 1)).take (z.length - (z.length - 1))) = _
  rw [List.take_of_length_le (by rw [List.length_drop]; exact Nat.le_refl _)]
  rfl
theorem fine_more {z : Str} (fz : Fine z.cps.toList) (h : cutS z (some (-1)) none ≠ "a") : Fine (z ++ "A").cps.toList := by
  rw [app_codes]
  refine fine_join fz (by exact (fine_iff _).mp (by decide +kernel)) fun x y hx hy e => h ?_
  have ey : y = 65 := by
    have : ([65] : List Nat)[0]? = some y := hy
    exact (Option.some.inj this).symm
  obtain ⟨r, er⟩ := last_split hx
  have xL : isL x = true := fz.1 x (by rw [er]; exact List.mem_append_right _ List.mem_cons_self)
  have ex : x = 97 := by
    have h1 : up y = x := by rw [e, up_up x xL]
    rw [ey] at h1
    have h2 : up 65 = 97 := by decide +kernel
    omega
  refine str_ext ?_
  rw [cut_last, er, ex, List.length_append]
  show (r ++ [97]).drop (r.length + 1 - 1) = _
  rw [Nat.add_sub_cancel, List.drop_left]
  rfl
end K04
-- K04K2
namespace K04
open PySem PySem.Spec PyProof.Rows L2 SB
section
variable {P : Program} {w : World} {K : PySem.W.Frag} {mg : Str → Option Value} {base : Heap}
def spRefR (T : List (Addr × Str)) : Sp := fun vs H Q _ => ∃ (p l : Addr) (N : Int) (z : Str), vs = [.ref p, .str z] ∧ PenQ l N H p ∧ N ≤ 90000 ∧ LamX.Tabs T H ∧ Fine z.cps.toList ∧ z.length ≤ 5 ∧
  ∀ H', KN p H H' → LamX.Tabs T H' → PenQ l (N + 3) H' p → Q (.bl true) H'
theorem ok_law_refused_right {T : List (Addr × Str)} {f c Pt CB CB1 CB2 CM CW fB1 fB2 fM2 fLn f_commute f__law_pick f__law_peeled f__law_draw : Addr} {fd fdLn d_commute d__law_pick d__law_peeled d__law_draw : FuncData} {k : Nat} (F : FunT K "_law_refused_right" "_law_refused_right" s__law_refused_right f c fd) (Hd : Heard K mg CB)
    (TB : LamX.TabB base mg c Pt) (hmT : (Pt, lq "_law_refused_right") ∈ T) (hu : ∀ p ∈ T, p.1 = Pt → p.2 = lq "_law_refused_right")
    (MO : MakeOk P w K mg base CW CB2 CM k) (OO : OpsOk P w K mg base CW CB1 CB2 CM k) (OD : OddOk K CW) (E1 : Err1 K mg "BadNumber" "part" CB1 fB1) (E2 : Err1 K mg "BadWord" "at" CB2 fB2) (E3 : Err2 K mg "TooMany" "what" "most" CM fM2)
    (xm1 : PySem.W.exmOne K (.ref CB1) (.ref CB) = some true) (xm2 : PySem.W.exmOne K (.ref CB2) (.ref CB) = some true) (xm3 : PySem.W.exmOne K (.ref CM) (.ref CB) = some true)
    (wn : PySem.W.findIn K (.ref CW) "__len__" = some (some (.ref fLn))) (wnf : PySem.W.isFn K (.ref fLn) = true) (GLn : FnOk P w K mg base CX0 (k + 1) fLn fdLn ["self"] (spLen CW)) (bLn : Binds K fdLn ["self"] [])
    (G_commute : FnOk P w K mg base (L2.CX P w) (k + 5) f_commute d_commute ["one", "other"] (spCommute K CW CB2)) (g_commute : mg "commute" = some (.ref f_commute)) (k_commute : PySem.W.keepIn K (.ref f_commute) = true) (b_commute : Binds K d_commute ["one", "other"] [])
    (G__law_pick : FnOk P w K mg base CX0 (k + 2) f__law_pick d__law_pick ["pen", "some"] (spPick K)) (g__law_pick : mg "_law_pick" = some (.ref f__law_pick)) (k__law_pick : PySem.W.keepIn K (.ref f__law_pick) = true) (b__law_pick : Binds K d__law_pick ["pen", "some"] [])
    (G__law_peeled : FnOk P w K mg base CX0 (k + 3) f__law_peeled d__law_peeled ["row"] spPeeled) (g__law_peeled : mg "_law_peeled" = some (.ref f__law_peeled)) (k__law_peeled : PySem.W.keepIn K (.ref f__law_peeled) = true) (b__law_peeled : Binds K d__law_peeled ["row"] [])
    (G__law_draw : FnOk P w K mg base CX0 (k + 3) f__law_draw d__law_draw ["pen", "many"] spDraw) (g__law_draw : mg "_law_draw" = some (.ref f__law_draw)) (k__law_draw : PySem.W.keepIn K (.ref f__law_draw) = true) (b__law_draw : Binds K d__law_draw ["pen", "many"] [])
    (m_isinstance : mg "isinstance" = none) (m_len : mg "len" = none) : FnOk P w K mg base CX0 (k + 9) f fd ["pen", "row"] (spRefR T) := by
  obtain ⟨fW, fdW, tE, M, GW, bW, bW0, rE⟩ := MO.word
  obtain ⟨fPw, fdPw, mPw, GPw, bPw, kPw⟩ := OO.pw_
  have gW := MO.gW
  have cl := MO.cl
  have na := MO.na
  have g_BadWord := E2.at_
  have g_BadNumber := E1.at_
  have g_TooMany := E3.at_
  refine F.ok sc__law_refused_right (fun vs H Q E h => ?_) (fun A outer s H vs Q E hr h => ?_)
  · obtain ⟨p, l, N, z, rfl, _⟩ := h
    rfl
  · obtain ⟨p, l, N, z, rfl, p0, hN, t0, fz, lz, q⟩ := h
    have nd := sc__law_refused_right.nd
    refine ⟨_, (pss_cons (ps_asg (pe_tup (pa_cons (pe_make M GW (hr.mono (by omega)) (by rfl) gW bW .nil passL (pa_cons (pe_ifExp (pt_cmpR op_ne (pe_slice sl_str (pv 1) (po_some (pe_un un_neg pe_int)) po_none) pe_str (nomark _)) (pe_op op_add_str (pv 1) pe_str) (pv 1)) pa_nil)) (pa_cons (pe_call G__law_pick (hr.mono (by omega)) (by rfl) g__law_pick k__law_pick b__law_pick .nil pass0 (pa_cons (pv 0) (pa_cons (pe_lst (pa_cons pe_non (pa_cons pe_str (pa_cons pe_bl (pa_cons (pe_lst pa_nil) (pa_cons pe_str (pa_cons pe_int pa_nil))))))) pa_nil))) pa_nil))) (pg_tup rfl (pgs_cons (pg_name (i := 9) nd rfl (.inr rfl)) (pgs_cons (pg_name (i := 8) nd rfl (.inr rfl)) pgs_nil))))
      (pss_cons (ps_asg (pe_call G__law_peeled (hr.mono (by omega)) (by rfl) g__law_peeled k__law_peeled b__law_peeled .nil pass0 (pa_cons (pe_fld (pv 9) rfl) pa_nil)) (pg_tup rfl (pgs_cons (pg_name (i := 2) nd rfl (.inl rfl)) (pgs_cons (pg_name (i := 3) nd rfl (.inl rfl)) pgs_nil))))
      (pss_cons (ps_set (i := 4) nd rfl (.inl rfl) (pe_lst (pa_cons (pe_heard Hd (by rfl) TB (by rfl) hmT hu (k := k + 6) (hr.mono (by omega)) (LamX.lamS_by (sc := defScope s__law_refused_right) (by decide +kernel)) (by rfl) (fun _ _ _ _ _ => rfl) (fun _ _ _ _ E' _ _ hr' => (pe_call G_commute (hr'.mono (by omega)) (by rfl) g_commute k_commute b_commute .nil (E := E') (passes_call (takes_of rfl rfl rfl rfl) fun _ _ _ _ q => q) (pa_cons (pv 8) (pa_cons (pv 9) pa_nil))))) pa_nil)))
      (pss_cons (ps_expr (pe_bm PySem.F.plainAttrs_list PySem.F.slot_list_append PySem.F.type_list_append mt_append (pv 4) (pa_cons (pe_heard Hd (by rfl) TB (by rfl) hmT hu (k := k + 6) (hr.mono (by omega)) (LamX.lamS_by (sc := defScope s__law_refused_right) (by decide +kernel)) (by rfl) (fun _ _ _ _ _ => rfl) (fun _ _ _ _ E' _ _ hr' => (pe_call G_commute (hr'.mono (by omega)) (by rfl) g_commute k_commute b_commute .nil (E := E') (passes_call (takes_of rfl rfl rfl rfl) fun _ _ _ _ q => q) (pa_cons (pv 9) (pa_cons (pv 8) pa_nil))))) pa_nil)))
      (pss_cons (ps_if (pt_cmpR (op_neD hr.units) (pe_lc (own := [("one", 10)]) (g := gName 10) (te := tAndV (tCB (rIsErr K) (tCons (tVar 10) (tCons (tC (.ref CB2)) tNil))) (tOp rEq (tErrF K (tVar 10) "at") (tC (.int 0)))) (by rfl) nd (pi_list (pv 4)) (blkOk_by (own := [("one", 10)]) (N := ["pen", "row", "coat", "core", "caught", "refused", "most", "many", "odd", "word", "one"]) (sc := defScope s__law_refused_right) (by decide +kernel)) (fun _ _ _ _ _ => pg_name (i := 10) nd rfl (Or.inl rfl)) (fun _ _ _ _ _ => pts_nil) (fun _ _ _ _ _ => (pe_and (pe_callB call_isErr (by rfl) m_isinstance boot_isinstance (pa_cons (pv 10) (pa_cons (pe_glob (v := .ref CB2) (by rfl) g_BadWord rfl) pa_nil))) (pe_one (pe_cmpR op_eq (pe_errF (pv 10)) pe_int (nomark _)))))) (pe_lst (pa_cons pe_bl (pa_cons pe_bl pa_nil))) (nomark _)) (pss_one (ps_ret pe_bl)) pss_nil)
      (C8.pss_cut (ps_if (PW.pt (pw_or (pt_cmpR (op_neD hr.units) (pv 8) pe_int (nomark _)) (pw_or1 (pt_cmpR op_isIB (pv 8) pe_bl (nomark _))))) (pss_cons (ps_set (i := 5) nd rfl (.inl rfl) (pe_heard Hd (by rfl) TB (by rfl) hmT hu (k := k + 6) (hr.mono (by omega)) (LamX.lamS_by (sc := defScope s__law_refused_right) (by decide +kernel)) (by rfl) (fun _ _ _ _ _ => rfl) (fun _ _ _ _ E' _ _ hr' => (pe_meth (pv 9) cl mPw GPw (hr'.mono (by omega)) bPw .nil (E := E') (passes_call (takes_of rfl rfl rfl rfl) fun _ _ _ _ q => q) (pa_cons (pv 8) pa_nil)))))
      (pss_one (ps_if (PW.pt (pw_or (pt_not (pt_val (pe_callB call_isErr (by rfl) m_isinstance boot_isinstance (pa_cons (pv 5) (pa_cons (pe_glob (v := .ref CB1) (by rfl) g_BadNumber rfl) pa_nil))))) (pw_or1 (pt_cmpR op_ne (pe_errF (pv 5)) pe_str (nomark _))))) (pss_one (ps_ret pe_bl)) pss_nil))) pss_nil)
      (pss_cons (ps_set (i := 6) nd rfl (.inl rfl) (pe_op op_fdiv (pe_op op_sub pe_int (pe_op op_mul pe_int (pe_callB call_len (by rfl) m_len PySem.boot_len (pa_cons (pv 2) pa_nil)))) (pe_callB call_len (by rfl) m_len PySem.boot_len (pa_cons (pv 3) pa_nil))))
      (pss_cons (ps_for PassesOwn.never rfl (pi_list (pe_lst (pa_cons (pe_op op_add (pv 6) pe_int) (pa_cons (pe_op op_sub (pe_op op_sub (pe_un un_neg (pv 6)) pe_int) (pe_call G__law_draw (hr.mono (by omega)) (by rfl) g__law_draw k__law_draw b__law_draw .nil pass0 (pa_cons (pv 0) (pa_cons (pe_op op_pow pe_int pe_int) pa_nil)))) pa_nil)))) (pg_name (i := 7) nd rfl (.inr rfl)) (pss_cons (ps_set (i := 5) nd rfl (.inl rfl) (pe_heard Hd (by rfl) TB (by rfl) hmT hu (k := k + 6) (hr.mono (by omega)) (LamX.lamS_by (sc := defScope s__law_refused_right) (by decide +kernel)) (by rfl) (fun _ _ _ _ _ => rfl) (fun _ _ _ _ E' _ _ hr' => (pe_meth (pv 9) cl mPw GPw (hr'.mono (by omega)) bPw .nil (E := E') (passes_call (takes_of rfl rfl rfl rfl) fun _ _ _ _ q => q) (pa_cons (pv 7) pa_nil)))))
      (pss_one (ps_if (PW.pt (pw_or (pt_not (pt_val (pe_callB call_isErr (by rfl) m_isinstance boot_isinstance (pa_cons (pv 5) (pa_cons (pe_glob (v := .ref CM) (by rfl) g_TooMany rfl) pa_nil))))) (pw_or (pt_cmpR op_ne (pe_errF (pv 5)) pe_str (nomark _)) (pw_or1 (pt_cmpR op_ne (pe_errF (pv 5)) pe_int (nomark _)))))) (pss_one (ps_ret pe_bl)) pss_nil))))
      (pss_one (ps_ret (pe_cmpR op_eq (pe_callB (call_lenOwn wn wnf GLn (hr.mono (by omega)) bLn pass0) (by rfl) m_len PySem.boot_len (pa_cons (pe_meth (pv 9) cl mPw GPw (hr.mono (by omega)) bPw .nil passL (pa_cons (pe_un un_neg (pv 6)) pa_nil)) pa_nil)) (pe_op op_add (pe_op op_mul pe_int (pe_callB call_len (by rfl) m_len PySem.boot_len (pa_cons (pv 2) pa_nil))) (pe_op op_mul (pv 6) (pe_callB call_len (by rfl) m_len PySem.boot_len (pa_cons (pv 3) pa_nil)))) (nomark _)))))))))))), ?_⟩
    have zs : z.length ≤ sizeLine := by rw [sizeLine_eq]; omega
    refine ⟨.str z, rfl, _, rfl, _, rfl, z, rfl, zs, rfl, _, rfl, ite2 (fun e => ?_) (fun e => ?_)⟩
    · refine ⟨.str z, rfl, _, _, rfl, rfl, by rw [sizeLine_eq]; show z.length + 1 ≤ _; omega, ?_⟩
      have fu : Fine (z ++ "A").cps.toList := fine_more fz (fun h : cutS z (some (-1)) none = "a" => by rw [h] at e; exact absurd e (by decide +kernel))
      have lu : (z ++ "A").length ≤ 6 := by rw [Str.length_append]; show z.length + 1 ≤ 6; omega
      have nu : (z ++ "A").cps.toList ≠ [] := by rw [app_codes]; simp; exact fun _ => by decide +kernel
      refine fun x dx nx nd' ne => make_q nx nd' ne fu (by omega) fun H1 s1 w1 => ⟨rfl, ?_⟩
      have S1 : Sta CW p l N T x (z ++ "A") H H1 := ⟨p0.same s1, tabs_same t0 s1, KN.of s1, w1⟩
      refine ⟨.ref p, rfl, Nat.le_of_ble_eq_true rfl, fun l1 hl1 => ⟨Nat.le_of_ble_eq_true rfl, fun L hL => ?_⟩⟩
      have sl := same_new (o := .lst []) hl1
      have sL := same_new (o := .lst [.non, .str "1", .bl true, .ref l1, .str "A", .int 0]) hL
      have O4 : upd (upd H1 l1 (.lst [])) L (.lst [.non, .str "1", .bl true, .ref l1, .str "A", .int 0]) l1 = some (.lst []) := sL _ _ upd_same
      have S4 := (S1.same sl).same sL
      have np1 := S1.pen.ne_p hl1
      have np3 := ((S1.same sl).pen).ne_p hL
      have aL : upd (upd H1 l1 (.lst [])) L (.lst [.non, .str "1", .bl true, .ref l1, .str "A", .int 0]) L = some (.lst [.non, .str "1", .bl true, .ref l1, .str "A", .int 0]) := upd_same
      generalize upd (upd H1 l1 (.lst [])) L (.lst [.non, .str "1", .bl true, .ref l1, .str "A", .int 0]) = H2 at O4 aL S4 ⊢
      clear sl sL hl1 hL
      refine ⟨p, l, .ref L, _, _, rfl, S4.pen, by omega, .inl ⟨L, rfl, .inl (.inl aL), np3⟩, by show 0 < 6; decide, by show 6 ≤ 100000; decide, fun y H3 hy k3 p3 => ?_⟩
      have S3 := S4.kept k3 p3
      have O3 : H3 l1 = some (.lst []) := k3 _ _ O4 np1
      refine ⟨Nat.le_of_ble_eq_true rfl, fun t ht => ?_⟩
      have sT := same_new (o := .tup [.ref x, y]) ht
      refine ⟨t, _, rfl, .inl (.inl upd_same), rfl, _, _, rfl, _, _, rfl, rfl, ?_⟩
      have S5 := S3.same sT
      have O5 := sT _ _ O3
      generalize upd H3 t (.tup [.ref x, y]) = H5 at S5 O5 ⊢
      clear S1 S3 S4 O3 O4 sT ht aL np1 np3 k3 p3 w1 s1 nx nd' ne
      -- the coat and the core
      obtain ⟨dx6, hx6⟩ := S5.wd
      refine ⟨.ref x, rfl, x, CW, dx6, _, .str (z ++ "A"), rfl, hx6, cl, na, rfl, (z ++ "A"), rfl, by omega, fu.1, fun t6 ht6 => ?_⟩
      have s6 := same_new (o := .tup [.str (SB.T (pre (z ++ "A").cps.toList)), .str (SB.T (mid (z ++ "A").cps.toList))]) ht6
      refine ⟨t6, _, rfl, .inl (.inl upd_same), rfl, _, _, rfl, _, _, rfl, rfl, ?_⟩
      have S7 := S5.same s6
      have O7 := s6 _ _ O5
      generalize upd H5 t6 (.tup [.str (SB.T (pre (z ++ "A").cps.toList)), .str (SB.T (mid (z ++ "A").cps.toList))]) = H7 at S7 O7 ⊢
      clear S5 O5 s6 ht6 hx6
      -- commute(odd, word)
      refine ⟨S7.tab, fun H8 e8 t8 => ?_⟩
      have S8 := S7.ext e8 t8
      have O8 := e8 _ _ O7 (fun _ z => nomatch z)
      refine ⟨y, rfl, .ref x, rfl, y, .ref x, rfl, .inr ⟨.inl (odd_of OD O8 hy), fun d9 hd9 => ⟨true, xm2, (fun z => nomatch z), fun _ => ⟨CB2, d9, rfl, rfl, fun a9 ha9 => ?_⟩⟩⟩⟩
      obtain ⟨hA9, hD9, se9⟩ := err_put (C := CB2) hd9 ha9
      have S9 := S8.same se9
      have O9 := se9 _ _ O8
      have R9 : Errs CB2 ([] ++ [(a9, d9)]) _ := Errs.cons (fun e he => by cases he) hA9 hD9
      generalize upd (upd H8 d9 (.xd [("at", .int 0)])) a9 (ErrO CB2 d9 a9) = H9 at S9 O9 R9 ⊢
      clear hA9 hD9 se9 hd9 ha9 S8 O8 S7 O7 e8 t8
      refine ⟨Nat.le_of_ble_eq_true rfl, fun G hG => ?_⟩
      have sG := same_new (o := .lst [.ref a9]) hG
      have fG := fresh_of S9.kn hG
      have nGp := S9.pen.ne_p hG
      have nGl := S9.pen.ne_l hG
      have S10 := S9.same sG
      have O10 := sG _ _ O9
      have R10 := R9.same sG
      have G10 : upd H9 G (.lst [.ref a9]) G = some (.lst [.ref a9]) := upd_same
      have ol : l1 ≠ G := fun h => by rw [h, hG] at O9; cases O9
      generalize upd H9 G (.lst [.ref a9]) = H10 at S10 O10 R10 G10 ⊢
      clear S9 O9 R9 sG hG
      -- commute(word, odd)
      refine ⟨.ref G, rfl, .inl ⟨rfl, _, .inl (.inl G10)⟩, S10.tab, fun H11 e11 t11 => ?_⟩
      have S11 := S10.ext e11 t11
      have O11 := e11 _ _ O10 (fun _ z => nomatch z)
      have R11 := R10.ext e11
      have G11 := e11 _ _ G10 (fun _ z => nomatch z)
      refine ⟨.ref x, rfl, y, rfl, .ref x, y, rfl, .inr ⟨.inr ⟨⟨x, (z ++ "A"), rfl, S11.wd⟩, odd_of OD O11 hy⟩, fun d12 hd12 => ⟨true, xm2, (fun z => nomatch z), fun _ => ⟨CB2, d12, rfl, rfl, fun a12 ha12 => ?_⟩⟩⟩⟩
      obtain ⟨hA12, hD12, se12⟩ := err_put (C := CB2) hd12 ha12
      have S12 := S11.same se12
      have O12 := se12 _ _ O11
      have R12 := (R11.same se12).cons hA12 hD12
      have G12 := se12 _ _ G11
      generalize upd (upd H11 d12 (.xd [("at", .int 0)])) a12 (ErrO CB2 d12 a12) = H12 at S12 O12 R12 G12 ⊢
      clear hA12 hD12 se12 hd12 ha12 S11 O11 R11 G11 S10 O10 R10 G10 e11 t11
      refine ⟨G, _, _, rfl, rfl, G12, by show 1 < sizeLine; decide, ?_⟩
      have S13 := S12.put (ys := [.ref a9] ++ [.ref a12]) G12 fG nGp nGl
      have R13 := R12.put (ys := [.ref a9] ++ [.ref a12]) G12
      have O13 : upd H12 G (.lst ([.ref a9] ++ [.ref a12])) l1 = some (.lst []) := by
        rw [upd_ne ol]
        exact O12
      have G13 : upd H12 G (.lst ([.ref a9] ++ [.ref a12])) G = some (.lst ([.ref a9] ++ [.ref a12])) := upd_same
      generalize upd H12 G (.lst ([.ref a9] ++ [.ref a12])) = H13 at S13 O13 R13 G13 ⊢
      clear S12 O12 R12 G12
      -- both are told at 0
      refine ⟨.ref G, rfl, G, rfl, ⟨_, .inl (.inl G13)⟩, fun D hD => lc_it (walk_list (xs := [.ref a9] ++ [.ref a12])) (fun i H' => Same H13 H' ∧ H' D = some (.lst (List.replicate i (.bl true)))) ⟨same_new hD, upd_same⟩ (fun i H' _ h => .inl (.inl (h.1 _ _ G13))) (fun i v Ha Hb hi hPc hY => ?_) (fun H14 hPc => ?_)⟩
      · obtain ⟨sa, ha'⟩ := hPc
        obtain ⟨rfl, hxv⟩ := hY
        obtain ⟨e, he, rfl⟩ : ∃ e ∈ ([] ++ [(a9, d9)] ++ [(a12, d12)] : List (Addr × Addr)), v = .ref e.1 := by
          match i, hi, hxv with
          | 0, _, hx =>
            cases hx
            exact ⟨(a9, d9), by simp, rfl⟩
          | 1, _, hx =>
            cases hx
            exact ⟨(a12, d12), by simp, rfl⟩
        obtain ⟨gA, gD⟩ := R13 e he
        have gA := sa _ _ gA
        have gD := sa _ _ gD
        have fld := xd_fld "at" (V.int 0)
        refine ⟨rfl, .ref e.1, rfl, e.1, CB2, e.2, CB2, _, true, rfl, gA, gD, E2.ec, kit_self, true, rfl, ?_⟩
        refine iteT ⟨.ref e.1, rfl, e.1, CB2, e.2, _, .int 0, rfl, gA, gD, E2.ec, E2.no, fld, rfl, ?_⟩
        rw [decide_eq_true rfl]
        have i2 : i < 2 := hi
        refine ⟨_, ha', by rw [List.length_replicate, sizeLine_eq]; omega, ?_⟩
        refine ⟨fun b u hb => ?_, ?_⟩
        · have nb : b ≠ D := fun h => by
            rw [h, hD] at hb
            cases hb
          rw [upd_ne nb]
          exact sa b u hb
        · rw [upd_same, List.replicate_succ']
      · obtain ⟨sa, ha'⟩ := hPc
        refine ⟨Nat.le_of_ble_eq_true rfl, fun D2 hD2 => ?_⟩
        have s15 := same_new (o := .lst [.bl true, .bl true]) hD2
        refine ⟨_, _, .lst (.inl (.inl (s15 _ _ ha'))) (.cons (.bl _) (.cons (.bl _) .nil)), .lst (.inl (.inl upd_same)) (.cons (.bl _) (.cons (.bl _) .nil)), by decide +kernel, by decide +kernel, ?_⟩
        rw [show PyData.eqv (.list [.bool true, .bool true]) (.list [.bool true, .bool true]) = true by decide +kernel]
        refine ⟨_, rfl, iteF ?_⟩
        have S15 := S13.same (sa.trans s15)
        have O15 := (sa.trans s15) _ _ O13
        generalize upd H14 D2 (.lst [.bl true, .bl true]) = H15 at S15 O15 ⊢
        clear S13 O13 R13 G13 sa ha' s15 hD hD2
        refine ⟨fun σ H' => ∃ y5, σ = [some (.ref p), some (.str z), some (.str (SB.T (pre (z ++ "A").cps.toList))), some (.str (SB.T (mid (z ++ "A").cps.toList))), some (.ref G), y5, none, none, some y, some (.ref x), none] ∧ Sta CW p l (N + 1) T x (z ++ "A") H H', ?_, ?_⟩
        · obtain ⟨d, b, hd, hsh, eb, ht, hf⟩ := odd_ne (K := K) O15 hy
          refine ⟨y, rfl, d, .int 0, hd, .int _, hsh, rfl, ?_⟩
          rw [eb]
          cases b with
          | true =>
            have ey := ht rfl
            subst ey
            exact ⟨_, rfl, iteF ⟨.int 0, rfl, 0, false, rfl, rfl, _, rfl, iteF ⟨none, rfl, S15⟩⟩⟩
          | false =>
            refine ⟨_, rfl, iteT ?_⟩
            refine ⟨S15.tab, fun H17 e17 t17 => ?_⟩
            have S17 := S15.ext e17 t17
            have O17 := e17 _ _ O15 (fun _ z => nomatch z)
            obtain ⟨dx17, hx17⟩ := S17.wd
            refine ⟨.ref x, rfl, x, dx17, _, rfl, hx17, xd_no _ _ _ (by decide +kernel), y, rfl, x, (z ++ "A"), y, rfl, S17.wd, fu, by omega, .inr ⟨odd_int O17 hy (hf rfl), fun d18 hd18 => ⟨true, xm1, (fun z => nomatch z), fun _ => ⟨CB1, d18, rfl, rfl, fun a18 ha18 => ?_⟩⟩⟩⟩
            obtain ⟨hA18, hD18, se18⟩ := err_put (C := CB1) hd18 ha18
            have S18 := S17.same se18
            have fld := xd_fld "part" (V.str "many")
            refine ⟨.ref a18, rfl, a18, CB1, d18, CB1, _, true, rfl, hA18, hD18, E1.ec, kit_self, true, rfl, iteF ?_⟩
            refine ⟨.ref a18, rfl, a18, CB1, d18, _, .str "many", rfl, hA18, hD18, E1.ec, E1.no, fld, rfl, _, rfl, ?_⟩
            rw [decide_eq_true rfl]
            exact iteF ⟨_, rfl, S18⟩
        · rintro σ H16 ⟨y5, rfl, S16⟩
          clear S15 O15
          have hU : (z ++ "A").cps.toList.length ≤ 6 := lu
          have hcl := (coat_is (z ++ "A").cps.toList).1
          have lpre : (SB.T (pre (z ++ "A").cps.toList)).length = coat (z ++ "A").cps.toList := pre_len _
          have lmid : (SB.T (mid (z ++ "A").cps.toList)).length = (mid (z ++ "A").cps.toList).length := rfl
          have lm0 := mid_len (z ++ "A").cps.toList
          have m1 : 1 ≤ (mid (z ++ "A").cps.toList).length := (mid_cr fu nu).pos
          have sz : ∀ n, n ≤ 10000 → n ≤ sizeLine := fun n h => by rw [sizeLine_eq]; omega
          refine ⟨.str (SB.T (pre (z ++ "A").cps.toList)), rfl, .str (SB.T (pre (z ++ "A").cps.toList)), coat (z ++ "A").cps.toList, rfl, ⟨sz _ (by omega), by rw [lpre]⟩, _, _, rfl, rfl, .inl ⟨by decide, by decide⟩, _, _, rfl, rfl, .str (SB.T (mid (z ++ "A").cps.toList)), rfl, .str (SB.T (mid (z ++ "A").cps.toList)), (mid (z ++ "A").cps.toList).length, rfl, ⟨sz _ (by omega), rfl⟩, _, _, rfl, rfl, ⟨by omega, by omega⟩, ?_⟩
          obtain ⟨q0, hq0, hqe⟩ : ∃ q0 : Nat, (4000 - 2 * ((coat (z ++ "A").cps.toList : Nat) : Int)) / (((mid (z ++ "A").cps.toList).length : Nat) : Int) = ((q0 : Nat) : Int) ∧ q0 = (4000 - 2 * coat (z ++ "A").cps.toList) / (mid (z ++ "A").cps.toList).length := by
            refine ⟨_, ?_, rfl⟩
            rw [show (4000 - 2 * ((coat (z ++ "A").cps.toList : Nat) : Int)) = ((4000 - 2 * coat (z ++ "A").cps.toList : Nat) : Int) by omega]
            exact (Int.natCast_ediv _ _).symm
          have qM : q0 * (mid (z ++ "A").cps.toList).length ≤ 4000 - 2 * coat (z ++ "A").cps.toList := by rw [hqe]; exact Nat.div_mul_le_self _ _
          have qS : 4000 - 2 * coat (z ++ "A").cps.toList < (q0 + 1) * (mid (z ++ "A").cps.toList).length := by
            rw [hqe]
            calc _ < _ := Nat.lt_mul_div_succ _ m1
              _ = _ := Nat.mul_comm _ _
          have q1 : 1 ≤ q0 := by
            rw [hqe]
            exact Nat.div_pos (by omega) m1
          show gName 6 (V.int ((4000 - 2 * ((coat (z ++ "A").cps.toList : Nat) : Int)) / (((mid (z ++ "A").cps.toList).length : Nat) : Int))) _ _ _
          rw [hq0]
          refine ⟨.int (q0 : Nat), rfl, _, _, rfl, rfl, .int (q0 : Nat), rfl, _, rfl, _, _, rfl, rfl, .ref p, rfl, _, _, rfl, rfl, ⟨by decide, by decide, by decide⟩, p, l, N + 1, 10 ^ 40, rfl, S16.pen, by omega, by decide, Int.le_refl _, fun d H18 d0 d1 k18 p18 => ?_⟩
          have S18 := S16.kept k18 p18
          refine ⟨_, _, rfl, rfl, Nat.le_of_ble_eq_true rfl, fun L2 hL2 => ?_⟩
          have s19 := same_new (o := .lst [.int ((q0 : Nat) + 1), .int (-((q0 : Nat) : Int) - 1 - d)]) hL2
          have S19 := S18.same s19
          have fitN : ∀ m : Int, q0 + 1 ≤ m.natAbs → ¬ FitsI (z ++ "A").cps.toList m := fun m hm => by
            rintro (h | h)
            · omega
            · have : (q0 + 1) * (mid (z ++ "A").cps.toList).length ≤ m.natAbs * (mid (z ++ "A").cps.toList).length := Nat.mul_le_mul_right _ hm
              omega
          refine ⟨L2, rfl, ⟨_, .inl (.inl upd_same)⟩, for_it (walk_list (xs := [.int ((q0 : Nat) + 1), .int (-((q0 : Nat) : Int) - 1 - d)])) (fun i σ H' => ∃ y5 y7, σ = [some (.ref p), some (.str z), some (.str (SB.T (pre (z ++ "A").cps.toList))), some (.str (SB.T (mid (z ++ "A").cps.toList))), some (.ref G), y5, some (.int (q0 : Nat)), y7, some y, some (.ref x), none] ∧ Sta CW p l (N + 1 + 1) T x (z ++ "A") H H' ∧ H' L2 = some (.lst [.int ((q0 : Nat) + 1), .int (-((q0 : Nat) : Int) - 1 - d)]))
            ⟨_, none, rfl, S19, upd_same⟩ (fun i σ H' _ hPv => ?_) (fun i v σ Ha Hb hi hPv hY => ?_) (fun σ H' hPv => ?_)⟩
          · obtain ⟨y5', y7, rfl, S20, hL⟩ := hPv
            exact .inl (.inl hL)
          · obtain ⟨y5', y7, rfl, S20, hL⟩ := hPv
            obtain ⟨rfl, hx⟩ := hY
            obtain ⟨m, rfl, hm⟩ : ∃ m : Int, v = .int m ∧ q0 + 1 ≤ m.natAbs := by
              match i, hi, hx with
              | 0, _, hx =>
                cases hx
                exact ⟨_, rfl, by omega⟩
              | 1, _, hx =>
                cases hx
                exact ⟨_, rfl, by omega⟩
            refine ⟨S20.tab, fun H21 e21 t21 => ?_⟩
            have S21 := S20.ext e21 t21
            have L21 := e21 _ _ hL (fun _ z => nomatch z)
            obtain ⟨dx21, hx21⟩ := S21.wd
            refine ⟨.ref x, rfl, x, dx21, _, rfl, hx21, xd_no _ _ _ (by decide +kernel), .int m, rfl, x, (z ++ "A"), .int m, rfl, S21.wd, fu, by omega, .inl ⟨m, rfl, fun ft => absurd ft (fitN m hm), fun _ d22 hd22 => ⟨true, xm3, (fun z => nomatch z), fun _ => ⟨CM, d22, rfl, rfl, fun a22 ha22 => ?_⟩⟩⟩⟩
            obtain ⟨hA22, hD22, se22⟩ := err_put (C := CM) hd22 ha22
            have S22 := S21.same se22
            have L22 := se22 _ _ L21
            refine ⟨.ref a22, rfl, a22, CM, d22, CM, _, true, rfl, hA22, hD22, E3.ec, kit_self, true, rfl, iteF ?_⟩
            refine ⟨.ref a22, rfl, a22, CM, d22, _, .str "letters", rfl, hA22, hD22, E3.ec, E3.nf, xd2_b _ _ _ _ (by decide +kernel), rfl, _, rfl, ?_⟩
            rw [decide_eq_true rfl]
            refine iteF ?_
            refine ⟨.ref a22, rfl, a22, CM, d22, _, .int 4000, rfl, hA22, hD22, E3.ec, E3.ng, xd2_a _ _ _ _, rfl, _, rfl, ?_⟩
            rw [decide_eq_true rfl]
            exact iteF ⟨_, _, rfl, S22, L22⟩
          · obtain ⟨y5', y7, rfl, S23, hL⟩ := hPv
            obtain ⟨dx23, hx23⟩ := S23.wd
            have nzq : (-((q0 : Nat) : Int)) ≠ 0 := by omega
            have ft : FitsI (z ++ "A").cps.toList (-((q0 : Nat) : Int)) := by
              right
              rw [show (-((q0 : Nat) : Int)).natAbs = q0 by omega]
              omega
            have lpw : (powI (z ++ "A").cps.toList (-((q0 : Nat) : Int))).length = 2 * coat (z ++ "A").cps.toList + q0 * (mid (z ++ "A").cps.toList).length := by
              rw [powI_len fu nzq, show (-((q0 : Nat) : Int)).natAbs = q0 by omega]
            have lpT : (SB.T (powI (z ++ "A").cps.toList (-((q0 : Nat) : Int)))).length = 2 * coat (z ++ "A").cps.toList + q0 * (mid (z ++ "A").cps.toList).length := lpw
            refine ⟨.ref x, rfl, x, dx23, _, rfl, hx23, xd_no _ _ _ (by decide +kernel), .int (q0 : Nat), rfl, _, rfl, x, (z ++ "A"), .int (-((q0 : Nat) : Int)), rfl, S23.wd, fu, by omega, .inl ⟨-((q0 : Nat) : Int), rfl, fun _ x24 H24 n24 s24 w24 => ?_, fun nf => absurd ft nf⟩⟩
            have S24 := S23.same s24
            obtain ⟨dx24, hx24⟩ := id w24
            refine ⟨x24, dx24, _, rfl, hx24, x24, SB.T (powI (z ++ "A").cps.toList (-((q0 : Nat) : Int))), rfl, w24, by omega, ((SB.T (powI (z ++ "A").cps.toList (-((q0 : Nat) : Int)))).length : Nat), rfl, by omega, by omega, ?_⟩
            refine ⟨.str (SB.T (pre (z ++ "A").cps.toList)), rfl, .str (SB.T (pre (z ++ "A").cps.toList)), coat (z ++ "A").cps.toList, rfl, ⟨sz _ (by omega), by rw [lpre]⟩, _, _, rfl, rfl, .inl ⟨by decide, by decide⟩, .int (q0 : Nat), rfl, .str (SB.T (mid (z ++ "A").cps.toList)), rfl, .str (SB.T (mid (z ++ "A").cps.toList)), (mid (z ++ "A").cps.toList).length, rfl, ⟨sz _ (by omega), rfl⟩, _, _, rfl, rfl, .inr ⟨by omega, by omega⟩, _, _, rfl, rfl, rfl, ?_⟩
            have fin : decide (V.int (((SB.T (powI (z ++ "A").cps.toList (-((q0 : Nat) : Int)))).length : Nat) : Int) = V.int (2 * ((coat (z ++ "A").cps.toList : Nat) : Int) + ((q0 : Nat) : Int) * (((mid (z ++ "A").cps.toList).length : Nat) : Int))) = true := by
              refine decide_eq_true (congrArg V.int ?_)
              rw [lpT, Int.natCast_add, Int.natCast_mul, Int.natCast_mul]
              rfl
            have qq := q H24 S24.kn S24.tab (S24.pen.mono (by omega))
            rw [← fin] at qq
            exact qq
    · refine ⟨.str z, rfl, ?_⟩
      have fu : Fine z.cps.toList := fz
      have lu : z.length ≤ 6 := by omega
      have nu : z.cps.toList ≠ [] := fun h => by
        have hz : z = "" := str_ext h
        subst hz
        exact e (by decide +kernel)
      refine fun x dx nx nd' ne => make_q nx nd' ne fu (by omega) fun H1 s1 w1 => ⟨rfl, ?_⟩
      have S1 : Sta CW p l N T x z H H1 := ⟨p0.same s1, tabs_same t0 s1, KN.of s1, w1⟩
      refine ⟨.ref p, rfl, Nat.le_of_ble_eq_true rfl, fun l1 hl1 => ⟨Nat.le_of_ble_eq_true rfl, fun L hL => ?_⟩⟩
      have sl := same_new (o := .lst []) hl1
      have sL := same_new (o := .lst [.non, .str "1", .bl true, .ref l1, .str "A", .int 0]) hL
      have O4 : upd (upd H1 l1 (.lst [])) L (.lst [.non, .str "1", .bl true, .ref l1, .str "A", .int 0]) l1 = some (.lst []) := sL _ _ upd_same
      have S4 := (S1.same sl).same sL
      have np1 := S1.pen.ne_p hl1
      have np3 := ((S1.same sl).pen).ne_p hL
      have aL : upd (upd H1 l1 (.lst [])) L (.lst [.non, .str "1", .bl true, .ref l1, .str "A", .int 0]) L = some (.lst [.non, .str "1", .bl true, .ref l1, .str "A", .int 0]) := upd_same
      generalize upd (upd H1 l1 (.lst [])) L (.lst [.non, .str "1", .bl true, .ref l1, .str "A", .int 0]) = H2 at O4 aL S4 ⊢
      clear sl sL hl1 hL
      refine ⟨p, l, .ref L, _, _, rfl, S4.pen, by omega, .inl ⟨L, rfl, .inl (.inl aL), np3⟩, by show 0 < 6; decide, by show 6 ≤ 100000; decide, fun y H3 hy k3 p3 => ?_⟩
      have S3 := S4.kept k3 p3
      have O3 : H3 l1 = some (.lst []) := k3 _ _ O4 np1
      refine ⟨Nat.le_of_ble_eq_true rfl, fun t ht => ?_⟩
      have sT := same_new (o := .tup [.ref x, y]) ht
      refine ⟨t, _, rfl, .inl (.inl upd_same), rfl, _, _, rfl, _, _, rfl, rfl, ?_⟩
      have S5 := S3.same sT
      have O5 := sT _ _ O3
      generalize upd H3 t (.tup [.ref x, y]) = H5 at S5 O5 ⊢
      clear S1 S3 S4 O3 O4 sT ht aL np1 np3 k3 p3 w1 s1 nx nd' ne
      -- the coat and the core
      obtain ⟨dx6, hx6⟩ := S5.wd
      refine ⟨.ref x, rfl, x, CW, dx6, _, .str z, rfl, hx6, cl, na, rfl, z, rfl, by omega, fu.1, fun t6 ht6 => ?_⟩
      have s6 := same_new (o := .tup [.str (SB.T (pre z.cps.toList)), .str (SB.T (mid z.cps.toList))]) ht6
      refine ⟨t6, _, rfl, .inl (.inl upd_same), rfl, _, _, rfl, _, _, rfl, rfl, ?_⟩
      have S7 := S5.same s6
      have O7 := s6 _ _ O5
      generalize upd H5 t6 (.tup [.str (SB.T (pre z.cps.toList)), .str (SB.T (mid z.cps.toList))]) = H7 at S7 O7 ⊢
      clear S5 O5 s6 ht6 hx6
      -- commute(odd, word)
      refine ⟨S7.tab, fun H8 e8 t8 => ?_⟩
      have S8 := S7.ext e8 t8
      have O8 := e8 _ _ O7 (fun _ z => nomatch z)
      refine ⟨y, rfl, .ref x, rfl, y, .ref x, rfl, .inr ⟨.inl (odd_of OD O8 hy), fun d9 hd9 => ⟨true, xm2, (fun z => nomatch z), fun _ => ⟨CB2, d9, rfl, rfl, fun a9 ha9 => ?_⟩⟩⟩⟩
      obtain ⟨hA9, hD9, se9⟩ := err_put (C := CB2) hd9 ha9
      have S9 := S8.same se9
      have O9 := se9 _ _ O8
      have R9 : Errs CB2 ([] ++ [(a9, d9)]) _ := Errs.cons (fun e he => by cases he) hA9 hD9
      generalize upd (upd H8 d9 (.xd [("at", .int 0)])) a9 (ErrO CB2 d9 a9) = H9 at S9 O9 R9 ⊢
      clear hA9 hD9 se9 hd9 ha9 S8 O8 S7 O7 e8 t8
      refine ⟨Nat.le_of_ble_eq_true rfl, fun G hG => ?_⟩
      have sG := same_new (o := .lst [.ref a9]) hG
      have fG := fresh_of S9.kn hG
      have nGp := S9.pen.ne_p hG
      have nGl := S9.pen.ne_l hG
      have S10 := S9.same sG
      have O10 := sG _ _ O9
      have R10 := R9.same sG
      have G10 : upd H9 G (.lst [.ref a9]) G = some (.lst [.ref a9]) := upd_same
      have ol : l1 ≠ G := fun h => by rw [h, hG] at O9; cases O9
      generalize upd H9 G (.lst [.ref a9]) = H10 at S10 O10 R10 G10 ⊢
      clear S9 O9 R9 sG hG
      -- commute(word, odd)
      refine ⟨.ref G, rfl, .inl ⟨rfl, _, .inl (.inl G10)⟩, S10.tab, fun H11 e11 t11 => ?_⟩
      have S11 := S10.ext e11 t11
      have O11 := e11 _ _ O10 (fun _ z => nomatch z)
      have R11 := R10.ext e11
      have G11 := e11 _ _ G10 (fun _ z => nomatch z)
      refine ⟨.ref x, rfl, y, rfl, .ref x, y, rfl, .inr ⟨.inr ⟨⟨x, z, rfl, S11.wd⟩, odd_of OD O11 hy⟩, fun d12 hd12 => ⟨true, xm2, (fun z => nomatch z), fun _ => ⟨CB2, d12, rfl, rfl, fun a12 ha12 => ?_⟩⟩⟩⟩
      obtain ⟨hA12, hD12, se12⟩ := err_put (C := CB2) hd12 ha12
      have S12 := S11.same se12
      have O12 := se12 _ _ O11
      have R12 := (R11.same se12).cons hA12 hD12
      have G12 := se12 _ _ G11
      generalize upd (upd H11 d12 (.xd [("at", .int 0)])) a12 (ErrO CB2 d12 a12) = H12 at S12 O12 R12 G12 ⊢
      clear hA12 hD12 se12 hd12 ha12 S11 O11 R11 G11 S10 O10 R10 G10 e11 t11
      refine ⟨G, _, _, rfl, rfl, G12, by show 1 < sizeLine; decide, ?_⟩
      have S13 := S12.put (ys := [.ref a9] ++ [.ref a12]) G12 fG nGp nGl
      have R13 := R12.put (ys := [.ref a9] ++ [.ref a12]) G12
      have O13 : upd H12 G (.lst ([.ref a9] ++ [.ref a12])) l1 = some (.lst []) := by
        rw [upd_ne ol]
        exact O12
      have G13 : upd H12 G (.lst ([.ref a9] ++ [.ref a12])) G = some (.lst ([.ref a9] ++ [.ref a12])) := upd_same
      generalize upd H12 G (.lst ([.ref a9] ++ [.ref a12])) = H13 at S13 O13 R13 G13 ⊢
      clear S12 O12 R12 G12
      -- both are told at 0
      refine ⟨.ref G, rfl, G, rfl, ⟨_, .inl (.inl G13)⟩, fun D hD => lc_it (walk_list (xs := [.ref a9] ++ [.ref a12])) (fun i H' => Same H13 H' ∧ H' D = some (.lst (List.replicate i (.bl true)))) ⟨same_new hD, upd_same⟩ (fun i H' _ h => .inl (.inl (h.1 _ _ G13))) (fun i v Ha Hb hi hPc hY => ?_) (fun H14 hPc => ?_)⟩
      · obtain ⟨sa, ha'⟩ := hPc
        obtain ⟨rfl, hxv⟩ := hY
        obtain ⟨e, he, rfl⟩ : ∃ e ∈ ([] ++ [(a9, d9)] ++ [(a12, d12)] : List (Addr × Addr)), v = .ref e.1 := by
          match i, hi, hxv with
          | 0, _, hx =>
            cases hx
            exact ⟨(a9, d9), by simp, rfl⟩
          | 1, _, hx =>
            cases hx
            exact ⟨(a12, d12), by simp, rfl⟩
        obtain ⟨gA, gD⟩ := R13 e he
        have gA := sa _ _ gA
        have gD := sa _ _ gD
        have fld := xd_fld "at" (V.int 0)
        refine ⟨rfl, .ref e.1, rfl, e.1, CB2, e.2, CB2, _, true, rfl, gA, gD, E2.ec, kit_self, true, rfl, ?_⟩
        refine iteT ⟨.ref e.1, rfl, e.1, CB2, e.2, _, .int 0, rfl, gA, gD, E2.ec, E2.no, fld, rfl, ?_⟩
        rw [decide_eq_true rfl]
        have i2 : i < 2 := hi
        refine ⟨_, ha', by rw [List.length_replicate, sizeLine_eq]; omega, ?_⟩
        refine ⟨fun b u hb => ?_, ?_⟩
        · have nb : b ≠ D := fun h => by
            rw [h, hD] at hb
            cases hb
          rw [upd_ne nb]
          exact sa b u hb
        · rw [upd_same, List.replicate_succ']
      · obtain ⟨sa, ha'⟩ := hPc
        refine ⟨Nat.le_of_ble_eq_true rfl, fun D2 hD2 => ?_⟩
        have s15 := same_new (o := .lst [.bl true, .bl true]) hD2
        refine ⟨_, _, .lst (.inl (.inl (s15 _ _ ha'))) (.cons (.bl _) (.cons (.bl _) .nil)), .lst (.inl (.inl upd_same)) (.cons (.bl _) (.cons (.bl _) .nil)), by decide +kernel, by decide +kernel, ?_⟩
        rw [show PyData.eqv (.list [.bool true, .bool true]) (.list [.bool true, .bool true]) = true by decide +kernel]
        refine ⟨_, rfl, iteF ?_⟩
        have S15 := S13.same (sa.trans s15)
        have O15 := (sa.trans s15) _ _ O13
        generalize upd H14 D2 (.lst [.bl true, .bl true]) = H15 at S15 O15 ⊢
        clear S13 O13 R13 G13 sa ha' s15 hD hD2
        refine ⟨fun σ H' => ∃ y5, σ = [some (.ref p), some (.str z), some (.str (SB.T (pre z.cps.toList))), some (.str (SB.T (mid z.cps.toList))), some (.ref G), y5, none, none, some y, some (.ref x), none] ∧ Sta CW p l (N + 1) T x z H H', ?_, ?_⟩
        · obtain ⟨d, b, hd, hsh, eb, ht, hf⟩ := odd_ne (K := K) O15 hy
          refine ⟨y, rfl, d, .int 0, hd, .int _, hsh, rfl, ?_⟩
          rw [eb]
          cases b with
          | true =>
            have ey := ht rfl
            subst ey
            exact ⟨_, rfl, iteF ⟨.int 0, rfl, 0, false, rfl, rfl, _, rfl, iteF ⟨none, rfl, S15⟩⟩⟩
          | false =>
            refine ⟨_, rfl, iteT ?_⟩
            refine ⟨S15.tab, fun H17 e17 t17 => ?_⟩
            have S17 := S15.ext e17 t17
            have O17 := e17 _ _ O15 (fun _ z => nomatch z)
            obtain ⟨dx17, hx17⟩ := S17.wd
            refine ⟨.ref x, rfl, x, dx17, _, rfl, hx17, xd_no _ _ _ (by decide +kernel), y, rfl, x, z, y, rfl, S17.wd, fu, by omega, .inr ⟨odd_int O17 hy (hf rfl), fun d18 hd18 => ⟨true, xm1, (fun z => nomatch z), fun _ => ⟨CB1, d18, rfl, rfl, fun a18 ha18 => ?_⟩⟩⟩⟩
            obtain ⟨hA18, hD18, se18⟩ := err_put (C := CB1) hd18 ha18
            have S18 := S17.same se18
            have fld := xd_fld "part" (V.str "many")
            refine ⟨.ref a18, rfl, a18, CB1, d18, CB1, _, true, rfl, hA18, hD18, E1.ec, kit_self, true, rfl, iteF ?_⟩
            refine ⟨.ref a18, rfl, a18, CB1, d18, _, .str "many", rfl, hA18, hD18, E1.ec, E1.no, fld, rfl, _, rfl, ?_⟩
            rw [decide_eq_true rfl]
            exact iteF ⟨_, rfl, S18⟩
        · rintro σ H16 ⟨y5, rfl, S16⟩
          clear S15 O15
          have hU : z.cps.toList.length ≤ 6 := lu
          have hcl := (coat_is z.cps.toList).1
          have lpre : (SB.T (pre z.cps.toList)).length = coat z.cps.toList := pre_len _
          have lmid : (SB.T (mid z.cps.toList)).length = (mid z.cps.toList).length := rfl
          have lm0 := mid_len z.cps.toList
          have m1 : 1 ≤ (mid z.cps.toList).length := (mid_cr fu nu).pos
          have sz : ∀ n, n ≤ 10000 → n ≤ sizeLine := fun n h => by rw [sizeLine_eq]; omega
          refine ⟨.str (SB.T (pre z.cps.toList)), rfl, .str (SB.T (pre z.cps.toList)), coat z.cps.toList, rfl, ⟨sz _ (by omega), by rw [lpre]⟩, _, _, rfl, rfl, .inl ⟨by decide, by decide⟩, _, _, rfl, rfl, .str (SB.T (mid z.cps.toList)), rfl, .str (SB.T (mid z.cps.toList)), (mid z.cps.toList).length, rfl, ⟨sz _ (by omega), rfl⟩, _, _, rfl, rfl, ⟨by omega, by omega⟩, ?_⟩
          obtain ⟨q0, hq0, hqe⟩ : ∃ q0 : Nat, (4000 - 2 * ((coat z.cps.toList : Nat) : Int)) / (((mid z.cps.toList).length : Nat) : Int) = ((q0 : Nat) : Int) ∧ q0 = (4000 - 2 * coat z.cps.toList) / (mid z.cps.toList).length := by
            refine ⟨_, ?_, rfl⟩
            rw [show (4000 - 2 * ((coat z.cps.toList : Nat) : Int)) = ((4000 - 2 * coat z.cps.toList : Nat) : Int) by omega]
            exact (Int.natCast_ediv _ _).symm
          have qM : q0 * (mid z.cps.toList).length ≤ 4000 - 2 * coat z.cps.toList := by rw [hqe]; exact Nat.div_mul_le_self _ _
          have qS : 4000 - 2 * coat z.cps.toList < (q0 + 1) * (mid z.cps.toList).length := by
            rw [hqe]
            calc _ < _ := Nat.lt_mul_div_succ _ m1
              _ = _ := Nat.mul_comm _ _
          have q1 : 1 ≤ q0 := by
            rw [hqe]
            exact Nat.div_pos (by omega) m1
          show gName 6 (V.int ((4000 - 2 * ((coat z.cps.toList : Nat) : Int)) / (((mid z.cps.toList).length : Nat) : Int))) _ _ _
          rw [hq0]
          refine ⟨.int (q0 : Nat), rfl, _, _, rfl, rfl, .int (q0 : Nat), rfl, _, rfl, _, _, rfl, rfl, .ref p, rfl, _, _, rfl, rfl, ⟨by decide, by decide, by decide⟩, p, l, N + 1, 10 ^ 40, rfl, S16.pen, by omega, by decide, Int.le_refl _, fun d H18 d0 d1 k18 p18 => ?_⟩
          have S18 := S16.kept k18 p18
          refine ⟨_, _, rfl, rfl, Nat.le_of_ble_eq_true rfl, fun L2 hL2 => ?_⟩
          have s19 := same_new (o := .lst [.int ((q0 : Nat) + 1), .int (-((q0 : Nat) : Int) - 1 - d)]) hL2
          have S19 := S18.same s19
          have fitN : ∀ m : Int, q0 + 1 ≤ m.natAbs → ¬ FitsI z.cps.toList m := fun m hm => by
            rintro (h | h)
            · omega
            · have : (q0 + 1) * (mid z.cps.toList).length ≤ m.natAbs * (mid z.cps.toList).length := Nat.mul_le_mul_right _ hm
              omega
          refine ⟨L2, rfl, ⟨_, .inl (.inl upd_same)⟩, for_it (walk_list (xs := [.int ((q0 : Nat) + 1), .int (-((q0 : Nat) : Int) - 1 - d)])) (fun i σ H' => ∃ y5 y7, σ = [some (.ref p), some (.str z), some (.str (SB.T (pre z.cps.toList))), some (.str (SB.T (mid z.cps.toList))), some (.ref G), y5, some (.int (q0 : Nat)), y7, some y, some (.ref x), none] ∧ Sta CW p l (N + 1 + 1) T x z H H' ∧ H' L2 = some (.lst [.int ((q0 : Nat) + 1), .int (-((q0 : Nat) : Int) - 1 - d)]))
            ⟨_, none, rfl, S19, upd_same⟩ (fun i σ H' _ hPv => ?_) (fun i v σ Ha Hb hi hPv hY => ?_) (fun σ H' hPv => ?_)⟩
          · obtain ⟨y5', y7, rfl, S20, hL⟩ := hPv
            exact .inl (.inl hL)
          · obtain ⟨y5', y7, rfl, S20, hL⟩ := hPv
            obtain ⟨rfl, hx⟩ := hY
            obtain ⟨m, rfl, hm⟩ : ∃ m : Int, v = .int m ∧ q0 + 1 ≤ m.natAbs := by
              match i, hi, hx with
              | 0, _, hx =>
                cases hx
                exact ⟨_, rfl, by omega⟩
              | 1, _, hx =>
                cases hx
                exact ⟨_, rfl, by omega⟩
            refine ⟨S20.tab, fun H21 e21 t21 => ?_⟩
            have S21 := S20.ext e21 t21
            have L21 := e21 _ _ hL (fun _ z => nomatch z)
            obtain ⟨dx21, hx21⟩ := S21.wd
            refine ⟨.ref x, rfl, x, dx21, _, rfl, hx21, xd_no _ _ _ (by decide +kernel), .int m, rfl, x, z, .int m, rfl, S21.wd, fu, by omega, .inl ⟨m, rfl, fun ft => absurd ft (fitN m hm), fun _ d22 hd22 => ⟨true, xm3, (fun z => nomatch z), fun _ => ⟨CM, d22, rfl, rfl, fun a22 ha22 => ?_⟩⟩⟩⟩
            obtain ⟨hA22, hD22, se22⟩ := err_put (C := CM) hd22 ha22
            have S22 := S21.same se22
            have L22 := se22 _ _ L21
            refine ⟨.ref a22, rfl, a22, CM, d22, CM, _, true, rfl, hA22, hD22, E3.ec, kit_self, true, rfl, iteF ?_⟩
            refine ⟨.ref a22, rfl, a22, CM, d22, _, .str "letters", rfl, hA22, hD22, E3.ec, E3.nf, xd2_b _ _ _ _ (by decide +kernel), rfl, _, rfl, ?_⟩
            rw [decide_eq_true rfl]
            refine iteF ?_
            refine ⟨.ref a22, rfl, a22, CM, d22, _, .int 4000, rfl, hA22, hD22, E3.ec, E3.ng, xd2_a _ _ _ _, rfl, _, rfl, ?_⟩
            rw [decide_eq_true rfl]
            exact iteF ⟨_, _, rfl, S22, L22⟩
          · obtain ⟨y5', y7, rfl, S23, hL⟩ := hPv
            obtain ⟨dx23, hx23⟩ := S23.wd
            have nzq : (-((q0 : Nat) : Int)) ≠ 0 := by omega
            have ft : FitsI z.cps.toList (-((q0 : Nat) : Int)) := by
              right
              rw [show (-((q0 : Nat) : Int)).natAbs = q0 by omega]
              omega
            have lpw : (powI z.cps.toList (-((q0 : Nat) : Int))).length = 2 * coat z.cps.toList + q0 * (mid z.cps.toList).length := by
              rw [powI_len fu nzq, show (-((q0 : Nat) : Int)).natAbs = q0 by omega]
            have lpT : (SB.T (powI z.cps.toList (-((q0 : Nat) : Int)))).length = 2 * coat z.cps.toList + q0 * (mid z.cps.toList).length := lpw
            refine ⟨.ref x, rfl, x, dx23, _, rfl, hx23, xd_no _ _ _ (by decide +kernel), .int (q0 : Nat), rfl, _, rfl, x, z, .int (-((q0 : Nat) : Int)), rfl, S23.wd, fu, by omega, .inl ⟨-((q0 : Nat) : Int), rfl, fun _ x24 H24 n24 s24 w24 => ?_, fun nf => absurd ft nf⟩⟩
            have S24 := S23.same s24
            obtain ⟨dx24, hx24⟩ := id w24
            refine ⟨x24, dx24, _, rfl, hx24, x24, SB.T (powI z.cps.toList (-((q0 : Nat) : Int))), rfl, w24, by omega, ((SB.T (powI z.cps.toList (-((q0 : Nat) : Int)))).length : Nat), rfl, by omega, by omega, ?_⟩
            refine ⟨.str (SB.T (pre z.cps.toList)), rfl, .str (SB.T (pre z.cps.toList)), coat z.cps.toList, rfl, ⟨sz _ (by omega), by rw [lpre]⟩, _, _, rfl, rfl, .inl ⟨by decide, by decide⟩, .int (q0 : Nat), rfl, .str (SB.T (mid z.cps.toList)), rfl, .str (SB.T (mid z.cps.toList)), (mid z.cps.toList).length, rfl, ⟨sz _ (by omega), rfl⟩, _, _, rfl, rfl, .inr ⟨by omega, by omega⟩, _, _, rfl, rfl, rfl, ?_⟩
            have fin : decide (V.int (((SB.T (powI z.cps.toList (-((q0 : Nat) : Int)))).length : Nat) : Int) = V.int (2 * ((coat z.cps.toList : Nat) : Int) + ((q0 : Nat) : Int) * (((mid z.cps.toList).length : Nat) : Int))) = true := by
              refine decide_eq_true (congrArg V.int ?_)
              rw [lpT, Int.natCast_add, Int.natCast_mul, Int.natCast_mul]
              rfl
            have qq := q H24 S24.kn S24.tab (S24.pen.mono (by omega))
            rw [← fin] at qq
            exact qq
end
end K04
-- K04L
namespace K04
open PySem PySem.Spec PyProof.Rows L2 SB
section
variable {P : Program} {w : World} {K : PySem.W.Frag} {mg : Str → Option Value} {base : Heap}
def spLaw (K : PySem.W.Frag) (T : List (Addr × Str)) : Sp := fun vs H Q _ => ∃ (a : Addr) (ns : List Int), vs = [.ref a] ∧ SqL K H a (ns.map V.int) ∧ LamX.Tabs T H ∧ ∀ H', Q (.bl true) H'
theorem ok_law {T : List (Addr × Str)} {f f__law_pen f__law_row f__law_draw f__law_drawn f__law_word_right f__law_pair_right f__law_refused_right : Addr} {fd d__law_pen d__law_row d__law_draw d__law_drawn d__law_word_right d__law_pair_right d__law_refused_right : FuncData} {k : Nat} (F : Fun K "law" "law" s_law f fd)
    (G__law_pen : FnOk P w K mg base CX0 (k + 1) f__law_pen d__law_pen ["script"] (spPen K)) (g__law_pen : mg "_law_pen" = some (.ref f__law_pen)) (k__law_pen : PySem.W.keepIn K (.ref f__law_pen) = true) (b__law_pen : Binds K d__law_pen ["script"] [])
    (G__law_row : FnOk P w K mg base CX0 (k + 3) f__law_row d__law_row ["pen", "most"] spRow) (g__law_row : mg "_law_row" = some (.ref f__law_row)) (k__law_row : PySem.W.keepIn K (.ref f__law_row) = true) (b__law_row : Binds K d__law_row ["pen", "most"] [])
    (G__law_draw : FnOk P w K mg base CX0 (k + 3) f__law_draw d__law_draw ["pen", "many"] spDraw) (g__law_draw : mg "_law_draw" = some (.ref f__law_draw)) (k__law_draw : PySem.W.keepIn K (.ref f__law_draw) = true) (b__law_draw : Binds K d__law_draw ["pen", "many"] [])
    (G__law_drawn : FnOk P w K mg base CX0 (k + 5) f__law_drawn d__law_drawn ["pen"] spDrawn) (g__law_drawn : mg "_law_drawn" = some (.ref f__law_drawn)) (k__law_drawn : PySem.W.keepIn K (.ref f__law_drawn) = true) (b__law_drawn : Binds K d__law_drawn ["pen"] [])
    (G__law_word_right : FnOk P w K mg base CX0 (k + 6) f__law_word_right d__law_word_right ["pen", "row"] spWordR) (g__law_word_right : mg "_law_word_right" = some (.ref f__law_word_right)) (k__law_word_right : PySem.W.keepIn K (.ref f__law_word_right) = true) (b__law_word_right : Binds K d__law_word_right ["pen", "row"] [])
    (G__law_pair_right : FnOk P w K mg base CX0 (k + 6) f__law_pair_right d__law_pair_right ["pen", "row"] spPairR) (g__law_pair_right : mg "_law_pair_right" = some (.ref f__law_pair_right)) (k__law_pair_right : PySem.W.keepIn K (.ref f__law_pair_right) = true) (b__law_pair_right : Binds K d__law_pair_right ["pen", "row"] [])
    (G__law_refused_right : FnOk P w K mg base CX0 (k + 9) f__law_refused_right d__law_refused_right ["pen", "row"] (spRefR T)) (g__law_refused_right : mg "_law_refused_right" = some (.ref f__law_refused_right)) (k__law_refused_right : PySem.W.keepIn K (.ref f__law_refused_right) = true) (b__law_refused_right : Binds K d__law_refused_right ["pen", "row"] [])
    (m_range : mg "range" = none) : FnOk P w K mg base CX0 (k + 10) f fd ["script"] (spLaw K T) := by
  refine F.ok sc_law (fun vs H Q E h => ?_) (fun cdv A outer s H vs Q E hr h => ?_)
  · obtain ⟨a, ns, rfl, _⟩ := h
    rfl
  · obtain ⟨a, ns, rfl, hS, tabs, q⟩ := h
    have nd := sc_law.nd
    refine ⟨_, (pss_cons (ps_set (i := 1) nd rfl (.inl rfl) (pe_call G__law_pen (hr.mono (by omega)) (by rfl) g__law_pen k__law_pen b__law_pen .nil pass0 (pa_cons (pv 0) pa_nil)))
      (pss_cons (ps_for PassesOwn.never rfl (pi_range1 (by rfl) m_range (pa_cons pe_int pa_nil)) (pg_name (i := 2) nd rfl (.inl rfl)) (pss_cons (ps_set (i := 3) nd rfl (.inl rfl) (pe_call G__law_drawn (hr.mono (by omega)) (by rfl) g__law_drawn k__law_drawn b__law_drawn .nil pass0 (pa_cons (pv 1) pa_nil)))
      (pss_one (ps_if (PW.pt (pw_or (pt_not (pt_val (pe_call G__law_word_right (hr.mono (by omega)) (by rfl) g__law_word_right k__law_word_right b__law_word_right .nil pass0 (pa_cons (pv 1) (pa_cons (pv 3) pa_nil))))) (pw_or1 (pt_not (pt_val (pe_call G__law_pair_right (hr.mono (by omega)) (by rfl) g__law_pair_right k__law_pair_right b__law_pair_right .nil pass0 (pa_cons (pv 1) (pa_cons (pv 3) pa_nil)))))))) (pss_one (ps_ret pe_bl)) pss_nil))))
      (pss_one (ps_ret (pe_or (pe_cmpR op_gt (pe_call G__law_draw (hr.mono (by omega)) (by rfl) g__law_draw k__law_draw b__law_draw .nil pass0 (pa_cons (pv 1) (pa_cons pe_int pa_nil))) pe_int (nomark _)) (pe_one (pe_call G__law_refused_right (hr.mono (by omega)) (by rfl) g__law_refused_right k__law_refused_right b__law_refused_right .nil pass0 (pa_cons (pv 1) (pa_cons (pe_call G__law_row (hr.mono (by omega)) (by rfl) g__law_row k__law_row b__law_row .nil pass0 (pa_cons (pv 1) (pa_cons pe_int pa_nil))) pa_nil))))))))), ?_⟩
    refine ⟨.ref a, rfl, a, ns, rfl, hS, fun p l H1 np nl s1 p1 => ?_⟩
    have t1 := tabs_same tabs s1
    refine ⟨6, rfl, by decide, by decide, for_range (lo := 0) (n := 6) (fun i σ H' => ∃ y2 y3, σ = [some (.ref a), some (.ref p), y2, y3] ∧ PenQ l (70 * (i : Int)) H' p ∧ LamX.Tabs T H')
      ⟨none, none, rfl, p1.mono (by decide), t1⟩ (fun i σ H2 hi hPv => ?_) (fun σ H2 hPv => ?_)⟩
    · obtain ⟨y2, y3, rfl, p2, t2⟩ := hPv
      refine ⟨.ref p, rfl, p, l, _, rfl, p2, by omega, fun z H3 fz lz k3 p3 => ?_⟩
      have t3 := tabs_keptQ t2 p2 k3
      refine ⟨.ref p, rfl, .str z, rfl, p, l, _, z, rfl, p3, by omega, fz, lz, fun H4 k4 p4 => ⟨true, rfl, iteF ?_⟩⟩
      have t4 := tabs_keptQ t3 p3 k4
      refine ⟨.ref p, rfl, .str z, rfl, p, l, _, z, rfl, p4, by omega, fz, lz, fun H5 k5 p5 => ⟨true, rfl, iteF ?_⟩⟩
      have t5 := tabs_keptQ t4 p4 k5
      exact ⟨_, _, rfl, p5.mono (by omega), t5⟩
    · obtain ⟨y2, y3, rfl, p2, t2⟩ := hPv
      refine ⟨.ref p, rfl, p, l, _, 4, rfl, p2, by decide, by decide, by decide, fun d H3 d0 d4 k3 p3 => ?_⟩
      have t3 := tabs_keptQ t2 p2 k3
      refine ⟨_, _, rfl, rfl, _, rfl, ite2 (fun e => ?_) (fun e => ?_)⟩
      · exact q H3
      · refine ⟨.ref p, rfl, .ref p, rfl, p, l, _, 5, rfl, p3, by decide, by decide, by decide, fun z H4 rz k4 p4 => ?_⟩
        obtain ⟨fz, lz⟩ := rz
        have fz : Fine z.cps.toList := (fine_iff _).mp fz
        have lz : z.length ≤ 5 := lz
        have t4 := tabs_keptQ t3 p3 k4
        exact ⟨p, l, _, z, rfl, p4, by decide, t4, fz, lz, fun H5 k5 t5 p5 => q H5⟩
end
end K04
-- K04Z
namespace K04
open PySem PySem.Spec PyProof.Rows L2 SB
theorem power_kw {K : PySem.W.Frag} {f : Addr} {fd : FuncData} (F : Fun K "power" "Word.power" s_Word_power f fd) : KBn K fd ["self", "many"] 1 ["many"] (fun us ws => us ++ ws) (fun vs zs => vs ++ zs) := by
  obtain ⟨oc, od, kV, doc, pm, an, cdv, ct, osl, rfl, lk, hcd⟩ := F.ex
  exact ⟨fun s us ws hX l1 l2 => match us, ws, l1, l2 with | [_], [_], _, _ => .of_eq rfl, fun r1 r2 => r1.append r2⟩
theorem vals_rev {vs : List V} {us : List Value} (h : Vals vs us) : Vals vs.reverse us.reverse := by
  induction h with
  | nil => exact .nil
  | cons r _ ih =>
    rw [List.reverse_cons, List.reverse_cons]
    exact ih.append (.cons r .nil)
theorem commute_kw {K : PySem.W.Frag} {f : Addr} {fd : FuncData} (F : Fun K "commute" "commute" s_commute f fd) : KBn K fd ["one", "other"] 0 ["other", "one"] (fun us ws => us ++ ws.reverse) (fun vs zs => vs ++ zs.reverse) := by
  obtain ⟨oc, od, kV, doc, pm, an, cdv, ct, osl, rfl, lk, hcd⟩ := F.ex
  exact ⟨fun s us ws hX l1 l2 => match us, ws, l1, l2 with | [], [_, _], _, _ => .of_eq rfl, fun r1 r2 => r1.append (vals_rev r2)⟩
theorem all_mk {w : World} {K : PySem.W.Frag} {h : Heap} {mg : Str → Option Value} {fa : Addr} (X : K.In h) (G : h.Ns mainGlobals mg) (hfa : mg "law" = some (.ref fa))
    {CB CW : Addr} {tL tM : Tok} {f_first_fault : Addr} {od_first_fault an_first_fault : Option Addr} {sl_first_fault : Array (Option Value)} {oc_first_fault kV_first_fault dc_first_fault pm_first_fault ct_first_fault cd_first_fault : Value} {f_joined : Addr} {od_joined an_joined : Option Addr} {sl_joined : Array (Option Value)} {oc_joined kV_joined dc_joined pm_joined ct_joined cd_joined : Value} {f_undone : Addr} {od_undone an_undone : Option Addr} {sl_undone : Array (Option Value)} {oc_undone kV_undone dc_undone pm_undone ct_undone cd_undone : Value} {f_coat_size : Addr} {od_coat_size an_coat_size : Option Addr} {sl_coat_size : Array (Option Value)} {oc_coat_size kV_coat_size dc_coat_size pm_coat_size ct_coat_size cd_coat_size : Value} {f_repeated : Addr} {od_repeated an_repeated : Option Addr} {sl_repeated : Array (Option Value)} {oc_repeated kV_repeated dc_repeated pm_repeated ct_repeated cd_repeated : Value} {f_is_integer : Addr} {od_is_integer an_is_integer : Option Addr} {sl_is_integer : Array (Option Value)} {oc_is_integer kV_is_integer dc_is_integer pm_is_integer ct_is_integer cd_is_integer : Value} {f_commute : Addr} {od_commute an_commute : Option Addr} {sl_commute : Array (Option Value)} {oc_commute kV_commute dc_commute pm_commute ct_commute cd_commute : Value} {f__law_pen : Addr} {od__law_pen an__law_pen : Option Addr} {sl__law_pen : Array (Option Value)} {oc__law_pen kV__law_pen dc__law_pen pm__law_pen ct__law_pen cd__law_pen : Value} {f__law_draw : Addr} {od__law_draw an__law_draw : Option Addr} {sl__law_draw : Array (Option Value)} {oc__law_draw kV__law_draw dc__law_draw pm__law_draw ct__law_draw cd__law_draw : Value} {f__law_pick : Addr} {od__law_pick an__law_pick : Option Addr} {sl__law_pick : Array (Option Value)} {oc__law_pick kV__law_pick dc__law_pick pm__law_pick ct__law_pick cd__law_pick : Value} {f__law_heard : Addr} {od__law_heard an__law_heard : Option Addr} {sl__law_heard : Array (Option Value)} {oc__law_heard kV__law_heard dc__law_heard pm__law_heard ct__law_heard cd__law_heard : Value} {f__law_undo : Addr} {od__law_undo an__law_undo : Option Addr} {sl__law_undo : Array (Option Value)} {oc__law_undo kV__law_undo dc__law_undo pm__law_undo ct__law_undo cd__law_undo : Value} {f__law_row : Addr} {od__law_row an__law_row : Option Addr} {sl__law_row : Array (Option Value)} {oc__law_row kV__law_row dc__law_row pm__law_row ct__law_row cd__law_row : Value} {f__law_back : Addr} {od__law_back an__law_back : Option Addr} {sl__law_back : Array (Option Value)} {oc__law_back kV__law_back dc__law_back pm__law_back ct__law_back cd__law_back : Value} {f__law_join : Addr} {od__law_join an__law_join : Option Addr} {sl__law_join : Array (Option Value)} {oc__law_join kV__law_join dc__law_join pm__law_join ct__law_join cd__law_join : Value} {f__law_power : Addr} {od__law_power an__law_power : Option Addr} {sl__law_power : Array (Option Value)} {oc__law_power kV__law_power dc__law_power pm__law_power ct__law_power cd__law_power : Value} {f__law_drawn : Addr} {od__law_drawn an__law_drawn : Option Addr} {sl__law_drawn : Array (Option Value)} {oc__law_drawn kV__law_drawn dc__law_drawn pm__law_drawn ct__law_drawn cd__law_drawn : Value} {f__law_peeled : Addr} {od__law_peeled an__law_peeled : Option Addr} {sl__law_peeled : Array (Option Value)} {oc__law_peeled kV__law_peeled dc__law_peeled pm__law_peeled ct__law_peeled cd__law_peeled : Value} {f__law_root : Addr} {od__law_root an__law_root : Option Addr} {sl__law_root : Array (Option Value)} {oc__law_root kV__law_root dc__law_root pm__law_root ct__law_root cd__law_root : Value} {f__law_word_right : Addr} {od__law_word_right an__law_word_right : Option Addr} {sl__law_word_right : Array (Option Value)} {oc__law_word_right kV__law_word_right dc__law_word_right pm__law_word_right ct__law_word_right cd__law_word_right : Value} {f__law_alike : Addr} {od__law_alike an__law_alike : Option Addr} {sl__law_alike : Array (Option Value)} {oc__law_alike kV__law_alike dc__law_alike pm__law_alike ct__law_alike cd__law_alike : Value} {f__law_told : Addr} {od__law_told an__law_told : Option Addr} {sl__law_told : Array (Option Value)} {oc__law_told kV__law_told dc__law_told pm__law_told ct__law_told cd__law_told : Value} {f__law_pair_right : Addr} {od__law_pair_right an__law_pair_right : Option Addr} {sl__law_pair_right : Array (Option Value)} {oc__law_pair_right kV__law_pair_right dc__law_pair_right pm__law_pair_right ct__law_pair_right cd__law_pair_right : Value} {f_law : Addr} {od_law an_law : Option Addr} {sl_law : Array (Option Value)} {oc_law kV_law dc_law pm_law ct_law cd_law : Value} {f__law_refused_right : Addr} {od__law_refused_right an__law_refused_right : Option Addr} {sl__law_refused_right : Array (Option Value)} {oc__law_refused_right kV__law_refused_right dc__law_refused_right pm__law_refused_right ct__law_refused_right : Value} {u__law_refused_right P__law_refused_right : Addr} {qc__law_refused_right : Value} {qd__law_refused_right : Option Addr} {qv__law_refused_right : Array Value} {qs__law_refused_right : Array (Option Value)} {f_TM f_BW f_BN f_WI f_WE f_WM f_WV f_WLN f_WPW f_WRO f_WCO : Addr} {CM : Addr} {nm_CM q_CM : Str} {N_CM : Addr} {bs_CM : List Value} {sn_CM : List Str} {sub_CM : List Value} {ab_CM : Bool} {col_CM : Option Bool} {dd_CM : Option Addr} {m0_CM m1_CM m2_CM m3_CM m5_CM : Option Value} {bm_CM : List Value} {C2 : Addr} {nm_C2 q_C2 : Str} {N_C2 : Addr} {bs_C2 : List Value} {sn_C2 : List Str} {sub_C2 : List Value} {ab_C2 : Bool} {col_C2 : Option Bool} {dd_C2 : Option Addr} {m0_C2 m1_C2 m2_C2 m3_C2 m5_C2 : Option Value} {bm_C2 : List Value} {C1 : Addr} {nm_C1 q_C1 : Str} {N_C1 : Addr} {bs_C1 : List Value} {sn_C1 : List Str} {sub_C1 : List Value} {ab_C1 : Bool} {col_C1 : Option Bool} {dd_C1 : Option Addr} {m0_C1 m1_C1 m2_C1 m3_C1 m5_C1 : Option Value} {bm_C1 : List Value} {nmW qW : Str} {NW : Addr} {bsW : List Value} {hdW : Bool} {snW : List Str} {subW : List Value} {abW : Bool} {colW : Option Bool} {ddW : Option Addr} {w0 w1 w2 w3 w5 : Option Value} {newW : String}  {od_TM an_TM : Option Addr} {sl_TM : Array (Option Value)} {oc_TM kV_TM dc_TM pm_TM ct_TM cd_TM : Value}  {od_BW an_BW : Option Addr} {sl_BW : Array (Option Value)} {oc_BW kV_BW dc_BW pm_BW ct_BW cd_BW : Value}  {od_WI an_WI : Option Addr} {sl_WI : Array (Option Value)} {oc_WI kV_WI dc_WI pm_WI ct_WI cd_WI : Value} {T_WI : Addr} {nT_WI : Nat} {cT_WI : Value} {dT_WI : Option Addr} {sT_WI : Array (Option Value)} {tt_WI : Tok}  {od_BN an_BN : Option Addr} {sl_BN : Array (Option Value)} {oc_BN kV_BN dc_BN pm_BN ct_BN cd_BN : Value}  {od_WE an_WE : Option Addr} {sl_WE : Array (Option Value)} {oc_WE kV_WE dc_WE pm_WE ct_WE cd_WE : Value}  {od_WM an_WM : Option Addr} {sl_WM : Array (Option Value)} {oc_WM kV_WM dc_WM pm_WM ct_WM cd_WM : Value}  {od_WV an_WV : Option Addr} {sl_WV : Array (Option Value)} {oc_WV kV_WV dc_WV pm_WV ct_WV cd_WV : Value}  {od_WLN an_WLN : Option Addr} {sl_WLN : Array (Option Value)} {oc_WLN kV_WLN dc_WLN pm_WLN ct_WLN cd_WLN : Value}  {od_WPW an_WPW : Option Addr} {sl_WPW : Array (Option Value)} {oc_WPW kV_WPW dc_WPW pm_WPW ct_WPW cd_WPW : Value}  {od_WRO an_WRO : Option Addr} {sl_WRO : Array (Option Value)} {oc_WRO kV_WRO dc_WRO pm_WRO ct_WRO cd_WRO : Value}  {od_WCO an_WCO : Option Addr} {sl_WCO : Array (Option Value)} {oc_WCO kV_WCO dc_WCO pm_WCO ct_WCO cd_WCO : Value}
    (g_CB : PySem.W.nsIn K mainGlobals "BallError" = some (some (.ref CB)))
    (g_CW : PySem.W.nsIn K mainGlobals "Word" = some (some (.ref CW)))
    (g_L : PySem.W.nsIn K mainGlobals "LETTERS" = some (some (.str "ABCDabcd" tL)))
    (g_M : PySem.W.nsIn K mainGlobals "MOST_LETTERS" = some (some (.int 4000 tM)))
    (z_len : PySem.W.nsIn K mainGlobals "len" = some none)
    (z_isinstance : PySem.W.nsIn K mainGlobals "isinstance" = some none)
    (z_str : PySem.W.nsIn K mainGlobals "str" = some none)
    (z_int : PySem.W.nsIn K mainGlobals "int" = some none)
    (z_bool : PySem.W.nsIn K mainGlobals "bool" = some none)
    (z_range : PySem.W.nsIn K mainGlobals "range" = some none)
    (z_abs : PySem.W.nsIn K mainGlobals "abs" = some none)
    (z_list : PySem.W.nsIn K mainGlobals "list" = some none)
    (z_enumerate : PySem.W.nsIn K mainGlobals "enumerate" = some none)
    (z_min : PySem.W.nsIn K mainGlobals "min" = some none)
    (cg : PySem.W.specialIn K (.builtin "object.__class__") "__get__" = some (some (.builtin "getset_descriptor.__get__")))
    (ct : PySem.W.takesIn K (.builtin "object.__class__") = some true)
    (a_first_fault : PySem.W.nsIn K mainGlobals "first_fault" = some (some (.ref f_first_fault)))
    (l_first_fault : K.lookup f_first_fault = some ⟨oc_first_fault, od_first_fault, .func (PySem.W.fnOf "first_fault" "first_fault" (defArgs s_first_fault) (defBody s_first_fault) (defScope s_first_fault) .none kV_first_fault dc_first_fault pm_first_fault an_first_fault cd_first_fault ct_first_fault), sl_first_fault⟩)
    (c_first_fault : PySem.W.codeIn K cd_first_fault "first_fault" = true)
    (k_first_fault : PySem.W.keepIn K (.ref f_first_fault) = true)
    (a_joined : PySem.W.nsIn K mainGlobals "joined" = some (some (.ref f_joined)))
    (l_joined : K.lookup f_joined = some ⟨oc_joined, od_joined, .func (PySem.W.fnOf "joined" "joined" (defArgs s_joined) (defBody s_joined) (defScope s_joined) .none kV_joined dc_joined pm_joined an_joined cd_joined ct_joined), sl_joined⟩)
    (c_joined : PySem.W.codeIn K cd_joined "joined" = true)
    (k_joined : PySem.W.keepIn K (.ref f_joined) = true)
    (a_undone : PySem.W.nsIn K mainGlobals "undone" = some (some (.ref f_undone)))
    (l_undone : K.lookup f_undone = some ⟨oc_undone, od_undone, .func (PySem.W.fnOf "undone" "undone" (defArgs s_undone) (defBody s_undone) (defScope s_undone) .none kV_undone dc_undone pm_undone an_undone cd_undone ct_undone), sl_undone⟩)
    (c_undone : PySem.W.codeIn K cd_undone "undone" = true)
    (k_undone : PySem.W.keepIn K (.ref f_undone) = true)
    (a_coat_size : PySem.W.nsIn K mainGlobals "coat_size" = some (some (.ref f_coat_size)))
    (l_coat_size : K.lookup f_coat_size = some ⟨oc_coat_size, od_coat_size, .func (PySem.W.fnOf "coat_size" "coat_size" (defArgs s_coat_size) (defBody s_coat_size) (defScope s_coat_size) .none kV_coat_size dc_coat_size pm_coat_size an_coat_size cd_coat_size ct_coat_size), sl_coat_size⟩)
    (c_coat_size : PySem.W.codeIn K cd_coat_size "coat_size" = true)
    (k_coat_size : PySem.W.keepIn K (.ref f_coat_size) = true)
    (a_repeated : PySem.W.nsIn K mainGlobals "repeated" = some (some (.ref f_repeated)))
    (l_repeated : K.lookup f_repeated = some ⟨oc_repeated, od_repeated, .func (PySem.W.fnOf "repeated" "repeated" (defArgs s_repeated) (defBody s_repeated) (defScope s_repeated) .none kV_repeated dc_repeated pm_repeated an_repeated cd_repeated ct_repeated), sl_repeated⟩)
    (c_repeated : PySem.W.codeIn K cd_repeated "repeated" = true)
    (k_repeated : PySem.W.keepIn K (.ref f_repeated) = true)
    (a_is_integer : PySem.W.nsIn K mainGlobals "is_integer" = some (some (.ref f_is_integer)))
    (l_is_integer : K.lookup f_is_integer = some ⟨oc_is_integer, od_is_integer, .func (PySem.W.fnOf "is_integer" "is_integer" (defArgs s_is_integer) (defBody s_is_integer) (defScope s_is_integer) .none kV_is_integer dc_is_integer pm_is_integer an_is_integer cd_is_integer ct_is_integer), sl_is_integer⟩)
    (c_is_integer : PySem.W.codeIn K cd_is_integer "is_integer" = true)
    (k_is_integer : PySem.W.keepIn K (.ref f_is_integer) = true)
    (a_commute : PySem.W.nsIn K mainGlobals "commute" = some (some (.ref f_commute)))
    (l_commute : K.lookup f_commute = some ⟨oc_commute, od_commute, .func (PySem.W.fnOf "commute" "commute" (defArgs s_commute) (defBody s_commute) (defScope s_commute) .none kV_commute dc_commute pm_commute an_commute cd_commute ct_commute), sl_commute⟩)
    (c_commute : PySem.W.codeIn K cd_commute "commute" = true)
    (k_commute : PySem.W.keepIn K (.ref f_commute) = true)
    (a__law_pen : PySem.W.nsIn K mainGlobals "_law_pen" = some (some (.ref f__law_pen)))
    (l__law_pen : K.lookup f__law_pen = some ⟨oc__law_pen, od__law_pen, .func (PySem.W.fnOf "_law_pen" "_law_pen" (defArgs s__law_pen) (defBody s__law_pen) (defScope s__law_pen) .none kV__law_pen dc__law_pen pm__law_pen an__law_pen cd__law_pen ct__law_pen), sl__law_pen⟩)
    (c__law_pen : PySem.W.codeIn K cd__law_pen "_law_pen" = true)
    (k__law_pen : PySem.W.keepIn K (.ref f__law_pen) = true)
    (a__law_draw : PySem.W.nsIn K mainGlobals "_law_draw" = some (some (.ref f__law_draw)))
    (l__law_draw : K.lookup f__law_draw = some ⟨oc__law_draw, od__law_draw, .func (PySem.W.fnOf "_law_draw" "_law_draw" (defArgs s__law_draw) (defBody s__law_draw) (defScope s__law_draw) .none kV__law_draw dc__law_draw pm__law_draw an__law_draw cd__law_draw ct__law_draw), sl__law_draw⟩)
    (c__law_draw : PySem.W.codeIn K cd__law_draw "_law_draw" = true)
    (k__law_draw : PySem.W.keepIn K (.ref f__law_draw) = true)
    (a__law_pick : PySem.W.nsIn K mainGlobals "_law_pick" = some (some (.ref f__law_pick)))
    (l__law_pick : K.lookup f__law_pick = some ⟨oc__law_pick, od__law_pick, .func (PySem.W.fnOf "_law_pick" "_law_pick" (defArgs s__law_pick) (defBody s__law_pick) (defScope s__law_pick) .none kV__law_pick dc__law_pick pm__law_pick an__law_pick cd__law_pick ct__law_pick), sl__law_pick⟩)
    (c__law_pick : PySem.W.codeIn K cd__law_pick "_law_pick" = true)
    (k__law_pick : PySem.W.keepIn K (.ref f__law_pick) = true)
    (a__law_heard : PySem.W.nsIn K mainGlobals "_law_heard" = some (some (.ref f__law_heard)))
    (l__law_heard : K.lookup f__law_heard = some ⟨oc__law_heard, od__law_heard, .func (PySem.W.fnOf "_law_heard" "_law_heard" (defArgs s__law_heard) (defBody s__law_heard) (defScope s__law_heard) .none kV__law_heard dc__law_heard pm__law_heard an__law_heard cd__law_heard ct__law_heard), sl__law_heard⟩)
    (c__law_heard : PySem.W.codeIn K cd__law_heard "_law_heard" = true)
    (k__law_heard : PySem.W.keepIn K (.ref f__law_heard) = true)
    (a__law_undo : PySem.W.nsIn K mainGlobals "_law_undo" = some (some (.ref f__law_undo)))
    (l__law_undo : K.lookup f__law_undo = some ⟨oc__law_undo, od__law_undo, .func (PySem.W.fnOf "_law_undo" "_law_undo" (defArgs s__law_undo) (defBody s__law_undo) (defScope s__law_undo) .none kV__law_undo dc__law_undo pm__law_undo an__law_undo cd__law_undo ct__law_undo), sl__law_undo⟩)
    (c__law_undo : PySem.W.codeIn K cd__law_undo "_law_undo" = true)
    (k__law_undo : PySem.W.keepIn K (.ref f__law_undo) = true)
    (a__law_row : PySem.W.nsIn K mainGlobals "_law_row" = some (some (.ref f__law_row)))
    (l__law_row : K.lookup f__law_row = some ⟨oc__law_row, od__law_row, .func (PySem.W.fnOf "_law_row" "_law_row" (defArgs s__law_row) (defBody s__law_row) (defScope s__law_row) .none kV__law_row dc__law_row pm__law_row an__law_row cd__law_row ct__law_row), sl__law_row⟩)
    (c__law_row : PySem.W.codeIn K cd__law_row "_law_row" = true)
    (k__law_row : PySem.W.keepIn K (.ref f__law_row) = true)
    (a__law_back : PySem.W.nsIn K mainGlobals "_law_back" = some (some (.ref f__law_back)))
    (l__law_back : K.lookup f__law_back = some ⟨oc__law_back, od__law_back, .func (PySem.W.fnOf "_law_back" "_law_back" (defArgs s__law_back) (defBody s__law_back) (defScope s__law_back) .none kV__law_back dc__law_back pm__law_back an__law_back cd__law_back ct__law_back), sl__law_back⟩)
    (c__law_back : PySem.W.codeIn K cd__law_back "_law_back" = true)
    (k__law_back : PySem.W.keepIn K (.ref f__law_back) = true)
    (a__law_join : PySem.W.nsIn K mainGlobals "_law_join" = some (some (.ref f__law_join)))
    (l__law_join : K.lookup f__law_join = some ⟨oc__law_join, od__law_join, .func (PySem.W.fnOf "_law_join" "_law_join" (defArgs s__law_join) (defBody s__law_join) (defScope s__law_join) .none kV__law_join dc__law_join pm__law_join an__law_join cd__law_join ct__law_join), sl__law_join⟩)
    (c__law_join : PySem.W.codeIn K cd__law_join "_law_join" = true)
    (k__law_join : PySem.W.keepIn K (.ref f__law_join) = true)
    (a__law_power : PySem.W.nsIn K mainGlobals "_law_power" = some (some (.ref f__law_power)))
    (l__law_power : K.lookup f__law_power = some ⟨oc__law_power, od__law_power, .func (PySem.W.fnOf "_law_power" "_law_power" (defArgs s__law_power) (defBody s__law_power) (defScope s__law_power) .none kV__law_power dc__law_power pm__law_power an__law_power cd__law_power ct__law_power), sl__law_power⟩)
    (c__law_power : PySem.W.codeIn K cd__law_power "_law_power" = true)
    (k__law_power : PySem.W.keepIn K (.ref f__law_power) = true)
    (a__law_drawn : PySem.W.nsIn K mainGlobals "_law_drawn" = some (some (.ref f__law_drawn)))
    (l__law_drawn : K.lookup f__law_drawn = some ⟨oc__law_drawn, od__law_drawn, .func (PySem.W.fnOf "_law_drawn" "_law_drawn" (defArgs s__law_drawn) (defBody s__law_drawn) (defScope s__law_drawn) .none kV__law_drawn dc__law_drawn pm__law_drawn an__law_drawn cd__law_drawn ct__law_drawn), sl__law_drawn⟩)
    (c__law_drawn : PySem.W.codeIn K cd__law_drawn "_law_drawn" = true)
    (k__law_drawn : PySem.W.keepIn K (.ref f__law_drawn) = true)
    (a__law_peeled : PySem.W.nsIn K mainGlobals "_law_peeled" = some (some (.ref f__law_peeled)))
    (l__law_peeled : K.lookup f__law_peeled = some ⟨oc__law_peeled, od__law_peeled, .func (PySem.W.fnOf "_law_peeled" "_law_peeled" (defArgs s__law_peeled) (defBody s__law_peeled) (defScope s__law_peeled) .none kV__law_peeled dc__law_peeled pm__law_peeled an__law_peeled cd__law_peeled ct__law_peeled), sl__law_peeled⟩)
    (c__law_peeled : PySem.W.codeIn K cd__law_peeled "_law_peeled" = true)
    (k__law_peeled : PySem.W.keepIn K (.ref f__law_peeled) = true)
    (a__law_root : PySem.W.nsIn K mainGlobals "_law_root" = some (some (.ref f__law_root)))
    (l__law_root : K.lookup f__law_root = some ⟨oc__law_root, od__law_root, .func (PySem.W.fnOf "_law_root" "_law_root" (defArgs s__law_root) (defBody s__law_root) (defScope s__law_root) .none kV__law_root dc__law_root pm__law_root an__law_root cd__law_root ct__law_root), sl__law_root⟩)
    (c__law_root : PySem.W.codeIn K cd__law_root "_law_root" = true)
    (k__law_root : PySem.W.keepIn K (.ref f__law_root) = true)
    (a__law_word_right : PySem.W.nsIn K mainGlobals "_law_word_right" = some (some (.ref f__law_word_right)))
    (l__law_word_right : K.lookup f__law_word_right = some ⟨oc__law_word_right, od__law_word_right, .func (PySem.W.fnOf "_law_word_right" "_law_word_right" (defArgs s__law_word_right) (defBody s__law_word_right) (defScope s__law_word_right) .none kV__law_word_right dc__law_word_right pm__law_word_right an__law_word_right cd__law_word_right ct__law_word_right), sl__law_word_right⟩)
    (c__law_word_right : PySem.W.codeIn K cd__law_word_right "_law_word_right" = true)
    (k__law_word_right : PySem.W.keepIn K (.ref f__law_word_right) = true)
    (a__law_alike : PySem.W.nsIn K mainGlobals "_law_alike" = some (some (.ref f__law_alike)))
    (l__law_alike : K.lookup f__law_alike = some ⟨oc__law_alike, od__law_alike, .func (PySem.W.fnOf "_law_alike" "_law_alike" (defArgs s__law_alike) (defBody s__law_alike) (defScope s__law_alike) .none kV__law_alike dc__law_alike pm__law_alike an__law_alike cd__law_alike ct__law_alike), sl__law_alike⟩)
    (c__law_alike : PySem.W.codeIn K cd__law_alike "_law_alike" = true)
    (k__law_alike : PySem.W.keepIn K (.ref f__law_alike) = true)
    (a__law_told : PySem.W.nsIn K mainGlobals "_law_told" = some (some (.ref f__law_told)))
    (l__law_told : K.lookup f__law_told = some ⟨oc__law_told, od__law_told, .func (PySem.W.fnOf "_law_told" "_law_told" (defArgs s__law_told) (defBody s__law_told) (defScope s__law_told) .none kV__law_told dc__law_told pm__law_told an__law_told cd__law_told ct__law_told), sl__law_told⟩)
    (c__law_told : PySem.W.codeIn K cd__law_told "_law_told" = true)
    (k__law_told : PySem.W.keepIn K (.ref f__law_told) = true)
    (a__law_pair_right : PySem.W.nsIn K mainGlobals "_law_pair_right" = some (some (.ref f__law_pair_right)))
    (l__law_pair_right : K.lookup f__law_pair_right = some ⟨oc__law_pair_right, od__law_pair_right, .func (PySem.W.fnOf "_law_pair_right" "_law_pair_right" (defArgs s__law_pair_right) (defBody s__law_pair_right) (defScope s__law_pair_right) .none kV__law_pair_right dc__law_pair_right pm__law_pair_right an__law_pair_right cd__law_pair_right ct__law_pair_right), sl__law_pair_right⟩)
    (c__law_pair_right : PySem.W.codeIn K cd__law_pair_right "_law_pair_right" = true)
    (k__law_pair_right : PySem.W.keepIn K (.ref f__law_pair_right) = true)
    (a_law : PySem.W.nsIn K mainGlobals "law" = some (some (.ref f_law)))
    (l_law : K.lookup f_law = some ⟨oc_law, od_law, .func (PySem.W.fnOf "law" "law" (defArgs s_law) (defBody s_law) (defScope s_law) .none kV_law dc_law pm_law an_law cd_law ct_law), sl_law⟩)
    (c_law : PySem.W.codeIn K cd_law "law" = true)
    (k_law : PySem.W.keepIn K (.ref f_law) = true)
    (a__law_refused_right : PySem.W.nsIn K mainGlobals "_law_refused_right" = some (some (.ref f__law_refused_right)))
    (l__law_refused_right : K.lookup f__law_refused_right = some ⟨oc__law_refused_right, od__law_refused_right, .func (PySem.W.fnOf "_law_refused_right" "_law_refused_right" (defArgs s__law_refused_right) (defBody s__law_refused_right) (defScope s__law_refused_right) .none kV__law_refused_right dc__law_refused_right pm__law_refused_right an__law_refused_right (.ref u__law_refused_right) ct__law_refused_right), sl__law_refused_right⟩)
    (c__law_refused_right : PySem.W.codeIn K (.ref u__law_refused_right) "_law_refused_right" = true)
    (k__law_refused_right : PySem.W.keepIn K (.ref f__law_refused_right) = true)
    (q__law_refused_right : K.lookup u__law_refused_right = some ⟨qc__law_refused_right, qd__law_refused_right, .fields qv__law_refused_right, qs__law_refused_right⟩)
    (p__law_refused_right : (qv__law_refused_right[11]? : Option Value) = some (.ref P__law_refused_right))
    (h__law_refused_right : PySem.W.codeHdIn K u__law_refused_right P__law_refused_right = true)
    (n__law_refused_right : K.lookup P__law_refused_right = none)
    (t__law_refused_right : h.get? P__law_refused_right = some { cls := .none, data := .fields #[] })
    (g_CM : PySem.W.nsIn K mainGlobals "TooMany" = some (some (.ref CM)))
    (x_CM : K.lookup CM = some (excClassObj nm_CM q_CM CM N_CM bs_CM bm_CM true sn_CM sub_CM ab_CM col_CM dd_CM m0_CM m1_CM m2_CM m3_CM m5_CM "ValueError.__new__"))
    (bm1_CM : PySem.HandSPX.refsVE bm_CM = true)
    (sa_CM : PySem.W.findIn K (.ref CM) "__setattr__" = some (some (.builtin "object.__setattr__")))
    (ex_CM : PySem.W.subIn K (.ref CM) (.type "BaseException") = some true)
    (ty_CM : PySem.W.typeIn K (.ref CM) = some (.type "type"))
    (kC_CM : PySem.W.keepIn K (.ref CM) = true)
    (cs_CM : (PySem.W.clsIn K CM).isSome = true)
    (ow_CM : PySem.W.hasDictIn K CM = true)
    (ga_CM : PySem.W.findIn K (.ref CM) "__getattribute__" = some (some (.builtin "BaseException.__getattribute__")))
    (gt_CM : PySem.W.findIn K (.ref CM) "__getattr__" = some none)
    (ca_CM : PySem.W.findIn K (.ref CM) "__class__" = some (some (.builtin "object.__class__")))
    (mr_CM : PySem.W.mroIn K CM (.type "object") = some true)
    (ii_CM : PySem.W.findIn K (.ref CM) "__init__" = some (some (.ref f_TM)))
    (no_CM : PySem.W.findIn K (.ref CM) "what" = some none)
    (xm_CM : PySem.W.exmOne K (.ref CM) (.ref CB) = some true)
    (ti_CM : PySem.W.typeIn K (.ref f_TM) = some (.type "function"))
    (ng_CM : PySem.W.findIn K (.ref CM) "most" = some none)
    (g_C2 : PySem.W.nsIn K mainGlobals "BadWord" = some (some (.ref C2)))
    (x_C2 : K.lookup C2 = some (excClassObj nm_C2 q_C2 C2 N_C2 bs_C2 bm_C2 true sn_C2 sub_C2 ab_C2 col_C2 dd_C2 m0_C2 m1_C2 m2_C2 m3_C2 m5_C2 "ValueError.__new__"))
    (bm1_C2 : PySem.HandSPX.refsVE bm_C2 = true)
    (sa_C2 : PySem.W.findIn K (.ref C2) "__setattr__" = some (some (.builtin "object.__setattr__")))
    (ex_C2 : PySem.W.subIn K (.ref C2) (.type "BaseException") = some true)
    (ty_C2 : PySem.W.typeIn K (.ref C2) = some (.type "type"))
    (kC_C2 : PySem.W.keepIn K (.ref C2) = true)
    (cs_C2 : (PySem.W.clsIn K C2).isSome = true)
    (ow_C2 : PySem.W.hasDictIn K C2 = true)
    (ga_C2 : PySem.W.findIn K (.ref C2) "__getattribute__" = some (some (.builtin "BaseException.__getattribute__")))
    (gt_C2 : PySem.W.findIn K (.ref C2) "__getattr__" = some none)
    (ca_C2 : PySem.W.findIn K (.ref C2) "__class__" = some (some (.builtin "object.__class__")))
    (mr_C2 : PySem.W.mroIn K C2 (.type "object") = some true)
    (ii_C2 : PySem.W.findIn K (.ref C2) "__init__" = some (some (.ref f_BW)))
    (no_C2 : PySem.W.findIn K (.ref C2) "at" = some none)
    (xm_C2 : PySem.W.exmOne K (.ref C2) (.ref CB) = some true)
    (ti_C2 : PySem.W.typeIn K (.ref f_BW) = some (.type "function"))
    (g_C1 : PySem.W.nsIn K mainGlobals "BadNumber" = some (some (.ref C1)))
    (x_C1 : K.lookup C1 = some (excClassObj nm_C1 q_C1 C1 N_C1 bs_C1 bm_C1 true sn_C1 sub_C1 ab_C1 col_C1 dd_C1 m0_C1 m1_C1 m2_C1 m3_C1 m5_C1 "ValueError.__new__"))
    (bm1_C1 : PySem.HandSPX.refsVE bm_C1 = true)
    (sa_C1 : PySem.W.findIn K (.ref C1) "__setattr__" = some (some (.builtin "object.__setattr__")))
    (ex_C1 : PySem.W.subIn K (.ref C1) (.type "BaseException") = some true)
    (ty_C1 : PySem.W.typeIn K (.ref C1) = some (.type "type"))
    (kC_C1 : PySem.W.keepIn K (.ref C1) = true)
    (cs_C1 : (PySem.W.clsIn K C1).isSome = true)
    (ow_C1 : PySem.W.hasDictIn K C1 = true)
    (ga_C1 : PySem.W.findIn K (.ref C1) "__getattribute__" = some (some (.builtin "BaseException.__getattribute__")))
    (gt_C1 : PySem.W.findIn K (.ref C1) "__getattr__" = some none)
    (ca_C1 : PySem.W.findIn K (.ref C1) "__class__" = some (some (.builtin "object.__class__")))
    (mr_C1 : PySem.W.mroIn K C1 (.type "object") = some true)
    (ii_C1 : PySem.W.findIn K (.ref C1) "__init__" = some (some (.ref f_BN)))
    (no_C1 : PySem.W.findIn K (.ref C1) "part" = some none)
    (xm_C1 : PySem.W.exmOne K (.ref C1) (.ref CB) = some true)
    (ti_C1 : PySem.W.typeIn K (.ref f_BN) = some (.type "function"))
    (w_pg : PySem.W.plainGet K CW Str.empty = true)
    (w_hd : PySem.W.hasDictIn K CW = true)
    (w_po : PySem.W.plainOver K CW = true)
    (w_sa : PySem.W.findIn K (.ref CW) "__setattr__" = some (some (.builtin "object.__setattr__")))
    (w_ca : PySem.W.findIn K (.ref CW) "__class__" = some (some (.builtin "object.__class__")))
    (w_mr : PySem.W.mroIn K CW (.type "object") = some true)
    (w_ns : PySem.W.kitOne K (.ref CW) (.type "str") = some false)
    (w_na : PySem.W.findIn K (.ref CW) "letters" = some none)
    (w_mk : PySem.W.makesIn K CW = true)
    (w_ii : PySem.W.findIn K (.ref CW) "__init__" = some (some (.ref f_WI)))
    (w_if : PySem.W.isFn K (.ref f_WI) = true)
    (w_kp : PySem.W.keepIn K (.ref CW) = true)
    (w_ob : K.lookup CW = some (excClassObj nmW qW CW NW bsW [.type "object"] hdW snW subW abW colW ddW w0 w1 w2 w3 w5 newW))
    (w_nk : PySem.W.nsOkIn K NW = true)
    (w_e1 : PySem.W.nsIn K NW "__eq__" = some (some (.ref f_WE)))
    (w_e2 : PySem.W.nsIn K NW "__ne__" = some none)
    (w_ef : PySem.W.findIn K (.ref CW) "__eq__" = some (some (.ref f_WE)))
    (w_en : PySem.W.isFn K (.ref f_WE) = true)
    (w_mf : PySem.W.findIn K (.ref CW) "__mul__" = some (some (.ref f_WM)))
    (w_mn : PySem.W.isFn K (.ref f_WM) = true)
    (w_vf : PySem.W.findIn K (.ref CW) "__invert__" = some (some (.ref f_WV)))
    (w_vn : PySem.W.isFn K (.ref f_WV) = true)
    (w_fi : PySem.W.selfFirst K CW = true)
    (w_len_f : PySem.W.findIn K (.ref CW) "__len__" = some (some (.ref f_WLN)))
    (w_len_n : PySem.W.isFn K (.ref f_WLN) = true)
    (w_power_f : PySem.W.findIn K (.ref CW) "power" = some (some (.ref f_WPW)))
    (w_power_n : PySem.W.isFn K (.ref f_WPW) = true)
    (w_root_f : PySem.W.findIn K (.ref CW) "root" = some (some (.ref f_WRO)))
    (w_root_n : PySem.W.isFn K (.ref f_WRO) = true)
    (w_core_f : PySem.W.findIn K (.ref CW) "core" = some (some (.ref f_WCO)))
    (w_core_n : PySem.W.isFn K (.ref f_WCO) = true)
    (w_nf : PySem.W.notFirst K CW (.ref CW) = true)
    (o4_NoneType : PySem.W.kitOne K (.type "NoneType") (.ref CW) = some false)
    (o4_int : PySem.W.kitOne K (.type "int") (.ref CW) = some false)
    (o4_str : PySem.W.kitOne K (.type "str") (.ref CW) = some false)
    (o4_list : PySem.W.kitOne K (.type "list") (.ref CW) = some false)
    (o4_bool : PySem.W.kitOne K (.type "bool") (.ref CW) = some false)
    (l_TM : K.lookup f_TM = some ⟨oc_TM, od_TM, .func (PySem.W.fnOf "__init__" "TooMany.__init__" (defArgs s_TooMany_init) (defBody s_TooMany_init) (defScope s_TooMany_init) .none kV_TM dc_TM pm_TM an_TM cd_TM ct_TM), sl_TM⟩)
    (c_TM : PySem.W.codeIn K cd_TM "TooMany.__init__" = true)
    (k_TM : PySem.W.keepIn K (.ref f_TM) = true)
    (l_BW : K.lookup f_BW = some ⟨oc_BW, od_BW, .func (PySem.W.fnOf "__init__" "BadWord.__init__" (defArgs s_BadWord_init) (defBody s_BadWord_init) (defScope s_BadWord_init) .none kV_BW dc_BW pm_BW an_BW cd_BW ct_BW), sl_BW⟩)
    (c_BW : PySem.W.codeIn K cd_BW "BadWord.__init__" = true)
    (k_BW : PySem.W.keepIn K (.ref f_BW) = true)
    (l_WI : K.lookup f_WI = some ⟨oc_WI, od_WI, .func (PySem.W.fnOf "__init__" "Word.__init__" (defArgs s_Word_init) (defBody s_Word_init) (defScope s_Word_init) (.ref T_WI) kV_WI dc_WI pm_WI an_WI cd_WI ct_WI), sl_WI⟩)
    (d_WI : K.lookup T_WI = some ⟨cT_WI, dT_WI, .seq [.str "" tt_WI].toArray nT_WI, sT_WI⟩)
    (c_WI : PySem.W.codeIn K cd_WI "Word.__init__" = true)
    (k_WI : PySem.W.keepIn K (.ref f_WI) = true)
    (l_BN : K.lookup f_BN = some ⟨oc_BN, od_BN, .func (PySem.W.fnOf "__init__" "BadNumber.__init__" (defArgs s_BadNumber_init) (defBody s_BadNumber_init) (defScope s_BadNumber_init) .none kV_BN dc_BN pm_BN an_BN cd_BN ct_BN), sl_BN⟩)
    (c_BN : PySem.W.codeIn K cd_BN "BadNumber.__init__" = true)
    (k_BN : PySem.W.keepIn K (.ref f_BN) = true)
    (l_WE : K.lookup f_WE = some ⟨oc_WE, od_WE, .func (PySem.W.fnOf "__eq__" "Word.__eq__" (defArgs s_Word_eq) (defBody s_Word_eq) (defScope s_Word_eq) .none kV_WE dc_WE pm_WE an_WE cd_WE ct_WE), sl_WE⟩)
    (c_WE : PySem.W.codeIn K cd_WE "Word.__eq__" = true)
    (k_WE : PySem.W.keepIn K (.ref f_WE) = true)
    (l_WM : K.lookup f_WM = some ⟨oc_WM, od_WM, .func (PySem.W.fnOf "__mul__" "Word.__mul__" (defArgs s_Word_mul) (defBody s_Word_mul) (defScope s_Word_mul) .none kV_WM dc_WM pm_WM an_WM cd_WM ct_WM), sl_WM⟩)
    (c_WM : PySem.W.codeIn K cd_WM "Word.__mul__" = true)
    (k_WM : PySem.W.keepIn K (.ref f_WM) = true)
    (l_WV : K.lookup f_WV = some ⟨oc_WV, od_WV, .func (PySem.W.fnOf "__invert__" "Word.__invert__" (defArgs s_Word_invert) (defBody s_Word_invert) (defScope s_Word_invert) .none kV_WV dc_WV pm_WV an_WV cd_WV ct_WV), sl_WV⟩)
    (c_WV : PySem.W.codeIn K cd_WV "Word.__invert__" = true)
    (k_WV : PySem.W.keepIn K (.ref f_WV) = true)
    (l_WLN : K.lookup f_WLN = some ⟨oc_WLN, od_WLN, .func (PySem.W.fnOf "__len__" "Word.__len__" (defArgs s_Word_len) (defBody s_Word_len) (defScope s_Word_len) .none kV_WLN dc_WLN pm_WLN an_WLN cd_WLN ct_WLN), sl_WLN⟩)
    (c_WLN : PySem.W.codeIn K cd_WLN "Word.__len__" = true)
    (k_WLN : PySem.W.keepIn K (.ref f_WLN) = true)
    (l_WPW : K.lookup f_WPW = some ⟨oc_WPW, od_WPW, .func (PySem.W.fnOf "power" "Word.power" (defArgs s_Word_power) (defBody s_Word_power) (defScope s_Word_power) .none kV_WPW dc_WPW pm_WPW an_WPW cd_WPW ct_WPW), sl_WPW⟩)
    (c_WPW : PySem.W.codeIn K cd_WPW "Word.power" = true)
    (k_WPW : PySem.W.keepIn K (.ref f_WPW) = true)
    (l_WRO : K.lookup f_WRO = some ⟨oc_WRO, od_WRO, .func (PySem.W.fnOf "root" "Word.root" (defArgs s_Word_root) (defBody s_Word_root) (defScope s_Word_root) .none kV_WRO dc_WRO pm_WRO an_WRO cd_WRO ct_WRO), sl_WRO⟩)
    (c_WRO : PySem.W.codeIn K cd_WRO "Word.root" = true)
    (k_WRO : PySem.W.keepIn K (.ref f_WRO) = true)
    (l_WCO : K.lookup f_WCO = some ⟨oc_WCO, od_WCO, .func (PySem.W.fnOf "core" "Word.core" (defArgs s_Word_core) (defBody s_Word_core) (defScope s_Word_core) .none kV_WCO dc_WCO pm_WCO an_WCO cd_WCO ct_WCO), sl_WCO⟩)
    (c_WCO : PySem.W.codeIn K cd_WCO "Word.core" = true)
    (k_WCO : PySem.W.keepIn K (.ref f_WCO) = true)
     :
    LamX.LawAtS PySem.Challenge.rw_sevenball_k04_roots_cores_powers w K CX0 10 63 "script" mg fa h := by
  have e := hfa.symm.trans (PySem.W.mg_of X G a_law)
  cases e
  have F_first_fault := fun_mk (st := s_first_fault) l_first_fault c_first_fault k_first_fault
  have F_joined := fun_mk (st := s_joined) l_joined c_joined k_joined
  have F_undone := fun_mk (st := s_undone) l_undone c_undone k_undone
  have F_coat_size := fun_mk (st := s_coat_size) l_coat_size c_coat_size k_coat_size
  have F_repeated := fun_mk (st := s_repeated) l_repeated c_repeated k_repeated
  have F_is_integer := fun_mk (st := s_is_integer) l_is_integer c_is_integer k_is_integer
  have F_commute := fun_mk (st := s_commute) l_commute c_commute k_commute
  have F__law_pen := fun_mk (st := s__law_pen) l__law_pen c__law_pen k__law_pen
  have F__law_draw := fun_mk (st := s__law_draw) l__law_draw c__law_draw k__law_draw
  have F__law_pick := fun_mk (st := s__law_pick) l__law_pick c__law_pick k__law_pick
  have F__law_heard := fun_mk (st := s__law_heard) l__law_heard c__law_heard k__law_heard
  have F__law_undo := fun_mk (st := s__law_undo) l__law_undo c__law_undo k__law_undo
  have F__law_row := fun_mk (st := s__law_row) l__law_row c__law_row k__law_row
  have F__law_back := fun_mk (st := s__law_back) l__law_back c__law_back k__law_back
  have F__law_join := fun_mk (st := s__law_join) l__law_join c__law_join k__law_join
  have F__law_power := fun_mk (st := s__law_power) l__law_power c__law_power k__law_power
  have F__law_drawn := fun_mk (st := s__law_drawn) l__law_drawn c__law_drawn k__law_drawn
  have F__law_peeled := fun_mk (st := s__law_peeled) l__law_peeled c__law_peeled k__law_peeled
  have F__law_root := fun_mk (st := s__law_root) l__law_root c__law_root k__law_root
  have F__law_word_right := fun_mk (st := s__law_word_right) l__law_word_right c__law_word_right k__law_word_right
  have F__law_alike := fun_mk (st := s__law_alike) l__law_alike c__law_alike k__law_alike
  have F__law_told := fun_mk (st := s__law_told) l__law_told c__law_told k__law_told
  have F__law_pair_right := fun_mk (st := s__law_pair_right) l__law_pair_right c__law_pair_right k__law_pair_right
  have F_law := fun_mk (st := s_law) l_law c_law k_law
  have F_BW := fun_mk (st := s_BadWord_init) l_BW c_BW k_BW
  have F_BN := fun_mk (st := s_BadNumber_init) l_BN c_BN k_BN
  have F_TM := fun_mk (st := s_TooMany_init) l_TM c_TM k_TM
  have F_WE := fun_mk (st := s_Word_eq) l_WE c_WE k_WE
  have F_WM := fun_mk (st := s_Word_mul) l_WM c_WM k_WM
  have F_WV := fun_mk (st := s_Word_invert) l_WV c_WV k_WV
  have F_WLN := fun_mk (st := s_Word_len) l_WLN c_WLN k_WLN
  have F_WPW := fun_mk (st := s_Word_power) l_WPW c_WPW k_WPW
  have F_WRO := fun_mk (st := s_Word_root) l_WRO c_WRO k_WRO
  have F_WCO := fun_mk (st := s_Word_core) l_WCO c_WCO k_WCO
  have T__law_refused_right := funT_mk (st := s__law_refused_right) l__law_refused_right c__law_refused_right k__law_refused_right
  have F_WI : FunD K "__init__" "Word.__init__" (defArgs s_Word_init) (defBody s_Word_init) (defScope s_Word_init) [.str ""] [] f_WI _ :=
    ⟨⟨_, _, _, _, _, _, _, _, _, _, rfl, l_WI, c_WI, .inr ⟨fun z => (nomatch z), T_WI, _, _, _, rfl, d_WI, rfl, .cons ⟨_, rfl⟩ .nil⟩, .inl rfl⟩, k_WI⟩
  have E3 : Err2 K mg "TooMany" "what" "most" CM f_TM := { ox := ⟨⟨_, _, _, _, _, _, _, _, _, _, _, _, _, _, _, x_CM, bm1_CM⟩, sa_CM, ex_CM, ty_CM, kC_CM⟩, ec := ⟨cs_CM, ow_CM, ga_CM, gt_CM, ex_CM, ca_CM, cg, ct, mr_CM⟩, iC := ii_CM, tI := ti_CM, nf := no_CM, ng := ng_CM, at_ := PySem.W.mg_of X G g_CM }
  have E1 : Err1 K mg "BadNumber" "part" C1 f_BN := { ox := ⟨⟨_, _, _, _, _, _, _, _, _, _, _, _, _, _, _, x_C1, bm1_C1⟩, sa_C1, ex_C1, ty_C1, kC_C1⟩, ec := ⟨cs_C1, ow_C1, ga_C1, gt_C1, ex_C1, ca_C1, cg, ct, mr_C1⟩, iC := ii_C1, tI := ti_C1, no := no_C1, at_ := PySem.W.mg_of X G g_C1 }
  have E2 : Err1 K mg "BadWord" "at" C2 f_BW := { ox := ⟨⟨_, _, _, _, _, _, _, _, _, _, _, _, _, _, _, x_C2, bm1_C2⟩, sa_C2, ex_C2, ty_C2, kC_C2⟩, ec := ⟨cs_C2, ow_C2, ga_C2, gt_C2, ex_C2, ca_C2, cg, ct, mr_C2⟩, iC := ii_C2, tI := ti_C2, no := no_C2, at_ := PySem.W.mg_of X G g_C2 }
  have cl : Cls K CW := ⟨w_pg, w_hd, w_po, w_sa⟩
  have ic : IsC K CW := ⟨w_ca, cg, ct, w_mr, w_ns⟩
  have M : Mk K CW f_WI := ⟨w_mk, w_ii, w_if, w_kp⟩
  have EqW : EqC K CW f_WE := ⟨⟨_, _, _, _, _, _, _, _, _, _, _, _, _, _, _, _, w_ob, w_nk, w_e1, w_e2⟩, w_ef, w_en⟩
  have me_power : Meth K CW "power" f_WPW := ⟨w_power_f, w_power_n, k_WPW⟩
  have me_root : Meth K CW "root" f_WRO := ⟨w_root_f, w_root_n, k_WRO⟩
  have me_core : Meth K CW "core" f_WCO := ⟨w_core_f, w_core_n, k_WCO⟩
  have gW := PySem.W.mg_of X G g_CW
  have none := fun {x : Str} (z : PySem.W.nsIn K mainGlobals x = some Option.none) => PySem.W.mg_none_of X G z
  have m_len := none z_len
  have m_isinstance := none z_isinstance
  have m_str := none z_str
  have m_int := none z_int
  have m_bool := none z_bool
  have m_range := none z_range
  have m_abs := none z_abs
  have m_list := none z_list
  have m_enumerate := none z_enumerate
  have m_min := none z_min
  have mL : ∃ t, mg "LETTERS" = some (.str "ABCDabcd" t) := ⟨_, PySem.W.mg_of X G g_L⟩
  have mM : ∃ t, mg "MOST_LETTERS" = some (.int 4000 t) := ⟨_, PySem.W.mg_of X G g_M⟩
  have b_first_fault := F_first_fault.binds (ps := ["letters"]) fun _ _ _ _ _ _ us hl => match us, hl with | [_], _ => rfl
  have b_joined := F_joined.binds (ps := ["one", "other"]) fun _ _ _ _ _ _ us hl => match us, hl with | [_, _], _ => rfl
  have b_undone := F_undone.binds (ps := ["letters"]) fun _ _ _ _ _ _ us hl => match us, hl with | [_], _ => rfl
  have b_coat_size := F_coat_size.binds (ps := ["letters"]) fun _ _ _ _ _ _ us hl => match us, hl with | [_], _ => rfl
  have b_repeated := F_repeated.binds (ps := ["letters", "many", "most"]) fun _ _ _ _ _ _ us hl => match us, hl with | [_, _, _], _ => rfl
  have b_is_integer := F_is_integer.binds (ps := ["value"]) fun _ _ _ _ _ _ us hl => match us, hl with | [_], _ => rfl
  have b_commute := F_commute.binds (ps := ["one", "other"]) fun _ _ _ _ _ _ us hl => match us, hl with | [_, _], _ => rfl
  have b__law_pen := F__law_pen.binds (ps := ["script"]) fun _ _ _ _ _ _ us hl => match us, hl with | [_], _ => rfl
  have b__law_draw := F__law_draw.binds (ps := ["pen", "many"]) fun _ _ _ _ _ _ us hl => match us, hl with | [_, _], _ => rfl
  have b__law_pick := F__law_pick.binds (ps := ["pen", "some"]) fun _ _ _ _ _ _ us hl => match us, hl with | [_, _], _ => rfl
  have b__law_heard := F__law_heard.binds (ps := ["ask"]) fun _ _ _ _ _ _ us hl => match us, hl with | [_], _ => rfl
  have b__law_undo := F__law_undo.binds (ps := ["letter"]) fun _ _ _ _ _ _ us hl => match us, hl with | [_], _ => rfl
  have b__law_row := F__law_row.binds (ps := ["pen", "most"]) fun _ _ _ _ _ _ us hl => match us, hl with | [_, _], _ => rfl
  have b__law_back := F__law_back.binds (ps := ["row"]) fun _ _ _ _ _ _ us hl => match us, hl with | [_], _ => rfl
  have b__law_join := F__law_join.binds (ps := ["one", "other"]) fun _ _ _ _ _ _ us hl => match us, hl with | [_, _], _ => rfl
  have b__law_power := F__law_power.binds (ps := ["row", "many"]) fun _ _ _ _ _ _ us hl => match us, hl with | [_, _], _ => rfl
  have b__law_drawn := F__law_drawn.binds (ps := ["pen"]) fun _ _ _ _ _ _ us hl => match us, hl with | [_], _ => rfl
  have b__law_peeled := F__law_peeled.binds (ps := ["row"]) fun _ _ _ _ _ _ us hl => match us, hl with | [_], _ => rfl
  have b__law_root := F__law_root.binds (ps := ["row"]) fun _ _ _ _ _ _ us hl => match us, hl with | [_], _ => rfl
  have b__law_word_right := F__law_word_right.binds (ps := ["pen", "row"]) fun _ _ _ _ _ _ us hl => match us, hl with | [_, _], _ => rfl
  have b__law_alike := F__law_alike.binds (ps := ["one", "other"]) fun _ _ _ _ _ _ us hl => match us, hl with | [_, _], _ => rfl
  have b__law_told := F__law_told.binds (ps := ["told", "due"]) fun _ _ _ _ _ _ us hl => match us, hl with | [_, _], _ => rfl
  have b__law_pair_right := F__law_pair_right.binds (ps := ["pen", "row"]) fun _ _ _ _ _ _ us hl => match us, hl with | [_, _], _ => rfl
  have b_law := F_law.binds (ps := ["script"]) fun _ _ _ _ _ _ us hl => match us, hl with | [_], _ => rfl
  have b__law_refused_right := T__law_refused_right.fn.binds (ps := ["pen", "row"]) fun _ _ _ _ _ _ us hl => match us, hl with | [_, _], _ => rfl
  have b_BW := F_BW.binds (ps := ["self", "at"]) fun _ _ _ _ _ _ us hl => match us, hl with | [_, _], _ => rfl
  have b_BN := F_BN.binds (ps := ["self", "part"]) fun _ _ _ _ _ _ us hl => match us, hl with | [_, _], _ => rfl
  have b_TM := F_TM.binds (ps := ["self", "what", "most"]) fun _ _ _ _ _ _ us hl => match us, hl with | [_, _, _], _ => rfl
  have b_WE := F_WE.binds (ps := ["self", "other"]) fun _ _ _ _ _ _ us hl => match us, hl with | [_, _], _ => rfl
  have b_WM := F_WM.binds (ps := ["self", "other"]) fun _ _ _ _ _ _ us hl => match us, hl with | [_, _], _ => rfl
  have b_WV := F_WV.binds (ps := ["self"]) fun _ _ _ _ _ _ us hl => match us, hl with | [_], _ => rfl
  have b_WLN := F_WLN.binds (ps := ["self"]) fun _ _ _ _ _ _ us hl => match us, hl with | [_], _ => rfl
  have b_WPW := F_WPW.binds (ps := ["self", "many"]) fun _ _ _ _ _ _ us hl => match us, hl with | [_, _], _ => rfl
  have b_WRO := F_WRO.binds (ps := ["self"]) fun _ _ _ _ _ _ us hl => match us, hl with | [_], _ => rfl
  have b_WCO := F_WCO.binds (ps := ["self"]) fun _ _ _ _ _ _ us hl => match us, hl with | [_], _ => rfl
  have kw_pw := power_kw F_WPW
  have kw_co := commute_kw F_commute
  obtain ⟨ds1, v1, b_WI⟩ := F_WI.binds1 (ps := ["self", "letters"]) 2 1 (fun z => (nomatch z)) rfl fun _ _ _ _ _ _ _ us its h1 h2 => match us, its, h1, h2 with | [_, _], [_], _, _ => ⟨_, rfl, rfl⟩
  obtain ⟨ds2, v2, b_WI0⟩ := F_WI.binds1 (ps := ["self", "letters"]) 1 0 (fun z => (nomatch z)) rfl fun _ _ _ _ _ _ _ us its h1 h2 => match us, its, h1, h2 with | [_], [_], _, _ => ⟨_, rfl, rfl⟩
  have n1 : ds1 = [] := by
    cases v1
    rfl
  subst n1
  obtain ⟨tE, rfl, rE⟩ : ∃ tE, ds2 = [tE] ∧ RelV (.str "") tE := by
    cases v2 with
    | cons r q =>
      cases q
      exact ⟨_, rfl, r⟩
  have xm2 := xm_C2
  have xm1 := xm_C1
  have xm3 := xm_CM
  have OD : OddOk K CW := fun T hT => by
    simp only [List.mem_cons, List.not_mem_nil, or_false] at hT
    rcases hT with rfl | rfl | rfl | rfl | rfl
    · exact o4_NoneType
    · exact o4_int
    · exact o4_str
    · exact o4_list
    · exact o4_bool
  refine ⟨PySem.W.fnOf "law" "law" (defArgs s_law) (defBody s_law) (defScope s_law) .none kV_law dc_law pm_law an_law cd_law ct_law, [(u__law_refused_right, P__law_refused_right)], spLaw K [(P__law_refused_right, lq "_law_refused_right")], ?_, ?_, ?_, fun s u => ?_, ?_, fun base kb nb tb => ?_⟩
  · intro p hp
    simp only [List.mem_cons, List.not_mem_nil, or_false] at hp
    rcases hp with rfl
    · exact t__law_refused_right
  · intro p hp
    simp only [List.mem_cons, List.not_mem_nil, or_false] at hp
    rcases hp with rfl
    · exact n__law_refused_right
  · intro p hp
    simp only [List.mem_cons, List.not_mem_nil, or_false] at hp
    rcases hp with rfl
    · exact PySem.W.codeHd_of_K X h__law_refused_right
  · exact .of_eq rfl
  · intro H a ns _ _ hT hS
    refine ⟨a, ns, rfl, hS, ?_, fun _ => rfl⟩
    have one := fun p hp => hT p hp
    intro p hp
    simp only [List.mem_cons, List.not_mem_nil, or_false] at hp
    rcases hp with rfl
    · exact .nil (one (u__law_refused_right, P__law_refused_right) (by simp))
  · have in__law_refused_right : (P__law_refused_right, lq "_law_refused_right") ∈ [(P__law_refused_right, lq "_law_refused_right")] := by simp
    have un : ∀ q ∈ [(P__law_refused_right, lq "_law_refused_right")], (q.1 = P__law_refused_right → q.2 = lq "_law_refused_right") := by
      intro q hq
      simp only [List.mem_cons, List.not_mem_nil, or_false] at hq
      rcases hq with rfl
      · exact fun _ => rfl
    have Hd : Heard K mg CB := ⟨⟨_, _, F__law_heard, b__law_heard, PySem.W.mg_of X G a__law_heard⟩, PySem.W.mg_of X G g_CB⟩
    have GW := ok_Word_init (P := PySem.Challenge.rw_sevenball_k04_roots_cores_powers.prog) (w := w) (base := base) (k := 0) F_WI E2 F_BW b_BW E3 F_TM b_TM F_first_fault b_first_fault (PySem.W.mg_of X G a_first_fault) cl w_na m_isinstance m_str m_len m_enumerate mL mM
    have MO : MakeOk PySem.Challenge.rw_sevenball_k04_roots_cores_powers.prog w K mg base CW C2 CM 0 := ⟨⟨_, _, _, M, GW, b_WI, b_WI0, rE⟩, gW, cl, ic, w_na⟩
    have GII := ok_is_integer (P := PySem.Challenge.rw_sevenball_k04_roots_cores_powers.prog) (w := w) (base := base) (k := 0) F_is_integer m_isinstance m_int m_bool
    have GJ := ok_joined (P := PySem.Challenge.rw_sevenball_k04_roots_cores_powers.prog) (w := w) (base := base) (mg := mg) (k := 0) F_joined m_len m_min
    have GU := ok_undone (P := PySem.Challenge.rw_sevenball_k04_roots_cores_powers.prog) (w := w) (base := base) (mg := mg) (k := 0) F_undone
    have GCs := ok_coat_size (P := PySem.Challenge.rw_sevenball_k04_roots_cores_powers.prog) (w := w) (base := base) (k := 0) F_coat_size m_len
    have GRp := ok_repeated (P := PySem.Challenge.rw_sevenball_k04_roots_cores_powers.prog) (w := w) (base := base) (k := 0) F_repeated m_len GCs (PySem.W.mg_of X G a_coat_size) k_coat_size b_coat_size E3 F_TM b_TM mM
    have GE := ok_Word_eq (P := PySem.Challenge.rw_sevenball_k04_roots_cores_powers.prog) (w := w) (base := base) (k := 0) F_WE MO m_isinstance m_len
    have GM := ok_Word_mul (P := PySem.Challenge.rw_sevenball_k04_roots_cores_powers.prog) (w := w) (base := base) (k := 0) F_WM MO E2 F_BW b_BW GJ (PySem.W.mg_of X G a_joined) k_joined b_joined m_isinstance
    have GI := ok_Word_invert (P := PySem.Challenge.rw_sevenball_k04_roots_cores_powers.prog) (w := w) (base := base) (k := 0) F_WV MO GU (PySem.W.mg_of X G a_undone) k_undone b_undone
    have GPw := ok_Word_power (P := PySem.Challenge.rw_sevenball_k04_roots_cores_powers.prog) (w := w) (base := base) (k := 0) F_WPW MO m_abs GII (PySem.W.mg_of X G a_is_integer) k_is_integer b_is_integer GU (PySem.W.mg_of X G a_undone) k_undone b_undone GRp (PySem.W.mg_of X G a_repeated) k_repeated b_repeated E1 F_BN b_BN mM
    have GRo := ok_Word_root (P := PySem.Challenge.rw_sevenball_k04_roots_cores_powers.prog) (w := w) (base := base) (k := 0) F_WRO MO m_len GCs (PySem.W.mg_of X G a_coat_size) k_coat_size b_coat_size GU (PySem.W.mg_of X G a_undone) k_undone b_undone
    have GCo := ok_Word_core (P := PySem.Challenge.rw_sevenball_k04_roots_cores_powers.prog) (w := w) (base := base) (k := 0) F_WCO MO m_len GCs (PySem.W.mg_of X G a_coat_size) k_coat_size b_coat_size
    have GLn := ok_Word_len (P := PySem.Challenge.rw_sevenball_k04_roots_cores_powers.prog) (w := w) (base := base) (k := 0) F_WLN cl w_na m_len
    have GCm := ok_commute (P := PySem.Challenge.rw_sevenball_k04_roots_cores_powers.prog) (w := w) (base := base) (k := 0) F_commute MO E2 F_BW b_BW GJ (PySem.W.mg_of X G a_joined) k_joined b_joined m_isinstance
    have OO : OpsOk PySem.Challenge.rw_sevenball_k04_roots_cores_powers.prog w K mg base CW C1 C2 CM 0 := ⟨w_fi, ⟨_, _, w_mf, w_mn, GM, b_WM⟩, ⟨_, _, w_vf, w_vn, GI, b_WV⟩, ⟨_, _, EqW, GE, b_WE⟩, ⟨_, _, me_power, GPw, b_WPW, kw_pw⟩, ⟨_, _, me_root, GRo, b_WRO⟩, ⟨_, _, me_core, GCo, b_WCO⟩, w_nf⟩
    have Gpen := ok_law_pen (P := PySem.Challenge.rw_sevenball_k04_roots_cores_powers.prog) (w := w) (base := base) (k := 0) F__law_pen m_list
    have Gdraw1 := ok_law_draw (P := PySem.Challenge.rw_sevenball_k04_roots_cores_powers.prog) (w := w) (base := base) (k := 0) F__law_draw m_int m_len m_abs
    have Gdraw2 := ok_law_draw (P := PySem.Challenge.rw_sevenball_k04_roots_cores_powers.prog) (w := w) (base := base) (k := 1) F__law_draw m_int m_len m_abs
    have Gdraw3 := ok_law_draw (P := PySem.Challenge.rw_sevenball_k04_roots_cores_powers.prog) (w := w) (base := base) (k := 2) F__law_draw m_int m_len m_abs
    have Gdraw4 := ok_law_draw (P := PySem.Challenge.rw_sevenball_k04_roots_cores_powers.prog) (w := w) (base := base) (k := 3) F__law_draw m_int m_len m_abs
    have Gundo1 := ok_law_undo (P := PySem.Challenge.rw_sevenball_k04_roots_cores_powers.prog) (w := w) (base := base) (mg := mg) (k := 0) F__law_undo
    have Gundo2 := ok_law_undo (P := PySem.Challenge.rw_sevenball_k04_roots_cores_powers.prog) (w := w) (base := base) (mg := mg) (k := 1) F__law_undo
    have Gundo3 := ok_law_undo (P := PySem.Challenge.rw_sevenball_k04_roots_cores_powers.prog) (w := w) (base := base) (mg := mg) (k := 2) F__law_undo
    have Gpick2 := ok_law_pick (P := PySem.Challenge.rw_sevenball_k04_roots_cores_powers.prog) (w := w) (base := base) (k := 0) F__law_pick Gdraw1 (PySem.W.mg_of X G a__law_draw) k__law_draw b__law_draw m_len
    have Gpick3 := ok_law_pick (P := PySem.Challenge.rw_sevenball_k04_roots_cores_powers.prog) (w := w) (base := base) (k := 1) F__law_pick Gdraw2 (PySem.W.mg_of X G a__law_draw) k__law_draw b__law_draw m_len
    have Grow3 := ok_law_row (P := PySem.Challenge.rw_sevenball_k04_roots_cores_powers.prog) (w := w) (base := base) (k := 0) F__law_row Gdraw2 (PySem.W.mg_of X G a__law_draw) k__law_draw b__law_draw Gpick2 (PySem.W.mg_of X G a__law_pick) k__law_pick b__law_pick Gundo2 (PySem.W.mg_of X G a__law_undo) k__law_undo b__law_undo m_range
    have Grow4 := ok_law_row (P := PySem.Challenge.rw_sevenball_k04_roots_cores_powers.prog) (w := w) (base := base) (k := 1) F__law_row Gdraw3 (PySem.W.mg_of X G a__law_draw) k__law_draw b__law_draw Gpick3 (PySem.W.mg_of X G a__law_pick) k__law_pick b__law_pick Gundo3 (PySem.W.mg_of X G a__law_undo) k__law_undo b__law_undo m_range
    have Gtold := ok_law_told (P := PySem.Challenge.rw_sevenball_k04_roots_cores_powers.prog) (w := w) (base := base) (mg := mg) (k := 0) F__law_told
    have Gback2 := ok_law_back (P := PySem.Challenge.rw_sevenball_k04_roots_cores_powers.prog) (w := w) (base := base) (k := 0) F__law_back Gundo1 (PySem.W.mg_of X G a__law_undo) k__law_undo b__law_undo
    have Gback3 := ok_law_back (P := PySem.Challenge.rw_sevenball_k04_roots_cores_powers.prog) (w := w) (base := base) (k := 1) F__law_back Gundo2 (PySem.W.mg_of X G a__law_undo) k__law_undo b__law_undo
    have Gback4 := ok_law_back (P := PySem.Challenge.rw_sevenball_k04_roots_cores_powers.prog) (w := w) (base := base) (k := 2) F__law_back Gundo3 (PySem.W.mg_of X G a__law_undo) k__law_undo b__law_undo
    have Gjoin2 := ok_law_join (P := PySem.Challenge.rw_sevenball_k04_roots_cores_powers.prog) (w := w) (base := base) (k := 0) F__law_join Gundo1 (PySem.W.mg_of X G a__law_undo) k__law_undo b__law_undo
    have Gjoin3 := ok_law_join (P := PySem.Challenge.rw_sevenball_k04_roots_cores_powers.prog) (w := w) (base := base) (k := 1) F__law_join Gundo2 (PySem.W.mg_of X G a__law_undo) k__law_undo b__law_undo
    have Gjoin4 := ok_law_join (P := PySem.Challenge.rw_sevenball_k04_roots_cores_powers.prog) (w := w) (base := base) (k := 2) F__law_join Gundo3 (PySem.W.mg_of X G a__law_undo) k__law_undo b__law_undo
    have Gpow3 := ok_law_power (P := PySem.Challenge.rw_sevenball_k04_roots_cores_powers.prog) (w := w) (base := base) (k := 0) F__law_power Gjoin2 (PySem.W.mg_of X G a__law_join) k__law_join b__law_join Gback2 (PySem.W.mg_of X G a__law_back) k__law_back b__law_back m_range m_abs
    have Gpow4 := ok_law_power (P := PySem.Challenge.rw_sevenball_k04_roots_cores_powers.prog) (w := w) (base := base) (k := 1) F__law_power Gjoin3 (PySem.W.mg_of X G a__law_join) k__law_join b__law_join Gback3 (PySem.W.mg_of X G a__law_back) k__law_back b__law_back m_range m_abs
    have Gpeel2 := ok_law_peeled (P := PySem.Challenge.rw_sevenball_k04_roots_cores_powers.prog) (w := w) (base := base) (k := 0) F__law_peeled m_len Gundo1 (PySem.W.mg_of X G a__law_undo) k__law_undo b__law_undo
    have Gpeel3 := ok_law_peeled (P := PySem.Challenge.rw_sevenball_k04_roots_cores_powers.prog) (w := w) (base := base) (k := 1) F__law_peeled m_len Gundo2 (PySem.W.mg_of X G a__law_undo) k__law_undo b__law_undo
    have Groot3 := ok_law_root (P := PySem.Challenge.rw_sevenball_k04_roots_cores_powers.prog) (w := w) (base := base) (k := 0) F__law_root m_len m_range Gpeel2 (PySem.W.mg_of X G a__law_peeled) k__law_peeled b__law_peeled Gback2 (PySem.W.mg_of X G a__law_back) k__law_back b__law_back
    have Gdrawn5 := ok_law_drawn (P := PySem.Challenge.rw_sevenball_k04_roots_cores_powers.prog) (w := w) (base := base) (k := 1) F__law_drawn Grow4 (PySem.W.mg_of X G a__law_row) k__law_row b__law_row Gjoin4 (PySem.W.mg_of X G a__law_join) k__law_join b__law_join Gpow4 (PySem.W.mg_of X G a__law_power) k__law_power b__law_power Gdraw4 (PySem.W.mg_of X G a__law_draw) k__law_draw b__law_draw Gback4 (PySem.W.mg_of X G a__law_back) k__law_back b__law_back
    have Galike := ok_law_alike (P := PySem.Challenge.rw_sevenball_k04_roots_cores_powers.prog) (w := w) (base := base) (k := 0) F__law_alike Groot3 (PySem.W.mg_of X G a__law_root) k__law_root b__law_root Gback3 (PySem.W.mg_of X G a__law_back) k__law_back b__law_back
    have Gword := ok_law_word_right (k := 0) F__law_word_right MO OO Gdraw3 (PySem.W.mg_of X G a__law_draw) k__law_draw b__law_draw Gpeel3 (PySem.W.mg_of X G a__law_peeled) k__law_peeled b__law_peeled Groot3 (PySem.W.mg_of X G a__law_root) k__law_root b__law_root Gpow3 (PySem.W.mg_of X G a__law_power) k__law_power b__law_power
    have Gpair := ok_law_pair_right (k := 0) F__law_pair_right MO OO GCm (PySem.W.mg_of X G a_commute) k_commute b_commute kw_co Gdraw3 (PySem.W.mg_of X G a__law_draw) k__law_draw b__law_draw Gdrawn5 (PySem.W.mg_of X G a__law_drawn) k__law_drawn b__law_drawn Groot3 (PySem.W.mg_of X G a__law_root) k__law_root b__law_root Gpow3 (PySem.W.mg_of X G a__law_power) k__law_power b__law_power Gjoin3 (PySem.W.mg_of X G a__law_join) k__law_join b__law_join Gtold (PySem.W.mg_of X G a__law_told) k__law_told b__law_told Galike (PySem.W.mg_of X G a__law_alike) k__law_alike b__law_alike
    have Gref := ok_law_refused_right (k := 0) T__law_refused_right Hd (tb (u__law_refused_right, P__law_refused_right) (by simp)) in__law_refused_right (fun q hq => un q hq) MO OO OD E1 E2 E3 xm1 xm2 xm3 w_len_f w_len_n GLn b_WLN GCm (PySem.W.mg_of X G a_commute) k_commute b_commute Gpick2 (PySem.W.mg_of X G a__law_pick) k__law_pick b__law_pick Gpeel3 (PySem.W.mg_of X G a__law_peeled) k__law_peeled b__law_peeled Gdraw3 (PySem.W.mg_of X G a__law_draw) k__law_draw b__law_draw m_isinstance m_len
    exact ok_law (k := 0) F_law Gpen (PySem.W.mg_of X G a__law_pen) k__law_pen b__law_pen Grow3 (PySem.W.mg_of X G a__law_row) k__law_row b__law_row Gdraw3 (PySem.W.mg_of X G a__law_draw) k__law_draw b__law_draw Gdrawn5 (PySem.W.mg_of X G a__law_drawn) k__law_drawn b__law_drawn Gword (PySem.W.mg_of X G a__law_word_right) k__law_word_right b__law_word_right Gpair (PySem.W.mg_of X G a__law_pair_right) k__law_pair_right b__law_pair_right Gref (PySem.W.mg_of X G a__law_refused_right) k__law_refused_right b__law_refused_right m_range
end K04
-- E04
open PySem PySem.W PyProof.Rows
set_option maxHeartbeats 0 in
theorem PySem.Challenge.cw_sevenball_k04_roots_cores_powers_holds : PySem.Challenge.rw_sevenball_k04_roots_cores_powers.Holds := by
  w_on; o_law; k_head; (case hw => w_witness2)
  k_fill
  refine LamX.walk_ofTs (l := PySem.Challenge.rw_sevenball_k04_roots_cores_powers) (n := 63) (k := 10) (x := "script") (CX := fun _ => L2.CX0) rfl (by decide) rfl ⟨rfl, by decide, by decide⟩ (fun w h Y => PySem.W.km_in_of Y) ?F (fun _ _ _ _ _ h => h)
  case F =>
    intro w mg fa h Y KX G hmg
    refine' K04.all_mk KX G hmg ?g_CB ?g_CW ?g_L ?g_M ?z_len ?z_isinstance ?z_str ?z_int ?z_bool ?z_range ?z_abs ?z_list ?z_enumerate ?z_min ?cg ?ct ?a_first_fault ?l_first_fault ?c_first_fault ?k_first_fault ?a_joined ?l_joined ?c_joined ?k_joined ?a_undone ?l_undone ?c_undone ?k_undone ?a_coat_size ?l_coat_size ?c_coat_size ?k_coat_size ?a_repeated ?l_repeated ?c_repeated ?k_repeated ?a_is_integer ?l_is_integer ?c_is_integer ?k_is_integer ?a_commute ?l_commute ?c_commute ?k_commute ?a__law_pen ?l__law_pen ?c__law_pen ?k__law_pen ?a__law_draw ?l__law_draw ?c__law_draw ?k__law_draw ?a__law_pick ?l__law_pick ?c__law_pick ?k__law_pick ?a__law_heard ?l__law_heard ?c__law_heard ?k__law_heard ?a__law_undo ?l__law_undo ?c__law_undo ?k__law_undo ?a__law_row ?l__law_row ?c__law_row ?k__law_row ?a__law_back ?l__law_back ?c__law_back ?k__law_back ?a__law_join ?l__law_join ?c__law_join ?k__law_join ?a__law_power ?l__law_power ?c__law_power ?k__law_power ?a__law_drawn ?l__law_drawn ?c__law_drawn ?k__law_drawn ?a__law_peeled ?l__law_peeled ?c__law_peeled ?k__law_peeled ?a__law_root ?l__law_root ?c__law_root ?k__law_root ?a__law_word_right ?l__law_word_right ?c__law_word_right ?k__law_word_right ?a__law_alike ?l__law_alike ?c__law_alike ?k__law_alike ?a__law_told ?l__law_told ?c__law_told ?k__law_told ?a__law_pair_right ?l__law_pair_right ?c__law_pair_right ?k__law_pair_right ?a_law ?l_law ?c_law ?k_law ?a__law_refused_right ?l__law_refused_right ?c__law_refused_right ?k__law_refused_right ?q__law_refused_right ?p__law_refused_right ?h__law_refused_right ?n__law_refused_right ?t__law_refused_right ?g_CM ?x_CM ?bm1_CM ?sa_CM ?ex_CM ?ty_CM ?kC_CM ?cs_CM ?ow_CM ?ga_CM ?gt_CM ?ca_CM ?mr_CM ?ii_CM ?no_CM ?xm_CM ?ti_CM ?ng_CM ?g_C2 ?x_C2 ?bm1_C2 ?sa_C2 ?ex_C2 ?ty_C2 ?kC_C2 ?cs_C2 ?ow_C2 ?ga_C2 ?gt_C2 ?ca_C2 ?mr_C2 ?ii_C2 ?no_C2 ?xm_C2 ?ti_C2 ?g_C1 ?x_C1 ?bm1_C1 ?sa_C1 ?ex_C1 ?ty_C1 ?kC_C1 ?cs_C1 ?ow_C1 ?ga_C1 ?gt_C1 ?ca_C1 ?mr_C1 ?ii_C1 ?no_C1 ?xm_C1 ?ti_C1 ?w_pg ?w_hd ?w_po ?w_sa ?w_ca ?w_mr ?w_ns ?w_na ?w_mk ?w_ii ?w_if ?w_kp ?w_ob ?w_nk ?w_e1 ?w_e2 ?w_ef ?w_en ?w_mf ?w_mn ?w_vf ?w_vn ?w_fi ?w_len_f ?w_len_n ?w_power_f ?w_power_n ?w_root_f ?w_root_n ?w_core_f ?w_core_n ?w_nf ?o4_NoneType ?o4_int ?o4_str ?o4_list ?o4_bool ?l_TM ?c_TM ?k_TM ?l_BW ?c_BW ?k_BW ?l_WI ?d_WI ?c_WI ?k_WI ?l_BN ?c_BN ?k_BN ?l_WE ?c_WE ?k_WE ?l_WM ?c_WM ?k_WM ?l_WV ?c_WV ?k_WV ?l_WLN ?c_WLN ?k_WLN ?l_WPW ?c_WPW ?k_WPW ?l_WRO ?c_WRO ?k_WRO ?l_WCO ?c_WCO ?k_WCO
    (case g_CB => first | k_is | kernel_rfl)
    (case g_CW => first | k_is | kernel_rfl)
    (case g_L => first | k_is | kernel_rfl)
    (case g_M => first | k_is | kernel_rfl)
    (case z_len => first | k_is | kernel_rfl)
    (case z_isinstance => first | k_is | kernel_rfl)
    (case z_str => first | k_is | kernel_rfl)
    (case z_int => first | k_is | kernel_rfl)
    (case z_bool => first | k_is | kernel_rfl)
    (case z_range => first | k_is | kernel_rfl)
    (case z_abs => first | k_is | kernel_rfl)
    (case z_list => first | k_is | kernel_rfl)
    (case z_enumerate => first | k_is | kernel_rfl)
    (case z_min => first | k_is | kernel_rfl)
    (case cg => first | k_is | kernel_rfl)
    (case ct => first | k_is | kernel_rfl)
    (case a_first_fault => first | k_is | kernel_rfl)
    (case l_first_fault => first | k_is | kernel_rfl)
    (case c_first_fault => first | k_is | kernel_rfl)
    (case k_first_fault => first | k_is | kernel_rfl)
    (case a_joined => first | k_is | kernel_rfl)
    (case l_joined => first | k_is | kernel_rfl)
    (case c_joined => first | k_is | kernel_rfl)
    (case k_joined => first | k_is | kernel_rfl)
    (case a_undone => first | k_is | kernel_rfl)
    (case l_undone => first | k_is | kernel_rfl)
    (case c_undone => first | k_is | kernel_rfl)
    (case k_undone => first | k_is | kernel_rfl)
    (case a_coat_size => first | k_is | kernel_rfl)
    (case l_coat_size => first | k_is | kernel_rfl)
    (case c_coat_size => first | k_is | kernel_rfl)
    (case k_coat_size => first | k_is | kernel_rfl)
    (case a_repeated => first | k_is | kernel_rfl)
    (case l_repeated => first | k_is | kernel_rfl)
    (case c_repeated => first | k_is | kernel_rfl)
    (case k_repeated => first | k_is | kernel_rfl)
    (case a_is_integer => first | k_is | kernel_rfl)
    (case l_is_integer => first | k_is | kernel_rfl)
    (case c_is_integer => first | k_is | kernel_rfl)
    (case k_is_integer => first | k_is | kernel_rfl)
    (case a_commute => first | k_is | kernel_rfl)
    (case l_commute => first | k_is | kernel_rfl)
    (case c_commute => first | k_is | kernel_rfl)
    (case k_commute => first | k_is | kernel_rfl)
    (case a__law_pen => first | k_is | kernel_rfl)
    (case l__law_pen => first | k_is | kernel_rfl)
    (case c__law_pen => first | k_is | kernel_rfl)
    (case k__law_pen => first | k_is | kernel_rfl)
    (case a__law_draw => first | k_is | kernel_rfl)
    (case l__law_draw => first | k_is | kernel_rfl)
    (case c__law_draw => first | k_is | kernel_rfl)
    (case k__law_draw => first | k_is | kernel_rfl)
    (case a__law_pick => first | k_is | kernel_rfl)
    (case l__law_pick => first | k_is | kernel_rfl)
    (case c__law_pick => first | k_is | kernel_rfl)
    (case k__law_pick => first | k_is | kernel_rfl)
    (case a__law_heard => first | k_is | kernel_rfl)
    (case l__law_heard => first | k_is | kernel_rfl)
    (case c__law_heard => first | k_is | kernel_rfl)
    (case k__law_heard => first | k_is | kernel_rfl)
    (case a__law_undo => first | k_is | kernel_rfl)
    (case l__law_undo => first | k_is | kernel_rfl)
    (case c__law_undo => first | k_is | kernel_rfl)
    (case k__law_undo => first | k_is | kernel_rfl)
    (case a__law_row => first | k_is | kernel_rfl)
    (case l__law_row => first | k_is | kernel_rfl)
    (case c__law_row => first | k_is | kernel_rfl)
    (case k__law_row => first | k_is | kernel_rfl)
    (case a__law_back => first | k_is | kernel_rfl)
    (case l__law_back => first | k_is | kernel_rfl)
    (case c__law_back => first | k_is | kernel_rfl)
    (case k__law_back => first | k_is | kernel_rfl)
    (case a__law_join => first | k_is | kernel_rfl)
    (case l__law_join => first | k_is | kernel_rfl)
    (case c__law_join => first | k_is | kernel_rfl)
    (case k__law_join => first | k_is | kernel_rfl)
    (case a__law_power => first | k_is | kernel_rfl)
    (case l__law_power => first | k_is | kernel_rfl)
    (case c__law_power => first | k_is | kernel_rfl)
    (case k__law_power => first | k_is | kernel_rfl)
    (case a__law_drawn => first | k_is | kernel_rfl)
    (case l__law_drawn => first | k_is | kernel_rfl)
    (case c__law_drawn => first | k_is | kernel_rfl)
    (case k__law_drawn => first | k_is | kernel_rfl)
    (case a__law_peeled => first | k_is | kernel_rfl)
    (case l__law_peeled => first | k_is | kernel_rfl)
    (case c__law_peeled => first | k_is | kernel_rfl)
    (case k__law_peeled => first | k_is | kernel_rfl)
    (case a__law_root => first | k_is | kernel_rfl)
    (case l__law_root => first | k_is | kernel_rfl)
    (case c__law_root => first | k_is | kernel_rfl)
    (case k__law_root => first | k_is | kernel_rfl)
    (case a__law_word_right => first | k_is | kernel_rfl)
    (case l__law_word_right => first | k_is | kernel_rfl)
    (case c__law_word_right => first | k_is | kernel_rfl)
    (case k__law_word_right => first | k_is | kernel_rfl)
    (case a__law_alike => first | k_is | kernel_rfl)
    (case l__law_alike => first | k_is | kernel_rfl)
    (case c__law_alike => first | k_is | kernel_rfl)
    (case k__law_alike => first | k_is | kernel_rfl)
    (case a__law_told => first | k_is | kernel_rfl)
    (case l__law_told => first | k_is | kernel_rfl)
    (case c__law_told => first | k_is | kernel_rfl)
    (case k__law_told => first | k_is | kernel_rfl)
    (case a__law_pair_right => first | k_is | kernel_rfl)
    (case l__law_pair_right => first | k_is | kernel_rfl)
    (case c__law_pair_right => first | k_is | kernel_rfl)
    (case k__law_pair_right => first | k_is | kernel_rfl)
    (case a_law => first | k_is | kernel_rfl)
    (case l_law => first | k_is | kernel_rfl)
    (case c_law => first | k_is | kernel_rfl)
    (case k_law => first | k_is | kernel_rfl)
    (case a__law_refused_right => first | k_is | kernel_rfl)
    (case l__law_refused_right => first | k_is | kernel_rfl)
    (case c__law_refused_right => first | k_is | kernel_rfl)
    (case k__law_refused_right => first | k_is | kernel_rfl)
    (case q__law_refused_right => first | k_is | kernel_rfl)
    (case p__law_refused_right => rfl)
    (case h__law_refused_right => first | k_is | kernel_rfl)
    (case n__law_refused_right => first | k_is | kernel_rfl)
    (case t__law_refused_right => exact PySem.W.km_tabs_of Y _ (by k_mem))
    (case g_CM => first | k_is | kernel_rfl)
    (case x_CM => first | k_is | kernel_rfl)
    (case bm1_CM => decide +kernel)
    (case sa_CM => first | k_is | kernel_rfl)
    (case ex_CM => first | k_is | kernel_rfl)
    (case ty_CM => first | k_is | kernel_rfl)
    (case kC_CM => first | k_is | kernel_rfl)
    (case cs_CM => first | k_is | kernel_rfl)
    (case ow_CM => first | k_is | kernel_rfl)
    (case ga_CM => first | k_is | kernel_rfl)
    (case gt_CM => first | k_is | kernel_rfl)
    (case ca_CM => first | k_is | kernel_rfl)
    (case mr_CM => first | k_is | kernel_rfl)
    (case ii_CM => first | k_is | kernel_rfl)
    (case no_CM => first | k_is | kernel_rfl)
    (case xm_CM => first | k_is | kernel_rfl)
    (case ti_CM => first | k_is | kernel_rfl)
    (case ng_CM => first | k_is | kernel_rfl)
    (case g_C2 => first | k_is | kernel_rfl)
    (case x_C2 => first | k_is | kernel_rfl)
    (case bm1_C2 => decide +kernel)
    (case sa_C2 => first | k_is | kernel_rfl)
    (case ex_C2 => first | k_is | kernel_rfl)
    (case ty_C2 => first | k_is | kernel_rfl)
    (case kC_C2 => first | k_is | kernel_rfl)
    (case cs_C2 => first | k_is | kernel_rfl)
    (case ow_C2 => first | k_is | kernel_rfl)
    (case ga_C2 => first | k_is | kernel_rfl)
    (case gt_C2 => first | k_is | kernel_rfl)
    (case ca_C2 => first | k_is | kernel_rfl)
    (case mr_C2 => first | k_is | kernel_rfl)
    (case ii_C2 => first | k_is | kernel_rfl)
    (case no_C2 => first | k_is | kernel_rfl)
    (case xm_C2 => first | k_is | kernel_rfl)
    (case ti_C2 => first | k_is | kernel_rfl)
    (case g_C1 => first | k_is | kernel_rfl)
    (case x_C1 => first | k_is | kernel_rfl)
    (case bm1_C1 => decide +kernel)
    (case sa_C1 => first | k_is | kernel_rfl)
    (case ex_C1 => first | k_is | kernel_rfl)
    (case ty_C1 => first | k_is | kernel_rfl)
    (case kC_C1 => first | k_is | kernel_rfl)
    (case cs_C1 => first | k_is | kernel_rfl)
    (case ow_C1 => first | k_is | kernel_rfl)
    (case ga_C1 => first | k_is | kernel_rfl)
    (case gt_C1 => first | k_is | kernel_rfl)
    (case ca_C1 => first | k_is | kernel_rfl)
    (case mr_C1 => first | k_is | kernel_rfl)
    (case ii_C1 => first | k_is | kernel_rfl)
    (case no_C1 => first | k_is | kernel_rfl)
    (case xm_C1 => first | k_is | kernel_rfl)
    (case ti_C1 => first | k_is | kernel_rfl)
    (case w_pg => first | k_is | kernel_rfl)
    (case w_hd => first | k_is | kernel_rfl)
    (case w_po => first | k_is | kernel_rfl)
    (case w_sa => first | k_is | kernel_rfl)
    (case w_ca => first | k_is | kernel_rfl)
    (case w_mr => first | k_is | kernel_rfl)
    (case w_ns => first | k_is | kernel_rfl)
    (case w_na => first | k_is | kernel_rfl)
    (case w_mk => first | k_is | kernel_rfl)
    (case w_ii => first | k_is | kernel_rfl)
    (case w_if => first | k_is | kernel_rfl)
    (case w_kp => first | k_is | kernel_rfl)
    (case w_ob => first | k_is | kernel_rfl)
    (case w_nk => first | k_is | kernel_rfl)
    (case w_e1 => first | k_is | kernel_rfl)
    (case w_e2 => first | k_is | kernel_rfl)
    (case w_ef => first | k_is | kernel_rfl)
    (case w_en => first | k_is | kernel_rfl)
    (case w_mf => first | k_is | kernel_rfl)
    (case w_mn => first | k_is | kernel_rfl)
    (case w_vf => first | k_is | kernel_rfl)
    (case w_vn => first | k_is | kernel_rfl)
    (case w_fi => first | k_is | kernel_rfl)
    (case w_len_f => first | k_is | kernel_rfl)
    (case w_len_n => first | k_is | kernel_rfl)
    (case w_power_f => first | k_is | kernel_rfl)
    (case w_power_n => first | k_is | kernel_rfl)
    (case w_root_f => first | k_is | kernel_rfl)
    (case w_root_n => first | k_is | kernel_rfl)
    (case w_core_f => first | k_is | kernel_rfl)
    (case w_core_n => first | k_is | kernel_rfl)
    (case w_nf => first | k_is | kernel_rfl)
    (case o4_NoneType => first | k_is | kernel_rfl)
    (case o4_int => first | k_is | kernel_rfl)
    (case o4_str => first | k_is | kernel_rfl)
    (case o4_list => first | k_is | kernel_rfl)
    (case o4_bool => first | k_is | kernel_rfl)
    (case l_TM => first | k_is | kernel_rfl)
    (case c_TM => first | k_is | kernel_rfl)
    (case k_TM => first | k_is | kernel_rfl)
    (case l_BW => first | k_is | kernel_rfl)
    (case c_BW => first | k_is | kernel_rfl)
    (case k_BW => first | k_is | kernel_rfl)
    (case l_WI => first | k_is | kernel_rfl)
    (case d_WI => first | k_is | kernel_rfl)
    (case c_WI => first | k_is | kernel_rfl)
    (case k_WI => first | k_is | kernel_rfl)
    (case l_BN => first | k_is | kernel_rfl)
    (case c_BN => first | k_is | kernel_rfl)
    (case k_BN => first | k_is | kernel_rfl)
    (case l_WE => first | k_is | kernel_rfl)
    (case c_WE => first | k_is | kernel_rfl)
    (case k_WE => first | k_is | kernel_rfl)
    (case l_WM => first | k_is | kernel_rfl)
    (case c_WM => first | k_is | kernel_rfl)
    (case k_WM => first | k_is | kernel_rfl)
    (case l_WV => first | k_is | kernel_rfl)
    (case c_WV => first | k_is | kernel_rfl)
    (case k_WV => first | k_is | kernel_rfl)
    (case l_WLN => first | k_is | kernel_rfl)
    (case c_WLN => first | k_is | kernel_rfl)
    (case k_WLN => first | k_is | kernel_rfl)
    (case l_WPW => first | k_is | kernel_rfl)
    (case c_WPW => first | k_is | kernel_rfl)
    (case k_WPW => first | k_is | kernel_rfl)
    (case l_WRO => first | k_is | kernel_rfl)
    (case c_WRO => first | k_is | kernel_rfl)
    (case k_WRO => first | k_is | kernel_rfl)
    (case l_WCO => first | k_is | kernel_rfl)
    (case c_WCO => first | k_is | kernel_rfl)
    (case k_WCO => first | k_is | kernel_rfl)
