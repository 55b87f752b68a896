import PyProof.Rows.All
import PySem.Challenge.RW_sevenball_k03_orders_beginnings_and_tail
import HandS.ForMost
import HandS.Exc
import HandS.TryOnly
import HandS.ExcIs
import HandS.ExcField
import HandS.ExcInit
import HandS.IsInst
import HandS.Lambda
import HandS.EndTab
import KE.KExcIs
import KE.GoesMore
import HandS.Walk
import HandS.ClsMeth
import PyProof.InstNe
import KE.KCallOwn
import HandS.Style
import HandS.WordsExc
import HandS.Codes
import PyProof.StrBlock2
import HandS.Text
import HandS.IterNext
import KE.KOwnIter
import PyProof.SliceStr2
import KE.KOpsOwn
import HandS.Defaults
import HandS.RaiseMore
import HandS.Replace
import HandS.TupLe
import KE.GoesNew
import KE.KTypeName
import PyProof.ListStr
set_option Elab.async false
set_option linter.all false
set_option maxRecDepth 100000
set_option maxHeartbeats 4000000
-- R1
namespace SB
open PySem PySem.Spec PyProof.Rows L2

/-! ### an error that was caught and is kept as a value -/
/-- at a: an error of the class at C; its own dict is at d -/
def ErrO (C d a : Addr) : HO := .ext fun h => ∃ (oe : Obj) (fv : Array Value),
  h.get? a = some oe ∧ oe.cls = .ref C ∧ oe.dict = some d ∧ oe.data = .fields fv
section
variable {X : Cx} {pins : List (Addr × Obj)} {σ : L2.St} {H : Hp} {s : Shared} {a C d : Addr} {oe : Obj} {fv : Array Value}
/-- what stands there untracked, made since the entry, is tracked from now on -/
theorem track_err (I : Inv X pins σ H s) (ha : s.heap.get? a = some oe) (hn : H a = none)
    (new : X.s_0.heap.get? a = none) (hc : oe.cls = .ref C) (hd : oe.dict = some d) (hf : oe.data = .fields fv)
    (nL : a ≠ X.env.locals) (np : ∀ p ∈ X.pn ++ pins, p.1 ≠ a) :
    Inv X pins σ (upd H a (ErrO C d a)) s := by
  have ne0 : ∀ b o, X.s_0.heap.get? b = some o → b ≠ a := fun b o e z => by
    rw [z, new] at e
    cases e
  have neH : ∀ b o, H b = some o → b ≠ a := fun b o e => ne_of_none e hn
  have neC : ∀ x c, X.env.cells.lookup x = some c → c ≠ a := fun x c e z => by
    obtain ⟨v, o, ho, hv⟩ := I.cell x c e
    rw [z, ha] at ho
    cases ho
    rw [hf] at hv
    cases hv
  have at_ : ∀ b, b ≠ a → upd H a (ErrO C d a) b = H b := fun b h => upd_ne h
  refine { ok := I.ok, os := I.os, bare := I.bare, base := ?_, loc := I.loc, cell := I.cell, free := ?_, freeC := ?_, pin := ?_, hok := ?_, len := I.len }
  · have u := I.base
    refine { keep := u.keep, slot := u.slot, free := ?_, there := u.there, tups := ?_, frzs := ?_, tbls := ?_ }
    · intro b o e n hx
      rw [at_ b (ne0 b o e)]
      exact u.free b o e n hx
    · intro b xs e
      have q := u.tups b xs e
      rw [at_ b (neH b _ q)]
      exact q
    · intro b o w e
      have q := u.frzs b o w e
      rw [at_ b (neH b _ q)]
      exact q
    · intro b ps e
      obtain ⟨m, q⟩ := u.tbls b ps e
      exact ⟨m, by rw [at_ b (neH b _ q)]; exact q⟩
  · rw [at_ _ (Ne.symm nL)]
    exact I.free
  · intro x c e
    rw [at_ c (neC x c e)]
    exact I.freeC x c e
  · intro p hp
    obtain ⟨e1, e2, e3⟩ := I.pin p hp
    exact ⟨e1, by rw [at_ _ (np p hp)]; exact e2, e3⟩
  · intro b u e
    by_cases hb : b = a
    · subst hb
      rw [upd_same] at e
      cases e
      exact ⟨⟨oe, fv, ha, hc, hd, hf⟩, ⟨oe, ha⟩, fun h1 h2 ⟨o, v, q1, q2⟩ k => ⟨o, v, k o q1, q2⟩⟩
    · rw [at_ b hb] at e
      exact (I.hok b u e).stay (fun c v _ q => q) (fun c q => by rw [at_ c (neH c _ q)]; exact q) fun c xs q => by rw [at_ c (neH c _ q)]; exact q
end

/-- what the clause «except x as n: y = n» wishes: slot i is n's, slot j is y's -/
def wKeep (K : PySem.W.Frag) (c : Value) (i j m : Nat) (D : Ends) : WX := fun cls d σ H =>
  ∃ b, PySem.W.exmOne K cls c = some b ∧ (b = false → False) ∧
    (b = true → ∃ C dd, cls = .ref C ∧ d = some dd ∧
      ∀ a, H a = none → σ.length = m → D.nx ((σ.set j (some (.ref a))).set i none) (upd H a (ErrO C dd a)))
end SB
-- R2
namespace SB
open PySem PySem.Spec PyProof.Rows L2
section
variable {X : Cx} {x n y : Str} {c : Value} {i j : Nat} {body : List Stmt} {np p1 p2 pos pos1 pos' : Pos} {tb : WX → TS}
/-- try: body / except x as n: y = n — the error is kept as a value -/
theorem ps_try_keep (hstk : X.stack = X.env :: X.outer) (hfrm : X.env.frame = some X.env.locals) (nd : X.N.Nodup)
    (hi : X.N[i]? = some n) (hj : X.N[j]? = some y) (hij : i ≠ j) (kn : X.env.kindOf n = some .local) (ky : X.env.kindOf y = some .local) (nm : Names X x c) (hex : X.ex = [])
    (hb : ∀ (W : WX) (pn : List (Addr × Obj)) (xe : Value → Shared → Prop), Takes (X.tr pn xe) W →
      PassesOwn (model X.prog X.w) X.A X.env xe → PSs (X.tr pn xe) body (tb W))
    (hns : (n == ("__debug__" : Str)) = false := by decide) (hnc : (n == ("__classdict__" : Str)) = false := by decide)
    (hsw : ∀ (a : Addr) (pn : List (Addr × Obj)), PG (X.suite a pn) (.Name y p1) (gName j)) :
    PS X (.Try body [.ExceptHandler (some (.Name x np)) (some n) [.Assign [.Name y p1] (.Name n p2) pos1] pos'] [] [] pos)
      (fun D σ H => tb (wKeep X.K c i j X.N.length D) D σ H) := by
  constructor
  intro pins s σ H D I h
  have ok := I.ok
  have frames : X.A.frames = some (X.env :: X.outer) := by
    rw [ok.frames, hstk]
  have locN : Loc X.env.scope n := .inl kn
  apply wpAny_Try_except
  let hand : List ExceptHandler := [.ExceptHandler (some (.Name x np)) (some n) [.Assign [.Name y p1] (.Name n p2) pos1] pos']
  let away : Value → Shared → Prop := fun e t1 => wpAny (model X.prog X.w) X.A (noteFrame e X.env)
    (fun _ t2 => wpAny (model X.prog X.w) X.A (setFlight e none)
      (fun _ t3 => wpAny (model X.prog X.w) X.A (handleBy e X.env hand) (SP X pins D) X.xe t3) X.xe t2) X.xe t1
  have taken : Takes (X.tr (X.pn ++ pins) away) (wKeep X.K c i j X.N.length D) := by
    rintro u s' ⟨a, B, sI, pins', σ', H', cls, d, rfl, J', nb, up, sky, na, os, ag, b, hb1, hno, hyes⟩
    have J : Inv X pins σ' H' sI := J'.ofTry ok
    rw [show (X.tr (X.pn ++ pins) away).stack = X.env :: X.outer from hstk] at sky
    show wpAny (model X.prog X.w) X.A (noteFrame (.ref a) X.env) _ X.xe s'
    refine Sky.land Zc.steady frames hfrm sky fun g3 fly3 up3 => ?_
    have J3 : Inv X pins σ' H' { s' with heap := g3 } := J.landed nb fly3.1 (up.trans up3) os ag
    obtain ⟨o3, v3, at3, z3, dat3⟩ := fly3.there
    have notF : a ∉ frs (X.env :: X.outer) := fun hm => by
      obtain ⟨_, o', e', hnf⟩ := fly3.2.2.1.mem hm
      have at3' : g3.get? a = some o3 := at3
      rw [at3'] at e'
      cases e'
      exact hnf _ dat3
    have nL : a ≠ X.env.locals := fun z => notF (List.mem_filterMap.mpr ⟨X.env, List.mem_cons_self, by rw [hfrm, z]⟩)
    have nF : a ∉ X.fs := fun hm => by
      obtain ⟨e, he, q⟩ := List.mem_filterMap.mp hm
      exact notF (List.mem_filterMap.mpr ⟨e, List.mem_cons_of_mem _ he, q⟩)
    have gone : B.get? a = none := fly3.2.1
    have newI : sI.heap.get? a = none := by
      cases q : sI.heap.get? a with
      | none => rfl
      | some o =>
        have z := nb a o q (by rw [show (X.tr (X.pn ++ pins) away).stack = X.env :: X.outer from hstk]; exact notF)
        rw [gone] at z
        cases z
    have new0 : X.s_0.heap.get? a = none := by
      cases q : X.s_0.heap.get? a with
      | none => rfl
      | some o =>
        obtain ⟨o', z⟩ := J.base.there a o q (by rw [hex]; exact fun z => nomatch z)
        rw [newI] at z
        cases z
    have pinsNe : ∀ p ∈ X.pn ++ pins, p.1 ≠ a := fun p hp z => by
      have q := (J.pin p hp).1
      rw [z, newI] at q
      cases q
    have S3 := J3.suite at3 dat3 na nL nF
    refine wpAny_handleBy_cons (codeAny_handlers_test ?_) (by intro q; cases q)
    have ty : PySem.W.Looks (model X.prog X.w) g3 (typeOf (.ref a)) cls := fun A Q E s k q =>
      wpAny_typeOf_ref (k _ _ at3) (by rw [z3.1]; exact q)
    have mt := PySem.W.exm_one (M := model X.prog X.w) J3.kIn ty hb1
    have asked : ∀ {Q : Value → Shared → Prop} {E : Value → Shared → Prop}, Q c { s' with heap := g3 } →
        wpAny (model X.prog X.w) (X.A.mark (some (.ref a))) (eval (.Name x np) X.env) Q E { s' with heap := g3 } := by
      intro Q E q
      obtain ⟨hg, hdbg, hm⟩ := nm
      rcases hm with hm | ⟨hm, hv, hnn⟩
      · exact ld_glob (X := X.suite a ((a, o3) :: (X.pn ++ pins))) S3 hg hm q hdbg
      · exact ld_blt (X := X.suite a ((a, o3) :: (X.pn ++ pins))) S3 hg hm hv q hnn hdbg
    refine asked (mt.here ?_)
    cases b with
    | false => exact (hno rfl).elim
    | true =>
      obtain ⟨C, dd, rfl, rfl, kept⟩ := hyes rfl
      refine codeAny_handlers_suite_as ?_
      refine HandSPX.lands_againZ fly3 fun g4 fly4 up4 => ?_
      have J4 : Inv X pins σ' H' { s' with heap := g4 } := J.landed nb fly4.1 ((up.trans up3).trans up4) os ag
      obtain ⟨o4, v4, at4, z4, dat4⟩ := fly4.there
      have S4 := J4.suite at4 dat4 na nL nF
      refine store_ok (X := X.suite a ((a, o4) :: (X.pn ++ pins))) (v := .ref a) S4 nd hi locN rfl (fun s5 S5 => ?_) (.inr kn)
      have len : σ'.length = X.N.length := J.len
      have hin : i < σ'.length := by
        rw [len]
        exact (List.getElem?_eq_some_iff.mp hi).1
      have suite : PSs (X.suite a ((a, o4) :: (X.pn ++ pins))) [.Assign [.Name y p1] (.Name n p2) pos1] (tAsg (tVar i) (gName j)) :=
        pss_one (ps_asg (pe_var hi (.inl kn) hns hnc) (hsw a _))
      let D5 : Ends := { nx := fun σ6 H6 => σ6 = (σ'.set i (some (.ref a))).set j (some (.ref a)) ∧ H6 = H', rt := fun _ _ => False, bk := fun _ _ => False, ct := fun _ _ => False }
      have start : tAsg (tVar i) (gName j) D5 (σ'.set i (some (.ref a))) H' := by
        refine ⟨.ref a, ?_, rfl, rfl⟩
        rw [List.getElem?_set_self hin]
      refine wpAny_mono (suite.run [] s5 _ H' D5 S5 start) (fun f s6 hsp => ?_) (fun _ _ z => False.elim z)
      cases f with
      | next =>
        obtain ⟨σ6, H6, S6, e1, e2⟩ := hsp
        subst e1 e2
        have at6 : s6.heap.get? a = some o4 := (S6.pin (a, o4) (List.mem_append_left _ List.mem_cons_self)).1
        have J6 := S6.unsuite ok
        have free6 : H6 a = none := na
        have held : Inv X ((a, o4) :: pins) ((σ'.set i (some (.ref a))).set j (some (.ref a))) H6 s6 := J6.pins_of fun p hp => by
          rcases List.mem_cons.mp hp with e | e
          · rw [e]
            exact ⟨at6, free6, nL, nF, fun v z => by rw [dat4] at z; cases z⟩
          · exact J6.pin p (List.mem_append_right _ e)
        refine gone_ok held nd hi kn fun s7 J7 => ?_
        have at7 : s7.heap.get? a = some o4 := (J7.pin (a, o4) (List.mem_append_right _ List.mem_cons_self)).1
        have J8 : Inv X pins ((((σ'.set i (some (.ref a))).set j (some (.ref a)))).set i none) H6 s7 :=
          J7.pins_of fun p hp => J7.pin p (List.mem_append_right _ (List.mem_cons_of_mem _ hp))
        have J9 := track_err J8 at7 free6 new0 z4.1 z4.2 dat4 nL pinsNe
        have es : (((σ'.set i (some (.ref a))).set j (some (.ref a)))).set i none = (σ'.set j (some (.ref a))).set i none := by
          rw [List.set_comm _ _ (Ne.symm hij), List.set_set, List.set_comm _ _ hij]
        rw [es] at J9
        exact ⟨_, _, J9, kept a na len⟩
      | brk =>
        obtain ⟨_, _, _, z⟩ := hsp
        exact z.elim
      | cont =>
        obtain ⟨_, _, _, z⟩ := hsp
        exact z.elim
      | ret u =>
        obtain ⟨_, _, _, _, _, z⟩ := hsp
        exact z.elim
  refine wpAny_mono ((hb (wKeep X.K c i j X.N.length D) (X.pn ++ pins) away taken PassesOwn.looking).run [] s σ H D (I.toTry _) h) (fun f s1 hsp => ?_) (fun e s1 he => he)
  cases f with
  | next =>
    obtain ⟨σ', H', J', q⟩ := hsp
    exact wpAny_execs_nil ⟨σ', H', J'.ofTry ok, q⟩
  | brk =>
    obtain ⟨σ', H', J', q⟩ := hsp
    exact ⟨σ', H', J'.ofTry ok, q⟩
  | cont =>
    obtain ⟨σ', H', J', q⟩ := hsp
    exact ⟨σ', H', J'.ofTry ok, q⟩
  | ret u =>
    obtain ⟨v, σ', H', J', r, q⟩ := hsp
    exact ⟨v, σ', H', J'.ofTry ok, r, q⟩
end
end SB
-- R3
namespace SB
open PySem PySem.Spec PyProof.Rows L2
/-- heard: what comes of a() is dropped; an own error that it raises is handed back as a value -/
def THeard (K : PySem.W.Frag) (CB : Addr) : (XK → Hp → VK → Prop) → Hp → VK → Prop := fun tl H Q =>
  tl (fun cls d H' => ∃ b, PySem.W.exmOne K cls (.ref CB) = some b ∧ (b = false → False) ∧
    (b = true → ∃ C dd, cls = .ref C ∧ d = some dd ∧ ∀ a, H' a = none → Q (.ref a) (upd H' a (ErrO C dd a)))) H (fun _ H' => Q .non H')
def hearScope : Scope := { kind := .function, names := [("ask", .local), ("caught", .local), ("error", .local), ("BallError", .globalImplicit)], isGenerator := false, isCoroutine := false, more := [] }
def hearBody (c1 c2 c3 c4 c5 c6 c7 c8 c9 c10 c11 c12 c13 c14 : Pos) : List Stmt :=
  [.Assign [.Name "caught" c1] (.Constant .none 0 c2) c3,
   .Try [.Expr (.Call (.Name "ask" c4) [] [] c5) c6] [.ExceptHandler (some (.Name "BallError" c7)) (some "error") [.Assign [.Name "caught" c8] (.Name "error" c9) c10] c11] [] [] c12,
   .Return (some (.Name "caught" c13)) c14]
section
variable {X : Cx}
theorem heard_gives {x q : Str} {g CB : Addr} {cdg : Value} {c1 c2 c3 c4 c5 c6 c7 c8 c9 c10 c11 c12 c13 c14 : Pos} (hmb : X.mg "BallError" = some (.ref CB)) :
    LamX.GivesTo X ["ask", "caught", "error"] x hearScope g cdg (hearBody c1 c2 c3 c4 c5 c6 c7 c8 c9 c10 c11 c12 c13 c14) "ask" q (THeard X.K CB) := by
  intro f c' s H Q tl act hc h
  have nd : (["ask", "caught", "error"] : List Str).Nodup := by decide +kernel
  refine ⟨_, pss_cons (ps_set (i := 1) nd rfl (.inl rfl) pe_non)
    (pss_cons (ps_try_keep (c := .ref CB) (i := 2) (j := 1) (tb := fun W D σ H => ∃ Ech : XK, (∀ cls d σ' H', Ech cls d H' → W cls d σ' H') ∧ σ[0]? = some (some (.ref f)) ∧ H c' = some (LamX.CodeO c' q) ∧ tl Ech H (fun _ H1 => D.nx σ H1))
      rfl rfl nd rfl rfl (by decide) rfl rfl ⟨rfl, by decide, .inl hmb⟩ rfl (fun W pn xe tk _ => ?_) (by decide) (by decide) (fun a pn => pg_name nd rfl (.inl rfl)))
    (pss_one (ps_ret (pv 1)))), ?_⟩
  · refine ⟨fun pins s' σ H' D I h' => ?_⟩
    obtain ⟨Ech, hW, h1, h2, h3⟩ := h'
    have hp := act W pn xe Ech c4 c5 tk hW
    have hq := pss_one (ps_expr (pos := c6) hp)
    exact hq.run pins s' σ H' D I ⟨h1, h2, h3⟩
  · show tAsg _ _ _ _ _
    refine ⟨fun cls d H' => ∃ b, PySem.W.exmOne X.K cls (.ref CB) = some b ∧ (b = false → False) ∧
      (b = true → ∃ C dd, cls = .ref C ∧ d = some dd ∧ ∀ a, H' a = none → Q (.ref a) (upd H' a (ErrO C dd a))), ?_, rfl, hc, ?_⟩
    · rintro cls d σ' H' ⟨b, e1, e2, e3⟩
      refine ⟨b, e1, e2, fun hb => ?_⟩
      obtain ⟨C, dd, k1, k2, k3⟩ := e3 hb
      refine ⟨C, dd, k1, k2, fun a ha hl => ?_⟩
      have hl' : σ'.length = 3 := hl
      match σ', hl' with
      | [u0, u1, u2], _ => exact ⟨.ref a, rfl, k3 a ha⟩
    · have same : (fun (_ : V) (H1 : Hp) => Q .non H1) = fun (_ : V) (H1 : Hp) => tRet (tVar 1) { nx := fun _ H' => Q .non H', rt := Q } (List.set (L2.start ["ask", "caught", "error"] [V.ref f]) 1 (some V.non)) H1 := by
        funext u H1
        refine propext ⟨fun z => ⟨.non, rfl, z⟩, ?_⟩
        rintro ⟨v, e, z⟩
        have e' : (some (some V.non) : Option (Option V)) = some (some v) := e
        cases e'
        exact z
      unfold THeard at h
      rw [same] at h
      exact h
end
end SB
-- R4
namespace SB
open PySem PySem.Spec PyProof.Rows L2
/-- what the class of a kept error must say -/
structure ErrC (K : PySem.W.Frag) (C : Addr) : Prop where
  cls : (PySem.W.clsIn K C).isSome = true
  own : PySem.W.hasDictIn K C = true
  ga : PySem.W.findIn K (.ref C) "__getattribute__" = some (some (.builtin "BaseException.__getattribute__"))
  gt : PySem.W.findIn K (.ref C) "__getattr__" = some none
  sub : PySem.W.subIn K (.ref C) (.type "BaseException") = some true
  ca : PySem.W.findIn K (.ref C) "__class__" = some (some (.builtin "object.__class__"))
  cg : PySem.W.specialIn K (.builtin "object.__class__") "__get__" = some (some (.builtin "getset_descriptor.__get__"))
  ct : PySem.W.takesIn K (.builtin "object.__class__") = some true
  mr : PySem.W.mroIn K C (.type "object") = some true
section
variable {X : Cx} {pins : List (Addr × Obj)} {σ : L2.St} {H : Hp} {s : Shared} {a C d : Addr} {fs : List (Str × V)}
theorem err_at (I : Inv X pins σ H s) (h : H a = some (ErrO C d a)) (hd : H d = some (.xd fs)) :
    ∃ oe od, PySem.W.InstAt s.heap a oe C (some od) ∧ ∃ mA : Str → Option Value, (∀ f : Str, RelO (fs.lookup f) (mA f)) ∧ ∀ f : Str, PySem.W.lookIn f od = some (mA f) := by
  obtain ⟨⟨oe, fv, e1, e2, e3, e4⟩, _⟩ := I.hok a _ h
  have hx : ObjOk X.prog X.w H s.heap d (.xd fs) := I.hok d _ hd
  obtain ⟨mA, hns, hr⟩ := hx
  obtain ⟨od, ho, hl⟩ := lookIn_ns hns
  refine ⟨oe, od, ⟨e1, e2, ?_, ?_⟩, mA, hr, hl⟩
  · unfold PySem.W.notCls
    rw [e4] <;> trivial
  · rw [e3]
    exact ho
/-- isinstance(e, D), e a kept error -/
def rIsErr (K : PySem.W.Frag) : List V → Hp → VK → Prop := fun xs H Q => ∃ (a C d D : Addr) (fs : List (Str × V)) (b : Bool),
  xs = [.ref a, .ref D] ∧ H a = some (ErrO C d a) ∧ H d = some (.xd fs) ∧ ErrC K C ∧ PySem.W.kitOne K (.ref C) (.ref D) = some b ∧ Q (.bl b) H
theorem call_isErr : CallR X (.builtin "isinstance") (rIsErr X.K) := by
  intro pins s σ H xs us Q I r h
  obtain ⟨a, C, d, D, fs, b, rfl, ea, ed, T, e, q⟩ := h
  obtain ⟨u1, u2, rfl, r1, r2⟩ := vals2 r
  cases (show u1 = Value.ref a from r1)
  cases (show u2 = Value.ref D from r2)
  obtain ⟨oe, od, J, _⟩ := err_at I ea ed
  exact PySem.W.kia_one (PySem.W.kitx_exc T.cls T.ga T.gt T.sub T.ca T.cg T.ct T.mr) I.kIn J e (fun z => nomatch z) fun tk => ⟨.bl b, H, I.tok tk, rfl, q⟩
/-- e.f, e a kept error -/
def tErrF (K : PySem.W.Frag) (te : TE) (f : Str) : TE := fun σ H Q => te σ H fun x H1 => ∃ (a C d : Addr) (fs : List (Str × V)) (v : V),
  x = .ref a ∧ H1 a = some (ErrO C d a) ∧ H1 d = some (.xd fs) ∧ ErrC K C ∧ PySem.W.findIn K (.ref C) f = some none ∧ fs.lookup f = some v ∧ Q v H1
theorem pe_errF {e : Expr} {te : TE} {pos : Pos} {f : Str} (he : PE X e te) (hb : attributeBase e f X.env (eval e X.env) = eval e X.env := by rfl) :
    PE X (.Attribute e f pos) (tErrF X.K te f) := by
  constructor
  intro pins s σ H Q I h
  refine attr_of hb (thn (he.run pins s σ H _ I h) fun u s1 hh => ?_)
  obtain ⟨x, H1, I1, rx, a, C, d, fs, v, rfl, ea, ed, T, hn, hl, q⟩ := hh
  obtain rfl : u = Value.ref a := rx
  obtain ⟨oe, od, J, mA, hr, look⟩ := err_at I1 ea ed
  obtain ⟨w, hw, rw_⟩ := RelO.some_of (v := v) (o := mA f) (by rw [← hl]; exact hr f)
  exact HandSPX.exc_get I1.kIn J T.ga T.gt T.sub (PySem.W.findObj_own T.own hn rfl (by rw [look, hw])) (handed_of rw_) ⟨v, H1, I1.tok _, rw_, q⟩
end
end SB
-- R5
namespace SB
open PySem PySem.Spec PyProof.Rows L2
/-! ### enumerate of a text -/
/-- the signs of x, each in a new pair with its place -/
def Ies (x : Str) : It :=
  ⟨fun i _ => i < x.cps.size, fun i H v H' => ∃ (T : Addr) (c : Nat), v = .ref T ∧ H T = none ∧ x.cps[i]? = some c ∧ H' = upd H T (.tup [.int (i : Nat), .str ⟨#[c]⟩]), fun i _ => i = x.cps.size⟩
theorem turn_enumS {P : Program} {w : World} {K : PySem.W.Frag} {elts : List Expr} {kk : Nat} {tpos : Pos} (x : Str) (t : Tok) (e it : Addr) (hne : e ≠ it) :
    Turn P w K (.Tuple elts kk tpos) (Ies x) [e, it] e (fun i h => (∃ old, IsEnum h e it ((i : Nat) : Int) old) ∧ h.IsStrIter it (strIterType x) x t i) where
  mem := by simp
  obj := fun i h st b hb => by
    obtain ⟨⟨old, he⟩, ⟨o, ho, hc, hd⟩⟩ := st
    have which : b = e ∨ b = it := by simpa using hb
    rcases which with z | z
    · subst z
      exact ⟨_, he, fun v q => nomatch q⟩
    · subst z
      exact ⟨o, ho, fun v q => by rw [hd] at q; cases q⟩
  keep := fun i h h' st k => by
    obtain ⟨⟨old, he⟩, o, ho, r⟩ := st
    exact ⟨⟨old, k e (by simp) _ he⟩, o, k it (by simp) o ho, r⟩
  item := by
    intro X hP hw hK hc i pins s σ H E I hf st hg
    subst hP hw hK
    obtain ⟨⟨old, he⟩, hit⟩ := st
    have hel : e < s.heap.objs.size := Heap.lt_size he
    have hil : it < s.heap.objs.size := by
      obtain ⟨o, q, _⟩ := hit
      exact Heap.lt_size q
    have D := Draws.text (prog := X.prog) (w := X.w) (A := X.A.in1) (I.ok.hd hc) it x t
    refine wpAny_pyNext_enum_itemD D he hit hg hne (by simpa using hne) fun v h' tk hv ho hit' hT hsz hk => ?_
    obtain ⟨c, u, hcx, rfl⟩ := hv
    refine ⟨_, rfl, wpAny_letOwnedTupleGo_enum (s := { s with heap := h', toks := tk + 1 }) ho fun h2 he2 sb => ?_⟩
    have hT2 : h2.get? s.heap.objs.size = some { cls := .type "tuple", data := .seq #[.int i tk, .str ⟨#[c]⟩ u] } := (sb.2 _ (Nat.ne_of_gt hel)).trans hT
    have new : ObjOk X.prog X.w (upd H s.heap.objs.size (.tup [.int (i : Nat), .str ⟨#[c]⟩])) h2 s.heap.objs.size (.tup [.int (i : Nat), .str ⟨#[c]⟩]) :=
      ⟨by show 2 ≤ sizeLine; decide, [.int i tk, .str ⟨#[c]⟩ u], .cons ⟨_, rfl⟩ (.cons ⟨_, rfl⟩ .nil), ⟨_, hT2, rfl, _, rfl⟩⟩
    have I1 : Inv X pins σ (upd H s.heap.objs.size (.tup [.int (i : Nat), .str ⟨#[c]⟩])) { s with heap := h2, toks := tk + 1 } := by
      refine I.turnedNew (ch := [e, it]) (fun b ob hb q => ?_) hf (Nat.le_refl _) new
      have n1 : b ≠ e := fun z => hb (by simp [z])
      have n2 : b ≠ it := fun z => hb (by simp [z])
      exact (sb.2 b n1).trans (hk b ob n1 n2 q)
    refine ⟨.ref s.heap.objs.size, _, I1, rfl, ⟨_, c, rfl, I.hok.fresh (Nat.le_refl _), hcx, rfl⟩, ⟨⟨.str ⟨#[c]⟩ u, ?_⟩, ?_⟩, fun b hb => ?_⟩
    · have e1 : ((i + 1 : Nat) : Int) = (i : Int) + 1 := by omega
      rw [e1]
      exact he2
    · obtain ⟨o, q, r⟩ := hit'
      exact ⟨o, (sb.2 it (Ne.symm hne)).trans q, r⟩
    · have which : b = e ∨ b = it := by simpa using hb
      have lt : b < s.heap.objs.size := by
        rcases which with z | z
        · rw [z]
          exact hel
        · rw [z]
          exact hil
      rw [upd_ne (Nat.ne_of_lt lt)]
      exact (hf b hb).1
  done := by
    intro X hP hw hK hc i pins s σ H E I hf st hg
    subst hP hw hK
    obtain ⟨⟨old, he⟩, hit⟩ := st
    obtain ⟨f0, f1, f2, f3, f4, f5⟩ := hf it (by simp)
    have D := Draws.text (prog := X.prog) (w := X.w) (A := X.A.in1) (I.ok.hd hc) it x t
    have hg' : i = x.cps.size := hg
    rw [hg'] at hit
    refine wpAny_pyNext_enum_endD D he hit fun h' eb => ⟨rfl, I.turned (t' := s.toks) (fun b o hb q => eb b o hb q) f0 f1 f3 f4 f5⟩
  self := fun A i s Q E st h => by
    obtain ⟨⟨_, he⟩, _⟩ := st
    exact wpAny_pyIter_enum he h
def iEnumS (ta : TA) : TI := fun σ H R => ta σ H fun vs H1 => ∃ x, vs = [.str x] ∧ R (Ies x) H1
theorem pi_enumS {X : Cx} {e : Expr} {ta : TA} {p pos tpos : Pos} {elts : List Expr} {kk : Nat} (hg : Gl X "enumerate") (hm : X.mg "enumerate" = none) (ha : PA X [e] ta)
    (hs : starEach [e] X.env = [(false, eval e X.env)] := by rfl) : PI X (.Tuple elts kk tpos) (.Call (.Name "enumerate" p) [e] [] pos) (iEnumS ta) := by
  constructor
  intro pins s σ H R I h
  refine Call_ (ld_blt I hg hm boot_enumerate (PyProof.Rows.callWith_type1 (thn (ha.run pos pins s σ H _ I h) fun us s1 hh => ?_) hs rfl))
  obtain ⟨vs, H1, I1, r1, x, ex, q⟩ := hh
  subst ex
  obtain ⟨u, rfl, r⟩ := vals1 r1
  obtain ⟨t, rfl⟩ := r
  refine call_enumerate_str fun h' he hit hsz hk => wpAny_pyIter_enum he ?_
  have I2 : Inv X pins σ H1 { s1 with heap := h' } := I1.kept (t' := s1.toks) hk
  refine ⟨s1.heap.objs.size + 1, [s1.heap.objs.size + 1, s1.heap.objs.size], _, _, H1, rfl, I2, turn_enumS x t _ _ (Nat.succ_ne_self _), ⟨⟨.none, he⟩, hit⟩, fun b hb => ?_, q⟩
  have which : b = s1.heap.objs.size + 1 ∨ b = s1.heap.objs.size := by simpa using hb
  have le : s1.heap.objs.size ≤ b := by
    rcases which with z | z
    · rw [z]
      exact Nat.le_succ _
    · rw [z]
      exact Nat.le_refl _
  exact I1.fpOk le (I1.hok.fresh le)
end SB
-- R6
namespace SB
open PySem PySem.Spec PyProof.Rows L2
section
variable {X : Cx}
/-- x.swapcase() -/
theorem mt_swapcase : MtR X "str.swapcase" (fun x xs H Q => ∃ a, x = .str a ∧ xs = [] ∧ a.length ≤ 5592405 ∧ Q (.str (Txt.swapcase a)) H) :=
  mt0 (C := fun a => a.length ≤ 5592405) (g := fun a => .str (Txt.swapcase a)) fun a t s Q hc h =>
    PyProof.Rows.SCL.swapcase hc fun _ => h _ (s.toks + 1) ⟨_, rfl⟩
theorem pe_swap {o : Expr} {ot : TE} {apos pos : Pos} (ho : PE X o ot) (hbase : attributeBase o "swapcase" X.env (eval o X.env) = eval o X.env := by rfl) (hline : (apos.endLine == pos.line) = true := by rfl) : True := trivial
end
/-- C.m is a staticmethod: its record at p, its def at g -/
structure Stat (K : PySem.W.Frag) (C : Addr) (m : Str) (p g : Addr) : Prop where
  rd : ∃ mc, PySem.W.readsIn K C mc = true ∧ PySem.W.findCls K (.ref C) mc m = some (.get (.builtin "staticmethod.__get__") (.ref p) .none (.ref C))
  ga : PySem.W.specialIn K (.ref C) "__getattribute__" = some (some (.builtin "type.__getattribute__"))
  rc : ∃ rest, PySem.W.recIn K p "staticmethod" = some (.ref g :: rest)
  kp : PySem.W.keepIn K (.ref g) = true
section
variable {X : Cx} {CX : CXT} {k : Nat} {C p g : Addr} {fd : FuncData} {ps : List Str} {sp : Sp} {dvs : List V} {ds : List Value} {E : XK} {o e : Expr} {es : List Expr} {m : Str} {pos apos : Pos} {ta : TE} {t : TA} {pl : Sem Bool}
theorem stat_ok {A : Around} {E : Value → Shared → Prop} {pins : List (Addr × Obj)} {σ : L2.St} {H : Hp} {s : Shared} {pl : Sem Bool} {Q : Value × List Value → Shared → Prop} (I : Inv X pins σ H s) (c : Stat X.K C m p g)
    (h : ∀ s', Inv X pins σ H s' → Q (.ref g, []) s') : wpAny (model X.prog X.w) A (getMethod (.ref C) m pl) Q E s := by
  obtain ⟨mc, hrd, hat⟩ := c.rd
  obtain ⟨rest, hp⟩ := c.rc
  refine PySem.W.method_cls I.kIn c.ga (PySem.W.cls_bind I.kIn hrd hat ?_)
  refine wpAny_call (PySem.W.sm_get (s := { s with toks := s.toks + 1 }) I.kIn hp (PySem.W.handed_on rfl ?_))
  exact h _ (I.tok _)
def tStat (C : Addr) (sp : Sp) (dvs : List V) (E : XK) (ta : TE) (t : TA) : TE := fun σ H Q => ta σ H fun x H1 => x = .ref C ∧ t σ H1 fun vs H2 => sp (vs ++ dvs) H2 Q E
/-- C.m(e, ..), m a staticmethod -/
theorem pe_stat (he : PE X o ta) (c : Stat X.K C m p g) (F : FnOk X.prog X.w X.K X.mg X.base CX k g fd ps sp) (hr : Room k X.A) (hb : Binds X.K fd ps ds) (hd : Vals dvs ds) (hx : Passes CX X E) (ha : PA X (e :: es) t)
    (hst : starEach (e :: es) X.env = (false, eval e X.env) :: starEach es X.env := by rfl) (hpl : (backTo pos (starEach es X.env)).any (·.1) = false := by rfl)
    (ht : eval (.Call (.Attribute o m apos) (e :: es) [] pos) X.env = (do
      let ov ← eval o X.env
      standAt apos.atName
      let (f, first) ← holding [ov] (getMethod ov m pl)
      callWith pos f first (backTo pos (starEach (e :: es) X.env)) (backToKw pos (keywordEach [] X.env))) := by rfl) :
    PE X (.Call (.Attribute o m apos) (e :: es) [] pos) (tStat C sp dvs E ta t) := by
  constructor
  intro pins s σ H Q I h
  refine PySem.W.methodCall_KW (pl := pl) (thn (he.run pins s σ H _ I h) fun u s1 hh => ?_) ht
  obtain ⟨x, H1, I1, rx, rfl, q⟩ := hh
  obtain rfl : u = Value.ref C := rx
  refine stat_ok I1 c fun s2 I2 => ?_
  refine PySem.W.callWith_K (first := []) (h₀ := X.base) I.ok.mod.kin c.kp (thn (ha.run pos pins s2 σ H1 _ I2 q) fun us s3 h3 => ?_) hst hpl
  obtain ⟨vs, H2, I3, r, q2⟩ := h3
  exact ⟨I3.kIn, run_fn F hr hb hd hx I3 r q2⟩
end
end SB
-- R7
namespace SB
open PySem PySem.Spec PyProof.Rows L2
section
variable {X : Cx} {CX : CXT} {k : Nat} {C p g : Addr} {fd : FuncData} {ps ks : List Str} {sp : Sp} {E : XK} {o e : Expr} {kws : List Keyword} {m : Str} {pos apos : Pos} {ta : TE} {t tk : TA} {pl : Sem Bool}
variable {gg : List Value → List Value → List Value} {gV : List V → List V → List V}
def tStatK (C : Addr) (sp : Sp) (gV : List V → List V → List V) (E : XK) (ta : TE) (tk : TA) : TE := fun σ H Q => ta σ H fun x H1 => x = .ref C ∧ tk σ H1 fun zs H2 => sp (gV [] zs) H2 Q E
/-- C.m(k = e, ..), m a staticmethod -/
theorem pe_statK (he : PE X o ta) (c : Stat X.K C m p g) (F : FnOk X.prog X.w X.K X.mg X.base CX k g fd ps sp) (hr : Room k X.A) (hb : KBinds X.K fd ps ks gg gV) (hx : Passes CX X E) (hkw : PK X kws tk)
    (hall : (backToKw pos (keywordEach kws X.env)).all (·.1.isSome) = true := by rfl) (hks : (backToKw pos (keywordEach kws X.env)).filterMap (·.1) = ks := by rfl)
    (hpl : ((backTo pos (starEach [] X.env)).any (·.1) || (backToKw pos (keywordEach kws X.env)).any (·.1.isNone)) = false := by rfl)
    (ht : eval (.Call (.Attribute o m apos) [] kws pos) X.env = (do
      let ov ← eval o X.env
      standAt apos.atName
      let (f, first) ← holding [ov] (getMethod ov m pl)
      callWith pos f first (backTo pos (starEach [] X.env)) (backToKw pos (keywordEach kws X.env))) := by rfl) :
    PE X (.Call (.Attribute o m apos) [] kws pos) (tStatK C sp gV E ta tk) := by
  constructor
  intro pins s σ H Q I h
  refine PySem.W.methodCall_KW (pl := pl) (thn (he.run pins s σ H _ I h) fun u s1 hh => ?_) ht
  obtain ⟨x, H1, I1, rx, rfl, q⟩ := hh
  obtain rfl : u = Value.ref C := rx
  refine stat_ok I1 c fun s2 I2 => ?_
  refine PySem.W.callWith_KW0 (first := []) (h₀ := X.base) I.ok.mod.kin c.kp hall ?_ hpl
  refine thn (hkw.run pos pins s2 σ H1 _ I2 q) fun ws s3 h3 => ?_
  obtain ⟨zs, H2, I3, rz, q2⟩ := h3
  refine ⟨I3.kIn, ?_⟩
  rw [hks]
  exact run_fnk (us := []) (vs := []) F hr hb hx I3 .nil rz q2
end
end SB
-- R8
namespace SB
open PySem PySem.Spec PyProof.Rows L2
/-- a class over object alone that tells __eq__ and no __ne__ -/
structure EqC (K : PySem.W.Frag) (C f : Addr) : Prop where
  obj : ∃ (nm q : Str) (N : Addr) (bs : List Value) (hdct : Bool) (sn : List Str) (sub : List Value) (ab : Bool) (col : Option Bool) (dd : Option Addr) (k0 k1 k2 k3 k5 : Option Value) (newId : String),
    K.lookup C = some (excClassObj nm q C N bs [.type "object"] hdct sn sub ab col dd k0 k1 k2 k3 k5 newId) ∧ PySem.W.nsOkIn K N = true ∧
    PySem.W.nsIn K N "__eq__" = some (some (.ref f)) ∧ PySem.W.nsIn K N "__ne__" = some none
  find : PySem.W.findIn K (.ref C) "__eq__" = some (some (.ref f))
  fn : PySem.W.isFn K (.ref f) = true
theorem ns_has {K : PySem.W.Frag} {h : Heap} {N : Addr} {mm : Str → Option Value} {x : Str} {v : Value} (KX : K.In h) (G : h.Ns N mm) (e : PySem.W.nsIn K N x = some (some v)) : mm x = some v := by
  obtain ⟨ob, es, ep, at_, dat, _, look⟩ := G
  unfold PySem.W.nsIn at e
  split at e
  · rename_i lk
    have same := KX _ _ lk
    rw [at_] at same
    cases same
    cases dat
    split at e
    · rename_i en he
      cases e
      rw [← look]
      unfold nsFind findBy
      rw [← Array.find?_toList, he]
      rfl
    · split at e <;> cases e
  · cases e
section
variable {X : Cx} {CX : CXT} {k : Nat} {C f : Addr} {fd : FuncData} {ps : List Str} {sp : Sp} {E : XK}
/-- a def called from somewhere within a builtin, around A -/
theorem run_at {A : Around} {pins : List (Addr × Obj)} {σ : L2.St} {H : Hp} {s : Shared} {Q : VK} {us : List Value} {vs : List V} (F : FnOk X.prog X.w X.K X.mg X.base CX k f fd ps sp) (hr : Room k A) (e0 : Env0 X.prog X.w X.K X.mg X.base A X.stack s H) (hb : Binds X.K fd ps []) (hx : Passes CX X E)
    (I : Inv X pins σ H s) (r : Vals vs us) (h : sp vs H Q E) : wpAny (model X.prog X.w) A (call (.ref f) us) (EP X pins σ Q) X.xe s := by
  have hl : (us ++ []).length = ps.length := by
    rw [List.append_nil, ← r.length]
    exact F.len _ _ _ _ h
  have bd := hb s us I.kIn hl
  rw [List.append_nil] at bd
  refine wpAny_call (codeAny_mono (F.run A X.stack s H ⟨us, []⟩ us vs Q E hr e0 bd r h) fun r s' hq => ?_)
  rcases r with e | fl
  · exact hx pins σ H s e s' I hq
  · rcases fl with u | _ | _ | _
    · first
        | exact I.after hq
        | exact hq.elim
    all_goals
      first
        | exact I.after hq
        | exact False.elim hq
theorem run_in1 {pins : List (Addr × Obj)} {σ : L2.St} {H : Hp} {s : Shared} {Q : VK} {us : List Value} {vs : List V} (F : FnOk X.prog X.w X.K X.mg X.base CX k f fd ps sp) (hr : Room (k + 1) X.A) (hb : Binds X.K fd ps []) (hx : Passes CX X E)
    (I : Inv X pins σ H s) (r : Vals vs us) (h : sp vs H Q E) : wpAny (model X.prog X.w) X.A.in1 (call (.ref f) us) (EP X pins σ Q) X.xe s :=
  run_at F hr.in1 I.env0.in1 hb hx I r h
theorem run_in2 {pins : List (Addr × Obj)} {σ : L2.St} {H : Hp} {s : Shared} {Q : VK} {us : List Value} {vs : List V} (F : FnOk X.prog X.w X.K X.mg X.base CX k f fd ps sp) (hr : Room (k + 2) X.A) (hb : Binds X.K fd ps []) (hx : Passes CX X E)
    (I : Inv X pins σ H s) (r : Vals vs us) (h : sp vs H Q E) : wpAny (model X.prog X.w) X.A.in1.in1 (call (.ref f) us) (EP X pins σ Q) X.xe s :=
  run_at F (Room.in1 (Room.in1 hr)) I.env0.in1.in1 hb hx I r h
def rNeOwn (C : Addr) (sp : Sp) (E : XK) : R2 := fun x y H Q => ∃ (a b dx dy : Addr) (fs gs : List (Str × V)), x = .ref a ∧ y = .ref b ∧ H a = some (.ins C dx fs) ∧ H b = some (.ins C dy gs) ∧
  sp [x, y] H (fun v H' => ∃ r, v = .bl r ∧ Q (.bl (!r)) H') E
/-- x != y by the own __eq__ of both -/
theorem op_neOwn (T : EqC X.K C f) (F : FnOk X.prog X.w X.K X.mg X.base CX k f fd ps sp) (hr : Room (k + 1) X.A) (hb : Binds X.K fd ps []) (hx : Passes CX X E) : OpR X (compareOp .NotEq) (rNeOwn C sp E) := by
  intro pins s σ H x y u v Q I rx ry h
  obtain ⟨a, b, dx, dy, fs, gs, rfl, rfl, ea, eb, q⟩ := h
  obtain rfl : u = Value.ref a := rx
  obtain rfl : v = Value.ref b := ry
  obtain ⟨nm, qn, N, bs, hdct, sn, sub, ab, col, dd, k0, k1, k2, k3, k5, newId, lk, ok, e1, e2⟩ := T.obj
  have KX := I.kIn
  obtain ⟨_, _, _, oa, _⟩ := (show ObjOk X.prog X.w H s.heap a (.ins C dx fs) from I.hok a _ ea)
  obtain ⟨_, _, _, ob, _⟩ := (show ObjOk X.prog X.w H s.heap b (.ins C dy gs) from I.hok b _ eb)
  have hns : s.heap.Ns N (s.heap.nsMap N) := .of_isNs (PySem.W.isNs_of_in KX ok)
  have m1 : s.heap.nsMap N "__eq__" = some (.ref f) := ns_has KX hns e1
  have m2 : s.heap.nsMap N "__ne__" = none := PySem.W.ns_none_of KX hns e2
  have ft : ∃ of, s.heap.get? f = some of ∧ of.cls = .type "function" := by
    obtain ⟨o, ho, hc⟩ := Option.map_eq_some_iff.mp (show (X.K.lookup f).map (·.cls) = some (.type "function") from beq_iff_eq.mp T.fn)
    exact ⟨o, KX _ _ ho, hc⟩
  obtain ⟨of, hf, hfc⟩ := ft
  have own : s.heap.OwnEqNoNe a C f "object" [.type "object"] :=
    ⟨_, of, nm, qn, N, bs, hdct, sn, sub, ab, col, dd, k0, k1, k2, k3, k5, newId, _, _, oa, rfl, KX _ _ lk, hns, m1, hf, hfc, PySem.F.mro_object, rfl, m2⟩
  have un := hr.un
  obtain ⟨hp, g, d, t, os⟩ := s
  refine compareOp_ne_ownEq PySem.F.cmp_object own ob rfl (by omega) ?_
  refine thn (run_in1 (us := [.ref a, .ref b]) (vs := [.ref a, .ref b]) F hr hb hx I (.cons rfl (.cons rfl .nil)) q) fun u s1 hh => ?_
  obtain ⟨w, H1, I1, r1, r, rfl, q1⟩ := hh
  obtain rfl : u = Value.bool r := r1
  exact ⟨r, rfl, .bl (!r), H1, I1, rfl, q1⟩
end
end SB
-- R9
namespace SB
open PySem PySem.Spec PyProof.Rows L2
section
variable {X : Cx} {CX : CXT} {k : Nat} {C f : Addr} {fd : FuncData} {ps : List Str} {sp : Sp} {E : XK} {pins : List (Addr × Obj)} {σ : L2.St} {H : Hp} {s : Shared}
theorem inst_of {a dx : Addr} {fs : List (Str × V)} (I : Inv X pins σ H s) (ea : H a = some (.ins C dx fs)) : ∃ od, PySem.W.InstAt s.heap a (PySem.W.instObj C dx) C (some od) := by
  obtain ⟨mA, O, _⟩ := ins_get I.hok ea
  obtain ⟨od, J, _⟩ := O.look
  exact ⟨od, J⟩
/-- str(x) by the own __str__ -/
def rStrOwn (C : Addr) (sp : Sp) (E : XK) : List V → Hp → VK → Prop := fun xs H Q => ∃ (a dx : Addr) (fs : List (Str × V)), xs = [.ref a] ∧ H a = some (.ins C dx fs) ∧
  sp [.ref a] H (fun v H' => ∃ z, v = .str z ∧ Q (.str z) H') E
theorem call_strOwn (hs : PySem.W.findIn X.K (.ref C) "__str__" = some (some (.ref f))) (hf : PySem.W.isFn X.K (.ref f) = true) (F : FnOk X.prog X.w X.K X.mg X.base CX k f fd ps sp) (hr : Room (k + 2) X.A) (hb : Binds X.K fd ps []) (hx : Passes CX X E) :
    CallR X (.type "str") (rStrOwn C sp E) := by
  intro pins s σ H xs us Q I r h
  obtain ⟨a, dx, fs, rfl, ea, q⟩ := h
  obtain ⟨u, rfl, ru⟩ := vals1 r
  obtain rfl : u = Value.ref a := ru
  obtain ⟨od, J⟩ := inst_of I ea
  have un := (Room.in1 (Room.in1 hr)).units0
  refine PySem.W.kso_call un I.kIn J hs hf ?_
  refine thn (run_in2 (us := [.ref a]) (vs := [.ref a]) F hr hb hx I (.cons rfl .nil) q) fun u s1 hh => ?_
  obtain ⟨w, H1, I1, r1, z, rfl, q1⟩ := hh
  obtain ⟨t, rfl⟩ := r1
  exact ⟨.str z, H1, I1, ⟨t, rfl⟩, q1⟩
/-- an int is no bool -/
theorem op_isIB : OpR X (compareOp .Is) (fun x y H Q => ∃ (i : Int) (b : Bool), x = .int i ∧ y = .bl b ∧ Q (.bl false) H) := by
  intro pins s σ H x y v u Q I rx ry h
  obtain ⟨i, b, rfl, rfl, q⟩ := h
  obtain ⟨t, rfl⟩ := rx
  obtain rfl : u = Value.bool b := ry
  exact wpAny_is_other rfl (fun z => nomatch z) ⟨.bl false, H, I, rfl, q⟩
theorem op_notIB : OpR X (compareOp .IsNot) (fun x y H Q => ∃ (i : Int) (b : Bool), x = .int i ∧ y = .bl b ∧ Q (.bl true) H) := by
  intro pins s σ H x y v u Q I rx ry h
  obtain ⟨i, b, rfl, rfl, q⟩ := h
  obtain ⟨t, rfl⟩ := rx
  obtain rfl : u = Value.bool b := ry
  exact wpAny_isNot_other rfl (fun z => nomatch z) ⟨.bl true, H, I, rfl, q⟩
end
end SB
-- R10
namespace SB
open PySem PySem.Spec PyProof.Rows L2
/-- __init__(self, f): self.f = f, of an own error class -/
def spErr1 (K : PySem.W.Frag) (g : Str) : Sp := fun vs H Q _ => ∃ (a C : Addr) (y : V), vs = [.ref a, y] ∧ OexC K C ∧ PySem.W.findIn K (.ref C) g = some none ∧ H a = some (exo a C none) ∧
  ∀ dx, H dx = none → dx ≠ a → Q .non (upd (upd H dx (exd dx [(g, y)])) a (exo a C (some dx)))
/-- what is told of an own error class x of one field g: its class at C, its __init__ at fI -/
structure Err1 (K : PySem.W.Frag) (mg : Str → Option Value) (x g : Str) (C fI : Addr) : Prop where
  ox : OexC K C
  ec : ErrC K C
  iC : PySem.W.findIn K (.ref C) "__init__" = some (some (.ref fI))
  tI : PySem.W.typeIn K (.ref fI) = some (.type "function")
  no : PySem.W.findIn K (.ref C) g = some none
  at_ : mg x = some (.ref C)
theorem heap_raised {H : Hp} {a d : Addr} {o1 o2 o3 o4 : HO} (ha : H a = none) (hd : (upd H a o1) d = none) (ne : d ≠ a) : upd (del (upd (upd (upd H a o1) d o2) a o3) a) d o4 = upd H d o4 := by
  funext b
  by_cases e1 : b = d
  · subst e1
    rw [upd_same, upd_same]
  · rw [upd_ne e1, upd_ne e1]
    by_cases e2 : b = a
    · subst e2
      rw [del_same, ha]
    · rw [del_ne e2, upd_ne e2, upd_ne e1, upd_ne e2]
section
variable {X : Cx} {x g : Str} {C fI : Addr} {k : Nat} {fd : FuncData} {ps : List Str} {W : WX} {e : Expr} {te : TE} {p pos pos2 : Pos} {CX : CXT}
/-- raise x(e) -/
theorem ps_raise1 (T : Err1 X.K X.mg x g C fI) (F : FnOk X.prog X.w X.K X.mg X.base CX k fI fd ps (spErr1 X.K g)) (hb : Binds X.K fd ps []) (hr : Room (k + 1) X.A) (hc : X.calm = true) (tk : Takes X W) (hx : Passes CX X (fun _ _ _ => False)) (he : PE X e te) (hg : Gl X x := by rfl)
    (hs : starEach (e :: []) X.env = (false, eval e X.env) :: starEach [] X.env := by rfl) (hpl : (backTo pos (starEach [] X.env)).any (·.1) = false := by rfl) (hdb : (x == ("__debug__" : Str)) = false := by decide) :
    PS X (.Raise (some (.Call (.Name x p) [e] [] pos)) none pos2) (fun _ σ H => tMkO C (spErr1 X.K g) [] (tCons te tNil) σ H fun cls d H' => W cls d σ H') :=
  ps_raise (pos := pos2) hc tk (pmk_oex (pos := pos) (p := p) T.ox T.iC T.tI F hr hb .nil hx hg T.at_ (pa_cons he pa_nil hs) hdb hs hpl)
end
/-- what such a raise asks, once its argument is there -/
theorem raised1 {K : PySem.W.Frag} {mg : Str → Option Value} {x g : Str} {C fI : Addr} {H : Hp} {y : V} {Q : XK} (T : Err1 K mg x g C fI) (h : ∀ d, H d = none → Q (.ref C) (some d) (upd H d (.xd [(g, y)]))) :
    ([y] : List V).length ≤ 1000 ∧ ∀ a, H a = none → spErr1 K g (.ref a :: ([y] ++ [])) (upd H a (exo a C none)) (fun v H2 => v = .non ∧ ∃ (d : Addr) (fs : List (Str × V)), H2 a = some (exo a C (some d)) ∧ H2 d = some (exd d fs) ∧ H d = none ∧ Q (.ref C) (some d) (upd (del H2 a) d (.xd fs))) (fun _ _ _ => False) := by
  refine ⟨by show 1 ≤ 1000; decide, fun a ha => ⟨a, C, y, rfl, T.ox, T.no, upd_same, fun dx hd ne => ⟨rfl, dx, [(g, y)], upd_same, ?_, ?_, ?_⟩⟩⟩
  · rw [upd_ne ne, upd_same]
  · rw [upd_ne ne] at hd
    exact hd
  · rw [heap_raised ha hd ne]
    refine h dx ?_
    rw [upd_ne ne] at hd
    exact hd
theorem init1_sp {K : PySem.W.Frag} {g : Str} {vs : List V} {H : Hp} {Q : VK} {E : XK} (h : spErr1 K g vs H Q E) : vs.length = 2 := by
  obtain ⟨a, C, y, rfl, _⟩ := h
  rfl
/-- the reading of self.f = f -/
theorem init1_read {K : PySem.W.Frag} {g : Str} {vs : List V} {H : Hp} {Q : VK} {E : XK} {N : List Str} (hN : N.length = 2) (h : spErr1 K g vs H Q E) : tOst K g (tVar 0) (tVar 1) { nx := fun _ H' => Q .non H', rt := Q } (L2.start N vs) H := by
  obtain ⟨a, C, y, rfl, T, hn, ha, q⟩ := h
  match N, hN with
  | [_, _], _ => exact ⟨y, rfl, .ref a, rfl, a, C, rfl, T, hn, .inl ⟨ha, fun dx h1 h2 => q dx h1 h2⟩⟩
end SB
-- M1
namespace SB
open PySem PySem.Spec PyProof.Rows L2
/-! ### letters as codes; rows of letters -/
def T (l : List Nat) : Str := ⟨l.toArray⟩
/-- the code of the letter that undoes one -/
def up (c : Nat) : Nat := if 97 ≤ c then c - 32 else c + 32
def letters8 : List Nat := [65, 66, 67, 68, 97, 98, 99, 100]
def isL (c : Nat) : Bool := decide (c ∈ letters8)
/-- the first place at which no sign can stand, from place i on, prev being ahead -/
def faultFrom (prev : Option Nat) (i : Nat) : List Nat → Option Nat
  | [] => none
  | c :: r => if isL c = false ∨ some (up c) = prev then some i else faultFrom (some c) (i + 1) r
def fault (l : List Nat) : Option Nat := faultFrom none 0 l
theorem T_cps (l : List Nat) : (T l).cps.toList = l := rfl
theorem letters_T : ("ABCDabcd" : Str) = T letters8 := by decide +kernel
theorem swap_up : ∀ c, isL c = true → Txt.swapcase ⟨#[c]⟩ = ⟨#[up c]⟩ := by
  intro c h
  have h' : c ∈ letters8 := of_decide_eq_true h
  have all : ∀ c ∈ letters8, Txt.swapcase ⟨#[c]⟩ = ⟨#[up c]⟩ := by decide +kernel
  exact all c h'
/-- one sign as a text -/
abbrev s1 (c : Nat) : Str := ⟨#[c]⟩
def prevT : Option Nat → Str
  | none => T []
  | some c => s1 c
theorem s1_inj {a b : Nat} (h : s1 a = s1 b) : a = b := by
  have := congrArg Str.cps h
  simpa using this
theorem eq_prev (c : Nat) (p : Option Nat) : decide (V.str (s1 c) = V.str (prevT p)) = decide (some c = p) := by
  cases p with
  | none =>
    refine (decide_eq_false ?_).trans (decide_eq_false (by simp)).symm
    intro z
    have := congrArg Str.cps (V.str.inj z)
    simp [prevT, T] at this
  | some d =>
    by_cases e : c = d
    · subst e
      simp [prevT]
    · refine (decide_eq_false ?_).trans (decide_eq_false (by simpa using e)).symm
      intro z
      exact e (s1_inj (V.str.inj z))
end SB
-- M2
namespace SB
open PySem PySem.Spec PyProof.Rows L2
/-- the items of a text -/
def items (z : Str) : List Str := Txt.split z " "
theorem blank_T : (" " : Str) = ⟨#[32]⟩ := by decide +kernel
theorem items_pos (z : Str) : 1 ≤ (items z).length := split_pos z " "
theorem items_one {z : Str} (h : (items z).length = 1) : items z = [z] := by
  have j : Str.join " " (items z) = z   := StrLaws.join_split z " "
  match e : items z, h with
  | [a], _ =>
    rw [e] at j
    exact congrArg (fun a => [a]) j
theorem items_free {z : Str} (h : (32 : Nat) ∉ z.cps.toList) : items z = [z] := by
  refine items_one ?_
  have l := split_len z 32
  unfold items
  rw [blank_T]
  have c0 : ∀ l : List Nat, (32 : Nat) ∉ l → cnt 32 l = 0 := by
    intro l
    induction l with
    | nil => intro _; rfl
    | cons a r ih =>
      intro hn
      rw [cnt_cons, ih fun z => hn (List.mem_cons_of_mem _ z), if_neg fun z => hn (by rw [z]; exact List.mem_cons_self)]
      rfl
  rw [c0 _ h] at l
  omega
theorem items_short {z a : Str} (h : a ∈ items z) : a.length ≤ z.length := part_short h
/-- of a row without a fault each sign is a letter -/
theorem letters_of : ∀ (l : List Nat) (p : Option Nat) (i : Nat), faultFrom p i l = none → ∀ c ∈ l, isL c = true
  | [], _, _, _, c, hc => nomatch hc
  | a :: r, p, i, h, c, hc => by
    have h' : (if isL a = false ∨ some (up a) = p then some i else faultFrom (some a) (i + 1) r) = none := h
    by_cases e : isL a = false ∨ some (up a) = p
    · rw [if_pos e] at h'
      cases h'
    · rw [if_neg e] at h'
      rcases List.mem_cons.mp hc with q | q
      · rw [q]
        cases z : isL a with
        | true => rfl
        | false => exact (e (.inl z)).elim
      · exact letters_of r _ _ h' c q
theorem letter_lt : ∀ c, isL c = true → c < 128 := by
  intro c h
  have h' : c ∈ letters8 := of_decide_eq_true h
  have all : ∀ c ∈ letters8, c < 128 := by decide +kernel
  exact all c h'
theorem ok_word {z : Str} (h : fault z.cps.toList = none) : (z.cps.all fun c => decide (c < 0x110000)) = true := by
  rw [← Array.all_toList, List.all_eq_true]
  intro c hc
  have := letter_lt c (letters_of _ _ _ h c hc)
  exact decide_eq_true (by omega)
theorem shaped_word {z : Str} (n : Int) (h : fault z.cps.toList = none) : SeqAt.shaped (.tuple [.int n, .str z]) = true := by
  have e : PyData.canLay0 (.tuple [.int n, .str z]) = true := by
    show (true && ((z.cps.all fun c => decide (c < 0x110000)) && true)) = true
    rw [ok_word h]
    rfl
  unfold SeqAt.shaped
  rw [e]
  rfl
end SB
-- M3
namespace SB
open PySem PySem.Spec PyProof.Rows L2
/-! ### the pen of a law -/
/-- what is tracked stays, but for p -/
def Kept (p : Addr) (H H' : Hp) : Prop := ∀ b o, H b = some o → b ≠ p → H' b = some o
theorem Kept.refl (p : Addr) (H : Hp) : Kept p H H := fun _ _ h _ => h
theorem Kept.trans {p : Addr} {H H1 H2 : Hp} (a : Kept p H H1) (b : Kept p H1 H2) : Kept p H H2 := fun c o h n => b c o (a c o h n) n
theorem Kept.of {p : Addr} {H H' : Hp} (s : Same H H') : Kept p H H' := fun b o h _ => s b o h
theorem Kept.write {p : Addr} {H H' : Hp} {o : HO} (k : Kept p H H') : Kept p H (upd H' p o) := fun b u h n => by
  rw [upd_ne n]
  exact k b u h n
/-- a list of three at p: the script's ints, how many cells were read, what is left of a great one -/
def PenAt (N : Int) (H : Hp) (p : Addr) : Prop := ∃ (q : Addr) (ns : List Int) (i j : Int), H p = some (.lst [.ref q, .int i, .int j]) ∧ H q = some (.lst (ns.map V.int)) ∧ 0 ≤ i ∧ i ≤ N
theorem pen_ne {H : Hp} {p q : Addr} {ns : List Int} {i j : Int} (h : H p = some (.lst [.ref q, .int i, .int j])) (h' : H q = some (.lst (ns.map V.int))) : q ≠ p := by
  rintro rfl
  rw [h] at h'
  have e := HO.lst.inj (Option.some.inj h')
  cases ns with
  | nil => cases e
  | cons a r => cases e
theorem PenAt.mono {N M : Int} {H : Hp} {p : Addr} (h : PenAt N H p) (le : N ≤ M) : PenAt M H p := by
  obtain ⟨q, ns, i, j, h1, h2, h3, h4⟩ := h
  exact ⟨q, ns, i, j, h1, h2, h3, by omega⟩
theorem PenAt.same {N : Int} {H H' : Hp} {p : Addr} (h : PenAt N H p) (s : Same H H') : PenAt N H' p := by
  obtain ⟨q, ns, i, j, h1, h2, h3, h4⟩ := h
  exact ⟨q, ns, i, j, s _ _ h1, s _ _ h2, h3, h4⟩
theorem shaped_nums (ns : List Int) : SeqAt.shaped (.list (ns.map PyData.int)) = true := by
  have lay : ∀ l : List Int, PyData.canLayAll0 (l.map PyData.int) = true := by
    intro l
    induction l with
    | nil => rfl
    | cons a r ih => exact ih
  have dep : ∀ l : List Int, PyData.depthAll (l.map PyData.int) ≤ 1 := by
    intro l
    induction l with
    | nil => exact Nat.zero_le _
    | cons a r ih =>
      show max _ _ ≤ 1
      refine Nat.max_le.mpr ⟨?_, ih⟩
      simp [PyData.depth]
  unfold SeqAt.shaped
  have e1 : PyData.canLay0 (.list (ns.map PyData.int)) = true := lay ns
  rw [e1]
  refine decide_eq_true ?_
  have := dep ns
  have e2 : PyData.depth (.list (ns.map PyData.int)) = PyData.depthAll (ns.map PyData.int) + 1 := by
    simp [PyData.depth]
  rw [e2]
  omega
theorem dp_nums {K : PySem.W.Frag} {H : Hp} : ∀ ns : List Int, DpAll K H (ns.map V.int) (ns.map PyData.int)
  | [] => .nil
  | a :: r => .cons (.int a) (dp_nums r)
theorem eqv_empty (ns : List Int) : PyData.eqv (.list (ns.map PyData.int)) (.list []) = decide (ns = []) := by
  cases ns with
  | nil => rfl
  | cons a r => rfl
theorem cut_nums (ns : List Int) (lo hi : Option Int) : ∃ ms : List Int, cutV (ns.map V.int) lo hi = ms.map V.int ∧ ms.length ≤ ns.length := by
  refine ⟨(ns.drop (HT.sIx (ns.map V.int).length 0 lo)).take (HT.sIx (ns.map V.int).length (ns.map V.int).length hi - HT.sIx (ns.map V.int).length 0 lo), ?_, ?_⟩
  · unfold cutV
    rw [← List.map_drop, ← List.map_take]
  · rw [List.length_take, List.length_drop]
    omega
theorem bound3 {u i a b c : Int} (u0 : 0 ≤ u) (u1 : u < 2147483648) (i0 : 0 ≤ i) (i1 : i ≤ 100000) (a0 : 0 ≤ a) (a1 : a ≤ 100000) (b0 : 0 ≤ b) (b1 : b ≤ 1000000) (c0 : 0 ≤ c) (c1 : c ≤ 1000000) :
    (u * (2 * i + a) + b * i * i + c).natAbs < 2 ^ 64 := by
  have h1 : u * (2 * i + a) ≤ 2147483648 * 300000 := Int.mul_le_mul (by omega) (by omega) (by omega) (by omega)
  have h2 : 0 ≤ u * (2 * i + a) := Int.mul_nonneg u0 (by omega)
  have h3 : b * i ≤ 1000000 * 100000 := Int.mul_le_mul b1 i1 i0 (by omega)
  have h4 : 0 ≤ b * i := Int.mul_nonneg b0 i0
  have h5 : b * i * i ≤ 1000000 * 100000 * 100000 := Int.mul_le_mul h3 i1 i0 (by omega)
  have h6 : 0 ≤ b * i * i := Int.mul_nonneg h4 i0
  omega
end SB
-- M4
namespace SB
open PySem PySem.Spec PyProof.Rows L2
theorem up_up : ∀ c, isL c = true → up (up c) = c := by
  intro c h
  have h' : c ∈ letters8 := of_decide_eq_true h
  have all : ∀ c ∈ letters8, up (up c) = c := by decide +kernel
  exact all c h'
theorem up_isL : ∀ c, isL c = true → isL (up c) = true := by
  intro c h
  have h' : c ∈ letters8 := of_decide_eq_true h
  have all : ∀ c ∈ letters8, isL (up c) = true := by decide +kernel
  exact all c h'
theorem faultFrom_snoc : ∀ (l : List Nat) (c : Nat) (p : Option Nat) (i : Nat), faultFrom p i l = none → isL c = true → (∀ d, (l.getLast?.or p) = some d → some (up c) ≠ some d) → faultFrom p i (l ++ [c]) = none
  | [], c, p, i, _, hc, hd => by
    show (if isL c = false ∨ some (up c) = p then some i else faultFrom (some c) (i + 1) []) = none
    rw [if_neg]
    · rfl
    · rintro (z | z)
      · rw [hc] at z
        cases z
      · exact hd (up c) z.symm rfl
  | a :: r, c, p, i, h, hc, hd => by
    have h' : (if isL a = false ∨ some (up a) = p then some i else faultFrom (some a) (i + 1) r) = none := h
    by_cases e : isL a = false ∨ some (up a) = p
    · rw [if_pos e] at h'
      cases h'
    · rw [if_neg e] at h'
      show (if isL a = false ∨ some (up a) = p then some i else faultFrom (some a) (i + 1) (r ++ [c])) = none
      rw [if_neg e]
      refine faultFrom_snoc r c (some a) (i + 1) h' hc fun d hd2 => hd d ?_
      cases r with
      | nil => simpa using hd2
      | cons b r2 =>
        have q : ((b :: r2).getLast?.or (some a)) = some d := hd2
        rw [List.getLast?_cons_cons]
        cases e2 : (b :: r2).getLast? with
        | none => simp at e2
        | some v =>
          rw [e2] at q
          simpa using q
theorem fault_snoc {l : List Nat} {c : Nat} (h : fault l = none) (hc : isL c = true) (hd : ∀ d, l.getLast? = some d → c ≠ up d) : fault (l ++ [c]) = none := by
  refine faultFrom_snoc l c none 0 h hc fun d e z => ?_
  have e' : l.getLast? = some d := by simpa using e
  have z' : up c = d := Option.some.inj z
  refine hd d e' ?_
  rw [← z', up_up c hc]
theorem last_split {l : List Nat} {d : Nat} (h : l.getLast? = some d) : ∃ r, l = r ++ [d] := by
  rw [List.getLast?_eq_some_iff] at h
  exact h
theorem str_empty {z : Str} : z = "" ↔ z.cps.toList = [] := by
  constructor
  · rintro rfl
    rfl
  · intro h
    cases z with
    | mk a =>
      have : a = #[] := by simpa using h
      subst this
      rfl
theorem app_codes (a b : Str) : (a ++ b).cps.toList = a.cps.toList ++ b.cps.toList := by
  rw [Str.cps_append, Array.toList_append]
theorem len_codes (z : Str) : z.length = z.cps.toList.length := rfl
end SB
-- M5
namespace SB
open PySem PySem.Spec PyProof.Rows L2
/-- whether each sign is a letter -/
theorem all_or (l : List Nat) : (l.filter fun c => !isL c) = [] ↔ ∀ c ∈ l, isL c = true := by
  rw [List.filter_eq_nil_iff]
  constructor
  · intro h c hc
    have := h c hc
    simpa using this
  · intro h c hc
    rw [h c hc]
    decide
/-- no letter stands behind the one that it undoes -/
def flat (l : List Nat) (n : Nat) : Prop := ∀ j c d, j + 1 < n → l[j]? = some d → l[j + 1]? = some c → c ≠ up d
theorem flat_mono {l : List Nat} {n m : Nat} (h : flat l n) (le : m ≤ n) : flat l m := fun j c d hj => h j c d (by omega)
theorem faultFrom_flat : ∀ (l : List Nat) (p : Option Nat) (i : Nat), (∀ c ∈ l, isL c = true) → (faultFrom p i l = none ↔ (∀ c, l[0]? = some c → some (up c) ≠ p) ∧ flat l l.length)
  | [], p, i, _ => by
    refine ⟨fun _ => ⟨fun c h => (nomatch h), fun j c d h => absurd h (by simp)⟩, fun _ => rfl⟩
  | a :: r, p, i, h => by
    have ha : isL a = true := h a List.mem_cons_self
    have ih := faultFrom_flat r (some a) (i + 1) fun c hc => h c (List.mem_cons_of_mem _ hc)
    have e : faultFrom p i (a :: r) = if isL a = false ∨ some (up a) = p then some i else faultFrom (some a) (i + 1) r := rfl
    rw [e]
    by_cases q : some (up a) = p
    · rw [if_pos (.inr q)]
      refine ⟨fun z => (nomatch z), fun z => (z.1 a rfl q).elim⟩
    · rw [if_neg (by rintro (z | z); rw [ha] at z; cases z; exact q z), ih]
      constructor
      · rintro ⟨h1, h2⟩
        refine ⟨fun c hc => by cases hc; exact q, fun j c d hj hd hc => ?_⟩
        cases j with
        | zero =>
          have hd' : a = d := by simpa using hd
          have hc' : r[0]? = some c := hc
          subst hd'
          intro z
          refine h1 c hc' ?_
          rw [z, up_up a ha]
        | succ j =>
          refine h2 j c d ?_ hd hc
          have : j + 1 + 1 < r.length + 1 := hj
          omega
      · rintro ⟨_, h2⟩
        refine ⟨fun c hc z => ?_, fun j c d hj hd hc => h2 (j + 1) c d (by show j + 1 + 1 < r.length + 1; omega) hd hc⟩
        have z' : up c = a := Option.some.inj z
        have cL : isL c = true := h c (List.mem_cons_of_mem _ (List.mem_of_getElem? hc))
        refine h2 0 c a ?_ rfl hc ?_
        · show 0 + 1 < r.length + 1
          have : 0 < r.length := (List.getElem?_eq_some_iff.mp hc).1
          omega
        · rw [← z', up_up c cL]
theorem fault_iff (l : List Nat) : fault l = none ↔ (∀ c ∈ l, isL c = true) ∧ flat l l.length := by
  constructor
  · intro h
    have hL := letters_of l none 0 h
    exact ⟨hL, ((faultFrom_flat l none 0 hL).mp h).2⟩
  · rintro ⟨hL, hf⟩
    exact (faultFrom_flat l none 0 hL).mpr ⟨fun c _ z => (nomatch z), hf⟩
end SB
-- R11
namespace SB
open PySem PySem.Spec PyProof.Rows L2
section
variable {X : Cx}
/-- an expression, with a word between it and what follows -/
def tMid (t : TE) : TE := fun σ H Q => ∃ R : V → Hp → Prop, t σ H R ∧ ∀ v H', R v H' → Q v H'
theorem pe_mid {e : Expr} {t : TE} (h : PE X e t) : PE X e (tMid t) := by
  refine ⟨fun pins s σ H Q I hm => ?_⟩
  obtain ⟨R, hR, hq⟩ := hm
  refine thn (h.run pins s σ H R I hR) fun u s1 hh => ?_
  obtain ⟨v, H1, I1, r1, q1⟩ := hh
  exact ⟨v, H1, I1, r1, hq v H1 q1⟩
/-- a text times an int -/
theorem op_repS : OpR X (binaryOp .Mult) (fun x y H Q => ∃ (z : Str) (n : Int), x = .str z ∧ y = .int n ∧ MulOk z n ∧ Q (.str (Txt.mul z n)) H) := by
  intro pins s σ H x y v u Q I rx ry h
  obtain ⟨z, n, rfl, rfl, ok, q⟩ := h
  obtain ⟨t, rfl⟩ := rx
  obtain ⟨t', rfl⟩ := ry
  exact PySem.SB.mul ok fun t2 tk => ⟨.str (Txt.mul z n), H, I.tok _, ⟨_, rfl⟩, q⟩
end
def longs : List Str := ["A", "dC", "aB"]
theorem long_ok : ∀ z ∈ longs, ∀ n ∈ ([4000, 4001] : List Int), MulOk z n ∧ (Txt.mul z n).length ≤ 9000 ∧ fault (cutS (Txt.mul z n) none (some n)).cps.toList = none ∧ cutS (Txt.mul z n) none (some n) ≠ "" := by
  unfold MulOk
  decide +kernel
end SB
-- R12
namespace SB
open PySem PySem.Spec PyProof.Rows L2
/-- __init__(self, f, g): self.f = f; self.g = g, of an own error class -/
def spErr2 (K : PySem.W.Frag) (f g : Str) : Sp := fun vs H Q _ => ∃ (a C : Addr) (y z : V), vs = [.ref a, y, z] ∧ OexC K C ∧ PySem.W.findIn K (.ref C) f = some none ∧ PySem.W.findIn K (.ref C) g = some none ∧ H a = some (exo a C none) ∧
  ∀ dx, H dx = none → dx ≠ a → Q .non (upd (upd (upd H dx (exd dx [(f, y)])) a (exo a C (some dx))) dx (exd dx [(g, z), (f, y)]))
structure Err2 (K : PySem.W.Frag) (mg : Str → Option Value) (x f g : Str) (C fI : Addr) : Prop where
  ox : OexC K C
  ec : ErrC K C
  iC : PySem.W.findIn K (.ref C) "__init__" = some (some (.ref fI))
  tI : PySem.W.typeIn K (.ref fI) = some (.type "function")
  nf : PySem.W.findIn K (.ref C) f = some none
  ng : PySem.W.findIn K (.ref C) g = some none
  at_ : mg x = some (.ref C)
theorem heap_raised2 {H : Hp} {a d : Addr} {o1 o2 o3 o4 o5 : HO} (ha : H a = none) (ne : d ≠ a) : upd (del (upd (upd (upd (upd H a o1) d o2) a o3) d o4) a) d o5 = upd H d o5 := by
  funext b
  by_cases e1 : b = d
  · subst e1
    rw [upd_same, upd_same]
  · rw [upd_ne e1, upd_ne e1]
    by_cases e2 : b = a
    · subst e2
      rw [del_same, ha]
    · rw [del_ne e2, upd_ne e1, upd_ne e2, upd_ne e1, upd_ne e2]
section
variable {X : Cx} {x f g : Str} {C fI : Addr} {k : Nat} {fd : FuncData} {ps : List Str} {W : WX} {e e2 : Expr} {te te2 : TE} {p pos pos2 : Pos} {CX : CXT}
/-- raise x(e, e2) -/
theorem ps_raise2 (T : Err2 X.K X.mg x f g C fI) (F : FnOk X.prog X.w X.K X.mg X.base CX k fI fd ps (spErr2 X.K f g)) (hb : Binds X.K fd ps []) (hr : Room (k + 1) X.A) (hc : X.calm = true) (tk : Takes X W) (hx : Passes CX X (fun _ _ _ => False)) (he : PE X e te) (he2 : PE X e2 te2) (hg : Gl X x := by rfl)
    (hs : starEach (e :: e2 :: []) X.env = (false, eval e X.env) :: starEach [e2] X.env := by rfl) (hs2 : starEach [e2] X.env = (false, eval e2 X.env) :: starEach [] X.env := by rfl) (hpl : (backTo pos (starEach [e2] X.env)).any (·.1) = false := by rfl) (hdb : (x == ("__debug__" : Str)) = false := by decide) :
    PS X (.Raise (some (.Call (.Name x p) [e, e2] [] pos)) none pos2) (fun _ σ H => tMkO C (spErr2 X.K f g) [] (tCons te (tCons te2 tNil)) σ H fun cls d H' => W cls d σ H') :=
  ps_raise (pos := pos2) hc tk (pmk_oex (pos := pos) (p := p) T.ox T.iC T.tI F hr hb .nil hx hg T.at_ (pa_cons he (pa_cons he2 pa_nil hs2) hs) hdb hs hpl)
end
/-- what such a raise asks, once its arguments are there -/
theorem raised2 {K : PySem.W.Frag} {mg : Str → Option Value} {x f g : Str} {C fI : Addr} {H : Hp} {y z : V} {Q : XK} (T : Err2 K mg x f g C fI) (h : ∀ d, H d = none → Q (.ref C) (some d) (upd H d (.xd [(g, z), (f, y)]))) :
    ([y, z] : List V).length ≤ 1000 ∧ ∀ a, H a = none → spErr2 K f g (.ref a :: ([y, z] ++ [])) (upd H a (exo a C none)) (fun v H2 => v = .non ∧ ∃ (d : Addr) (fs : List (Str × V)), H2 a = some (exo a C (some d)) ∧ H2 d = some (exd d fs) ∧ H d = none ∧ Q (.ref C) (some d) (upd (del H2 a) d (.xd fs))) (fun _ _ _ => False) := by
  refine ⟨by show 2 ≤ 1000; decide, fun a ha => ⟨a, C, y, z, rfl, T.ox, T.nf, T.ng, upd_same, fun dx hd ne => ⟨rfl, dx, [(g, z), (f, y)], ?_, upd_same, ?_, ?_⟩⟩⟩
  · rw [upd_ne (Ne.symm ne), upd_same]
  · rw [upd_ne ne] at hd
    exact hd
  · rw [heap_raised2 ha ne]
    refine h dx ?_
    rw [upd_ne ne] at hd
    exact hd
theorem init2_sp {K : PySem.W.Frag} {f g : Str} {vs : List V} {H : Hp} {Q : VK} {E : XK} (h : spErr2 K f g vs H Q E) : vs.length = 3 := by
  obtain ⟨a, C, y, z, rfl, _⟩ := h
  rfl
/-- the reading of self.f = f; self.g = g -/
theorem init2_read {K : PySem.W.Frag} {f g : Str} {vs : List V} {H : Hp} {Q : VK} {E : XK} {N : List Str} (hN : N.length = 3) (h : spErr2 K f g vs H Q E) : tSeq (tOst K f (tVar 0) (tVar 1)) (tOst K g (tVar 0) (tVar 2)) { nx := fun _ H' => Q .non H', rt := Q } (L2.start N vs) H := by
  obtain ⟨a, C, y, z, rfl, T, hf, hg, ha, q⟩ := h
  match N, hN with
  | [_, _, _], _ =>
    refine ⟨y, rfl, .ref a, rfl, a, C, rfl, T, hf, .inl ⟨ha, fun dx h1 h2 => ?_⟩⟩
    refine ⟨z, rfl, .ref a, rfl, a, C, rfl, T, hg, .inr ⟨dx, [(f, y)], upd_same, ?_, by show 1 ≤ 900; decide, q dx h1 h2⟩⟩
    rw [upd_ne h2, upd_same]
end SB
-- R13
namespace SB
open PySem PySem.Spec PyProof.Rows L2
section
variable {X : Cx}
/-- one rule or the other -/
theorem ix_or {r1 r2 : R2} (h1 : IxR X r1) (h2 : IxR X r2) : IxR X (fun x y H Q => r1 x y H Q ∨ r2 x y H Q) := by
  intro value slice pins s σ H x y v u Q I rx ry h hs
  rcases h with h | h
  · exact h1 value slice pins s σ H x y v u Q I rx ry h hs
  · exact h2 value slice pins s σ H x y v u Q I rx ry h hs
theorem call_or {f : Value} {r1 r2 : List V → Hp → VK → Prop} (h1 : CallR X f r1) (h2 : CallR X f r2) : CallR X f (fun xs H Q => r1 xs H Q ∨ r2 xs H Q) := by
  intro pins s σ H xs us Q I r h
  rcases h with h | h
  · exact h1 pins s σ H xs us Q I r h
  · exact h2 pins s σ H xs us Q I r h
theorem op_or {op : Value → Value → Sem Value} {r1 r2 : R2} (h1 : OpR X op r1) (h2 : OpR X op r2) : OpR X op (fun x y H Q => r1 x y H Q ∨ r2 x y H Q) := by
  intro pins s σ H x y v u Q I rx ry h
  rcases h with h | h
  · exact h1 pins s σ H x y v u Q I rx ry h
  · exact h2 pins s σ H x y v u Q I rx ry h
end
end SB
-- R14
namespace SB
open PySem PySem.Spec PyProof.Rows L2
/-! ### a class whose __iter__ hands the iterator of a text out -/
/-- at it: the iterator of the text z, none taken -/
def SItO (it : Addr) (z : Str) : HO := .ext fun h => ∃ t : Tok, h.get? it = some { cls := .type (strIterType z), data := .fields #[.str z t, .int 0 0] }
theorem sit_type (z : Str) : strIterType z = "str_ascii_iterator" ∨ strIterType z = "str_iterator" := by
  unfold strIterType
  split
  · exact .inl rfl
  · exact .inr rfl
theorem sit_ok {P : Program} {w : World} {H : Hp} {h : Heap} {it : Addr} {z : Str} {t : Tok} (e : h.get? it = some { cls := .type (strIterType z), data := .fields #[.str z t, .int 0 0] }) : ObjOk P w H h it (SItO it z) :=
  ⟨⟨t, e⟩, ⟨_, e⟩, fun h1 h2 q k => by
    obtain ⟨t2, e2⟩ := q
    exact ⟨t2, k _ e2⟩⟩
theorem sit_next {M : Model} {A : Around} {E : Value → Shared → Prop} {Q : Value → Shared → Prop} {s : Shared} {it : Addr} {z : Str} {t : Tok} (h : s.heap.get? it = some { cls := .type (strIterType z), data := .fields #[.str z t, .int 0 0] })
    (q : Q (.ref it) s) : PySem.W.OwitIt M A Q E (.ref it) s := by
  have ty : s.TypeIs (.ref it) (strIterType z) := ⟨_, h, rfl⟩
  unfold PySem.W.OwitIt
  rcases sit_type z with e | e
  · rw [e] at ty
    exact wpAny_specialOf ty F.slot_str_ascii_iterator_next.lookup q
  · rw [e] at ty
    exact wpAny_specialOf ty F.slot_str_iterator_next.lookup q
section
variable {X : Cx} {pins : List (Addr × Obj)} {σ : L2.St} {H : Hp} {s : Shared}
/-- iter(z), z a text -/
theorem call_iterS : CallR X (.builtin "iter") (fun xs H Q => ∃ z : Str, xs = [.str z] ∧ ∀ it, H it = none → X.s_0.heap.objs.size ≤ it → Q (.ref it) (upd H it (SItO it z))) := by
  intro pins s σ H xs us Q I r h
  obtain ⟨z, rfl, q⟩ := h
  obtain ⟨u, rfl, t, rfl⟩ := vals1 r
  refine Calls.call_function_entry (id := "iter") (by decide +kernel) (by decide +kernel) PySem.W.kdk_entry_iter (PySem.W.kdk_args_iter (Value.str z t)) ?_
  unfold Builtin.«iter»
  refine wpAny_bind (m := someArgs "iter" 1 2 ⟨[Value.str z t], []⟩) (wpAny_of_eq (a := [Value.str z t]) (by first | rfl | kernel_rfl!) ?_)
  show wpAny _ _ (pyIter (.str z t) >>= _) _ _ _
  refine wpAny_bind (wpAny_pyIter_strU (wpAny_pure ⟨.ref s.heap.objs.size, rfl, ?_⟩))
  have at_ : (s.heap.push { cls := .type (strIterType z), data := .fields #[.str z t, .int 0 0] }).get? s.heap.objs.size = some { cls := .type (strIterType z), data := .fields #[.str z t, .int 0 0] } := Heap.get?_push_size _ rfl
  exact ⟨.ref s.heap.objs.size, _, I.laid (t' := s.toks) (fun b u e => Heap.get?_push_of_some _ e) (Nat.le_refl _) (sit_ok at_), rfl, q _ (I.hok.fresh (Nat.le_refl _)) I.sz⟩
/-- what was laid may be forgotten -/
theorem untrack {a : Addr} {φ : Heap → Prop} (I : Inv X pins σ (upd H a (.ext φ)) s) (hn : H a = none) : Inv X pins σ H s := by
  have ne : ∀ {b : Addr} {u : HO}, H b = some u → b ≠ a := fun e => ne_of_none e hn
  have back : ∀ {b : Addr} {u : HO}, (∀ ψ, u ≠ .ext ψ) → upd H a (.ext φ) b = some u → H b = some u := fun {b u} n e => by
    by_cases hb : b = a
    · rw [hb, upd_same] at e
      exact (n φ (Option.some.inj e).symm).elim
    · rw [upd_ne hb] at e
      exact e
  have none_ : ∀ {b : Addr}, upd H a (.ext φ) b = none → H b = none := fun {b} e => by
    by_cases hb : b = a
    · rw [hb]
      exact hn
    · rw [upd_ne hb] at e
      exact e
  refine { ok := I.ok, os := I.os, bare := I.bare, base := ?_, loc := I.loc, cell := I.cell, free := none_ I.free, freeC := fun x c e => none_ (I.freeC x c e), pin := fun p hp => ?_, hok := fun b u e => ?_, len := I.len }
  · have u := I.base
    refine ⟨u.keep, u.slot, fun b o e n hx => none_ (u.free b o e n hx), u.there, fun b xs e => back (fun ψ z => ?_) (u.tups b xs e), fun b o v e => back (fun ψ z => ?_) (u.frzs b o v e), fun b ps e => ?_⟩
    · cases z
    · cases z
    · obtain ⟨m, q⟩ := u.tbls b ps e
      refine ⟨m, back (fun ψ z => ?_) q⟩
      cases z
  · obtain ⟨e1, e2, e3⟩ := I.pin p hp
    exact ⟨e1, none_ e2, e3⟩
  · have x := I.hok b u (by rw [upd_ne (ne e)]; exact e)
    refine x.stay (fun c v _ q => q) (fun c q => back (fun ψ z => ?_) q) (fun c xs q => back (fun ψ z => ?_) q)
    · cases z
    · cases z
end
/-- what is told of the class's __iter__, at f -/
structure IterOk (P : Program) (w : World) (K : PySem.W.Frag) (mg : Str → Option Value) (base : Heap) (C f : Addr) (g : Str) (k : Nat) : Prop where
  find : PySem.W.findIn K (.ref C) "__iter__" = some (some (.ref f))
  fn : PySem.W.isFn K (.ref f) = true
  run : ∀ (A : Around) (outer : List Env) (s : Shared) (H : Hp) (a dx : Addr) (z : Str), Room k A → Env0 P w K mg base A outer s H → H a = some (.ins C dx [(g, .str z)]) →
    codeAny (model P w) A (.call (.ref f) ⟨[.ref a], []⟩) (CR C8.CX0 outer P w H s (fun v H' => ∃ it, v = .ref it ∧ H it = none ∧ s.heap.objs.size ≤ it ∧ H' = upd H it (SItO it z)) C8.E0) s
def iOwnS (C : Addr) (g : Str) (te : TE) : TI := fun σ H R => te σ H fun v H1 => ∃ (a dx : Addr) (z : Str), v = .ref a ∧ H1 a = some (.ins C dx [(g, .str z)]) ∧ R (Its z) H1
/-- for x in e, e an instance of it -/
theorem pi_ownS {X : Cx} {tg e : Expr} {te : TE} {C f : Addr} {g : Str} {k : Nat} (T : IterOk X.prog X.w X.K X.mg X.base C f g k) (hr : Room k X.A) (he : PE X e te) : PI X tg e (iOwnS C g te) := by
  refine ⟨fun pins s σ H R I h => ?_⟩
  refine thn (he.run pins s σ H _ I h) fun v s1 hh => ?_
  obtain ⟨y, H1, I1, r1, a, dx, z, rfl, ha, q⟩ := hh
  obtain rfl : v = Value.ref a := r1
  obtain ⟨mA, O, _⟩ := ins_get I1.hok ha
  obtain ⟨od, J, _⟩ := O.look
  obtain ⟨m, hns, _⟩ := I1.loc
  have Fm : Fr X.base X.env.locals s1.heap m := ⟨hns, I1.bk, Nat.le_trans I1.ok.bsz I1.ok.above⟩
  refine PySem.W.owit_iter Fm I1.ok.mod.kin J T.find T.fn (wpAny_call (codeAny_mono (T.run X.A X.stack s1 H1 a dx z hr I1.env0 ha) fun r s2 hq => ?_))
  cases r with
  | error er => exact False.elim hq
  | ok fl =>
    cases fl with
    | ret u =>
      obtain ⟨y2, H2, I2, r2, it, rfl, hn, hs, rfl⟩ := I1.after hq
      obtain rfl : u = Value.ref it := r2
      have hob : ObjOk X.prog X.w (upd H1 it (SItO it z)) s2.heap it (SItO it z) := I2.hok it _ upd_same
      obtain ⟨⟨t, at_⟩, _, _⟩ := hob
      have I3 := untrack I2 hn
      refine sit_next at_ ⟨it, [it], _, _, H1, rfl, I3, turn_str it z t (strIterType z) (sit_type z), ⟨_, at_, rfl, rfl⟩, fun b hb => ?_, q⟩
      obtain rfl : b = it := by simpa using hb
      exact I1.fpOk hs hn
    | next => exact False.elim hq
    | brk => exact False.elim hq
    | cont => exact False.elim hq
end SB
-- R15
namespace SB
open PySem PySem.Spec PyProof.Rows L2
section
variable {X : Cx} {CX : CXT} {k : Nat} {C f : Addr} {fd : FuncData} {ps : List Str} {sp : Sp} {E : XK} {pins : List (Addr × Obj)} {σ : L2.St} {H : Hp} {s : Shared}
/-- the frame that the library's rules ask for -/
theorem frame_of (I : Inv X pins σ H s) : ∃ m, Fr X.base X.env.locals s.heap m := by
  obtain ⟨m, hns, _⟩ := I.loc
  exact ⟨m, hns, I.bk, Nat.le_trans I.ok.bsz I.ok.above⟩
/-- len(x) by the own __len__ -/
def rLenOwn (C : Addr) (sp : Sp) (E : XK) : List V → Hp → VK → Prop := fun xs H Q => ∃ (a dx : Addr) (fs : List (Str × V)), xs = [.ref a] ∧ H a = some (.ins C dx fs) ∧
  sp [.ref a] H (fun v H' => ∃ n : Int, v = .int n ∧ 0 ≤ n ∧ n < 2 ^ 63 ∧ Q (.int n) H') E
theorem call_lenOwn (hs : PySem.W.findIn X.K (.ref C) "__len__" = some (some (.ref f))) (hf : PySem.W.isFn X.K (.ref f) = true) (F : FnOk X.prog X.w X.K X.mg X.base CX k f fd ps sp) (hr : Room (k + 1) X.A) (hb : Binds X.K fd ps []) (hx : Passes CX X E) :
    CallR X (.builtin "len") (rLenOwn C sp E) := by
  intro pins s σ H xs us Q I r h
  obtain ⟨a, dx, fs, rfl, ea, q⟩ := h
  obtain ⟨u, rfl, ru⟩ := vals1 r
  obtain rfl : u = Value.ref a := ru
  obtain ⟨od, J⟩ := inst_of I ea
  obtain ⟨m, Fm⟩ := frame_of I
  refine PySem.W.len_K Fm I.ok.mod.kin J hs hf ?_
  refine thn (run_in1 (us := [.ref a]) (vs := [.ref a]) F hr hb hx I (.cons rfl .nil) q) fun u s1 hh => ?_
  obtain ⟨w, H1, I1, r1, n, rfl, h0, h1, q1⟩ := hh
  obtain ⟨t, rfl⟩ := r1
  exact ⟨⟨h0, h1⟩, .int n, H1, I1.tok _, ⟨_, rfl⟩, q1⟩
end
end SB
-- R16
namespace SB
open PySem PySem.Spec PyProof.Rows L2
/-! ### a text from its end -/
theorem fm_map {α β : Type} {f : α → Option β} {h : α → β} : ∀ xs : List α, (∀ x ∈ xs, f x = some (h x)) → xs.filterMap f = xs.map h
  | [], _ => rfl
  | a :: r, e => by
    rw [List.filterMap_cons, e a List.mem_cons_self, fm_map r fun x hx => e x (List.mem_cons_of_mem _ hx)]
    rfl
theorem rev_pick (l : List Nat) : ((List.range l.length).map fun (k : Nat) => (((l.length : Int) - 1) + (-1) * (k : Int)).toNat).filterMap (fun i => l[i]?) = l.reverse := by
  rw [List.filterMap_map, fm_map (h := fun k => l.getD (l.length - 1 - k) 0)]
  · refine List.ext_getElem (by simp) fun k h2 h3 => ?_
    rw [List.getElem_map, List.getElem_range, List.getElem_reverse, List.getD_eq_getElem?_getD, List.getElem?_eq_getElem (by simp at h2; omega)]
    rfl
  · intro k hk
    have hk' : k < l.length := List.mem_range.mp hk
    have e : (((l.length : Int) - 1) + (-1) * (k : Int)).toNat = l.length - 1 - k := by omega
    show l[(((l.length : Int) - 1) + (-1) * (k : Int)).toNat]? = some (l.getD (l.length - 1 - k) 0)
    rw [e, List.getD_eq_getElem?_getD, List.getElem?_eq_getElem (by omega)]
    rfl
theorem rev_indices (n : Nat) : Builtin.Str.strSliceIndices none none (-1) n = (List.range n).map fun (k : Nat) => (((n : Int) - 1) + (-1) * (k : Int)).toNat := by
  have h1 : ((-1 : Int) > 0) = False := by simp
  show sliceRange (if (-1 : Int) > 0 then 0 else (n : Int) - 1) (if (-1 : Int) > 0 then (n : Int) else -1) (-1) = _
  simp only [h1, if_false]
  unfold sliceRange
  simp only [h1, if_false]
  have e1 : (- -1 : Int) = 1 := by decide
  have hc : (if (n : Int) - 1 > -1 then ((n : Int) - 1 - -1 - -1 - 1) / - -1 else 0).toNat = n := by
    by_cases hn : n = 0
    · subst hn
      rfl
    · rw [if_pos (by omega), e1, Int.ediv_one]
      omega
  rw [hc]
def revS (z : Str) : Str := T z.cps.toList.reverse
section
variable {X : Cx}
/-- e[::st], e a text, st -1 -/
theorem pe_revS {e st : Expr} {te ts : TE} {p2 pos : Pos} (he : PE X e te) (hst : PE X st ts) :
    PE X (.Subscript e (.Slice none none (some st) p2) pos) (fun σ H Q => te σ H fun x H1 => ts σ H1 fun y H2 => ∃ z : Str, x = .str z ∧ y = .int (-1) ∧ z.length ≤ sizeLine ∧ Q (.str (revS z)) H2) := by
  refine ⟨fun pins s σ H Q I h => ?_⟩
  refine Subscript_ (thn (he.run pins s σ H _ I h) fun v s1 hh => ?_)
  obtain ⟨x, H1, I1, r1, q1⟩ := hh
  refine wpAny_Slice ?_
  rw [evalPart_none, evalPart_some]
  refine wpAny_pure (wpAny_pure (thn (hst.run pins s1 σ H1 _ I1 q1) fun u s2 hh => ?_))
  obtain ⟨y, H2, I2, r2, z, rfl, rfl, hz, q⟩ := hh
  obtain ⟨t, rfl⟩ := r1
  obtain ⟨t2, rfl⟩ := r2
  have I4 : Inv X pins σ H2 { s2 with heap := s2.heap.push { cls := .type "slice", data := .fields #[.none, .none, .int (-1) t2] } } := I2.kept (t' := s2.toks) fun b ob q => Heap.get?_push_of_some _ q
  refine tail_any (ops := [.ref s2.heap.objs.size, .str z t]) (typeIs_str _ _ _) F.slot_str_getitem.lookup (wpAny_getItem_str_slice (l := none) (u := none) (st := some (-1, t2)) ⟨_, Heap.get?_push_size _ rfl, rfl, rfl⟩ rfl ?_) (by with_unfolding_all rfl)
  have hrev : (((Builtin.Str.strSliceIndices none none (-1) z.length).filterMap (z.cps[·]?)).toArray : Array Nat) = (z.cps.toList.reverse).toArray := by
    rw [rev_indices]
    congr 1
    have := rev_pick z.cps.toList
    rw [show z.cps.toList.length = z.length from rfl] at this
    simpa using this
  show Made.post (if ((-1 : Int) == 1 && (Builtin.Str.strSliceIndices none none (-1) z.length).length == z.length) = true then Made.val (.str z t)
    else Made.str ⟨((Builtin.Str.strSliceIndices none none (-1) z.length).filterMap (z.cps[·]?)).toArray⟩) (EP X pins σ Q) _
  rw [if_neg (by simp), hrev]
  refine ⟨?_, .str (revS z), H2, I4.tok _, ⟨_, rfl⟩, q⟩
  show z.cps.toList.reverse.toArray.size ≤ sizeLine
  rw [List.size_toArray, List.length_reverse]
  exact hz
end
end SB
-- R17
namespace SB
open PySem PySem.Spec PyProof.Rows L2
section
variable {X : Cx} {CX : CXT} {k : Nat} {C f : Addr} {fd : FuncData} {ps : List Str} {sp : Sp} {E : XK} {pins : List (Addr × Obj)} {σ : L2.St} {H : Hp} {s : Shared}
/-- a def called with two values from where we stand -/
theorem run_two {Q : VK} {u v : Value} {x y : V} (F : FnOk X.prog X.w X.K X.mg X.base CX k f fd ps sp) (hr : Room k X.A) (hb : Binds X.K fd ps []) (hx : Passes CX X E) (I : Inv X pins σ H s) (rx : RelV x u) (ry : RelV y v) (h : sp [x, y] H Q E) :
    wpAny (model X.prog X.w) X.A (call (.ref f) [u, v]) (EP X pins σ Q) X.xe s := run_at F hr I.env0 hb hx I (.cons rx (.cons ry .nil)) h
/-- the class of a value, looked up -/
theorem looks_ty {x : V} {u t : Value} (I : Inv X pins σ H s) (rx : RelV x u) (ty : TyX X.K H x t) : PySem.W.Looks (model X.prog X.w) s.heap (typeOf u) t := by
  obtain ⟨P, kx, hp, _⟩ := kit_of I rx ty
  exact kx.ty _ _ I.kIn hp
/-- x == y by x's own __eq__, y any value -/
def rEqOwn (K : PySem.W.Frag) (C : Addr) (sp : Sp) (E : XK) : R2 := fun x y H Q => ∃ (a dx : Addr) (fs : List (Str × V)) (t : Value), x = .ref a ∧ H a = some (.ins C dx fs) ∧ TyX K H y t ∧ PySem.W.notFirst K C t = true ∧
  sp [x, y] H (fun v H' => ∃ r, v = .bl r ∧ Q (.bl r) H') E
theorem op_eqOwn (hs : PySem.W.findIn X.K (.ref C) "__eq__" = some (some (.ref f))) (hf : PySem.W.isFn X.K (.ref f) = true) (F : FnOk X.prog X.w X.K X.mg X.base CX k f fd ps sp) (hr : Room (k + 1) X.A) (hb : Binds X.K fd ps []) (hx : Passes CX X E) :
    OpR X (compareOp .Eq) (rEqOwn X.K C sp E) := by
  intro pins s σ H x y u v Q I rx ry h
  obtain ⟨a, dx, fs, t, rfl, ea, ty, nf, q⟩ := h
  obtain rfl : u = Value.ref a := rx
  obtain ⟨od, J⟩ := inst_of I ea
  obtain ⟨m, Fm⟩ := frame_of I
  have un := hr.un
  show wpAny _ _ (richCompare .Eq (.ref a) v) _ _ _
  refine PySem.W.cmp_K (op := .Eq) (by omega) Fm I.ok.mod.kin J (looks_ty I ry ty) nf hs hf ?_
  refine thn (run_two (x := .ref a) F (hr.mono (by omega)) hb hx I rfl ry q) fun w s1 hh => ?_
  obtain ⟨z, H1, I1, r1, r, rfl, q1⟩ := hh
  obtain rfl : w = Value.bool r := r1
  exact ⟨.bl r, H1, I1, rfl, q1⟩
/-- x * y by the own __mul__ of both -/
def rMulOwn (C : Addr) (sp : Sp) (E : XK) : R2 := fun x y H Q => ∃ (a b dx dy : Addr) (fs gs : List (Str × V)), x = .ref a ∧ y = .ref b ∧ H a = some (.ins C dx fs) ∧ H b = some (.ins C dy gs) ∧
  sp [x, y] H (fun v H' => ∃ c, v = .ref c ∧ Q (.ref c) H') E
theorem op_mulOwn (hc : PySem.W.selfFirst X.K C = true) (hs : PySem.W.findIn X.K (.ref C) "__mul__" = some (some (.ref f))) (hf : PySem.W.isFn X.K (.ref f) = true) (F : FnOk X.prog X.w X.K X.mg X.base CX k f fd ps sp) (hr : Room k X.A) (hb : Binds X.K fd ps []) (hx : Passes CX X E) :
    OpR X (binaryOp .Mult) (rMulOwn C sp E) := by
  intro pins s σ H x y u v Q I rx ry h
  obtain ⟨a, b, dx, dy, fs, gs, rfl, rfl, ea, eb, q⟩ := h
  obtain rfl : u = Value.ref a := rx
  obtain rfl : v = Value.ref b := ry
  obtain ⟨od, J⟩ := inst_of I ea
  obtain ⟨od2, J2⟩ := inst_of I eb
  obtain ⟨m, Fm⟩ := frame_of I
  refine PySem.W.binop_K (op := .Mult) Fm I.ok.mod.kin J J2.type hc hs hf ?_
  refine thn (run_two (x := .ref a) (y := .ref b) F hr hb hx I rfl rfl q) fun w s1 hh => ?_
  obtain ⟨z, H1, I1, r1, c, rfl, q1⟩ := hh
  obtain rfl : w = Value.ref c := r1
  exact ⟨.ref c, H1, I1, rfl, q1⟩
/-- ~x by the own __invert__ -/
def rInvOwn (C : Addr) (sp : Sp) (E : XK) : V → Hp → VK → Prop := fun x H Q => ∃ (a dx : Addr) (fs : List (Str × V)), x = .ref a ∧ H a = some (.ins C dx fs) ∧ sp [x] H Q E
theorem un_invOwn (hs : PySem.W.findIn X.K (.ref C) "__invert__" = some (some (.ref f))) (hf : PySem.W.isFn X.K (.ref f) = true) (F : FnOk X.prog X.w X.K X.mg X.base CX k f fd ps sp) (hr : Room k X.A) (hb : Binds X.K fd ps []) (hx : Passes CX X E) :
    UnR X (unaryOp .Invert) (rInvOwn C sp E) := by
  intro pins s σ H x v Q I rx h
  obtain ⟨a, dx, fs, rfl, ea, q⟩ := h
  obtain rfl : v = Value.ref a := rx
  obtain ⟨od, J⟩ := inst_of I ea
  obtain ⟨m, Fm⟩ := frame_of I
  exact PySem.W.ksp_inv Fm I.ok.mod.kin J hs hf (run_at (vs := [.ref a]) F hr I.env0 hb hx I (.cons rfl .nil) q)
end
end SB
-- R18
namespace SB
open PySem PySem.Spec PyProof.Rows L2
section
variable {prog : Program} {w : World} {A : Around} {E : Value → Shared → Prop} {h : Heap} {g : Array GenState} {d : Drawn} {t : Nat} {os : OsState} {C x f : Addr} {B : String} {bm : List Value} {b : Value}
/-- object.__ne__ where the class tells its own __eq__ -/
theorem ne_entry (T : h.OwnEqNoNe x C f B bm) (hu : A.units < cLine) {Q : PySem.Fin → Shared → Prop}
    (hq : wpAny (model prog w) A (call (.ref f) [.ref x, b]) (fun v s' => ∃ r, v = .bool r ∧ Q (.done (.ret (.bool (!r)))) s') E ⟨h, g, d, t, os⟩) :
    wpAny (model prog w) A (Builtin.«object.__ne__» ⟨[.ref x, b], []⟩) Q E ⟨h, g, d, t, os⟩ := by
  unfold Builtin.«object.__ne__»
  repeat (first | (with_reducible refine wpAny_cRoomFor hu ?_) | (refine wpAny_bind (m := callSpecialIfBound? (.ref x) (Str.ofString "__eq__") [b]) (wpAny_callSpecialIfBound?_own T.ownEq (wpAny_mono hq (fun v s' hv => by
    obtain ⟨c, rfl, hc⟩ := hv
    repeat (first | exact hc | exact wpAny_pure hc | exact wpAny_truthy_bool hc | (refine wpAny_bind (m := truthy (.bool _)) (wpAny_truthy_bool ?_)) | wp_step)) fun _ _ z => z))) | wp_step)
theorem ne_try (FB : CmpFacts B bm) (T : h.OwnEqNoNe x C f B bm) (hu : A.units + 1 < cLine) {Q : Option Value → Shared → Prop}
    (hq : wpAny (model prog w) A.in1 (call (.ref f) [.ref x, b]) (fun v s' => ∃ r, v = .bool r ∧ Q (some (.bool (!r))) s') E ⟨h, g, d, t, os⟩) :
    wpAny (model prog w) A (tryCompare (.ref x) "__ne__" b) Q E ⟨h, g, d, t, os⟩ := by
  have T' := T
  obtain ⟨o, of, nm, q, N, bs, hdct, sn, sub, ab, col, dd, k0, k1, k2, k3, k5, newId, mN, yv, hx, hc, hC, hn, _, _, _, _, _, hne⟩ := T'
  simp only [tryCompare]
  have entry := ne_entry (A := A.in1) T hu (b := b) (Q := fun fin s' => ∃ r : Bool, fin = .done (.ret (.bool (!r))) ∧ Q (some (.bool (!r))) s') (wpAny_mono hq (fun v s' hv => by
    obtain ⟨r, rfl, hr⟩ := hv
    exact ⟨r, rfl, r, rfl, hr⟩) fun _ _ e => e)
  refine wpAny_bind (wpAny_callSpecialIfBound?_inst hx hc hC hn hne FB.mro FB.ne (wpAny_call (codeAny_call_builtin FB.ne.plain F.cmpEntry_ne (wpAny_check_slot_inst F.cmpKind_ne F.cmpSplit_ne (F.cmpArgs_ne (.ref x) b) FB.hasObject hx hc hC (wpAny_mono entry (fun fin s' hv => ?_) fun _ _ e => e)))))
  obtain ⟨r, rfl, hr⟩ := hv
  exact wpAny_pure hr
/-- x != b by the own __eq__, b of another kind -/
theorem ne_other (FB : CmpFacts B bm) (T : h.OwnEqNoNe x C f B bm) {tb : Value} (hb : PySem.W.Looks (model prog w) h (typeOf b) tb) (hsub : PySem.W.Looks (model prog w) h (isSubtype tb (.ref C)) false) (hne : (Value.ref C != tb) = true) (hu : A.units + 1 < cLine) {Q : Value → Shared → Prop}
    (hq : wpAny (model prog w) A.in1 (call (.ref f) [.ref x, b]) (fun v s' => ∃ r, v = .bool r ∧ Q (.bool (!r)) s') E ⟨h, g, d, t, os⟩) :
    wpAny (model prog w) A (compareOp .NotEq (.ref x) b) Q E ⟨h, g, d, t, os⟩ := by
  have T' := T
  obtain ⟨o, of, nm, q, N, bs, hdct, sn, sub, ab, col, dd, k0, k1, k2, k3, k5, newId, mN, yv, hx, hc, _⟩ := T'
  show wpAny (model prog w) A (richCompare .NotEq (.ref x) b) Q E ⟨h, g, d, t, os⟩
  unfold richCompare
  simp only [oneThing_ref]
  refine wpAny_holding (wpAny_bind (wpAny_cRoomFor (by omega) ?_))
  rw [cmpInfo_NotEq]
  dsimp only
  refine wpAny_bind (wpAny_typeOf_ref hx ?_)
  rw [hc]
  refine wpAny_bind (hb.here ?_)
  rw [hne]
  simp only [if_true]
  refine wpAny_bind (hsub.here ?_)
  simp only [Bool.false_eq_true, if_false]
  refine wpAny_bind (ne_try FB T hu (wpAny_mono hq (fun v s' hv => ?_) fun _ _ e => e))
  obtain ⟨r, rfl, hr⟩ := hv
  exact ⟨r, rfl, wpAny_pure hr⟩
end
section
variable {X : Cx} {CX : CXT} {k : Nat} {C f : Addr} {fd : FuncData} {ps : List Str} {sp : Sp} {E : XK}
theorem own_eq {pins : List (Addr × Obj)} {σ : L2.St} {H : Hp} {s : Shared} {a dx : Addr} {fs : List (Str × V)} (T : EqC X.K C f) (I : Inv X pins σ H s) (ea : H a = some (.ins C dx fs)) : s.heap.OwnEqNoNe a C f "object" [.type "object"] := by
  obtain ⟨nm, qn, N, bs, hdct, sn, sub, ab, col, dd, k0, k1, k2, k3, k5, newId, lk, ok, e1, e2⟩ := T.obj
  have KX := I.kIn
  obtain ⟨_, _, _, oa, _⟩ := (show ObjOk X.prog X.w H s.heap a (.ins C dx fs) from I.hok a _ ea)
  have hns : s.heap.Ns N (s.heap.nsMap N) := .of_isNs (PySem.W.isNs_of_in KX ok)
  have m1 : s.heap.nsMap N "__eq__" = some (.ref f) := ns_has KX hns e1
  have m2 : s.heap.nsMap N "__ne__" = none := PySem.W.ns_none_of KX hns e2
  obtain ⟨o, ho, hc⟩ := Option.map_eq_some_iff.mp (show (X.K.lookup f).map (·.cls) = some (.type "function") from beq_iff_eq.mp T.fn)
  exact ⟨_, o, nm, qn, N, bs, hdct, sn, sub, ab, col, dd, k0, k1, k2, k3, k5, newId, _, _, oa, rfl, KX _ _ lk, hns, m1, KX _ _ ho, hc, PySem.F.mro_object, rfl, m2⟩
/-- x != y by x's own __eq__, y of another kind -/
def rNeOther (K : PySem.W.Frag) (C : Addr) (sp : Sp) (E : XK) : R2 := fun x y H Q => ∃ (a dx : Addr) (fs : List (Str × V)) (t : Value), x = .ref a ∧ H a = some (.ins C dx fs) ∧ TyX K H y t ∧ PySem.W.subIn K t (.ref C) = some false ∧ (Value.ref C != t) = true ∧
  sp [x, y] H (fun v H' => ∃ r, v = .bl r ∧ Q (.bl (!r)) H') E
theorem op_neOther (T : EqC X.K C f) (F : FnOk X.prog X.w X.K X.mg X.base CX k f fd ps sp) (hr : Room (k + 1) X.A) (hb : Binds X.K fd ps []) (hx : Passes CX X E) : OpR X (compareOp .NotEq) (rNeOther X.K C sp E) := by
  intro pins s σ H x y u v Q I rx ry h
  obtain ⟨a, dx, fs, t, rfl, ea, ty, hs, hn, q⟩ := h
  obtain rfl : u = Value.ref a := rx
  have own := own_eq T I ea
  have lt := looks_ty I ry ty
  have ls : PySem.W.Looks (model X.prog X.w) s.heap (isSubtype t (.ref C)) false := PySem.W.looks_subIn I.kIn hs
  have un := hr.un
  obtain ⟨hp, g, d, tk, os⟩ := s
  refine ne_other PySem.F.cmp_object own lt ls hn (by omega) ?_
  refine thn (run_in1 (us := [.ref a, v]) (vs := [.ref a, y]) F hr hb hx I (.cons rfl (.cons ry .nil)) q) fun w s1 hh => ?_
  obtain ⟨z, H1, I1, r1, r, rfl, q1⟩ := hh
  obtain rfl : w = Value.bool r := r1
  exact ⟨r, rfl, .bl (!r), H1, I1, rfl, q1⟩
/-- x * y by x's own __mul__, which raises, y of a built-in kind -/
theorem mul_type {pins : List (Addr × Obj)} {σ : L2.St} {H : Hp} {s : Shared} {a : Addr} {ox : Obj} {od : Option Obj} {b : Value} {T : String} {fo ro rc : Option Value} {Q : Value → Shared → Prop} {Er : Value → Shared → Prop} (I : Inv X pins σ H s) (J : PySem.W.InstAt s.heap a ox C od)
    (lb : PySem.W.Looks (model X.prog X.w) s.heap (typeOf b) (.type T)) (hc : PySem.W.selfFirst X.K C = true) (hs : PySem.W.findIn X.K (.ref C) "__mul__" = some (some (.ref f))) (hf : PySem.W.isFn X.K (.ref f) = true) (hr : PySem.W.findIn X.K (.ref C) "__rmul__" = some rc) (hp : rc = none ∨ ∃ g : Addr, rc = some (.ref g))
    (h1 : PySem.W.findIn X.K (.type T) "__mul__" = some fo) (h2 : PySem.W.findIn X.K (.type T) "__rmul__" = some ro) (hsub : PySem.W.subIn X.K (.type T) (.ref C) = some false)
    (hq : wpAny (model X.prog X.w) X.A (call (.ref f) [.ref a, b]) (PySem.W.CmpBack Q) Er s) : wpAny (model X.prog X.w) X.A (binaryOp .Mult (.ref a) b) Q Er s := by
  have KX := I.kIn
  obtain ⟨cd, rest, hcd, hm⟩ := PySem.W.ksp_first hc
  have one := PySem.W.ksp_try (Q := Q) KX J hs hf hq
  obtain ⟨hh, g, d, tt, os⟩ := s
  have la : PySem.W.Looks (model X.prog X.w) hh (typeOf (.ref a)) (.ref C) := J.type
  have lb' : PySem.W.Looks (model X.prog X.w) hh (typeOf b) (.type T) := lb
  have lf : PySem.W.Looks (model X.prog X.w) hh (fillsNumberSlot (.ref C) "mul") true := PySem.W.fills_K KX hcd hm hs
  have lg : PySem.W.Looks (model X.prog X.w) hh (fillsNumberSlot (.type T) "mul") ((fo.isSome && !isSeqSlot fo) || (ro.isSome && !isSeqSlot ro)) := PySem.W.ksp_fillsT KX h1 h2
  have ls : PySem.W.Looks (model X.prog X.w) hh (isSubtype (.type T) (.ref C)) false := PySem.W.looks_subIn KX hsub
  have lp : PySem.W.Looks (model X.prog X.w) hh (numberSlotInPython (.ref C) "mul") true := PySem.W.ksp_inPy KX hs hr hp
  have ln : PySem.W.Looks (model X.prog X.w) hh (numberSlotInPython (.type T) "mul") false := PySem.W.Looks.of_pure rfl
  have lr : PySem.W.Looks (model X.prog X.w) hh (typeLookup (.type T) (dunderR "mul")) ro := PySem.W.looks_findIn KX h2
  generalize ((fo.isSome && !isSeqSlot fo) || (ro.isSome && !isSeqSlot ro)) = right at lg
  have other : (Value.ref C == Value.type T) = false := Bool.eq_false_iff.mpr fun z => by cases beq_iff_eq.mp z
  have op : Operator.Mult.info = ("*", "mul") := rfl
  simp only [binaryOp, op]
  refine wpAny_holding (wpAny_bind ?_)
  unfold binaryOp1
  refine wpAny_bind (la.at (wpAny_bind (lb'.at (wpAny_bind (lf.at ?_)))))
  simp only [other, Bool.false_eq_true, if_false]
  cases right <;> (ksp_lk; refine wpAny_mono one (fun r s' z => ?_) fun _ _ e => e; obtain ⟨v, rfl, hv⟩ := z; ksp_lk; exact hv)
end
end SB
-- R19
namespace SB
open PySem PySem.Spec PyProof.Rows L2
section
variable {X : Cx} {CX : CXT} {k : Nat} {C f : Addr} {fd : FuncData} {ps ks : List Str} {sp : Sp} {E : XK} {o : Expr} {kws : List Keyword} {m : Str} {pos apos : Pos} {ta : TE} {tk : TA} {pl : Sem Bool}
variable {gg : List Value → List Value → List Value} {gV : List V → List V → List V}
def tMethK (C : Addr) (m : Str) (sp : Sp) (gV : List V → List V → List V) (E : XK) (n : Nat) (ta : TE) (tk : TA) : TE := fun σ H Q => ta σ H fun x H1 => ∃ (a dx : Addr) (fs : List (Str × V)), x = .ref a ∧ H1 a = some (.ins C dx fs) ∧ fs.lookup m = none ∧
  tk σ H1 fun zs H2 => zs.length = n ∧ sp (gV [.ref a] zs) H2 Q E
/-- o.m(k = e), m a method -/
theorem pe_methK (he : PE X o ta) (c : Cls X.K C) (hm : Meth X.K C m f) (F : FnOk X.prog X.w X.K X.mg X.base CX k f fd ps sp) (hr : Room k X.A) (hb : KBn X.K fd ps 1 ks gg gV) (hx : Passes CX X E) (hkw : PK X kws tk)
    (hall : (backToKw pos (keywordEach kws X.env)).all (·.1.isSome) = true := by rfl) (hks : (backToKw pos (keywordEach kws X.env)).filterMap (·.1) = ks := by rfl)
    (hpl : ((backTo pos (starEach [] X.env)).any (·.1) || (backToKw pos (keywordEach kws X.env)).any (·.1.isNone)) = false := by rfl)
    (ht : eval (.Call (.Attribute o m apos) [] kws pos) X.env = (do
      let ov ← eval o X.env
      standAt apos.atName
      let (f, first) ← holding [ov] (getMethod ov m pl)
      callWith pos f first (backTo pos (starEach [] X.env)) (backToKw pos (keywordEach kws X.env))) := by rfl) :
    PE X (.Call (.Attribute o m apos) [] kws pos) (tMethK C m sp gV E ks.length ta tk) := by
  constructor
  intro pins s σ H Q I h
  refine PySem.W.methodCall_KW (pl := pl) (thn (he.run pins s σ H _ I h) fun u s1 hh => ?_) ht
  obtain ⟨x, H1, I1, rx, a, dx, fs, rfl, ea, l, q⟩ := hh
  obtain rfl : u = Value.ref a := rx
  refine getmeth_ok I1 ea c hm l ?_
  refine PySem.W.callWith_KW0 (first := [.ref a]) (h₀ := X.base) I1.ok.mod.kin hm.kp hall ?_ hpl
  refine thn (hkw.run pos pins s1 σ H1 _ I1 q) fun ws s3 h3 => ?_
  obtain ⟨zs, H2, I3, rz, l2, q2⟩ := h3
  refine ⟨I3.kIn, ?_⟩
  rw [hks]
  exact run_fnN (us := [.ref a]) (vs := [.ref a]) F hr hb hx I3 (.cons rfl .nil) rz rfl l2 q2
end
end SB
-- R20
namespace SB
open PySem PySem.Spec PyProof.Rows L2
/-- what * asks of an own class whose other operand is of a built-in kind -/
structure MulC (K : PySem.W.Frag) (C : Addr) : Prop where
  ex : ∃ rc : Option Value, PySem.W.findIn K (.ref C) "__rmul__" = some rc ∧ (rc = none ∨ ∃ g : Addr, rc = some (.ref g))
/-- what it asks of the built-in kind -/
structure MulT (K : PySem.W.Frag) (C : Addr) (T : String) : Prop where
  ex : ∃ fo ro : Option Value, PySem.W.findIn K (.type T) "__mul__" = some fo ∧ PySem.W.findIn K (.type T) "__rmul__" = some ro
  sub : PySem.W.subIn K (.type T) (.ref C) = some false
section
variable {X : Cx} {CX : CXT} {k : Nat} {C f : Addr} {fd : FuncData} {ps : List Str} {sp : Sp} {E : XK}
/-- x * y by x's own __mul__, y of a built-in kind: it raises -/
def rMulOther (K : PySem.W.Frag) (C : Addr) (sp : Sp) (E : XK) : R2 := fun x y H Q => ∃ (a dx : Addr) (fs : List (Str × V)) (T : String), x = .ref a ∧ H a = some (.ins C dx fs) ∧ TyX K H y (.type T) ∧ MulT K C T ∧
  sp [x, y] H (fun _ _ => False) E
theorem op_mulOther {K : PySem.W.Frag} (mC : MulC K C) (hK : X.K = K) (hc : PySem.W.selfFirst K C = true) (hs : PySem.W.findIn K (.ref C) "__mul__" = some (some (.ref f))) (hf : PySem.W.isFn K (.ref f) = true) (F : FnOk X.prog X.w X.K X.mg X.base CX k f fd ps sp) (hr : Room k X.A) (hb : Binds X.K fd ps []) (hx : Passes CX X E) :
    OpR X (binaryOp .Mult) (rMulOther K C sp E) := by
  subst hK
  intro pins s σ H x y u v Q I rx ry h
  obtain ⟨a, dx, fs, T, rfl, ea, ty, MT, q⟩ := h
  obtain rfl : u = Value.ref a := rx
  obtain ⟨od, J⟩ := inst_of I ea
  obtain ⟨rc, hrc, hp⟩ := mC.ex
  obtain ⟨fo, ro, h1, h2⟩ := MT.ex
  refine mul_type I J (looks_ty I ry ty) hc hs hf hrc hp h1 h2 MT.sub ?_
  refine thn (run_two (x := .ref a) F hr hb hx I rfl ry q) fun w s1 hh => ?_
  obtain ⟨z, H1, I1, r1, q1⟩ := hh
  exact q1.elim
end
end SB
-- M6
namespace SB
open PySem PySem.Spec PyProof.Rows L2
/-! ### what is left of a row of letters, once they undo one another -/
def push (l : List Nat) (c : Nat) : List Nat := if l.getLast? = some (up c) then l.dropLast else l ++ [c]
def strike (l : List Nat) : List Nat := l.foldl push []
def allL (l : List Nat) : Prop := ∀ c ∈ l, isL c = true
theorem allL_take {l : List Nat} (h : allL l) (n : Nat) : allL (l.take n) := fun c hc => h c (List.mem_of_mem_take hc)
theorem allL_drop {l : List Nat} (h : allL l) (n : Nat) : allL (l.drop n) := fun c hc => h c (List.mem_of_mem_drop hc)
theorem allL_app {a b : List Nat} (h : allL a) (k : allL b) : allL (a ++ b) := fun c hc => (List.mem_append.mp hc).elim (h c) (k c)
theorem allL_left {a b : List Nat} (h : allL (a ++ b)) : allL a := fun c hc => h c (List.mem_append_left _ hc)
theorem allL_right {a b : List Nat} (h : allL (a ++ b)) : allL b := fun c hc => h c (List.mem_append_right _ hc)
/-- a row is whole: letters, none behind the one that it undoes -/
def Fine (l : List Nat) : Prop := allL l ∧ flat l l.length
theorem fine_iff (l : List Nat) : fault l = none ↔ Fine l := fault_iff l
theorem fine_nil : Fine [] := ⟨fun c h => (nomatch h), fun j c d h => absurd h (by simp)⟩
theorem fine_pre {a b : List Nat} (h : Fine (a ++ b)) : Fine a := by
  refine ⟨allL_left h.1, fun j c d hj e1 e2 => h.2 j c d (by rw [List.length_append]; omega) ?_ ?_⟩
  · rw [List.getElem?_append_left (by omega)]
    exact e1
  · rw [List.getElem?_append_left (by omega)]
    exact e2
theorem fine_dropLast {l : List Nat} (h : Fine l) : Fine l.dropLast := by
  cases e : l.getLast? with
  | none =>
    rw [List.getLast?_eq_none_iff] at e
    subst e
    exact h
  | some d =>
    obtain ⟨r, rfl⟩ := last_split e
    rw [List.dropLast_concat]
    exact fine_pre h
theorem fine_snoc {l : List Nat} {c : Nat} (h : Fine l) (hc : isL c = true) (n : l.getLast? ≠ some (up c)) : Fine (l ++ [c]) := by
  rw [← fine_iff] at h ⊢
  refine fault_snoc h hc fun d hd e => n ?_
  have dL : isL d = true := letters_of _ _ _ h d (List.mem_of_getLast? hd)
  rw [hd, e, up_up d dL]
theorem fine_push {l : List Nat} {c : Nat} (h : Fine l) (hc : isL c = true) : Fine (push l c) := by
  unfold push
  by_cases e : l.getLast? = some (up c)
  · rw [if_pos e]
    exact fine_dropLast h
  · rw [if_neg e]
    exact fine_snoc h hc e
theorem fine_fold : ∀ (b s : List Nat), Fine s → allL b → Fine (b.foldl push s)
  | [], _, hs, _ => hs
  | c :: r, s, hs, hb => fine_fold r (push s c) (fine_push hs (hb c List.mem_cons_self)) fun d hd => hb d (List.mem_cons_of_mem _ hd)
theorem fine_strike {l : List Nat} (h : allL l) : Fine (strike l) := fine_fold l [] fine_nil h
theorem len_fold : ∀ (b s : List Nat), (b.foldl push s).length ≤ s.length + b.length
  | [], s => Nat.le_refl _
  | c :: r, s => by
    have h := len_fold r (push s c)
    have h2 : (push s c).length ≤ s.length + 1 := by
      unfold push
      split
      · rw [List.length_dropLast]
        omega
      · rw [List.length_append]
        exact Nat.le_refl _
    show (r.foldl push (push s c)).length ≤ s.length + (r.length + 1)
    omega
theorem len_strike (l : List Nat) : (strike l).length ≤ l.length := by
  have := len_fold l []
  simpa [strike] using this
theorem strike_snoc (l : List Nat) (c : Nat) : strike (l ++ [c]) = push (strike l) c := by
  unfold strike
  rw [List.foldl_append]
  rfl
theorem push_fine {l : List Nat} {c : Nat} (h : Fine (l ++ [c])) : push l c = l ++ [c] := by
  unfold push
  rw [if_neg]
  intro e
  obtain ⟨r, rfl⟩ := last_split e
  have q := h.2 r.length c (up c) (by simp) (by simp) (by simp)
  have cL : isL c = true := h.1 c (by simp)
  exact q (up_up c cL).symm
theorem fold_fine : ∀ (b s : List Nat), Fine (s ++ b) → b.foldl push s = s ++ b
  | [], s, _ => (List.append_nil s).symm
  | c :: r, s, h => by
    have h1 : s ++ c :: r = (s ++ [c]) ++ r := by simp
    have h2 : Fine (s ++ [c]) := by
      rw [h1] at h
      exact fine_pre h
    show r.foldl push (push s c) = s ++ c :: r
    rw [push_fine h2, h1]
    rw [h1] at h
    exact fold_fine r (s ++ [c]) h
theorem strike_fine {l : List Nat} (h : Fine l) : strike l = l := by
  have := fold_fine l [] h
  simpa [strike] using this
theorem push_push {s : List Nat} {x y : Nat} (hs : Fine s) (hy : isL y = true) (e : x = up y) : push (push s x) y = s := by
  subst e
  have uy : isL (up y) = true := up_isL y hy
  by_cases c : s.getLast? = some (up (up y))
  · have e1 : push s (up y) = s.dropLast := by
      unfold push
      rw [if_pos c]
    rw [up_up y hy] at c
    obtain ⟨r, rfl⟩ := last_split c
    rw [e1, List.dropLast_concat]
    exact push_fine hs
  · have e1 : push s (up y) = s ++ [up y] := by
      unfold push
      rw [if_neg c]
    rw [e1]
    unfold push
    rw [if_pos (by simp), List.dropLast_concat]
theorem strike_pair {a b : List Nat} {x y : Nat} (h : allL (a ++ x :: y :: b)) (e : x = up y) : strike (a ++ x :: y :: b) = strike (a ++ b) := by
  unfold strike
  rw [List.foldl_append, List.foldl_append]
  show b.foldl push (push (push (a.foldl push []) x) y) = b.foldl push (a.foldl push [])
  rw [push_push (fine_fold a [] fine_nil (allL_left h)) (h y (by simp)) e]
theorem str_ext {a b : Str} (h : a.cps.toList = b.cps.toList) : a = b := by
  cases a
  cases b
  simp only [Str.mk.injEq]
  exact Array.toList_inj.mp h
theorem join_codes (e : Str) (he : e.cps.toList = []) : ∀ l : List Nat, (Str.join e (l.map s1)).cps.toList = l
  | [] => rfl
  | [c] => rfl
  | c :: d :: r => by
    have ih := join_codes e he (d :: r)
    show ((s1 c ++ e) ++ Str.join e ((d :: r).map s1)).cps.toList = _
    rw [app_codes, app_codes, ih, he]
    rfl
theorem join_one (l : List Nat) : Txt.join "" (l.map s1) = T l := by
  refine str_ext ?_
  unfold Txt.join
  rw [StrLaws.glued_eq_join, join_codes _ (by rfl)]
  rfl
theorem join_sum (l : List Nat) : ((l.map s1).map (·.length)).sum = l.length := by
  induction l with
  | nil => rfl
  | cons a r ih =>
    rw [List.map_cons, List.map_cons, List.sum_cons, ih, List.length_cons]
    show 1 + r.length = r.length + 1
    omega
/-- the first sign that is no letter -/
def strange (i : Nat) : List Nat → Option Nat
  | [] => none
  | c :: r => if isL c = false then some i else strange (i + 1) r
theorem strange_none : ∀ (l : List Nat) (i : Nat), strange i l = none ↔ allL l
  | [], i => ⟨fun _ c h => (nomatch h), fun _ => rfl⟩
  | c :: r, i => by
    show (if isL c = false then some i else strange (i + 1) r) = none ↔ _
    by_cases e : isL c = false
    · rw [if_pos e]
      refine ⟨fun z => (nomatch z), fun h => ?_⟩
      rw [h c List.mem_cons_self] at e
      cases e
    · rw [if_neg e, strange_none r (i + 1)]
      constructor
      · intro h d hd
        rcases List.mem_cons.mp hd with q | q
        · rw [q]
          simpa using e
        · exact h d q
      · intro h d hd
        exact h d (List.mem_cons_of_mem _ hd)
end SB
-- M7
namespace SB
open PySem PySem.Spec PyProof.Rows L2
/-- a pen whose script's ints stand at l -/
def PenQ (l : Addr) (N : Int) (H : Hp) (p : Addr) : Prop := ∃ (ns : List Int) (i j : Int), H p = some (.lst [.ref l, .int i, .int j]) ∧ H l = some (.lst (ns.map V.int)) ∧ 0 ≤ i ∧ i ≤ N
section
variable {N M : Int} {H H' : Hp} {p l b : Addr}
theorem PenQ.mono (h : PenQ l N H p) (le : N ≤ M) : PenQ l M H p := by
  obtain ⟨ns, i, j, h1, h2, h3, h4⟩ := h
  exact ⟨ns, i, j, h1, h2, h3, by omega⟩
theorem PenQ.same (h : PenQ l N H p) (s : Same H H') : PenQ l N H' p := by
  obtain ⟨ns, i, j, h1, h2, h3, h4⟩ := h
  exact ⟨ns, i, j, s _ _ h1, s _ _ h2, h3, h4⟩
theorem PenQ.ne_p (h : PenQ l N H p) (e : H b = none) : b ≠ p := fun q => by
  obtain ⟨_, _, _, z, _⟩ := h
  rw [q, z] at e
  cases e
theorem PenQ.ne_l (h : PenQ l N H p) (e : H b = none) : b ≠ l := fun q => by
  obtain ⟨_, _, _, _, z, _⟩ := h
  rw [q, z] at e
  cases e
theorem PenQ.lp (h : PenQ l N H p) : l ≠ p := by
  obtain ⟨ns, i, j, h1, h2, _⟩ := h
  exact pen_ne h1 h2
/-- written elsewhere -/
theorem PenQ.write {o : HO} (h : PenQ l N H p) (np : b ≠ p) (nl : b ≠ l) : PenQ l N (upd H b o) p := by
  obtain ⟨ns, i, j, h1, h2, h3, h4⟩ := h
  refine ⟨ns, i, j, ?_, ?_, h3, h4⟩
  · rw [upd_ne (Ne.symm np)]
    exact h1
  · rw [upd_ne (Ne.symm nl)]
    exact h2
/-- what isn't a list isn't the pen -/
theorem PenQ.not_p {o : HO} (h : PenQ l N H p) (e : H b = some o) (n : ∀ xs, o ≠ .lst xs) : b ≠ p := fun q => by
  obtain ⟨_, _, _, z, _⟩ := h
  rw [q, z] at e
  exact n _ (Option.some.inj e).symm
theorem Kept.new {H1 : Hp} {o : HO} (k : Kept p H H1) (n : H b = none) : Kept p H (upd H1 b o) := fun c u e m => by
  rw [upd_ne (ne_of_none e n)]
  exact k c u e m
end
end SB
-- M8
namespace SB
open PySem PySem.Spec PyProof.Rows L2
theorem cut_take (z : Str) (k : Nat) : (cutS z none (some (k : Int))).cps.toList = z.cps.toList.take k := by
  unfold cutS
  rw [HT.sIx_nat, HT.sIx_none]
  show ((z.cps.toList.drop 0).take (min k z.length - 0)) = _
  rw [List.drop_zero, Nat.sub_zero]
  by_cases h : k ≤ z.length
  · rw [Nat.min_eq_left h]
  · have h1 : z.cps.toList.length ≤ z.length := Nat.le_refl _
    rw [Nat.min_eq_right (by omega), List.take_of_length_le h1, List.take_of_length_le (by omega)]
theorem cut_drop (z : Str) (k : Nat) : (cutS z (some (k : Int)) none).cps.toList = z.cps.toList.drop k := by
  unfold cutS
  rw [HT.sIx_nat, HT.sIx_none]
  show ((z.cps.toList.drop (min k z.length)).take (z.length - min k z.length)) = _
  have hl : z.cps.toList.length = z.length := rfl
  by_cases h : k ≤ z.length
  · rw [Nat.min_eq_left h]
    exact List.take_of_length_le (by rw [List.length_drop]; omega)
  · rw [Nat.min_eq_right (by omega), Nat.sub_self, List.take_zero, List.drop_of_length_le (by omega)]
theorem at_split {l : List Nat} {a c d : Nat} (hc : l[a]? = some c) (hd : l[a + 1]? = some d) : l = l.take a ++ c :: d :: l.drop (a + 2) := by
  obtain ⟨h1, e1⟩ := List.getElem?_eq_some_iff.mp hc
  obtain ⟨h2, e2⟩ := List.getElem?_eq_some_iff.mp hd
  have s1 : l.drop a = c :: l.drop (a + 1) := by rw [List.drop_eq_getElem_cons h1, e1]
  have s2 : l.drop (a + 1) = d :: l.drop (a + 2) := by rw [List.drop_eq_getElem_cons h2, e2]
  rw [← s2, ← s1, List.take_append_drop]
theorem flat_cut {l : List Nat} {a : Nat} (h : flat l (a + 1)) (n : a ≤ l.length) : flat (l.take a ++ l.drop (a + 2)) (a - 1 + 1) := by
  intro j c d hj hd hc
  have j1 : j + 1 < a := by omega
  rw [List.getElem?_append_left (by rw [List.length_take]; omega), List.getElem?_take_of_lt (by omega)] at hd hc
  exact h j c d (by omega) hd hc
theorem flat_next {l : List Nat} {a c d : Nat} (hL : allL l) (h : flat l (a + 1)) (hc : l[a]? = some c) (hd : l[a + 1]? = some d) (n : c ≠ up d) : flat l (a + 1 + 1) := by
  intro j x y hj hy hx
  by_cases e : j = a
  · subst e
    rw [hc] at hy
    rw [hd] at hx
    cases hy
    cases hx
    intro q
    refine n ?_
    rw [q, up_up c (hL c (List.mem_of_getElem? hc))]
  · exact h j x y (by omega) hy hx
end SB
-- M9
namespace SB
open PySem PySem.Spec PyProof.Rows L2
/-! ### lists of texts as data -/
def dstrs (l : List Str) : List PyData := l.map PyData.str
def vstrs (l : List Str) : List V := l.map V.str
theorem dp_texts {K : PySem.W.Frag} {H : Hp} : ∀ l : List Str, DpAll K H (vstrs l) (dstrs l)
  | [] => .nil
  | a :: r => .cons (.str a) (dp_texts r)
/-- a text that may be laid -/
def Plain (z : Str) : Prop := (z.cps.all fun c => decide (c < 0x110000)) = true
theorem shaped_texts {l : List Str} (h : ∀ z ∈ l, Plain z) : SeqAt.shaped (.list (dstrs l)) = true := by
  have lay : ∀ l : List Str, (∀ z ∈ l, Plain z) → PyData.canLayAll0 (dstrs l) = true := by
    intro l
    induction l with
    | nil => intro _; rfl
    | cons a r ih =>
      intro h
      show ((a.cps.all fun c => decide (c < 0x110000)) && PyData.canLayAll0 (dstrs r)) = true
      rw [h a List.mem_cons_self, ih fun z hz => h z (List.mem_cons_of_mem _ hz)]
      rfl
  have dep : ∀ l : List Str, PyData.depthAll (dstrs l) ≤ 1 := by
    intro l
    induction l with
    | nil => exact Nat.zero_le _
    | cons a r ih =>
      show max _ _ ≤ 1
      refine Nat.max_le.mpr ⟨?_, ih⟩
      simp [PyData.depth]
  unfold SeqAt.shaped
  have e1 : PyData.canLay0 (.list (dstrs l)) = true := lay l h
  rw [e1]
  refine decide_eq_true ?_
  have := dep l
  have e2 : PyData.depth (.list (dstrs l)) = PyData.depthAll (dstrs l) + 1 := by
    simp [PyData.depth]
  rw [e2]
  omega
theorem eqv_texts : ∀ l : List Str, PyData.eqvAll (dstrs l) (dstrs l) = true
  | [] => rfl
  | a :: r => by
    show ((a == a) && PyData.eqvAll (dstrs r) (dstrs r)) = true
    rw [eqv_texts r]
    simp
theorem plain_one {c : Nat} (h : isL c = true) : Plain (s1 c) := by
  have := letter_lt c h
  unfold Plain
  simp
  omega
theorem plain_fine {z : Str} (h : fault z.cps.toList = none) : Plain z := ok_word h
theorem plain_ones {l : List Nat} (h : allL l) : ∀ z ∈ l.map s1, Plain z := fun z hz => by
  obtain ⟨c, hc, rfl⟩ := List.mem_map.mp hz
  exact plain_one (h c hc)
end SB
-- M10
namespace SB
open PySem PySem.Spec PyProof.Rows L2
/-! ### long rows -/
theorem foldl_codes : ∀ (ls : List (Array Nat)) (acc : Array Nat), (ls.foldl (· ++ ·) acc).toList = acc.toList ++ (ls.map (·.toList)).flatten
  | [], acc => by simp
  | a :: r, acc => by
    rw [List.foldl_cons, foldl_codes r (acc ++ a), Array.toList_append, List.map_cons, List.flatten_cons, List.append_assoc]
theorem mul_codes {z : Str} {n : Int} (h : 1 < n) (hz : 0 < z.length) : (Txt.mul z n).cps.toList = (List.replicate n.toNat z.cps.toList).flatten := by
  have e1 : ¬ n < 1 := by omega
  have e2 : (n == 1 || z.length == 0) = false := by
    have a : (n == 1) = false := by simp; omega
    have b : (z.length == 0) = false := by simp; omega
    rw [a, b]
    rfl
  unfold Txt.mul
  rw [if_neg e1, e2]
  show ((List.replicate n.toNat z.cps).foldl (· ++ ·) #[]).toList = _
  rw [foldl_codes, List.map_replicate]
  rfl
theorem mul_mem {z : Str} {n : Int} (h : 1 < n) (hz : 0 < z.length) {c : Nat} (hc : c ∈ (Txt.mul z n).cps.toList) : c ∈ z.cps.toList := by
  rw [mul_codes h hz] at hc
  obtain ⟨l, h1, h2⟩ := List.mem_flatten.mp hc
  rw [List.eq_of_mem_replicate h1] at h2
  exact h2
theorem mul_len {z : Str} {n : Int} (h : 1 < n) (hz : 0 < z.length) : (Txt.mul z n).length = n.toNat * z.length := by
  have rep : ∀ (m k : Nat), (List.replicate m k).sum = m * k := by
    intro m k
    induction m with
    | zero => simp
    | succ m ih =>
      rw [List.replicate_succ, List.sum_cons, ih, Nat.succ_mul, Nat.add_comm]
  rw [len_codes, mul_codes h hz, List.length_flatten, List.map_replicate, rep]
  rfl
def units : List Str := ["A", "d", "AB", "CdaB"]
theorem units_ok : ∀ u ∈ units, (0 < u.length ∧ u.length ≤ 4) ∧ (∀ c ∈ u.cps.toList, isL c = true) ∧ (∀ c ∈ u.cps.toList, ∀ d ∈ u.cps.toList, c ≠ up d) := by decide +kernel
theorem units_mul : ∀ u ∈ units, MulOk u 4000 ∧ MulOk u 5000 := by
  unfold MulOk
  decide +kernel
theorem fine_units {u : Str} (hu : u ∈ units) {l : List Nat} (h : ∀ c ∈ l, c ∈ u.cps.toList) : Fine l := by
  obtain ⟨_, h1, h2⟩ := units_ok u hu
  exact ⟨fun c hc => h1 c (h c hc), fun j c d _ hd hc => h2 c (h c (List.mem_of_getElem? hc)) d (h d (List.mem_of_getElem? hd))⟩
/-- the first k signs of a unit written n times -/
theorem cut_mul {u : Str} (hu : u ∈ units) {n : Int} {k : Nat} (h : 1 < n) (hk : k ≤ n.toNat) : Fine (cutS (Txt.mul u n) none (some (k : Int))).cps.toList ∧ (cutS (Txt.mul u n) none (some (k : Int))).length = k := by
  obtain ⟨⟨l0, l4⟩, _⟩ := units_ok u hu
  have ml := mul_len h l0
  have le : n.toNat ≤ n.toNat * u.length := Nat.le_mul_of_pos_right _ l0
  constructor
  · refine fine_units hu fun c hc => ?_
    rw [cut_take] at hc
    exact mul_mem h l0 (List.mem_of_mem_take hc)
  · rw [len_codes, cut_take, List.length_take]
    have : (Txt.mul u n).cps.toList.length = (Txt.mul u n).length := rfl
    omega
theorem undo_tail : ∀ (m f : List Nat), allL f → allL m → strike (f ++ m ++ (m.map up).reverse) = strike f
  | [], f, _, _ => by simp
  | c :: r, f, hf, hm => by
    have cL := hm c List.mem_cons_self
    have rL : allL r := fun d hd => hm d (List.mem_cons_of_mem _ hd)
    have e : f ++ (c :: r) ++ ((c :: r).map up).reverse = ((f ++ [c]) ++ r ++ (r.map up).reverse) ++ [up c] := by simp
    have fL : allL (f ++ [c]) := allL_app hf fun d hd => by
      rw [List.mem_singleton.mp hd]
      exact cL
    rw [e, strike_snoc, undo_tail r (f ++ [c]) fL rL, strike_snoc]
    exact push_push (fine_strike hf) (up_isL c cL) (up_up c cL).symm
end SB
-- M11
namespace SB
open PySem PySem.Spec PyProof.Rows L2
/-- all but the tables and p stay -/
def KN (p : Addr) (H H' : Hp) : Prop := ∀ b o, H b = some o → b ≠ p → (∀ ps, o ≠ .tbl ps) → H' b = some o
theorem KN.of {p : Addr} {H H' : Hp} (s : Same H H') : KN p H H' := fun b o h _ _ => s b o h
theorem KN.ext {p : Addr} {H H' : Hp} (s : LamX.ExtN H H') : KN p H H' := fun b o h _ n => s b o h n
theorem KN.kept {p : Addr} {H H' : Hp} (s : Kept p H H') : KN p H H' := fun b o h n _ => s b o h n
theorem KN.trans {p : Addr} {H H1 H2 : Hp} (a : KN p H H1) (b : KN p H1 H2) : KN p H H2 := fun c o h n m => b c o (a c o h n m) n m
theorem penQ_ext {l p : Addr} {N : Int} {H H' : Hp} (h : PenQ l N H p) (e : LamX.ExtN H H') : PenQ l N H' p := by
  obtain ⟨ns, i, j, h1, h2, h3, h4⟩ := h
  exact ⟨ns, i, j, e _ _ h1 (fun _ z => nomatch z), e _ _ h2 (fun _ z => nomatch z), h3, h4⟩
theorem tabs_keptQ {T : List (Addr × Str)} {l p : Addr} {N : Int} {H H' : Hp} (t : LamX.Tabs T H) (h : PenQ l N H p) (k : Kept p H H') : LamX.Tabs T H' := by
  obtain ⟨ns, i, j, h1, _⟩ := h
  refine fun r hr => ?_
  obtain ⟨ps, a1, a2, a3⟩ := t r hr
  refine ⟨ps, k _ _ a1 (fun e => by rw [e, h1] at a1; cases a1), a2, fun pos cv hc => ?_⟩
  obtain ⟨c, e1, e2⟩ := a3 pos cv hc
  refine ⟨c, e1, k _ _ e2 (fun e => ?_)⟩
  rw [e, h1] at e2
  unfold LamX.CodeO at e2
  cases e2
theorem fault_stop : ∀ (a b : List Nat) (x : Nat) (p : Option Nat) (i : Nat), faultFrom p i a = none → isL x = false → faultFrom p i (a ++ x :: b) = some (i + a.length)
  | [], b, x, p, i, _, hx => if_pos (.inl hx)
  | c :: r, b, x, p, i, h, hx => by
    have h' : (if isL c = false ∨ some (up c) = p then some i else faultFrom (some c) (i + 1) r) = none := h
    by_cases e : isL c = false ∨ some (up c) = p
    · rw [if_pos e] at h'
      cases h'
    · rw [if_neg e] at h'
      show (if isL c = false ∨ some (up c) = p then some i else faultFrom (some c) (i + 1) (r ++ x :: b)) = _
      rw [if_neg e, fault_stop r b x (some c) (i + 1) h' hx, List.length_cons]
      congr 1
      omega
theorem strange_stop : ∀ (a b : List Nat) (x : Nat) (i : Nat), allL a → isL x = false → strange i (a ++ x :: b) = some (i + a.length)
  | [], b, x, i, _, hx => if_pos hx
  | c :: r, b, x, i, h, hx => by
    have cL := h c List.mem_cons_self
    show (if isL c = false then some i else strange (i + 1) (r ++ x :: b)) = _
    rw [if_neg (by rw [cL]; decide), strange_stop r b x (i + 1) (fun d hd => h d (List.mem_cons_of_mem _ hd)) hx, List.length_cons]
    congr 1
    omega
end SB
-- M12
namespace SB
open PySem PySem.Spec PyProof.Rows L2
/-! ### the group of the rows -/
/-- the row that undoes one -/
def inv (l : List Nat) : List Nat := (l.map up).reverse
theorem inv_app (a b : List Nat) : inv (a ++ b) = inv b ++ inv a := by simp [inv]
theorem inv_len (l : List Nat) : (inv l).length = l.length := by simp [inv]
theorem allL_inv {l : List Nat} (h : allL l) : allL (inv l) := fun c hc => by
  obtain ⟨d, hd, rfl⟩ := List.mem_map.mp (List.mem_reverse.mp hc)
  exact up_isL d (h d hd)
theorem inv_inv {l : List Nat} (h : allL l) : inv (inv l) = l := by
  unfold inv
  rw [List.map_reverse, List.reverse_reverse, List.map_map]
  conv => rhs; rw [← List.map_id l]
  exact List.map_congr_left fun c hc => up_up c (h c hc)
theorem fold_strike : ∀ (b : List Nat) (s r : List Nat), Fine s → Fine r → allL b → (b.foldl push r).foldl push s = b.foldl push (r.foldl push s)
  | [], s, r, _, _, _ => rfl
  | c :: b, s, r, hs, hr, hb => by
    have cL := hb c List.mem_cons_self
    show (b.foldl push (push r c)).foldl push s = b.foldl push (push (r.foldl push s) c)
    rw [fold_strike b s (push r c) hs (fine_push hr cL) fun d hd => hb d (List.mem_cons_of_mem _ hd)]
    congr 1
    by_cases e : r.getLast? = some (up c)
    · have ep : push r c = r.dropLast := by
        unfold push
        rw [if_pos e]
      obtain ⟨q, rfl⟩ := last_split e
      rw [ep, List.dropLast_concat, List.foldl_append]
      show q.foldl push s = push (push (q.foldl push s) (up c)) c
      have hq : Fine q := fine_pre hr
      exact (push_push (fine_fold q s hs hq.1) cL rfl).symm
    · have ep : push r c = r ++ [c] := by
        unfold push
        rw [if_neg e]
      rw [ep, List.foldl_append]
      rfl
/-- what is left of one row behind another, once each is struck -/
theorem strike_app {a b : List Nat} (ha : allL a) (hb : allL b) : strike (strike a ++ b) = strike (a ++ b) ∧ strike (a ++ strike b) = strike (a ++ b) := by
  constructor
  · unfold strike
    rw [List.foldl_append, List.foldl_append]
    have : (a.foldl push []).foldl push [] = a.foldl push [] := strike_fine (fine_strike ha)
    rw [this]
  · unfold strike
    rw [List.foldl_append, List.foldl_append, fold_strike b (a.foldl push []) [] (fine_fold a [] fine_nil ha) fine_nil hb]
    rfl
theorem fold_inv : ∀ (m s : List Nat), Fine s → allL m → (m ++ inv m).foldl push s = s
  | [], s, _, _ => rfl
  | c :: r, s, hs, hm => by
    have cL := hm c List.mem_cons_self
    have e : (c :: r) ++ inv (c :: r) = [c] ++ (r ++ inv r) ++ [up c] := by simp [inv]
    rw [e, List.foldl_append, List.foldl_append]
    show push ((r ++ inv r).foldl push (push s c)) (up c) = s
    rw [fold_inv r (push s c) (fine_push hs cL) fun d hd => hm d (List.mem_cons_of_mem _ hd)]
    exact push_push hs (up_isL c cL) (up_up c cL).symm
theorem strike_inv_right {a b : List Nat} (ha : allL a) (hb : allL b) : strike (a ++ b ++ inv b) = strike a := by
  unfold strike
  rw [List.append_assoc, List.foldl_append, fold_inv b _ (fine_fold a [] fine_nil ha) hb]
theorem strike_inv_left {a b : List Nat} (ha : allL a) (hb : allL b) : strike (inv a ++ (a ++ b)) = strike b := by
  have h := fold_inv (inv a) [] fine_nil (allL_inv ha)
  rw [inv_inv ha] at h
  unfold strike
  rw [← List.append_assoc, List.foldl_append, h]
theorem fine_inv {l : List Nat} (h : Fine l) : Fine (inv l) := by
  refine ⟨allL_inv h.1, fun j c d hj hd hc => ?_⟩
  rw [inv_len] at hj
  unfold inv at hd hc
  have l1 : (l.map up).length = l.length := List.length_map ..
  rw [List.getElem?_reverse (by omega), l1, List.getElem?_map] at hd hc
  obtain ⟨x, hx, rfl⟩ := Option.map_eq_some_iff.mp hd
  obtain ⟨y, hy, rfl⟩ := Option.map_eq_some_iff.mp hc
  have xL := h.1 x (List.mem_of_getElem? hx)
  have yL := h.1 y (List.mem_of_getElem? hy)
  intro e
  have e2 : up y = x := e.trans (up_up x xL)
  have key := h.2 (l.length - 1 - (j + 1)) x y (by omega) (by rw [show l.length - 1 - (j + 1) = l.length - 1 - (j + 1) from rfl]; exact hy) (by rw [show l.length - 1 - (j + 1) + 1 = l.length - 1 - j by omega]; exact hx)
  exact key e2.symm
theorem strike_inv {l : List Nat} (h : allL l) : strike (inv l) = inv (strike l) := by
  have h1 : Fine (inv (strike l)) := fine_inv (fine_strike h)
  have e1 : strike (inv (strike l) ++ (strike l ++ inv l)) = strike (inv l) := strike_inv_left (fine_strike h).1 (allL_inv h)
  have e2 : strike (strike l ++ inv l) = [] := by
    rw [(strike_app h (allL_inv h)).1]
    have h0 := strike_inv_right (a := []) fine_nil.1 h
    have h1 : strike (l ++ inv l) = strike [] := by simpa using h0
    exact h1
  have e3 : strike (inv (strike l) ++ (strike l ++ inv l)) = strike (inv (strike l)) := by
    rw [← (strike_app (allL_inv (fine_strike h).1) (allL_app (fine_strike h).1 (allL_inv h))).2, e2, List.append_nil]
  rw [← e1, e3, strike_fine h1]
theorem fine_join {a b : List Nat} (ha : Fine a) (hb : Fine b) (n : ∀ x y, a.getLast? = some x → b[0]? = some y → y ≠ up x) : Fine (a ++ b) := by
  refine ⟨allL_app ha.1 hb.1, fun j c d hj hd hc => ?_⟩
  rw [List.length_append] at hj
  by_cases h1 : j + 1 < a.length
  · rw [List.getElem?_append_left (by omega)] at hd hc
    exact ha.2 j c d h1 hd hc
  · by_cases h2 : j < a.length
    · have e : j + 1 = a.length := by omega
      rw [List.getElem?_append_left h2] at hd
      rw [List.getElem?_append_right (by omega), e, Nat.sub_self] at hc
      refine n d c ?_ hc
      rw [List.getLast?_eq_getElem?, ← e]
      exact hd
    · rw [List.getElem?_append_right (by omega)] at hd hc
      have e : j + 1 - a.length = (j - a.length) + 1 := by omega
      rw [e] at hc
      exact hb.2 (j - a.length) c d (by omega) hd hc
theorem fine_take {l : List Nat} (h : Fine l) (n : Nat) : Fine (l.take n) := fine_pre (b := l.drop n) (by rw [List.take_append_drop]; exact h)
theorem fine_drop {l : List Nat} (h : Fine l) (n : Nat) : Fine (l.drop n) := by
  refine ⟨allL_drop h.1 n, fun j c d hj hd hc => ?_⟩
  rw [List.length_drop] at hj
  rw [List.getElem?_drop] at hd hc
  have e : n + (j + 1) = (n + j) + 1 := by omega
  rw [e] at hc
  exact h.2 (n + j) c d (by omega) hd hc
/-- one step of the striking out from the middle -/
theorem join_step {a b : List Nat} {g x y : Nat} (ha : Fine a) (hb : Fine b) (hg : g < a.length) (hx : a[a.length - 1 - g]? = some x) (hy : b[g]? = some y) (e : x = up y) :
    strike (a.take (a.length - g) ++ b.drop g) = strike (a.take (a.length - (g + 1)) ++ b.drop (g + 1)) := by
  have e1 : a.take (a.length - g) = a.take (a.length - (g + 1)) ++ [x] := by
    have h1 : a.length - g = (a.length - (g + 1)) + 1 := by omega
    rw [h1, List.take_add_one]
    have h2 : a.length - (g + 1) = a.length - 1 - g := by omega
    rw [h2, hx]
    rfl
  have e2 : b.drop g = y :: b.drop (g + 1) := by
    obtain ⟨h1, h2⟩ := List.getElem?_eq_some_iff.mp hy
    rw [List.drop_eq_getElem_cons h1, h2]
  rw [e1, e2, List.append_assoc]
  refine strike_pair ?_ e
  have hL : allL (a.take (a.length - (g + 1)) ++ ([x] ++ (y :: b.drop (g + 1)))) := by
    rw [← e2, ← List.append_assoc, ← e1]
    exact allL_app (allL_take ha.1 _) (allL_drop hb.1 _)
  exact hL
theorem join_end {a b : List Nat} {g : Nat} (ha : Fine a) (hb : Fine b) (n : ∀ x y, g < a.length → a[a.length - 1 - g]? = some x → b[g]? = some y → x ≠ up y) : strike (a.take (a.length - g) ++ b.drop g) = a.take (a.length - g) ++ b.drop g := by
  refine strike_fine (fine_join (fine_take ha _) (fine_drop hb _) fun x y hx hy => ?_)
  rw [List.getElem?_drop, Nat.add_zero] at hy
  rw [List.getLast?_eq_getElem?, List.length_take] at hx
  have hg : g < a.length := by
    rcases Nat.lt_or_ge g a.length with q | q
    · exact q
    · rw [show min (a.length - g) a.length - 1 = 0 by omega, show a.length - g = 0 by omega] at hx
      simp at hx
  rw [List.getElem?_take_of_lt (by omega), show min (a.length - g) a.length - 1 = a.length - 1 - g by omega] at hx
  have k := n x y hg hx hy
  intro e
  refine k ?_
  rw [e, up_up x (ha.1 x (List.mem_of_getElem? hx))]
end SB
-- M14
namespace SB
open PySem PySem.Spec PyProof.Rows L2
theorem errO_ne {C d a : Addr} (ps : Array Value) : ErrO C d a ≠ .tbl ps := fun z => by
  unfold ErrO at z
  cases z
theorem errO_lst {C d a : Addr} (xs : List V) : ErrO C d a ≠ .lst xs := fun z => by
  unfold ErrO at z
  cases z
theorem tabs_put {T : List (Addr × Str)} {H : Hp} {a : Addr} {xs : List V} {o : HO} (t : LamX.Tabs T H) (h : H a = some (.lst xs)) : LamX.Tabs T (upd H a o) := by
  refine fun r hr => ?_
  obtain ⟨ps, a1, a2, a3⟩ := t r hr
  refine ⟨ps, ?_, a2, fun pos cv hc => ?_⟩
  · rw [upd_ne (fun e => by rw [e, h] at a1; cases a1)]
    exact a1
  · obtain ⟨c, e1, e2⟩ := a3 pos cv hc
    refine ⟨c, e1, ?_⟩
    rw [upd_ne (fun e => ?_)]
    · exact e2
    · rw [e, h] at e2
      unfold LamX.CodeO at e2
      cases e2
theorem err_put {H2 : Hp} {C d a : Addr} {fs : List (Str × V)} (hd : H2 d = none) (ha : upd H2 d (.xd fs) a = none) : upd (upd H2 d (.xd fs)) a (ErrO C d a) a = some (ErrO C d a) ∧ upd (upd H2 d (.xd fs)) a (ErrO C d a) d = some (.xd fs) ∧ Same H2 (upd (upd H2 d (.xd fs)) a (ErrO C d a)) := by
  have ne : a ≠ d := fun q => by
    rw [q, upd_same] at ha
    cases ha
  have nw : ∀ {H : Hp} {p : Addr} {o : HO}, H p = none → Same H (upd H p o) := fun h b x e => by
    rw [upd_ne (ne_of_none e h)]
    exact e
  refine ⟨upd_same, ?_, (nw hd).trans (nw ha)⟩
  rw [upd_ne (Ne.symm ne), upd_same]
end SB
-- M15
namespace SB
open PySem PySem.Spec PyProof.Rows L2
theorem mulOk_small {z : Str} {n : Int} (h1 : 1 < n) (h2 : n ≤ 4000) (hz : z.length ≤ 4) : MulOk z n := by
  refine ⟨?_, fun _ _ => ?_, fun _ _ => ?_⟩
  · have a : decide (n < -(2 ^ 63 : Int)) = false := decide_eq_false (by omega)
    have b : decide (n ≥ (2 ^ 63 : Int)) = false := decide_eq_false (by omega)
    rw [a, b]
    rfl
  · have : (4 : Int) ≤ (2 ^ 63 - 1) / n := Int.le_ediv_of_mul_le (by omega) (by omega)
    omega
  · have : z.length * n.toNat ≤ 4 * 4000 := Nat.mul_le_mul hz (by omega)
    refine decide_eq_false (p := z.length * n.toNat > sizeLine) ?_
    rw [sizeLine_eq]
    omega
/-- pairs of units that nothing is struck out of -/
def pairs : List (Str × Str) := [("AB", "CD"), ("dA", "cb"), ("a", "B")]
theorem pairs_ok : ∀ u ∈ pairs, (u.1.length = u.2.length ∧ (u.1.length = 1 ∨ u.1.length = 2)) ∧ (∀ c ∈ u.1.cps.toList ++ u.2.cps.toList, isL c = true) ∧ (∀ c ∈ u.1.cps.toList ++ u.2.cps.toList, ∀ d ∈ u.1.cps.toList ++ u.2.cps.toList, c ≠ up d) ∧ (∀ c ∈ u.1.cps.toList, ∀ d ∈ u.2.cps.toList, d ≠ c) := by decide +kernel
theorem fine_pair {u : Str × Str} (hu : u ∈ pairs) {l : List Nat} (h : ∀ c ∈ l, c ∈ u.1.cps.toList ++ u.2.cps.toList) : Fine l := by
  obtain ⟨_, h1, h2, _⟩ := pairs_ok u hu
  exact ⟨fun c hc => h1 c (h c hc), fun j c d _ hd hc => h2 c (h c (List.mem_of_getElem? hc)) d (h d (List.mem_of_getElem? hd))⟩
/-- one long row and another: what is told of them -/
theorem long_pair {u : Str × Str} (hu : u ∈ pairs) {m n : Int} (hm : 1 < m) (hn : 1 < n) : Fine (Txt.mul u.1 m).cps.toList ∧ Fine (Txt.mul u.2 n).cps.toList ∧ Fine ((Txt.mul u.1 m).cps.toList ++ (Txt.mul u.2 n).cps.toList) ∧ (Txt.mul u.1 m).length = m.toNat * u.1.length ∧ (Txt.mul u.2 n).length = n.toNat * u.1.length ∧ (∀ c ∈ (Txt.mul u.1 m).cps.toList, ∀ d ∈ (Txt.mul u.2 n).cps.toList, d ≠ c) := by
  obtain ⟨⟨e, l⟩, _, _, nc⟩ := pairs_ok u hu
  have f1 : ∀ c ∈ (Txt.mul u.1 m).cps.toList, c ∈ u.1.cps.toList ++ u.2.cps.toList := fun c hc => List.mem_append_left _ (mul_mem hm (by omega) hc)
  have f2 : ∀ c ∈ (Txt.mul u.2 n).cps.toList, c ∈ u.1.cps.toList ++ u.2.cps.toList := fun c hc => List.mem_append_right _ (mul_mem hn (by omega) hc)
  refine ⟨fine_pair hu f1, fine_pair hu f2, fine_pair hu fun c hc => ?_, mul_len hm (by omega), by rw [mul_len hn (by omega), e], fun c hc d hd => nc c (mul_mem hm (by omega) hc) d (mul_mem hn (by omega) hd)⟩
  rcases List.mem_append.mp hc with h | h
  · exact f1 c h
  · exact f2 c h
/-- a row, and its undoing with something after it -/
theorem strike_back {a b : List Nat} (ha : allL a) (hb : Fine b) : strike (a ++ (inv a ++ b)) = b := by
  have h := strike_inv_left (a := inv a) (b := b) (allL_inv ha) hb.1
  rw [inv_inv ha, strike_fine hb] at h
  exact h
theorem fine_back {a c : List Nat} (ha : Fine a) (hc : Fine c) (n : ∀ x ∈ a, ∀ y ∈ c, y ≠ x) : Fine (inv a ++ c) := by
  refine fine_join (fine_inv ha) hc fun x y hx hy e => ?_
  unfold inv at hx
  rw [List.getLast?_reverse, List.head?_map] at hx
  obtain ⟨z, hz, rfl⟩ := Option.map_eq_some_iff.mp hx
  have mz : z ∈ a := List.mem_of_mem_head? hz
  rw [up_up z (ha.1 z mz)] at e
  exact n z mz y (List.mem_of_getElem? hy) e
end SB
-- K03T
namespace K03
open PySem PySem.Spec PyProof.Rows L2 SB
def topS (i : Nat) : Stmt := PySem.Challenge.pw_sevenball_k03_orders_beginnings_and_tail.main.body.getD i (.Pass ⟨0, 0, 0, 0⟩)
abbrev s__wall : Stmt := topS 0
theorem sc__wall : FnScope ["k"] ["k"] (defScope s__wall) := ⟨rfl, rfl, rfl, by decide +kernel, rfl, by decide +kernel, by decide +kernel⟩
abbrev s_BadNumber_init : Stmt := inClass (topS 3) 0
theorem sc_BadNumber_init : FnScope ["self", "part"] ["self", "part"] (defScope s_BadNumber_init) := ⟨rfl, rfl, rfl, by decide +kernel, rfl, by decide +kernel, by decide +kernel⟩
abbrev s_BadWord_init : Stmt := inClass (topS 4) 0
theorem sc_BadWord_init : FnScope ["self", "at"] ["self", "at"] (defScope s_BadWord_init) := ⟨rfl, rfl, rfl, by decide +kernel, rfl, by decide +kernel, by decide +kernel⟩
abbrev s_TooMany_init : Stmt := inClass (topS 5) 0
theorem sc_TooMany_init : FnScope ["self", "what", "most"] ["self", "what", "most"] (defScope s_TooMany_init) := ⟨rfl, rfl, rfl, by decide +kernel, rfl, by decide +kernel, by decide +kernel⟩
abbrev s_BadText_init : Stmt := inClass (topS 6) 0
theorem sc_BadText_init : FnScope ["self", "item"] ["self", "item"] (defScope s_BadText_init) := ⟨rfl, rfl, rfl, by decide +kernel, rfl, by decide +kernel, by decide +kernel⟩
abbrev s_is_integer : Stmt := topS 9
theorem sc_is_integer : FnScope ["value"] ["value"] (defScope s_is_integer) := ⟨rfl, rfl, rfl, by decide +kernel, rfl, by decide +kernel, by decide +kernel⟩
abbrev s_is_within : Stmt := topS 10
theorem sc_is_within : FnScope ["value", "least", "most"] ["value", "least", "most"] (defScope s_is_within) := ⟨rfl, rfl, rfl, by decide +kernel, rfl, by decide +kernel, by decide +kernel⟩
abbrev s_first_fault : Stmt := topS 13
theorem sc_first_fault : FnScope ["letters", "before", "at", "letter"] ["letters"] (defScope s_first_fault) := ⟨rfl, rfl, rfl, by decide +kernel, rfl, by decide +kernel, by decide +kernel⟩
abbrev s_first_stranger : Stmt := topS 14
theorem sc_first_stranger : FnScope ["letters", "at", "letter"] ["letters"] (defScope s_first_stranger) := ⟨rfl, rfl, rfl, by decide +kernel, rfl, by decide +kernel, by decide +kernel⟩
abbrev s_struck : Stmt := topS 15
theorem sc_struck : FnScope ["letters", "left", "letter"] ["letters"] (defScope s_struck) := ⟨rfl, rfl, rfl, by decide +kernel, rfl, by decide +kernel, by decide +kernel⟩
abbrev s_joined : Stmt := topS 16
theorem sc_joined : FnScope ["one", "other", "size", "most", "gone"] ["one", "other"] (defScope s_joined) := ⟨rfl, rfl, rfl, by decide +kernel, rfl, by decide +kernel, by decide +kernel⟩
abbrev s_undone : Stmt := topS 17
theorem sc_undone : FnScope ["letters"] ["letters"] (defScope s_undone) := ⟨rfl, rfl, rfl, by decide +kernel, rfl, by decide +kernel, by decide +kernel⟩
abbrev s_items_of : Stmt := topS 19
theorem sc_items_of : FnScope ["text"] ["text"] (defScope s_items_of) := ⟨rfl, rfl, rfl, by decide +kernel, rfl, by decide +kernel, by decide +kernel⟩
abbrev s_Word_init : Stmt := inClass (topS 21) 0
theorem sc_Word_init : FnScope ["self", "letters", "at"] ["self", "letters"] (defScope s_Word_init) := ⟨rfl, rfl, rfl, by decide +kernel, rfl, by decide +kernel, by decide +kernel⟩
abbrev s_Word_of : Stmt := inClass (topS 21) 1
theorem sc_Word_of : FnScope ["letters", "at"] ["letters"] (defScope s_Word_of) := ⟨rfl, rfl, rfl, by decide +kernel, rfl, by decide +kernel, by decide +kernel⟩
abbrev s_Word_read : Stmt := inClass (topS 21) 2
theorem sc_Word_read : FnScope ["text", "items", "word"] ["text"] (defScope s_Word_read) := ⟨rfl, rfl, rfl, by decide +kernel, rfl, by decide +kernel, by decide +kernel⟩
abbrev s_Word_str : Stmt := inClass (topS 21) 3
theorem sc_Word_str : FnScope ["self"] ["self"] (defScope s_Word_str) := ⟨rfl, rfl, rfl, by decide +kernel, rfl, by decide +kernel, by decide +kernel⟩
abbrev s_Word_mul : Stmt := inClass (topS 21) 4
theorem sc_Word_mul : FnScope ["self", "other"] ["self", "other"] (defScope s_Word_mul) := ⟨rfl, rfl, rfl, by decide +kernel, rfl, by decide +kernel, by decide +kernel⟩
abbrev s_Word_invert : Stmt := inClass (topS 21) 5
theorem sc_Word_invert : FnScope ["self"] ["self"] (defScope s_Word_invert) := ⟨rfl, rfl, rfl, by decide +kernel, rfl, by decide +kernel, by decide +kernel⟩
abbrev s_Word_power : Stmt := inClass (topS 21) 6
theorem sc_Word_power : FnScope ["self", "many"] ["self", "many"] (defScope s_Word_power) := ⟨rfl, rfl, rfl, by decide +kernel, rfl, by decide +kernel, by decide +kernel⟩
abbrev s_Word_len : Stmt := inClass (topS 21) 7
theorem sc_Word_len : FnScope ["self"] ["self"] (defScope s_Word_len) := ⟨rfl, rfl, rfl, by decide +kernel, rfl, by decide +kernel, by decide +kernel⟩
abbrev s_Word_iter : Stmt := inClass (topS 21) 8
theorem sc_Word_iter : FnScope ["self"] ["self"] (defScope s_Word_iter) := ⟨rfl, rfl, rfl, by decide +kernel, rfl, by decide +kernel, by decide +kernel⟩
abbrev s_Word_getitem : Stmt := inClass (topS 21) 9
theorem sc_Word_getitem : FnScope ["self", "at"] ["self", "at"] (defScope s_Word_getitem) := ⟨rfl, rfl, rfl, by decide +kernel, rfl, by decide +kernel, by decide +kernel⟩
abbrev s_Word_eq : Stmt := inClass (topS 21) 10
theorem sc_Word_eq : FnScope ["self", "other"] ["self", "other"] (defScope s_Word_eq) := ⟨rfl, rfl, rfl, by decide +kernel, rfl, by decide +kernel, by decide +kernel⟩
abbrev s_Word_lt : Stmt := inClass (topS 21) 11
theorem sc_Word_lt : FnScope ["self", "other"] ["self", "other"] (defScope s_Word_lt) := ⟨rfl, rfl, rfl, by decide +kernel, rfl, by decide +kernel, by decide +kernel⟩
abbrev s_Word_le : Stmt := inClass (topS 21) 12
theorem sc_Word_le : FnScope ["self", "other"] ["self", "other"] (defScope s_Word_le) := ⟨rfl, rfl, rfl, by decide +kernel, rfl, by decide +kernel, by decide +kernel⟩
abbrev s_Word_gt : Stmt := inClass (topS 21) 13
theorem sc_Word_gt : FnScope ["self", "other"] ["self", "other"] (defScope s_Word_gt) := ⟨rfl, rfl, rfl, by decide +kernel, rfl, by decide +kernel, by decide +kernel⟩
abbrev s_Word_ge : Stmt := inClass (topS 21) 14
theorem sc_Word_ge : FnScope ["self", "other"] ["self", "other"] (defScope s_Word_ge) := ⟨rfl, rfl, rfl, by decide +kernel, rfl, by decide +kernel, by decide +kernel⟩
abbrev s_Word_begins : Stmt := inClass (topS 21) 15
theorem sc_Word_begins : FnScope ["self", "other"] ["self", "other"] (defScope s_Word_begins) := ⟨rfl, rfl, rfl, by decide +kernel, rfl, by decide +kernel, by decide +kernel⟩
abbrev s_Word_ends : Stmt := inClass (topS 21) 16
theorem sc_Word_ends : FnScope ["self", "other"] ["self", "other"] (defScope s_Word_ends) := ⟨rfl, rfl, rfl, by decide +kernel, rfl, by decide +kernel, by decide +kernel⟩
abbrev s_Word_fits : Stmt := inClass (topS 21) 17
theorem sc_Word_fits : FnScope ["self", "other"] ["self", "other"] (defScope s_Word_fits) := ⟨rfl, rfl, rfl, by decide +kernel, rfl, by decide +kernel, by decide +kernel⟩
abbrev s_Word_meet : Stmt := inClass (topS 21) 18
theorem sc_Word_meet : FnScope ["self", "other", "size", "mine", "its"] ["self", "other"] (defScope s_Word_meet) := ⟨rfl, rfl, rfl, by decide +kernel, rfl, by decide +kernel, by decide +kernel⟩
abbrev s_Word_root : Stmt := inClass (topS 21) 19
theorem sc_Word_root : FnScope ["self"] ["self"] (defScope s_Word_root) := ⟨rfl, rfl, rfl, by decide +kernel, rfl, by decide +kernel, by decide +kernel⟩
abbrev s_Word_core : Stmt := inClass (topS 21) 20
theorem sc_Word_core : FnScope ["self"] ["self"] (defScope s_Word_core) := ⟨rfl, rfl, rfl, by decide +kernel, rfl, by decide +kernel, by decide +kernel⟩
abbrev s_word_in : Stmt := topS 22
theorem sc_word_in : FnScope ["item"] ["item"] (defScope s_word_in) := ⟨rfl, rfl, rfl, by decide +kernel, rfl, by decide +kernel, by decide +kernel⟩
abbrev s__law_pen : Stmt := topS 24
theorem sc__law_pen : FnScope ["script"] ["script"] (defScope s__law_pen) := ⟨rfl, rfl, rfl, by decide +kernel, rfl, by decide +kernel, by decide +kernel⟩
abbrev s__law_draw : Stmt := topS 25
theorem sc__law_draw : FnScope ["pen", "many", "digit", "spot", "cell", "great", "mixed"] ["pen", "many"] (defScope s__law_draw) := ⟨rfl, rfl, rfl, by decide +kernel, rfl, by decide +kernel, by decide +kernel⟩
abbrev s__law_pick : Stmt := topS 26
theorem sc__law_pick : FnScope ["pen", "some"] ["pen", "some"] (defScope s__law_pick) := ⟨rfl, rfl, rfl, by decide +kernel, rfl, by decide +kernel, by decide +kernel⟩
abbrev s__law_heard : Stmt := topS 27
theorem sc__law_heard : FnScope ["ask", "caught", "error"] ["ask"] (defScope s__law_heard) := ⟨rfl, rfl, rfl, by decide +kernel, rfl, by decide +kernel, by decide +kernel⟩
abbrev s__law_undo : Stmt := topS 28
theorem sc__law_undo : FnScope ["letter"] ["letter"] (defScope s__law_undo) := ⟨rfl, rfl, rfl, by decide +kernel, rfl, by decide +kernel, by decide +kernel⟩
abbrev s__law_row : Stmt := topS 29
theorem sc__law_row : FnScope ["pen", "most", "found", "kind", "turn", "some", "letter"] ["pen", "most"] (defScope s__law_row) := ⟨rfl, rfl, rfl, by decide +kernel, rfl, by decide +kernel, by decide +kernel⟩
abbrev s__law_places : Stmt := topS 30
theorem sc__law_places : FnScope ["row", "letter"] ["row"] (defScope s__law_places) := ⟨rfl, rfl, rfl, by decide +kernel, rfl, by decide +kernel, by decide +kernel⟩
abbrev s__law_less : Stmt := topS 31
theorem sc__law_less : FnScope ["one", "other", "at"] ["one", "other"] (defScope s__law_less) := ⟨rfl, rfl, rfl, by decide +kernel, rfl, by decide +kernel, by decide +kernel⟩
abbrev s__law_common : Stmt := topS 32
theorem sc__law_common : FnScope ["one", "other", "found"] ["one", "other"] (defScope s__law_common) := ⟨rfl, rfl, rfl, by decide +kernel, rfl, by decide +kernel, by decide +kernel⟩
abbrev s__law_other : Stmt := topS 33
theorem sc__law_other : FnScope ["pen", "row", "way", "cut", "letter"] ["pen", "row"] (defScope s__law_other) := ⟨rfl, rfl, rfl, by decide +kernel, rfl, by decide +kernel, by decide +kernel⟩
abbrev s__law_told : Stmt := topS 34
theorem sc__law_told : FnScope ["told", "due"] ["told", "due"] (defScope s__law_told) := ⟨rfl, rfl, rfl, by decide +kernel, rfl, by decide +kernel, by decide +kernel⟩
abbrev s__law_pair_right : Stmt := topS 35
theorem sc__law_pair_right : FnScope ["one", "other", "first", "then", "is_less", "is_same", "told", "many", "is_tail", "is_begun", "met"] ["one", "other"] (defScope s__law_pair_right) := ⟨rfl, rfl, rfl, by decide +kernel, rfl, by decide +kernel, by decide +kernel⟩
abbrev s__law_parts_right : Stmt := topS 36
theorem sc__law_parts_right : FnScope ["pen", "row", "begin", "end", "parts", "at", "caught", "word", "part", "due", "letter"] ["pen", "row"] (defScope s__law_parts_right) := ⟨rfl, rfl, rfl, by decide +kernel, rfl, by decide +kernel, by decide +kernel⟩
abbrev s__law_steps_right : Stmt := topS 37
theorem sc__law_steps_right : FnScope ["pen", "row", "due", "wrong", "caught", "step", "word", "at"] ["pen", "row"] (defScope s__law_steps_right) := ⟨rfl, rfl, rfl, by decide +kernel, rfl, by decide +kernel, by decide +kernel⟩
abbrev s__law_refused_right : Stmt := topS 38
theorem sc__law_refused_right : FnScope ["pen", "row", "heard", "caught", "odd", "word"] ["pen", "row"] (defScope s__law_refused_right) := ⟨rfl, rfl, rfl, by decide +kernel, rfl, by decide +kernel, by decide +kernel⟩
abbrev s_law : Stmt := topS 39
theorem sc_law : FnScope ["script", "pen", "turn", "one", "other"] ["script"] (defScope s_law) := ⟨rfl, rfl, rfl, by decide +kernel, rfl, by decide +kernel, by decide +kernel⟩
end K03
-- K03A
namespace K03
open PySem PySem.Spec PyProof.Rows L2 SB
theorem walk_enumS {z : Str} : Walk (Ies z) z.cps.size (fun _ => True) (fun i H v H' => ∃ (T : Addr) (c : Nat), v = .ref T ∧ H T = none ∧ z.cps[i]? = some c ∧ H' = upd H T (.tup [.int (i : Nat), .str ⟨#[c]⟩])) :=
  ⟨fun _ _ hi _ => hi, fun _ _ => rfl, fun _ _ _ _ _ _ y => y⟩
theorem same_new {H : Hp} {p : Addr} {o : HO} (h : H p = none) : Same H (upd H p o) := fun b x e => by
  rw [upd_ne (ne_of_none e h)]
  exact e
theorem drop_at {z : Str} {i c : Nat} (h : z.cps[i]? = some c) : z.cps.toList.drop i = c :: z.cps.toList.drop (i + 1) := by
  have h' : z.cps.toList[i]? = some c := by rw [Array.getElem?_toList]; exact h
  obtain ⟨lt, e⟩ := List.getElem?_eq_some_iff.mp h'
  rw [List.drop_eq_getElem_cons lt, e]
section
variable {P : Program} {w : World} {K : PySem.W.Frag} {mg : Str → Option Value} {base : Heap}
def vFault (l : List Nat) : V := match fault l with | none => .non | some i => .int (i : Nat)
def spFault : Sp := fun vs H Q _ => ∃ z : Str, vs = [.str z] ∧ ∀ H', Same H H' → Q (vFault z.cps.toList) H'
theorem ok_first_fault {f : Addr} {fd : FuncData} {k : Nat} (F : Fun K "first_fault" "first_fault" s_first_fault f fd) (me : mg "enumerate" = none) (mL : ∃ t, mg "LETTERS" = some (.str "ABCDabcd" t)) :
    FnOk P w K mg base CX0 (k + 1) f fd ["letters"] spFault := by
  obtain ⟨tL, mL⟩ := mL
  refine F.ok sc_first_fault (fun vs H Q E h => ?_) (fun cdv A outer s H vs Q E hr h => ?_)
  · obtain ⟨z, rfl, _⟩ := h
    rfl
  · obtain ⟨z, rfl, q⟩ := h
    refine ⟨_, pss_cons (ps_set (i := 1) sc_first_fault.nd rfl (.inl rfl) pe_str)
      (pss_cons (ps_for PassesOwn.never rfl (pi_enumS (by rfl) me (pa_cons (pv 0) pa_nil))
          (pg_tup rfl (pgs_cons (pg_name (i := 2) sc_first_fault.nd rfl (.inl rfl)) (pgs_cons (pg_name (i := 3) sc_first_fault.nd rfl (.inl rfl)) pgs_nil)))
        (pss_cons (ps_if (PW.pt (pw_or (pt_cmpR op_notIn_sign (pv 3) (pe_glob (v := .str "ABCDabcd") (by rfl) mL ⟨_, rfl⟩) rfl)
            (pw_or1 (pt_cmpR op_eq (pe_m0 PySem.F.slot_str_swapcase PySem.F.type_str_swapcase mt_swapcase (pv 3)) (pv 1) (nomark _)))))
          (pss_one (ps_ret (pv 2))) pss_nil)
        (pss_one (ps_set (i := 1) sc_first_fault.nd rfl (.inl rfl) (pv 3)))))
      (pss_one (ps_ret pe_non))), ?_⟩
    refine ⟨.str z, rfl, z, rfl, for_it walk_enumS (fun i σ H1 => ∃ p y2 y3, σ = [some (.str z), some (.str (prevT p)), y2, y3] ∧ Same H H1 ∧ faultFrom p i (z.cps.toList.drop i) = fault z.cps.toList)
      ⟨none, none, none, rfl, Same.refl H, rfl⟩ (fun _ _ _ _ _ => trivial) (fun i x σ H1 H2 hi hP hY => ?_) (fun σ H1 hP => ?_)⟩
    · obtain ⟨p, y2, y3, rfl, sm, ef⟩ := hP
      obtain ⟨T, c, rfl, nT, hc, rfl⟩ := hY
      rw [drop_at hc] at ef
      refine ⟨T, _, rfl, .inl (.inl upd_same), rfl, _, _, rfl, _, _, rfl, rfl, ?_⟩
      have sm2 : Same H (upd H1 T (.tup [.int (i : Nat), .str ⟨#[c]⟩])) := sm.trans (same_new nT)
      have mem : decide (c ∈ (Str.ofString "ABCDabcd").cps.toList) = isL c := by
        rw [letters_T]
        rfl
      refine ⟨.str ⟨#[c]⟩, rfl, c, _, rfl, rfl, _, rfl, ?_⟩
      rw [mem]
      by_cases hL : isL c = true
      · rw [hL]
        refine iteF ?_
        refine ⟨.str ⟨#[c]⟩, rfl, ⟨_, rfl⟩, _, rfl, rfl, (by show 1 ≤ 5592405; decide), .str (prevT p), rfl, rfl, _, rfl, ?_⟩
        rw [swap_up c hL, eq_prev]
        refine ite2 (fun hp => ?_) (fun hp => ?_)
        · have e : fault z.cps.toList = some i := by
            rw [← ef]
            exact if_pos (.inr (of_decide_eq_true hp))
          refine ⟨_, rfl, ?_⟩
          have r := q _ sm2
          unfold vFault at r
          rw [e] at r
          exact r
        · refine ⟨_, rfl, some c, _, _, rfl, sm2, ?_⟩
          have n : ¬ (isL c = false ∨ some (up c) = p) := by
            rintro (z1 | z2)
            · rw [hL] at z1
              cases z1
            · exact hp (decide_eq_true z2)
          rw [← ef]
          exact (if_neg n).symm
      · have hL' : isL c = false := by simpa using hL
        rw [hL']
        refine iteT (iteT ?_)
        have e : fault z.cps.toList = some i := by
          rw [← ef]
          exact if_pos (.inl hL')
        refine ⟨_, rfl, ?_⟩
        have r := q _ sm2
        unfold vFault at r
        rw [e] at r
        exact r
    · obtain ⟨p, y2, y3, rfl, sm, ef⟩ := hP
      have e : fault z.cps.toList = none := by
        rw [← ef, show z.cps.size = z.cps.toList.length from rfl, List.drop_length]
        rfl
      have r := q _ sm
      unfold vFault at r
      rw [e] at r
      exact r
theorem ok_BadWord_init {f : Addr} {fd : FuncData} {k : Nat} (F : Fun K "__init__" "BadWord.__init__" s_BadWord_init f fd) : FnOk P w K mg base CX0 (k + 1) f fd ["self", "at"] (spErr1 K "at") := by
  refine F.ok sc_BadWord_init (fun vs H Q E h => init1_sp h) (fun cdv A outer s H vs Q E hr h => ?_)
  exact ⟨_, pss_one (ps_ost (pv 0) (pv 1)), init1_read rfl h⟩
/-- any value, and whether it is a text -/
def AnyV (K : PySem.W.Frag) (H : Hp) (x : V) : Prop := (∃ z : Str, x = .str z) ∨ ∃ t, TyX K H x t ∧ PySem.W.kitOne K t (.type "str") = some false
theorem isStr_of {K : PySem.W.Frag} {H : Hp} {x : V} (h : AnyV K H x) : ∃ t b, TyX K H x t ∧ PySem.W.kitOne K t (.type "str") = some b ∧ (b = true → ∃ z : Str, x = .str z) ∧ (b = false → ∀ z : Str, x ≠ .str z) := by
  rcases h with ⟨z, rfl⟩ | ⟨t, ty, e⟩
  · exact ⟨.type "str", true, .base (.str z), kit_ty (by decide +kernel), fun _ => ⟨z, rfl⟩, fun z => nomatch z⟩
  · refine ⟨t, false, ty, e, (fun z => nomatch z), fun _ z hz => ?_⟩
    subst hz
    cases ty with
    | base b =>
      cases b
      have z : PySem.W.kitOne K (.type "str") (.type "str") = some true := kit_ty (by decide +kernel)
      rw [z] at e
      cases e
theorem ok_TooMany_init {f : Addr} {fd : FuncData} {k : Nat} (F : Fun K "__init__" "TooMany.__init__" s_TooMany_init f fd) : FnOk P w K mg base CX0 (k + 1) f fd ["self", "what", "most"] (spErr2 K "what" "most") := by
  refine F.ok sc_TooMany_init (fun vs H Q E h => init2_sp h) (fun cdv A outer s H vs Q E hr h => ?_)
  exact ⟨_, pss_cons (ps_ost (pv 0) (pv 1)) (pss_one (ps_ost (pv 0) (pv 2))), init2_read rfl h⟩
/-- a Word of the letters z at a -/
def WordAt (CW : Addr) (H : Hp) (a : Addr) (z : Str) : Prop := ∃ dx, H a = some (.ins CW dx [("letters", .str z)])
theorem same_made {H H' : Hp} {x dx C : Addr} {o : HO} (nx : H x = none) (nd : H dx = none) (s : Same (upd (upd H dx (.own x)) x (.ins C dx [])) H') : Same H (upd H' x o) := fun b u e => by
  have bx : b ≠ x := ne_of_none e nx
  have bd : b ≠ dx := ne_of_none e nd
  rw [upd_ne bx]
  refine s b u ?_
  rw [upd_ne bx, upd_ne bd]
  exact e
def spWordI (K : PySem.W.Frag) (CW CB CM : Addr) : Sp := fun vs H Q E => ∃ (a dx : Addr) (x : V), vs = [.ref a, x] ∧ H a = some (.ins CW dx []) ∧ AnyV K H x ∧
  (∀ z : Str, x = .str z → z.length ≤ 100000 ∧
    (∀ i, fault z.cps.toList = some i → ∀ H' d, Same H H' → H' d = none → E (.ref CB) (some d) (upd H' d (.xd [("at", .int (i : Nat))]))) ∧
    (fault z.cps.toList = none → 4000 < z.length → ∀ H' d, Same H H' → H' d = none → E (.ref CM) (some d) (upd H' d (.xd [("most", .int 4000), ("what", .str "letters")]))) ∧
    (fault z.cps.toList = none → z.length ≤ 4000 → ∀ H', Same H H' → Q .non (upd H' a (.ins CW dx [("letters", .str z)])))) ∧
  ((∀ z : Str, x ≠ .str z) → ∀ d, H d = none → E (.ref CB) (some d) (upd H d (.xd [("at", .int 0)])))
theorem ok_Word_init {f CW CB CM fB fF fM : Addr} {fd fdB fdF fdM : FuncData} {k : Nat} (F : FunD K "__init__" "Word.__init__" (defArgs s_Word_init) (defBody s_Word_init) (defScope s_Word_init) [.str ""] [] f fd) (T : Err1 K mg "BadWord" "at" CB fB) (FB : Fun K "__init__" "BadWord.__init__" s_BadWord_init fB fdB) (bB : Binds K fdB ["self", "at"] [])
    (TM : Err2 K mg "TooMany" "what" "most" CM fM) (FM : Fun K "__init__" "TooMany.__init__" s_TooMany_init fM fdM) (bM : Binds K fdM ["self", "what", "most"] []) (FF : Fun K "first_fault" "first_fault" s_first_fault fF fdF) (bF : Binds K fdF ["letters"] []) (gF : mg "first_fault" = some (.ref fF)) (cl : Cls K CW) (na : NoAttr K CW "letters")
    (mi : mg "isinstance" = none) (ms : mg "str" = none) (ml : mg "len" = none) (me : mg "enumerate" = none) (mL : ∃ t, mg "LETTERS" = some (.str "ABCDabcd" t)) (mM : ∃ t, mg "MOST_LETTERS" = some (.int 4000 t)) :
    FnOk P w K mg base (L2.CX P w) (k + 3) f fd ["self", "letters"] (spWordI K CW CB CM) := by
  obtain ⟨tM, mM⟩ := mM
  refine FunD.ok F sc_Word_init (fun vs H Q E h => ?_) (fun cdv A outer s H vs Q E hr h => ?_)
  · obtain ⟨a, dx, x, rfl, _⟩ := h
    rfl
  · obtain ⟨a, dx, x, rfl, ha, hx, yes, no⟩ := h
    have nd := sc_Word_init.nd
    have GF : FnOk P w K mg base CX0 (k + 2) fF fdF ["letters"] spFault := ok_first_fault (k := k + 1) FF me mL
    refine ⟨_, pss_cons (ps_if (pt_not (pt_val (pe_callB call_isi (by rfl) mi boot_isinstance (pa_cons (pv 1) (pa_cons (pe_bltn (v := .ty "str") (by rfl) ms PyProof.Rows.boot_str rfl) pa_nil)))))
        (pss_one (ps_raise1 T (ok_BadWord_init (k := k) FB) bB (hr.mono (by omega)) rfl (takes_of rfl rfl rfl rfl) pass0 pe_int)) pss_nil)
      (pss_cons (ps_set (i := 2) nd rfl (.inl rfl) (pe_call GF hr (by rfl) gF FF.kp bF .nil pass0 (pa_cons (pv 1) pa_nil)))
      (pss_cons (ps_if (pt_cmpR op_notN (pv 2) pe_non (nomark _))
        (pss_one (ps_raise1 T (ok_BadWord_init (k := k) FB) bB (hr.mono (by omega)) rfl (takes_of rfl rfl rfl rfl) pass0 (pv 2))) pss_nil)
      (pss_cons (ps_if (pt_cmpR op_gt (pe_callB call_len (by rfl) ml PySem.boot_len (pa_cons (pv 1) pa_nil)) (pe_glob (v := .int 4000) (by rfl) mM ⟨_, rfl⟩) (nomark _))
        (pss_one (ps_raise2 TM (ok_TooMany_init (k := k) FM) bM (hr.mono (by omega)) rfl (takes_of rfl rfl rfl rfl) pass0 pe_str (pe_glob (v := .int 4000) (by rfl) mM ⟨_, rfl⟩))) pss_nil)
      (pss_one (ps_fld (pv 0) (pv 1) rfl))))), ?_⟩
    obtain ⟨t, b, ty, ek, h1, h2⟩ := isStr_of hx
    refine ⟨x, rfl, x, .ty "str", t, .type "str", b, rfl, .ty "str", ty, ek, b, rfl, ?_⟩
    cases b with
    | false =>
      refine iteT ?_
      exact raised1 T fun d hd => no (h2 rfl) d hd
    | true =>
      obtain ⟨z, rfl⟩ := h1 rfl
      refine iteF ?_
      obtain ⟨hl, bad, long, good⟩ := yes z rfl
      refine ⟨.str z, rfl, z, rfl, fun H1 sm => ?_⟩
      refine ⟨_, rfl, rfl, _, rfl, ?_⟩
      cases e : fault z.cps.toList with
      | some i =>
        have ev : vFault z.cps.toList = .int (i : Nat) := by
          unfold vFault
          rw [e]
        rw [ev]
        refine iteT ?_
        refine ⟨_, rfl, ?_⟩
        exact raised1 T fun d hd => bad i e H1 d sm hd
      | none =>
        have ev : vFault z.cps.toList = .non := by
          unfold vFault
          rw [e]
        rw [ev]
        refine iteF ?_
        refine ⟨.str z, rfl, .str z, z.length, rfl, ⟨by rw [sizeLine_eq]; omega, rfl⟩, _, _, rfl, rfl, _, rfl, ?_⟩
        by_cases le : z.length ≤ 4000
        · have nb : decide ((4000 : Int) < (z.length : Int)) = false := decide_eq_false (by omega)
          rw [nb]
          refine iteF ?_
          exact ⟨.str z, rfl, .ref a, rfl, a, CW, dx, [], rfl, sm _ _ ha, cl, na, by decide, good e le H1 sm⟩
        · have nb : decide ((4000 : Int) < (z.length : Int)) = true := decide_eq_true (by omega)
          rw [nb]
          refine iteT ?_
          exact raised2 TM fun d hd => long e (by omega) H1 d sm hd
end
end K03
-- K03D1
namespace K03
open PySem PySem.Spec PyProof.Rows L2 SB
section
variable {P : Program} {w : World} {K : PySem.W.Frag} {mg : Str → Option Value} {base : Heap}
def spPen (K : PySem.W.Frag) : Sp := fun vs H Q _ => ∃ (a : Addr) (ns : List Int), vs = [.ref a] ∧ SqL K H a (ns.map V.int) ∧ ∀ p l H', H p = none → H l = none → Same H H' → PenQ l 0 H' p → Q (.ref p) H'
theorem ok_law_pen {f : Addr} {fd : FuncData} {k : Nat} (F : Fun K "_law_pen" "_law_pen" s__law_pen f fd) (ml : mg "list" = none) : FnOk P w K mg base CX0 (k + 1) f fd ["script"] (spPen K) := by
  refine F.ok sc__law_pen (fun vs H Q E h => ?_) (fun cdv A outer s H vs Q E hr h => ?_)
  · obtain ⟨a, ns, rfl, _⟩ := h
    rfl
  · obtain ⟨a, ns, rfl, hS, q⟩ := h
    refine ⟨_, pss_one (ps_ret (pe_lst (pa_cons (pe_callTy call_list_of (by rfl) ml PyProof.Rows.boot_list (pa_cons (pe_slice sl_list (pv 0) po_none (po_some pe_int)) pa_nil)) (pa_cons pe_int (pa_cons pe_int pa_nil))))), ?_⟩
    refine ⟨.ref a, rfl, 63, rfl, a, _, rfl, hS, fun c nc => ?_⟩
    obtain ⟨ms, em, lm⟩ := cut_nums ns none (some 63)
    rw [em]
    refine ⟨c, _, rfl, .inl (.inl (.inl upd_same)), fun l hl => ⟨by show 3 ≤ sizeLine; decide, fun p hp => ?_⟩⟩
    have s1 : Same H (upd H c (.lst (ms.map V.int))) := same_new nc
    have s2 := same_new (o := .lst (ms.map V.int)) hl
    have s3 := same_new (o := .lst [.ref l, .int 0, .int 0]) hp
    refine q p l _ (s1.free (s2.free hp)) (s1.free hl) (s1.trans (s2.trans s3)) ⟨ms, 0, 0, upd_same, s3 _ _ upd_same, by omega, by omega⟩
end
end K03
-- K03D2
namespace K03
open PySem PySem.Spec PyProof.Rows L2 SB
section
variable {P : Program} {w : World} {K : PySem.W.Frag} {mg : Str → Option Value} {base : Heap}
def spDraw : Sp := fun vs H Q _ => ∃ (p l : Addr) (N m : Int), vs = [.ref p, .int m] ∧ PenQ l N H p ∧ N ≤ 100000 ∧ 0 < m ∧ m ≤ 100000 ∧
  ∀ (d : Int) H', 0 ≤ d → d < m → Kept p H H' → PenQ l (N + 1) H' p → Q (.int d) H'
theorem mod_ok (i m : Int) (h : 0 < m) : 0 ≤ i % m ∧ i % m < m := ⟨Int.emod_nonneg _ (by omega), Int.emod_lt_of_pos _ h⟩
theorem ok_law_draw {f : Addr} {fd : FuncData} {k : Nat} (F : Fun K "_law_draw" "_law_draw" s__law_draw f fd) (m_int : mg "int" = none) (m_len : mg "len" = none) (m_abs : mg "abs" = none) : FnOk P w K mg base CX0 (k + 1) f fd ["pen", "many"] spDraw := by
  refine F.ok sc__law_draw (fun vs H Q E h => ?_) (fun cdv A outer s H vs Q E hr h => ?_)
  · obtain ⟨p, l, N, m, rfl, _⟩ := h
    rfl
  · obtain ⟨p, l, N, m, rfl, hP, hN, m0, m1, q⟩ := h
    have nd := sc__law_draw.nd
    refine ⟨_, (pss_cons (ps_if (pt_cmpR op_gt (pe_ix ix_list (pv 0) pe_int (fun _ _ => rfl)) pe_int (nomark _)) (pss_cons (ps_set (i := 2) nd rfl (.inl rfl) (pe_op op_mod (pe_callTy call_int1 (by rfl) m_int PyProof.Rows.boot_int (pa_cons (pe_ix ix_list (pv 0) pe_int (fun _ _ => rfl)) pa_nil)) (pv 1)))
      (pss_cons (ps_asg (pe_op op_fdiv (pe_callTy call_int1 (by rfl) m_int PyProof.Rows.boot_int (pa_cons (pe_ix ix_list (pv 0) pe_int (fun _ _ => rfl)) pa_nil)) (pv 1)) (pg_sub (pv 0) pe_int set_list))
      (pss_one (ps_ret (pv 2))))) pss_nil)
      (pss_cons (ps_set (i := 3) nd rfl (.inl rfl) (pe_ix ix_list (pv 0) pe_int (fun _ _ => rfl)))
      (pss_cons (ps_asg (pe_op op_add (pv 3) pe_int) (pg_sub (pv 0) pe_int set_list))
      (pss_cons (ps_set (i := 4) nd rfl (.inl rfl) (pe_op op_add (pe_op op_mul pe_int (pv 3)) pe_int))
      (C8.pss_cut (ps_if (pt_cmpR (op_neD hr.units) (pe_ix ix_list (pv 0) pe_int (fun _ _ => rfl)) (pe_lst pa_nil) (nomark _)) (pss_one (ps_set (i := 4) nd rfl (.inl rfl) (pe_ix ix_list (pe_ix ix_list (pv 0) pe_int (fun _ _ => rfl)) (pe_op op_mod (pe_callTy call_int1 (by rfl) m_int PyProof.Rows.boot_int (pa_cons (pv 3) pa_nil)) (pe_callB call_len_seq (by rfl) m_len PySem.boot_len (pa_cons (pe_ix ix_list (pv 0) pe_int (fun _ _ => rfl)) pa_nil))) (fun _ _ => rfl)))) pss_nil)
      (pss_cons (ps_if (PW.pt (pw_and (pt_cmpR op_lt (pv 3) (pe_callB call_len_seq (by rfl) m_len PySem.boot_len (pa_cons (pe_ix ix_list (pv 0) pe_int (fun _ _ => rfl)) pa_nil)) (nomark _)) (pw_and1 (pt_cmpR op_ge (pe_callB call_abs (by rfl) m_abs PyProof.Rows.boot_abs (pa_cons (pv 4) pa_nil)) (pe_op op_pow pe_int pe_int) (nomark _))))) (pss_cons (ps_set (i := 5) nd rfl (.inl rfl) (pe_op op_add (pe_op op_mul pe_int (pe_op op_sub (pe_callB call_abs (by rfl) m_abs PyProof.Rows.boot_abs (pa_cons (pv 4) pa_nil)) (pe_op op_pow pe_int pe_int))) (pe_callTy call_int1 (by rfl) m_int PyProof.Rows.boot_int (pa_cons (pe_cmpR op_lt (pv 4) pe_int (nomark _)) pa_nil))))
      (pss_cons (ps_asg (pe_op op_fdiv (pe_callTy call_int1 (by rfl) m_int PyProof.Rows.boot_int (pa_cons (pv 5) pa_nil)) (pv 1)) (pg_sub (pv 0) pe_int set_list))
      (pss_one (ps_ret (pe_op op_mod (pe_callTy call_int1 (by rfl) m_int PyProof.Rows.boot_int (pa_cons (pv 5) pa_nil)) (pv 1)))))) pss_nil)
      (pss_cons (ps_set (i := 6) nd rfl (.inl rfl) (pe_op op_mod (pe_callTy call_int1 (by rfl) m_int PyProof.Rows.boot_int (pa_cons (pe_op op_pow (pe_op op_add (pe_op op_add (pe_op op_mod (pe_callTy call_int1 (by rfl) m_int PyProof.Rows.boot_int (pa_cons (pv 4) pa_nil)) pe_int) (pe_op op_mul pe_int (pv 3))) pe_int) pe_int) pa_nil)) pe_int))
      (pss_cons (ps_set (i := 6) nd rfl (.inl rfl) (pe_op op_mod (pe_callTy call_int1 (by rfl) m_int PyProof.Rows.boot_int (pa_cons (pe_op op_pow (pe_op op_add (pe_op op_add (pe_op op_mul (pv 6) (pe_op op_add (pe_op op_mul pe_int (pv 3)) pe_int)) (pe_op op_mul (pe_op op_mul pe_int (pv 3)) (pv 3))) pe_int) pe_int) pa_nil)) pe_int))
      (pss_one (ps_ret (pe_op op_mod (pe_callTy call_int1 (by rfl) m_int PyProof.Rows.boot_int (pa_cons (pe_op op_fdiv (pv 6) pe_int) pa_nil)) (pv 1)))))))))))), ?_⟩
    obtain ⟨ns, i, j, hp, hl, i0, i1⟩ := hP
    have lp : l ≠ p := pen_ne hp hl
    have L0 : SqL K H p [.ref l, .int i, .int j] := .inl (.inl hp)
    have mm : (0 : Int) < m ∧ m < 1073741824 := ⟨m0, by omega⟩
    refine ⟨.ref p, rfl, p, _, 2, .int j, rfl, rfl, L0, atI_nat (j := 2) rfl, j, 0, rfl, rfl, _, rfl, ite2 (fun e => ?_) (fun e => ?_)⟩
    · -- what is left of a great cell
      refine ⟨.ref p, rfl, p, _, 2, .int j, rfl, rfl, L0, atI_nat (j := 2) rfl, .inl ⟨j, rfl, .int m, rfl, j, m, rfl, rfl, m0, ?_⟩⟩
      refine ⟨.ref p, rfl, p, _, 2, .int j, rfl, rfl, L0, atI_nat (j := 2) rfl, .inl ⟨j, rfl, .int m, rfl, j, m, rfl, rfl, mm, ?_⟩⟩
      refine ⟨.ref p, rfl, p, _, 2, 2, rfl, rfl, hp, rfl, ?_⟩
      refine ⟨.int (j % m), rfl, ?_⟩
      obtain ⟨d0, d1⟩ := mod_ok j m m0
      refine q _ _ d0 d1 (Kept.write (Kept.refl p H)) ⟨ns, i, j / m, upd_same, ?_, i0, by omega⟩
      rw [upd_ne lp]
      exact hl
    · refine ⟨.ref p, rfl, p, _, 1, .int i, rfl, rfl, L0, atI_nat (j := 1) rfl, ?_⟩
      refine ⟨.int i, rfl, i, 1, rfl, rfl, .ref p, rfl, p, _, 1, 1, rfl, rfl, hp, rfl, ?_⟩
      have hp1 : upd H p (.lst [.ref l, .int (i + 1), .int j]) p = some (.lst [.ref l, .int (i + 1), .int j]) := upd_same
      have hl1 : upd H p (.lst [.ref l, .int (i + 1), .int j]) l = some (.lst (ns.map V.int)) := by
        rw [upd_ne lp]
        exact hl
      have K1 : Kept p H (upd H p (.lst [.ref l, .int (i + 1), .int j])) := Kept.write (Kept.refl p H)
      have L1 : SqL K (upd H p (.lst [.ref l, .int (i + 1), .int j])) p [.ref l, .int (i + 1), .int j] := .inl (.inl hp1)
      have M1 : SqL K (upd H p (.lst [.ref l, .int (i + 1), .int j])) l (ns.map V.int) := .inl (.inl hl1)
      refine ⟨.int i, rfl, 91423, i, rfl, rfl, .inl ⟨by decide, by decide⟩, _, 1637, rfl, rfl, ?_⟩
      refine ⟨fun σ' H' => ∃ (c : Int), σ' = [some (.ref p), some (.int m), none, some (.int i), some (.int c), none, none] ∧ H' p = some (.lst [.ref l, .int (i + 1), .int j]) ∧ H' l = some (.lst (ns.map V.int)) ∧ Kept p H H', ?_, ?_⟩
      · -- cell
        refine ⟨.ref p, rfl, p, _, 0, .ref l, rfl, rfl, L1, atI_nat (j := 0) rfl, Nat.zero_le _, fun b hb => ?_⟩
        have sb := same_new (o := .lst []) hb
        have L2' : SqL K (upd (upd H p (.lst [.ref l, .int (i + 1), .int j])) b (.lst [])) p [.ref l, .int (i + 1), .int j] := .inl (.inl (sb _ _ hp1))
        have M2 : SqL K (upd (upd H p (.lst [.ref l, .int (i + 1), .int j])) b (.lst [])) l (ns.map V.int) := .inl (.inl (sb _ _ hl1))
        refine ⟨.list (ns.map PyData.int), .list [], .lst M2 (dp_nums ns), .lst (.inl (.inl upd_same)) .nil, shaped_nums ns, rfl, ?_⟩
        rw [eqv_empty]
        by_cases en : ns = []
        · rw [decide_eq_true en]
          refine ⟨false, rfl, iteF ?_⟩
          exact ⟨_, rfl, sb _ _ hp1, sb _ _ hl1, K1.trans (Kept.of sb)⟩
        · rw [decide_eq_false en]
          refine ⟨true, rfl, iteT ?_⟩
          have pos : 0 < ns.length := List.length_pos_iff.mpr en
          have zl : ((ns.map V.int).length : Int) = (ns.length : Int) := by rw [List.length_map]
          obtain ⟨r0, r1⟩ := mod_ok i (ns.length : Int) (by omega)
          have rt : (i % (ns.length : Int)).toNat < ns.length := by omega
          refine ⟨.ref p, rfl, p, _, 0, .ref l, rfl, rfl, L2', atI_nat (j := 0) rfl, .int i, rfl, .inl ⟨i, rfl, ?_⟩⟩
          refine ⟨.ref p, rfl, p, _, 0, .ref l, rfl, rfl, L2', atI_nat (j := 0) rfl, l, _, rfl, .inl M2, i, _, rfl, rfl, ?_, ?_⟩
          · rw [zl]
            omega
          · refine ⟨l, _, _, .int (ns[(i % (ns.length : Int)).toNat]), rfl, rfl, M2, at_of (j := (i % (ns.length : Int)).toNat) (by rw [zl]; omega) ?_, ?_⟩
            · rw [List.getElem?_map, List.getElem?_eq_getElem rt]
              rfl
            · exact ⟨_, rfl, sb _ _ hp1, sb _ _ hl1, K1.trans (Kept.of sb)⟩
      · rintro σ' H2 ⟨c, rfl, hp2, hl2, K2⟩
        have L2' : SqL K H2 p [.ref l, .int (i + 1), .int j] := .inl (.inl hp2)
        have M2 : SqL K H2 l (ns.map V.int) := .inl (.inl hl2)
        have zl : ((ns.map V.int).length : Int) = (ns.length : Int) := by rw [List.length_map]
        -- the rest behind a cell that isn't great
        refine ⟨.int i, rfl, .ref p, rfl, p, _, 0, .ref l, rfl, rfl, L2', atI_nat (j := 0) rfl, l, _, rfl, .inl M2, i, _, rfl, rfl, _, rfl, ?_⟩
        have out : ∀ r : Int, Q (.int (r % m)) H2 := fun r => by
          obtain ⟨d0, d1⟩ := mod_ok r m m0
          exact q _ _ d0 d1 K2 ⟨ns, i + 1, j, hp2, hl2, by omega, by omega⟩
        have ten : CPow 10 18 := ⟨by decide, by decide, by decide⟩
        refine ite2 (fun e1 => ⟨.int c, rfl, c, rfl, 10, 18, rfl, rfl, ten, _, _, rfl, rfl, _, rfl, ite2 (fun e2 => ?great) (fun e2 => ?t1)⟩) (fun e1 => iteF ?t2)
        case great =>
          refine ⟨.int c, rfl, c, rfl, 10, 18, rfl, rfl, ten, _, _, rfl, rfl, 2, _, rfl, rfl, .inl ⟨by decide, by decide⟩, .int c, rfl, c, 0, rfl, rfl, .inr ⟨_, rfl, _, _, rfl, rfl, ?_⟩⟩
          refine ⟨_, rfl, .inl ⟨_, rfl, .int m, rfl, _, m, rfl, rfl, mm, ?_⟩⟩
          refine ⟨.ref p, rfl, p, _, 2, 2, rfl, rfl, hp2, rfl, ?_⟩
          refine ⟨_, rfl, .inl ⟨_, rfl, .int m, rfl, _, m, rfl, rfl, m0, ?_⟩⟩
          obtain ⟨d0, d1⟩ := mod_ok ((fun i j => i + j) 0 0) m m0
          refine q _ _ (mod_ok _ m m0).1 (mod_ok _ m m0).2 (Kept.write K2) ⟨ns, i + 1, _, upd_same, ?_, by omega, by omega⟩
          rw [upd_ne lp]
          exact hl2
        all_goals
          obtain ⟨c0, c1⟩ := mod_ok c 2147483549 (by decide)
          refine ⟨.int c, rfl, .inl ⟨c, rfl, c, 2147483549, rfl, rfl, (by show (0 : Int) < 2147483549; decide), ?_⟩⟩
          refine ⟨.int i, rfl, _, i, rfl, rfl, .inl ⟨by decide, by decide⟩, _, _, rfl, rfl, _, _, rfl, rfl, _, 5, rfl, rfl, ⟨by decide, by decide, by omega⟩, ?_⟩
          obtain ⟨u0, u1⟩ := mod_ok ((c % 2147483549 + 52103 * i + 1051) ^ Int.toNat 5) 2147483563 (by decide)
          refine .inl ⟨_, rfl, _, _, rfl, rfl, (by show (0 : Int) < 2147483563; decide), ?_⟩
          refine ⟨_, rfl, .int i, rfl, _, i, rfl, rfl, .inl ⟨by decide, by decide⟩, _, _, rfl, rfl, ?_⟩
          show rI CMul (fun i j => V.int (i * j)) (.int ((c % 2147483549 + 52103 * i + 1051) ^ Int.toNat 5 % 2147483563)) (.int (2 * i + 181)) H2 _
          refine ⟨_, _, rfl, rfl, .inl ⟨by omega, by omega⟩, .int i, rfl, _, i, rfl, rfl, .inl ⟨by decide, by decide⟩, .int i, rfl, _, i, rfl, rfl, .inr ⟨by omega, by omega⟩, _, _, rfl, rfl, _, _, rfl, rfl, _, 3, rfl, rfl, ⟨by decide, by decide, bound3 u0 (by omega) i0 (by omega) (by decide) (by decide) (by decide) (by decide) (by decide) (by decide)⟩, ?_⟩
          refine .inl ⟨_, rfl, _, _, rfl, rfl, (by show (0 : Int) < 2147483629; decide), ?_⟩
          exact ⟨_, rfl, _, 32, rfl, rfl, ⟨by decide, by decide⟩, .inl ⟨_, rfl, .int m, rfl, _, m, rfl, rfl, m0, out _⟩⟩
end
end K03
-- K03D3
namespace K03
open PySem PySem.Spec PyProof.Rows L2 SB
theorem kept_seq {K : PySem.W.Frag} {H H' : Hp} {p a : Addr} {xs : List V} (k : Kept p H H') (n : a ≠ p) (h : SqL K H a xs) : SqL K H' a xs := by
  rcases h with (h | ⟨o, h⟩) | h
  · exact .inl (.inl (k _ _ h n))
  · exact .inl (.inr ⟨o, k _ _ h n⟩)
  · exact .inr h
/-- what one picks from: a list, or the signs of a text -/
def PickOf (K : PySem.W.Frag) (p : Addr) (H : Hp) (y : V) (xs : List V) : Prop := (∃ a, y = .ref a ∧ SqL K H a xs ∧ a ≠ p) ∨ ∃ z : Str, y = .str z ∧ xs = z.cps.toList.map fun c => V.str (s1 c)
section
variable {P : Program} {w : World} {K : PySem.W.Frag} {mg : Str → Option Value} {base : Heap}
def spPick (K : PySem.W.Frag) : Sp := fun vs H Q _ => ∃ (p l : Addr) (y : V) (N : Int) (xs : List V), vs = [.ref p, y] ∧ PenQ l N H p ∧ N ≤ 100000 ∧ PickOf K p H y xs ∧ 0 < xs.length ∧ xs.length ≤ 100000 ∧
  ∀ x H', x ∈ xs → Kept p H H' → PenQ l (N + 1) H' p → Q x H'
theorem ok_law_pick {f f__law_draw : Addr} {fd d__law_draw : FuncData} {k : Nat} (F : Fun K "_law_pick" "_law_pick" s__law_pick f fd)
    (G__law_draw : FnOk P w K mg base CX0 (k + 1) f__law_draw d__law_draw ["pen", "many"] spDraw) (g__law_draw : mg "_law_draw" = some (.ref f__law_draw)) (k__law_draw : PySem.W.keepIn K (.ref f__law_draw) = true) (b__law_draw : Binds K d__law_draw ["pen", "many"] [])
    (m_len : mg "len" = none) : FnOk P w K mg base CX0 (k + 2) f fd ["pen", "some"] (spPick K) := by
  refine F.ok sc__law_pick (fun vs H Q E h => ?_) (fun cdv A outer s H vs Q E hr h => ?_)
  · obtain ⟨p, l, a, N, xs, rfl, _⟩ := h
    rfl
  · obtain ⟨p, l, y, N, xs, rfl, hP, hN, hS, l0, l1, q⟩ := h
    have nd := sc__law_pick.nd
    refine ⟨_, (pss_one (ps_ret (pe_ix (ix_or ix_list ix_str) (pv 1) (pe_call G__law_draw (hr.mono (by omega)) (by rfl) g__law_draw k__law_draw b__law_draw .nil pass0 (pa_cons (pv 0) (pa_cons (pe_callB (call_or call_len_seq call_len) (by rfl) m_len PySem.boot_len (pa_cons (pv 1) pa_nil)) pa_nil))) (fun _ _ => rfl)))), ?_⟩
    rcases hS with ⟨a, rfl, hS, ne⟩ | ⟨z, rfl, rfl⟩
    · refine ⟨.ref a, rfl, .ref p, rfl, .ref a, rfl, .inl ⟨a, xs, rfl, .inl hS, p, l, N, (xs.length : Int), rfl, hP, hN, by omega, by omega, fun d H' d0 d1 kp pn => ?_⟩⟩
      have dl : d.toNat < xs.length := by omega
      refine .inl ⟨a, xs, d, xs[d.toNat], rfl, rfl, kept_seq kp ne hS, at_of (j := d.toNat) (by omega) (List.getElem?_eq_getElem dl), ?_⟩
      exact q _ H' (List.getElem_mem dl) kp pn
    · rw [List.length_map] at l0 l1
      have zs : z.length ≤ sizeLine := by
        rw [sizeLine_eq]
        show z.cps.toList.length ≤ _
        omega
      refine ⟨.str z, rfl, .ref p, rfl, .str z, rfl, .inr ⟨.str z, z.length, rfl, ⟨zs, rfl⟩, p, l, N, (z.length : Int), rfl, hP, hN, by show (0 : Int) < (z.cps.toList.length : Int); omega, by show (z.cps.toList.length : Int) ≤ 100000; omega, fun d H' d0 d1 kp pn => ?_⟩⟩
      have dl : d.toNat < z.cps.toList.length := by
        have : (z.length : Int) = (z.cps.toList.length : Int) := rfl
        omega
      have ha : atI z.cps.toList d = some z.cps.toList[d.toNat] := by
        have h := atI_nat (List.getElem?_eq_getElem dl)
        rwa [show ((d.toNat : Nat) : Int) = d by omega] at h
      refine .inr ⟨z, d, z.cps.toList[d.toNat], rfl, rfl, zs, ha, ?_⟩
      exact q _ H' (List.mem_map.mpr ⟨_, List.getElem_mem dl, rfl⟩) kp pn
end
end K03
-- K03E1
namespace K03
open PySem PySem.Spec PyProof.Rows L2 SB
theorem occ_letter : ∀ c, isL c = true → ∃ i rest, Builtin.Str.occurrences "ABCDabcd" (s1 c) 0 (Str.length "ABCDabcd") 1 = i :: rest ∧ ((("abcdABCD" : Str).cps.toList)[i]? = some (up c)) := by
  intro c h
  have h' : c ∈ letters8 := of_decide_eq_true h
  have all : ∀ c ∈ letters8, Builtin.Str.occurrences "ABCDabcd" (s1 c) 0 (Str.length "ABCDabcd") 1 = [letters8.idxOf c] ∧ ((("abcdABCD" : Str).cps.toList)[letters8.idxOf c]? = some (up c)) := by decide +kernel
  exact ⟨_, [], (all c h').1, (all c h').2⟩
section
variable {P : Program} {w : World} {K : PySem.W.Frag} {mg : Str → Option Value} {base : Heap}
def spUndo : Sp := fun vs H Q _ => ∃ c, vs = [.str (s1 c)] ∧ isL c = true ∧ Q (.str (s1 (up c))) H
theorem ok_law_undo {f : Addr} {fd : FuncData} {k : Nat} (F : Fun K "_law_undo" "_law_undo" s__law_undo f fd) : FnOk P w K mg base CX0 (k + 1) f fd ["letter"] spUndo := by
  refine F.ok sc__law_undo (fun vs H Q E h => ?_) (fun cdv A outer s H vs Q E hr h => ?_)
  · obtain ⟨c, rfl, _⟩ := h
    rfl
  · obtain ⟨c, rfl, hL, q⟩ := h
    refine ⟨_, (pss_one (ps_ret (pe_ix ix_str pe_str (pe_m1 PySem.F.slot_str_index PySem.F.type_str_index mt_sindex pe_str (pv 0)) (fun _ _ => rfl)))), ?_⟩
    obtain ⟨i, rest, e1, e2⟩ := occ_letter c hL
    refine ⟨⟨_, rfl⟩, .str (s1 c), rfl, _, _, i, rest, rfl, rfl, e1, ?_⟩
    exact ⟨_, _, up c, rfl, rfl, by decide +kernel, atI_nat e2, q⟩
end
end K03
-- K03E2
namespace K03
open PySem PySem.Spec PyProof.Rows L2 SB
def kinds : List Str := ["ABCDabcd", "Aab", "ABab", "CcdB", "AD"]
theorem kinds_in {x : V} (h : x ∈ [V.str "ABCDabcd", .str "Aab", .str "ABab", .str "CcdB", .str "AD"]) : ∃ kz : Str, x = .str kz ∧ kz ∈ kinds := by
  have e : [V.str "ABCDabcd", .str "Aab", .str "ABab", .str "CcdB", .str "AD"] = kinds.map V.str := rfl
  rw [e] at h
  obtain ⟨kz, h1, h2⟩ := List.mem_map.mp h
  exact ⟨kz, h2.symm, h1⟩
theorem kinds_ok : ∀ kz ∈ kinds, (∀ c ∈ kz.cps.toList, isL c = true) ∧ kz.length ≤ 8 ∧ (kz.cps.toList.headD 0 ∈ kz.cps.toList ∧ kz.cps.toList.getLastD 0 ∈ kz.cps.toList ∧ kz.cps.toList.headD 0 ≠ kz.cps.toList.getLastD 0) := by decide +kernel
/-- whether a letter may stand behind a row -/
def may (z : Str) (c : Nat) : Bool := match z.cps.toList.getLast? with | none => true | some d => decide (c ≠ up d)
theorem some_may {kz : Str} (h : kz ∈ kinds) (z : Str) : ∃ c ∈ kz.cps.toList, may z c = true := by
  obtain ⟨_, _, h1, h2, h3⟩ := kinds_ok kz h
  unfold may
  cases z.cps.toList.getLast? with
  | none => exact ⟨_, h1, rfl⟩
  | some d =>
    by_cases e : kz.cps.toList.headD 0 = up d
    · exact ⟨_, h2, decide_eq_true fun q => h3 (e.trans q.symm)⟩
    · exact ⟨_, h1, decide_eq_true e⟩
theorem take_filter {l : List Nat} {i c : Nat} (f : Nat → Bool) (h : l[i]? = some c) : (l.take (i + 1)).filter f = (l.take i).filter f ++ (if f c = true then [c] else []) := by
  rw [List.take_add_one, h, List.filter_append]
  congr 1
  show List.filter f [c] = _
  by_cases e : f c = true
  · rw [if_pos e, List.filter_cons_of_pos e]
    rfl
  · rw [if_neg e, List.filter_cons_of_neg e]
    rfl
def vs1 (l : List Nat) : List V := l.map fun c => V.str (s1 c)
section
variable {P : Program} {w : World} {K : PySem.W.Frag} {mg : Str → Option Value} {base : Heap}
/-- a row of letters without a fault, of at most m -/
def RowOk (m : Nat) (z : Str) : Prop := fault z.cps.toList = none ∧ z.length ≤ m
def spRow : Sp := fun vs H Q _ => ∃ (p l : Addr) (N m : Int), vs = [.ref p, .int m] ∧ PenQ l N H p ∧ 0 ≤ m ∧ m ≤ 100 ∧ N + m + 10 ≤ 100000 ∧
  ∀ z H', RowOk m.toNat z → Kept p H H' → PenQ l (N + m + 2) H' p → Q (.str z) H'
theorem ok_law_row {f f__law_draw f__law_pick f__law_undo : Addr} {fd d__law_draw d__law_pick d__law_undo : FuncData} {k : Nat} (F : Fun K "_law_row" "_law_row" s__law_row f fd)
    (G__law_draw : FnOk P w K mg base CX0 (k + 2) f__law_draw d__law_draw ["pen", "many"] spDraw) (g__law_draw : mg "_law_draw" = some (.ref f__law_draw)) (k__law_draw : PySem.W.keepIn K (.ref f__law_draw) = true) (b__law_draw : Binds K d__law_draw ["pen", "many"] [])
    (G__law_pick : FnOk P w K mg base CX0 (k + 2) f__law_pick d__law_pick ["pen", "some"] (spPick K)) (g__law_pick : mg "_law_pick" = some (.ref f__law_pick)) (k__law_pick : PySem.W.keepIn K (.ref f__law_pick) = true) (b__law_pick : Binds K d__law_pick ["pen", "some"] [])
    (G__law_undo : FnOk P w K mg base CX0 (k + 2) f__law_undo d__law_undo ["letter"] spUndo) (g__law_undo : mg "_law_undo" = some (.ref f__law_undo)) (k__law_undo : PySem.W.keepIn K (.ref f__law_undo) = true) (b__law_undo : Binds K d__law_undo ["letter"] [])
    (m_range : mg "range" = none) : FnOk P w K mg base CX0 (k + 3) f fd ["pen", "most"] spRow := by
  refine F.ok sc__law_row (fun vs H Q E h => ?_) (fun cdv A outer s H vs Q E hr h => ?_)
  · obtain ⟨p, l, N, m, rfl, _⟩ := h
    rfl
  · obtain ⟨p, l, N, m, rfl, hP, m0, m1, hN, q⟩ := h
    have nd := sc__law_row.nd
    refine ⟨_, (pss_cons (ps_asg (pe_tup (pa_cons pe_str (pa_cons (pe_call G__law_pick (hr.mono (by omega)) (by rfl) g__law_pick k__law_pick b__law_pick .nil pass0 (pa_cons (pv 0) (pa_cons (pe_lst (pa_cons pe_str (pa_cons pe_str (pa_cons pe_str (pa_cons pe_str (pa_cons pe_str pa_nil)))))) pa_nil))) pa_nil))) (pg_tup rfl (pgs_cons (pg_name (i := 2) nd rfl (.inr rfl)) (pgs_cons (pg_name (i := 3) nd rfl (.inl rfl)) pgs_nil))))
      (pss_cons (ps_for PassesOwn.never rfl (pi_range1 (by rfl) m_range (pa_cons (pe_call G__law_draw (hr.mono (by omega)) (by rfl) g__law_draw k__law_draw b__law_draw .nil pass0 (pa_cons (pv 0) (pa_cons (pe_op op_add (pv 1) pe_int) pa_nil))) pa_nil)) (pg_name (i := 4) nd rfl (.inl rfl)) (pss_cons (ps_setLc (i := 5) (own := [("letter", 6)]) (g := gName 6) (by rfl) nd rfl rfl (sw_true rfl rfl rfl (by decide +kernel)) (pi_str (pv 3)) (blkOk_by (own := [("letter", 6)]) (N := ["pen", "most", "found", "kind", "turn", "some", "letter"]) (sc := defScope s__law_row) (by decide +kernel)) (fun _ _ _ _ _ => pg_name (i := 6) nd rfl (Or.inl rfl)) (fun _ _ _ _ _ => (pts_one (PW.pt (pw_or (pt_cmpR op_eq (pv 2) pe_str (nomark _)) (pw_or1 (pt_cmpR op_ne (pv 6) (pe_call G__law_undo (hr.mono (by omega)) (by rfl) g__law_undo k__law_undo b__law_undo .nil pass0 (pa_cons (pe_ix ix_str (pv 2) (pe_un un_neg pe_int) (fun _ _ => rfl)) pa_nil)) (nomark _))))))) (fun _ _ _ _ _ => (pv 6)))
      (pss_one (ps_set (i := 2) nd rfl (.inr rfl) (pe_op op_add_str (pv 2) (pe_call G__law_pick (hr.mono (by omega)) (by rfl) g__law_pick k__law_pick b__law_pick .nil pass0 (pa_cons (pv 0) (pa_cons (pv 5) pa_nil))))))))
      (pss_one (ps_ret (pv 2))))), ?_⟩
    -- kind
    refine ⟨.ref p, rfl, by show 5 ≤ sizeLine; decide, fun a ha => ?_⟩
    have s0 := same_new (o := .lst [.str "ABCDabcd", .str "Aab", .str "ABab", .str "CcdB", .str "AD"]) ha
    have pa : a ≠ p := hP.ne_p ha
    refine ⟨p, l, .ref a, N, _, rfl, hP.same s0, by omega, .inl ⟨a, rfl, .inl (.inl upd_same), pa⟩, by decide, by decide, fun x H1 hx k1 p1 => ?_⟩
    have hk := kinds_in hx
    obtain ⟨kz, rfl, hkz⟩ := hk
    refine ⟨by show 2 ≤ sizeLine; decide, fun t ht => ?_⟩
    have s1' := same_new (o := .tup [.str "", .str kz]) ht
    refine ⟨t, _, rfl, .inl (.inl upd_same), rfl, _, _, rfl, _, _, rfl, rfl, ?_⟩
    have kk0 : Kept p H (upd H1 t (.tup [.str "", .str kz])) := (Kept.of s0).trans (k1.trans (Kept.of s1'))
    obtain ⟨kL, kS, _⟩ := kinds_ok kz hkz
    refine ⟨.ref p, rfl, .int m, rfl, m, 1, rfl, rfl, p, l, N + 1, m + 1, rfl, p1.same s1', by omega, by omega, by omega, fun d H3 d0 d1 k3 p3 => ?_⟩
    refine ⟨d, rfl, by omega, by omega, for_range (lo := 0) (n := d.toNat) (fun i σ H' => ∃ z y4 y5 y6, σ = [some (.ref p), some (.int m), some (.str z), some (.str kz), y4, y5, y6] ∧ fault z.cps.toList = none ∧ z.length = i ∧ Kept p H H' ∧ PenQ l (N + 2 + i) H' p)
      ⟨"", none, none, none, rfl, by decide +kernel, rfl, kk0.trans k3, p3.mono (by omega)⟩ (fun i σ H4 hi hPv => ?_) (fun σ H4 hPv => ?_)⟩
    · obtain ⟨z, y4, y5, y6, rfl, fz, lz, k4, p4⟩ := hPv
      refine ⟨.str kz, rfl, kz, rfl, fun D hD => lc_it walk_str (fun i' H' => Same H4 H' ∧ H' D = some (.lst (vs1 ((kz.cps.toList.take i').filter (may z))))) ⟨same_new hD, upd_same⟩ (fun _ _ _ _ => trivial) (fun i' x Ha Hb hi' hPc hY => ?_) (fun H5 hPc => ?_)⟩
      · obtain ⟨sa, ha'⟩ := hPc
        obtain ⟨rfl, c, hc, rfl⟩ := hY
        have hc' : kz.cps.toList[i']? = some c := by
          rw [Array.getElem?_toList]
          exact hc
        have tf := take_filter (may z) hc'
        have small : (vs1 ((kz.cps.toList.take i').filter (may z))).length < sizeLine := by
          unfold vs1
          rw [List.length_map, sizeLine_eq]
          have q1 := List.length_filter_le (may z) (kz.cps.toList.take i')
          have q2 : (kz.cps.toList.take i').length ≤ kz.cps.toList.length := by
            rw [List.length_take]
            omega
          have q3 := kS
          rw [len_codes] at q3
          omega
        have more : may z c = true → ∀ Hc, Same H4 Hc → Hc D = some (.lst (vs1 ((kz.cps.toList.take i').filter (may z)))) → Same H4 (upd Hc D (.lst (vs1 ((kz.cps.toList.take i').filter (may z)) ++ [.str (s1 c)]))) ∧
            (upd Hc D (.lst (vs1 ((kz.cps.toList.take i').filter (may z)) ++ [.str (s1 c)]))) D = some (.lst (vs1 ((kz.cps.toList.take (i' + 1)).filter (may z)))) := fun em Hc sc hDc => by
          refine ⟨fun b u e => ?_, ?_⟩
          · rw [upd_ne (ne_of_none e hD)]
            exact sc b u e
          · rw [upd_same, tf, if_pos em]
            unfold vs1
            rw [List.map_append]
            rfl
        refine ⟨rfl, .str z, rfl, rfl, _, rfl, ite2 (fun e => ?_) (fun e => ?_)⟩
        · have ez : z = "" := V.str.inj (of_decide_eq_true e)
          have em : may z c = true := by
            rw [ez]
            rfl
          refine iteT ?_
          exact ⟨.str (s1 c), rfl, _, ha', small, more em _ sa ha'⟩
        · have nz : z ≠ "" := fun q => e (decide_eq_true (congrArg V.str q))
          have nl : z.cps.toList ≠ [] := fun q => nz (str_empty.mpr q)
          obtain ⟨dl, hdl⟩ : ∃ dl, z.cps.toList.getLast? = some dl := ⟨_, List.getLast?_eq_getLast nl⟩
          obtain ⟨r, er⟩ := last_split hdl
          have dL : isL dl = true := letters_of _ _ _ fz dl (by rw [er]; exact List.mem_append_right _ List.mem_cons_self)
          have emay : may z c = decide (c ≠ up dl) := by
            unfold may
            rw [hdl]
          have at1 : atI z.cps.toList (-1) = some dl := by
            rw [er]
            exact atI_last _ _
          have zs : z.length ≤ sizeLine := by
            rw [sizeLine_eq]
            omega
          refine ⟨.str (s1 c), rfl, .str z, rfl, 1, rfl, z, -1, dl, rfl, rfl, zs, at1, dl, rfl, dL, rfl, _, rfl, ?_⟩
          by_cases ec : c = up dl
          · have e1 : (!decide (V.str (s1 c) = V.str (s1 (up dl)))) = false := by
              rw [ec]
              simp
            rw [e1]
            refine iteF ⟨sa, ?_⟩
            rw [ha', tf, if_neg]
            · rw [List.append_nil]
            · rw [emay]
              simpa using ec
          · have e1 : (!decide (V.str (s1 c) = V.str (s1 (up dl)))) = true := by
              rw [decide_eq_false fun q => ec (s1_inj (V.str.inj q))]
              rfl
            rw [e1]
            refine iteT ?_
            exact ⟨.str (s1 c), rfl, _, ha', small, more (emay.trans (decide_eq_true ec)) _ sa ha'⟩
      · obtain ⟨s5, h5⟩ := hPc
        have full : kz.cps.toList.take kz.cps.size = kz.cps.toList := List.take_of_length_le (by simp)
        rw [full] at h5
        obtain ⟨c1, c2, c3⟩ := some_may hkz z
        have mem1 : c1 ∈ kz.cps.toList.filter (may z) := List.mem_filter.mpr ⟨c2, c3⟩
        have pD : D ≠ p := p4.ne_p hD
        have lp1 : 0 < (vs1 (kz.cps.toList.filter (may z))).length := by
          unfold vs1
          rw [List.length_map]
          exact List.length_pos_of_mem mem1
        have lp2 : (vs1 (kz.cps.toList.filter (may z))).length ≤ 100000 := by
          unfold vs1
          rw [List.length_map]
          have q1 := List.length_filter_le (may z) kz.cps.toList
          have q3 := kS
          rw [len_codes] at q3
          omega
        refine ⟨.str z, rfl, .ref p, rfl, .ref D, rfl, p, l, .ref D, N + 2 + i, _, rfl, p4.same s5, by omega, .inl ⟨D, rfl, .inl (.inl h5), pD⟩, lp1, lp2, fun x H6 hx6 k6 p6 => ?_⟩
        obtain ⟨c, hc, rfl⟩ := List.mem_map.mp hx6
        obtain ⟨hcm, hcy⟩ := List.mem_filter.mp hc
        refine ⟨z, s1 c, rfl, rfl, by show z.length + 1 ≤ sizeLine; rw [sizeLine_eq]; omega, ?_⟩
        refine ⟨z ++ s1 c, _, _, _, rfl, ?_, ?_, k4.trans ((Kept.of s5).trans k6), p6.mono (by omega)⟩
        · rw [app_codes]
          refine fault_snoc fz (kL c hcm) fun d hd => ?_
          unfold may at hcy
          rw [hd] at hcy
          exact of_decide_eq_true hcy
        · rw [Str.length_append, lz]
          rfl
    · obtain ⟨z, y4, y5, y6, rfl, fz, lz, k4, p4⟩ := hPv
      refine ⟨.str z, rfl, ?_⟩
      exact q z _ ⟨fz, by omega⟩ k4 (p4.mono (by omega))
end
end K03
-- K03F1
namespace K03
open PySem PySem.Spec PyProof.Rows L2 SB
/-- a def whose code object is at c -/
structure FunT (K : PySem.W.Frag) (x qual : Str) (st : Stmt) (f c : Addr) (fd : FuncData) : Prop where
  ex : ∃ (oc : Value) (od : Option Addr) (kV doc pm : Value) (an : Option Addr) (ct : Value) (osl : Array (Option Value)),
    fd = PySem.W.fnOf x qual (defArgs st) (defBody st) (defScope st) .none kV doc pm an (.ref c) ct ∧ K.lookup f = some ⟨oc, od, .func fd, osl⟩ ∧ PySem.W.codeIn K (.ref c) qual = true
  kp : PySem.W.keepIn K (.ref f) = true
section
variable {P : Program} {w : World} {K : PySem.W.Frag} {mg : Str → Option Value} {base : Heap}
theorem FunT.fn {x qual : Str} {st : Stmt} {f c : Addr} {fd : FuncData} (F : FunT K x qual st f c fd) : Fun K x qual st f fd := by
  obtain ⟨oc, od, kV, doc, pm, an, ct, osl, e, lk, hcd⟩ := F.ex
  exact ⟨⟨oc, od, kV, doc, pm, an, .ref c, ct, osl, e, lk, hcd⟩, F.kp⟩
theorem FunT.ok {x qual : Str} {st : Stmt} {f c : Addr} {fd : FuncData} {N ps : List Str} {k : Nat} {sp : Sp} (F : FunT K x qual st f c fd) (S : FnScope N ps (defScope st)) (len : ∀ vs H Q E, sp vs H Q E → vs.length = ps.length)
    (hbody : ∀ (A : Around) (outer : List Env) (s : Shared) (H : Hp) (vs : List V) (Q : VK) (E : XK), Room k (A.deeper (envOfC qual (defScope st) s.heap.objs.size f (.ref c))) → sp vs H Q E →
      ∃ t, PSs (cxOf CX0 P w K mg base N qual (defScope st) f (.ref c) A outer s H E).nox (defBody st) t ∧ t { nx := fun _ H' => Q .non H', rt := Q } (L2.start N vs) H) : FnOk P w K mg base CX0 (k + 1) f fd ps sp := by
  obtain ⟨oc, od, kV, doc, pm, an, ct, osl, rfl, lk, hcd⟩ := F.ex
  refine fn_of lk hcd S len fun A outer s H vs Q E hr hsp => ?_
  obtain ⟨t, h, q⟩ := hbody A outer s H vs Q E hr hsp
  exact ⟨t, h.nox, q⟩
theorem funT_mk {x qual : Str} {st : Stmt} {f c : Addr} {oc : Value} {od an : Option Addr} {osl : Array (Option Value)} {kV doc pm ct : Value} (l : K.lookup f = some ⟨oc, od, .func (PySem.W.fnOf x qual (defArgs st) (defBody st) (defScope st) .none kV doc pm an (.ref c) ct), osl⟩)
    (e : PySem.W.codeIn K (.ref c) qual = true) (k : PySem.W.keepIn K (.ref f) = true) : FunT K x qual st f c (PySem.W.fnOf x qual (defArgs st) (defBody st) (defScope st) .none kV doc pm an (.ref c) ct) :=
  ⟨⟨oc, od, kV, doc, pm, an, ct, osl, rfl, l, e⟩, k⟩
/-- what is told of _law_heard -/
structure Heard (K : PySem.W.Frag) (mg : Str → Option Value) (CB : Addr) : Prop where
  ex : ∃ g fd, Fun K "_law_heard" "_law_heard" s__law_heard g fd ∧ Binds K fd ["ask"] [] ∧ mg "_law_heard" = some (.ref g)
  be : mg "BallError" = some (.ref CB)
/-- _law_heard(lambda: body) -/
theorem pe_heard {X : Cx} {T : List (Addr × Str)} {CB c P : Addr} {k : Nat} {params : Arguments} {body : Expr} {scope : Scope} {t : XK → TE} {p lpos pos : Pos} (Hd : Heard X.K X.mg CB) (hg : Gl X "_law_heard")
    (TB : LamX.TabB X.base X.mg c P) (hcode : X.env.code = .ref c) (hmT : (P, X.env.qual ++ "<lambda>") ∈ T) (hu : ∀ p ∈ T, p.1 = P → p.2 = X.env.qual ++ "<lambda>") (hr : Room (k + 2) X.A) (L : LamX.LamS X.env.scope scope) (hdef : defaultsOf params X.env = ([], []))
    (hbind : ∀ (q : Str) (cl : List (Str × Addr)) (pm cv ctv : Value), bindArgs (PySem.W.kla_fn "<lambda>" q params body scope cl pm cv ctv) ⟨[], []⟩ = pure [])
    (hbody : ∀ (A : Around) (outer : List Env) (s : Shared) (H : Hp) (E : XK) (f c' : Addr), Room k (A.deeper (LamX.lamEnv X scope s.heap.objs.size f c')) → PE (LamX.lamCx X A outer s H E scope f c') body (t E)) :
    PE X (.Call (.Name "_law_heard" p) [.Lambda params body scope lpos] [] pos) (LamX.tLam T (THeard X.K CB) t) := by
  obtain ⟨g, fd, F, bF, hm⟩ := Hd.ex
  have kp := F.kp
  obtain ⟨oc, od, kV, doc, pm, an, cdv, ct, osl, rfl, lk, hcd⟩ := F.ex
  exact LamX.pe_lamcall (Ng := ["ask", "caught", "error"]) (a := "ask") hg hm kp lk hcd bF sc__law_heard rfl (.inl rfl) (heard_gives (x := "_law_heard") (g := g) (cdg := cdv) Hd.be) TB hcode hmT hu hr L hdef hbind hbody
end
end K03
-- K03F3
namespace K03
open PySem PySem.Spec PyProof.Rows L2 SB
/-- what isinstance asks of an own class -/
structure IsC (K : PySem.W.Frag) (C : Addr) : Prop where
  ca : PySem.W.findIn K (.ref C) "__class__" = some (some (.builtin "object.__class__"))
  cg : PySem.W.specialIn K (.builtin "object.__class__") "__get__" = some (some (.builtin "getset_descriptor.__get__"))
  ct : PySem.W.takesIn K (.builtin "object.__class__") = some true
  mr : PySem.W.mroIn K C (.type "object") = some true
  ns : PySem.W.kitOne K (.ref C) (.type "str") = some false
theorem isC_ty {K : PySem.W.Frag} {CW a : Addr} {H : Hp} {z : Str} (c : Cls K CW) (i : IsC K CW) (h : WordAt CW H a z) : TyX K H (.ref a) (.ref CW) := by
  obtain ⟨dx, h⟩ := h
  exact .base (.ins h c i.ca i.cg i.ct i.mr)
theorem kit_self {K : PySem.W.Frag} {C : Addr} : PySem.W.kitOne K (.ref C) (.ref C) = some true := by
  unfold PySem.W.kitOne
  rw [if_pos (beq_self_eq_true _)]
theorem made_word {H H1 : Hp} {x dx CW : Addr} {z : Str} (nx : H x = none) (nd : H dx = none) (s : Same (upd (upd H dx (.own x)) x (.ins CW dx [])) H1) :
    Same H (upd H1 x (.ins CW dx [("letters", .str z)])) ∧ WordAt CW (upd H1 x (.ins CW dx [("letters", .str z)])) x z := ⟨same_made nx nd s, dx, upd_same⟩
theorem same_make {H H1 : Hp} {x dx CW : Addr} (nx : H x = none) (nd : H dx = none) (ne : dx ≠ x) (s : Same (upd (upd H dx (.own x)) x (.ins CW dx [])) H1) : Same H H1 :=
  (same_new nd).trans ((same_new (by rw [upd_ne (Ne.symm ne)]; exact nx)).trans s)
theorem fine_word {z : Str} (h : Fine z.cps.toList) : fault z.cps.toList = none := (fine_iff _).mpr h
section
variable {P : Program} {w : World} {K : PySem.W.Frag} {mg : Str → Option Value} {base : Heap}
/-- what is told of the making of Words -/
structure MakeOk (P : Program) (w : World) (K : PySem.W.Frag) (mg : Str → Option Value) (base : Heap) (CW CB2 CM : Addr) (k : Nat) : Prop where
  word : ∃ f fd tE, Mk K CW f ∧ FnOk P w K mg base (L2.CX P w) (k + 3) f fd ["self", "letters"] (spWordI K CW CB2 CM) ∧ Binds K fd ["self", "letters"] [] ∧ Binds K fd ["self", "letters"] [tE] ∧ RelV (.str "") tE
  gW : mg "Word" = some (.ref CW)
  cl : Cls K CW
  ic : IsC K CW
  na : NoAttr K CW "letters"
theorem eqv_word (z y : Str) : PyData.eqv (.tuple [.int (z.length : Nat), .str z]) (.tuple [.int (y.length : Nat), .str y]) = decide (z = y) := by
  show ((((z.length : Nat) : Int) == ((y.length : Nat) : Int)) && ((z == y) && true)) = decide (z = y)
  by_cases e : z = y
  · subst e
    simp
  · have : (z == y) = false := by simpa using e
    rw [this, decide_eq_false e]
    simp
def spEq (K : PySem.W.Frag) (CW : Addr) : Sp := fun vs H Q _ => ∃ (a : Addr) (z : Str) (y : V), vs = [.ref a, y] ∧ WordAt CW H a z ∧ Fine z.cps.toList ∧ z.length ≤ 4000 ∧
  ((∃ (b : Addr) (v : Str), y = .ref b ∧ WordAt CW H b v ∧ Fine v.cps.toList ∧ v.length ≤ 4000 ∧ ∀ H', Same H H' → Q (.bl (decide (z = v))) H') ∨ (∃ t, TyX K H y t ∧ PySem.W.kitOne K t (.ref CW) = some false ∧ Q (.bl false) H))
theorem ok_Word_eq {f CW CB2 CM : Addr} {fd : FuncData} {k : Nat} (F : Fun K "__eq__" "Word.__eq__" s_Word_eq f fd) (MO : MakeOk P w K mg base CW CB2 CM k) (mi : mg "isinstance" = none) (ml : mg "len" = none) :
    FnOk P w K mg base CX0 (k + 1) f fd ["self", "other"] (spEq K CW) := by
  have gW := MO.gW
  have cl := MO.cl
  have na := MO.na
  refine F.ok sc_Word_eq (fun vs H Q E h => ?_) (fun cdv A outer s H vs Q E hr h => ?_)
  · obtain ⟨a, z, y, rfl, _⟩ := h
    rfl
  · obtain ⟨a, z, y, rfl, ⟨dx, ha⟩, fz, lz, h⟩ := h
    refine ⟨_, pss_cons (ps_if (pt_not (pt_val (pe_callB call_isi (by rfl) mi boot_isinstance (pa_cons (pv 1) (pa_cons (pe_glob (v := .ref CW) (by rfl) gW rfl) pa_nil)))))
        (pss_one (ps_ret pe_bl)) pss_nil)
      (pss_one (ps_ret (pe_cmpR (op_eqD hr.units) (pe_tup (pa_cons (pe_callB call_len (by rfl) ml PySem.boot_len (pa_cons (pe_fld (pv 0) rfl) pa_nil)) (pa_cons (pe_fld (pv 0) rfl) pa_nil)))
        (pe_tup (pa_cons (pe_callB call_len (by rfl) ml PySem.boot_len (pa_cons (pe_fld (pv 1) rfl) pa_nil)) (pa_cons (pe_fld (pv 1) rfl) pa_nil))) (nomark _)))), ?_⟩
    rcases h with ⟨b, y, rfl, wb, fy, ly, q⟩ | ⟨t, ty, ek, q⟩
    · refine ⟨.ref b, rfl, .ref b, .ref CW, .ref CW, .ref CW, true, rfl, .own CW, isC_ty MO.cl MO.ic wb, kit_self, true, rfl, iteF ?_⟩
      obtain ⟨dy, hb⟩ := wb
      have lz' : z.length ≤ sizeLine := by
        rw [sizeLine_eq]
        omega
      have ly' : y.length ≤ sizeLine := by
        rw [sizeLine_eq]
        omega
      refine ⟨.ref a, rfl, a, CW, dx, _, .str z, rfl, ha, cl, na, rfl, .str z, z.length, rfl, ⟨lz', rfl⟩, .ref a, rfl, a, CW, dx, _, .str z, rfl, ha, cl, na, rfl, by show 2 ≤ sizeLine; decide, fun p hp => ?_⟩
      have s1 : Same H (upd H p (.tup [.int (z.length : Nat), .str z])) := same_new hp
      have hb1 := s1 _ _ hb
      refine ⟨.ref b, rfl, b, CW, dy, _, .str y, rfl, hb1, cl, na, rfl, .str y, y.length, rfl, ⟨ly', rfl⟩, .ref b, rfl, b, CW, dy, _, .str y, rfl, hb1, cl, na, rfl, by show 2 ≤ sizeLine; decide, fun r hr2 => ?_⟩
      have s2 := same_new (o := .tup [.int (y.length : Nat), .str y]) hr2
      refine ⟨.tuple [.int (z.length : Nat), .str z], .tuple [.int (y.length : Nat), .str y], .tup (.inl (.inl (s2 _ _ upd_same))) (.cons (.int _) (.cons (.str _) .nil)), .tup (.inl (.inl upd_same)) (.cons (.int _) (.cons (.str _) .nil)), shaped_word _ (fine_word fz), shaped_word _ (fine_word fy), ?_⟩
      rw [eqv_word]
      exact q _ (s1.trans s2)
    · exact ⟨y, rfl, y, .ref CW, t, .ref CW, false, rfl, .own CW, ty, ek, false, rfl, iteT q⟩
end
end K03
-- K03F4
namespace K03
open PySem PySem.Spec PyProof.Rows L2 SB
section
variable {P : Program} {w : World} {K : PySem.W.Frag} {mg : Str → Option Value} {base : Heap}
def spBegins (K : PySem.W.Frag) (CW CB2 : Addr) : Sp := fun vs H Q E => ∃ (a : Addr) (z : Str) (y : V), vs = [.ref a, y] ∧ WordAt CW H a z ∧
  ((∃ (b : Addr) (v : Str), y = .ref b ∧ WordAt CW H b v ∧ Q (.bl (Txt.startswith z v)) H) ∨
   (∃ t, TyX K H y t ∧ PySem.W.kitOne K t (.ref CW) = some false ∧ ∀ d, H d = none → E (.ref CB2) (some d) (upd H d (.xd [("at", .int 0)]))))
theorem ok_Word_begins {f CW CB2 CM fB : Addr} {fd fdB : FuncData} {k : Nat} (F : Fun K "begins" "Word.begins" s_Word_begins f fd) (MO : MakeOk P w K mg base CW CB2 CM k) (E2 : Err1 K mg "BadWord" "at" CB2 fB) (FB : Fun K "__init__" "BadWord.__init__" s_BadWord_init fB fdB) (bB : Binds K fdB ["self", "at"] []) (mi : mg "isinstance" = none) :
    FnOk P w K mg base (L2.CX P w) (k + 3) f fd ["self", "other"] (spBegins K CW CB2) := by
  have gW := MO.gW
  refine F.okX sc_Word_begins (fun vs H Q E h => ?_) (fun cdv A outer s H vs Q E hr h => ?_)
  · obtain ⟨a, z, y, rfl, _⟩ := h
    rfl
  · obtain ⟨a, z, y, rfl, ⟨dx, ha⟩, h⟩ := h
    have nd := sc_Word_begins.nd
    refine ⟨_, pss_cons (ps_if (pt_not (pt_val (pe_callB call_isi (by rfl) mi boot_isinstance (pa_cons (pv 1) (pa_cons (pe_glob (v := .ref CW) (by rfl) gW rfl) pa_nil)))))
        (pss_one (ps_raise1 E2 (ok_BadWord_init (k := k) FB) bB (hr.mono (by omega)) rfl (takes_of rfl rfl rfl rfl) pass0 pe_int)) pss_nil)
      (pss_one (ps_ret (pe_m1 PySem.F.slot_str_startswith PySem.F.type_str_startswith mt_startswith (pe_fld (pv 0) rfl) (pe_fld (pv 1) rfl)))), ?_⟩
    rcases h with ⟨b, v, rfl, wb, q⟩ | ⟨t, ty, ek, bad⟩
    · refine ⟨.ref b, rfl, .ref b, .ref CW, .ref CW, .ref CW, true, rfl, .own CW, isC_ty MO.cl MO.ic wb, kit_self, true, rfl, iteF ?_⟩
      obtain ⟨dy, hb⟩ := wb
      exact ⟨.ref a, rfl, a, CW, dx, _, .str z, rfl, ha, MO.cl, MO.na, rfl, ⟨_, rfl⟩, .ref b, rfl, b, CW, dy, _, .str v, rfl, hb, MO.cl, MO.na, rfl, z, v, rfl, rfl, q⟩
    · refine ⟨y, rfl, y, .ref CW, t, .ref CW, false, rfl, .own CW, ty, ek, false, rfl, iteT ?_⟩
      exact raised1 E2 fun d hd => bad d hd
def spEnds (K : PySem.W.Frag) (CW CB2 : Addr) : Sp := fun vs H Q E => ∃ (a : Addr) (z : Str) (y : V), vs = [.ref a, y] ∧ WordAt CW H a z ∧
  ((∃ (b : Addr) (v : Str), y = .ref b ∧ WordAt CW H b v ∧ Q (.bl (Txt.endswith z v)) H) ∨
   (∃ t, TyX K H y t ∧ PySem.W.kitOne K t (.ref CW) = some false ∧ ∀ d, H d = none → E (.ref CB2) (some d) (upd H d (.xd [("at", .int 0)]))))
theorem ok_Word_ends {f CW CB2 CM fB : Addr} {fd fdB : FuncData} {k : Nat} (F : Fun K "ends" "Word.ends" s_Word_ends f fd) (MO : MakeOk P w K mg base CW CB2 CM k) (E2 : Err1 K mg "BadWord" "at" CB2 fB) (FB : Fun K "__init__" "BadWord.__init__" s_BadWord_init fB fdB) (bB : Binds K fdB ["self", "at"] []) (mi : mg "isinstance" = none) :
    FnOk P w K mg base (L2.CX P w) (k + 3) f fd ["self", "other"] (spEnds K CW CB2) := by
  have gW := MO.gW
  refine F.okX sc_Word_ends (fun vs H Q E h => ?_) (fun cdv A outer s H vs Q E hr h => ?_)
  · obtain ⟨a, z, y, rfl, _⟩ := h
    rfl
  · obtain ⟨a, z, y, rfl, ⟨dx, ha⟩, h⟩ := h
    have nd := sc_Word_ends.nd
    refine ⟨_, pss_cons (ps_if (pt_not (pt_val (pe_callB call_isi (by rfl) mi boot_isinstance (pa_cons (pv 1) (pa_cons (pe_glob (v := .ref CW) (by rfl) gW rfl) pa_nil)))))
        (pss_one (ps_raise1 E2 (ok_BadWord_init (k := k) FB) bB (hr.mono (by omega)) rfl (takes_of rfl rfl rfl rfl) pass0 pe_int)) pss_nil)
      (pss_one (ps_ret (pe_m1 PySem.F.slot_str_endswith PySem.F.type_str_endswith mt_endswith (pe_fld (pv 0) rfl) (pe_fld (pv 1) rfl)))), ?_⟩
    rcases h with ⟨b, v, rfl, wb, q⟩ | ⟨t, ty, ek, bad⟩
    · refine ⟨.ref b, rfl, .ref b, .ref CW, .ref CW, .ref CW, true, rfl, .own CW, isC_ty MO.cl MO.ic wb, kit_self, true, rfl, iteF ?_⟩
      obtain ⟨dy, hb⟩ := wb
      exact ⟨.ref a, rfl, a, CW, dx, _, .str z, rfl, ha, MO.cl, MO.na, rfl, ⟨_, rfl⟩, .ref b, rfl, b, CW, dy, _, .str v, rfl, hb, MO.cl, MO.na, rfl, z, v, rfl, rfl, q⟩
    · refine ⟨y, rfl, y, .ref CW, t, .ref CW, false, rfl, .own CW, ty, ek, false, rfl, iteT ?_⟩
      exact raised1 E2 fun d hd => bad d hd
def spTold : Sp := fun vs H Q _ => ∃ b : Bool, vs = [.bl b, .bl b] ∧ Q (.bl true) H
theorem ok_law_told {f : Addr} {fd : FuncData} {k : Nat} (F : Fun K "_law_told" "_law_told" s__law_told f fd) : FnOk P w K mg base CX0 (k + 1) f fd ["told", "due"] spTold := by
  refine F.ok sc__law_told (fun vs H Q E h => ?_) (fun cdv A outer s H vs Q E hr h => ?_)
  · obtain ⟨b, rfl, _⟩ := h
    rfl
  · obtain ⟨b, rfl, q⟩ := h
    have nd := sc__law_told.nd
    refine ⟨_, (pss_one (ps_ret (pe_ifExp (pt_val (pv 1)) (pe_cmpR op_isBl (pv 0) pe_bl (nomark _)) (pe_cmpR op_isBl (pv 0) pe_bl (nomark _))))), ?_⟩
    cases b with
    | true => exact ⟨.bl true, rfl, true, rfl, iteT ⟨.bl true, rfl, true, true, rfl, rfl, q⟩⟩
    | false => exact ⟨.bl false, rfl, false, rfl, iteF ⟨.bl false, rfl, false, false, rfl, rfl, q⟩⟩
end
end K03
-- R21
namespace SB
open PySem PySem.Spec PyProof.Rows L2
/-! ### the order of own things, of pairs of an int and a text -/
section
variable {X : Cx} {CX : CXT} {k : Nat} {C f : Addr} {fd : FuncData} {ps : List Str} {sp : Sp} {E : XK}
/-- x < y (and its kind) by x's own method, both of one class -/
def rOrdOwn (C : Addr) (sp : Sp) (E : XK) : R2 := fun x y H Q => ∃ (a b dx dy : Addr) (fs gs : List (Str × V)), x = .ref a ∧ y = .ref b ∧ H a = some (.ins C dx fs) ∧ H b = some (.ins C dy gs) ∧
  sp [x, y] H (fun v H' => ∃ r, v = .bl r ∧ Q (.bl r) H') E
theorem rich_own {op : CmpOp} (nf : PySem.W.notFirst X.K C (.ref C) = true) (hs : PySem.W.findIn X.K (.ref C) (cmpInfo op).2.1 = some (some (.ref f))) (hf : PySem.W.isFn X.K (.ref f) = true) (F : FnOk X.prog X.w X.K X.mg X.base CX k f fd ps sp) (hr : Room (k + 1) X.A) (hb : Binds X.K fd ps []) (hx : Passes CX X E) :
    OpR X (richCompare op) (rOrdOwn C sp E) := by
  intro pins s σ H x y u v Q I rx ry h
  obtain ⟨a, b, dx, dy, fs, gs, rfl, rfl, ea, eb, q⟩ := h
  obtain rfl : u = Value.ref a := rx
  obtain rfl : v = Value.ref b := ry
  obtain ⟨od, J⟩ := inst_of I ea
  obtain ⟨od2, J2⟩ := inst_of I eb
  obtain ⟨m, Fm⟩ := frame_of I
  have un := hr.un
  refine PySem.W.cmp_K (op := op) (by omega) Fm I.ok.mod.kin J J2.type nf hs hf ?_
  refine thn (run_two (x := .ref a) (y := .ref b) F (hr.mono (by omega)) hb hx I rfl rfl q) fun w s1 hh => ?_
  obtain ⟨z, H1, I1, r1, r, rfl, q1⟩ := hh
  obtain rfl : w = Value.bool r := r1
  exact ⟨.bl r, H1, I1, rfl, q1⟩
theorem op_ltOwn (nf : PySem.W.notFirst X.K C (.ref C) = true) (hs : PySem.W.findIn X.K (.ref C) "__lt__" = some (some (.ref f))) (hf : PySem.W.isFn X.K (.ref f) = true) (F : FnOk X.prog X.w X.K X.mg X.base CX k f fd ps sp) (hr : Room (k + 1) X.A) (hb : Binds X.K fd ps []) (hx : Passes CX X E) :
    OpR X (compareOp .Lt) (rOrdOwn C sp E) := rich_own (op := .Lt) nf hs hf F hr hb hx
theorem op_leOwn (nf : PySem.W.notFirst X.K C (.ref C) = true) (hs : PySem.W.findIn X.K (.ref C) "__le__" = some (some (.ref f))) (hf : PySem.W.isFn X.K (.ref f) = true) (F : FnOk X.prog X.w X.K X.mg X.base CX k f fd ps sp) (hr : Room (k + 1) X.A) (hb : Binds X.K fd ps []) (hx : Passes CX X E) :
    OpR X (compareOp .LtE) (rOrdOwn C sp E) := rich_own (op := .LtE) nf hs hf F hr hb hx
theorem op_gtOwn (nf : PySem.W.notFirst X.K C (.ref C) = true) (hs : PySem.W.findIn X.K (.ref C) "__gt__" = some (some (.ref f))) (hf : PySem.W.isFn X.K (.ref f) = true) (F : FnOk X.prog X.w X.K X.mg X.base CX k f fd ps sp) (hr : Room (k + 1) X.A) (hb : Binds X.K fd ps []) (hx : Passes CX X E) :
    OpR X (compareOp .Gt) (rOrdOwn C sp E) := rich_own (op := .Gt) nf hs hf F hr hb hx
theorem op_geOwn (nf : PySem.W.notFirst X.K C (.ref C) = true) (hs : PySem.W.findIn X.K (.ref C) "__ge__" = some (some (.ref f))) (hf : PySem.W.isFn X.K (.ref f) = true) (F : FnOk X.prog X.w X.K X.mg X.base CX k f fd ps sp) (hr : Room (k + 1) X.A) (hb : Binds X.K fd ps []) (hx : Passes CX X E) :
    OpR X (compareOp .GtE) (rOrdOwn C sp E) := rich_own (op := .GtE) nf hs hf F hr hb hx
/-- (n, z) op (m, v): g of the codes decides where n = m, o of the ints elsewhere -/
def rOrdIS (K : PySem.W.Frag) (o : Int → Int → Bool) (g : List Nat → List Nat → Bool) : R2 := fun x y H Q => ∃ (a b : Addr) (n m : Int) (z v : Str), x = .ref a ∧ y = .ref b ∧ SqT K H a [.int n, .str z] ∧ SqT K H b [.int m, .str v] ∧
  Q (.bl (if n = m then g z.cps.toList v.cps.toList else o n m)) H
theorem rc_lt_str {A : Around} {s : Shared} (x y : Str) (t u : Tok) : Ob.RcOp .Lt A s (.str x t) (.str y u) (decide (x.cps.toList < y.cps.toList)) := fun _ _ _ _ h => PySem.P.lt_str h
theorem rc_le_str {A : Around} {s : Shared} (x y : Str) (t u : Tok) : Ob.RcOp .LtE A s (.str x t) (.str y u) (!decide (y.cps.toList < x.cps.toList)) := fun _ _ _ _ h => PySem.P.le_str h
theorem rc_gt_str {A : Around} {s : Shared} (x y : Str) (t u : Tok) : Ob.RcOp .Gt A s (.str x t) (.str y u) (decide (y.cps.toList < x.cps.toList)) := fun _ _ _ _ h => PySem.P.gt_str h
theorem rc_ge_str {A : Around} {s : Shared} (x y : Str) (t u : Tok) : Ob.RcOp .GtE A s (.str x t) (.str y u) (!decide (x.cps.toList < y.cps.toList)) := fun _ _ _ _ h => PySem.P.ge_str h
theorem lex_two {n m : Int} {z v : Str} {o : Int → Int → Bool} {g : List Nat → List Nat → Bool} {e0 : Bool} (he : z = v → g z.cps.toList v.cps.toList = e0) :
    Ob.lexAt (fun j => if j = 0 then decide (n = m) else decide (z = v)) (fun j => if j = 0 then o n m else g z.cps.toList v.cps.toList) e0 0 2 = if n = m then g z.cps.toList v.cps.toList else o n m := by
  rw [Ob.lexAt_succ, Ob.lexAt_succ, Ob.lexAt_zero]
  simp only [if_true, Nat.zero_add, Nat.one_ne_zero, if_false, decide_eq_true_eq]
  by_cases h : n = m
  · rw [if_pos h, if_pos h]
    by_cases hz : z = v
    · rw [if_pos hz, he hz]
    · rw [if_neg hz]
  · rw [if_neg h, if_neg h]
theorem pair_vals {n : Int} {z : Str} {its : List Value} (r : Vals [.int n, .str z] its) : ∃ t u, its = [.int n t, .str z u] := by
  cases r with
  | cons r1 r2 =>
    cases r2 with
    | cons r2 r3 =>
      cases r3
      obtain ⟨t, rfl⟩ := r1
      obtain ⟨u, rfl⟩ := r2
      exact ⟨t, u, rfl⟩
theorem ord_IS {op : CmpOp} {o : Int → Int → Bool} {g : List Nat → List Nat → Bool} {e0 : Bool} (hop : ∀ u v, compareOp op u v = richCompare op u v)
    (tuples : ∀ {A : Around} {s : Shared} {l b : Addr} {items items2 : Array Value} {e r : Nat → Bool}, s.heap.IsTuple l items → s.heap.IsTuple b items2 → A.units < cLine →
      (∀ j (h1 : j < items.size) (h2 : j < items2.size), SeqAt.EqAt A.in1 s items[j] items2[j] (e j)) → (∀ j (h1 : j < items.size) (h2 : j < items2.size), e j = false → Ob.RcOp op A.in1 s items[j] items2[j] (r j)) →
      items.size = 2 → items2.size = 2 → Ob.RcOp op A s (.ref l) (.ref b) (Ob.lexAt e r e0 0 2))
    (hint : ∀ {A : Around} {s : Shared} (a b : Int) (t u : Tok), Ob.RcOp op A s (.int a t) (.int b u) (o a b)) (hstr : ∀ {A : Around} {s : Shared} (x y : Str) (t u : Tok), Ob.RcOp op A s (.str x t) (.str y u) (g x.cps.toList y.cps.toList))
    (he : ∀ l : List Nat, g l l = e0) (hu : X.A.units < cLine) : OpR X (compareOp op) (rOrdIS X.K o g) := by
  intro pins s σ H x y v u Q I rx ry h
  obtain ⟨a, b, n, m, z, w, rfl, rfl, ha, hb, q⟩ := h
  cases rx
  cases ry
  obtain ⟨its, r1, p1, _⟩ := I.tuple ha
  obtain ⟨its2, r2, p2, _⟩ := I.tuple hb
  obtain ⟨t1, u1, rfl⟩ := pair_vals r1
  obtain ⟨t2, u2, rfl⟩ := pair_vals r2
  have R := tuples (A := X.A) (s := s) (e := fun j => if j = 0 then decide (n = m) else decide (z = w)) (r := fun j => if j = 0 then o n m else g z.cps.toList w.cps.toList) p1 p2 hu
    (fun j h1 h2 => by
      have hj : j = 0 ∨ j = 1 := by
        have : j < 2 := h1
        omega
      rcases hj with rfl | rfl
      · have e : (n == m) = decide (n = m) := by
          by_cases q : n = m
          · rw [decide_eq_true q]; exact beq_iff_eq.mpr q
          · rw [decide_eq_false q]; exact beq_eq_false_iff_ne.mpr q
        show SeqAt.EqAt X.A.in1 s (.int n t1) (.int m t2) (decide (n = m))
        rw [← e]
        exact SeqAt.EqAt.int_int _ _ _ _
      · have e : (z == w) = decide (z = w) := by
          by_cases q : z = w
          · rw [decide_eq_true q]; exact beq_iff_eq.mpr q
          · rw [decide_eq_false q]; exact beq_eq_false_iff_ne.mpr q
        show SeqAt.EqAt X.A.in1 s (.str z u1) (.str w u2) (decide (z = w))
        rw [← e]
        exact SeqAt.EqAt.str_str _ _ _ _)
    (fun j h1 h2 _ => by
      have hj : j = 0 ∨ j = 1 := by
        have : j < 2 := h1
        omega
      rcases hj with rfl | rfl
      · exact hint n m t1 t2
      · exact hstr z w u1 u2) rfl rfl
  rw [lex_two (fun e => by rw [e]; exact he _)] at R
  rw [hop]
  exact R X.prog X.w X.xe (EP X pins σ Q) ⟨.bl _, H, I, rfl, q⟩
def ltL (a b : List Nat) : Bool := decide (a < b)
theorem op_ltIS (hu : X.A.units < cLine) : OpR X (compareOp .Lt) (rOrdIS X.K (fun n m => decide (n < m)) (fun a b => decide (a < b))) :=
  ord_IS (op := .Lt) (e0 := false) (fun _ _ => rfl) (fun p1 p2 hu he hr e1 e2 => by
    have := Ob.RcOp.tuples_lt p1 p2 hu he hr
    rw [e1, e2] at this
    exact this) Ob.RcOp.lt_int rc_lt_str (fun l => decide_eq_false (List.lt_irrefl l)) hu
theorem op_leIS (hu : X.A.units < cLine) : OpR X (compareOp .LtE) (rOrdIS X.K (fun n m => decide (n ≤ m)) (fun a b => !decide (b < a))) :=
  ord_IS (op := .LtE) (e0 := true) (fun _ _ => rfl) (fun p1 p2 hu he hr e1 e2 => by
    have := Ob.RcOp.tuples_le p1 p2 hu he hr
    rw [e1, e2] at this
    exact this) Ob.RcOp.le_int rc_le_str (fun l => by rw [decide_eq_false (List.lt_irrefl l)]; rfl) hu
theorem op_gtIS (hu : X.A.units < cLine) : OpR X (compareOp .Gt) (rOrdIS X.K (fun n m => decide (m < n)) (fun a b => decide (b < a))) :=
  ord_IS (op := .Gt) (e0 := false) (fun _ _ => rfl) (fun p1 p2 hu he hr e1 e2 => by
    have := Ob.RcOp.tuples_gt p1 p2 hu he hr
    rw [e1, e2] at this
    exact this) Ob.RcOp.gt_int rc_gt_str (fun l => decide_eq_false (List.lt_irrefl l)) hu
theorem op_geIS (hu : X.A.units < cLine) : OpR X (compareOp .GtE) (rOrdIS X.K (fun n m => decide (m ≤ n)) (fun a b => !decide (a < b))) :=
  ord_IS (op := .GtE) (e0 := true) (fun _ _ => rfl) (fun p1 p2 hu he hr e1 e2 => by
    have := Ob.RcOp.tuples_ge p1 p2 hu he hr
    rw [e1, e2] at this
    exact this) Ob.RcOp.ge_int rc_ge_str (fun l => by rw [decide_eq_false (List.lt_irrefl l)]; rfl) hu
end
end SB
-- R22
namespace SB
open PySem PySem.Spec PyProof.Rows L2
/-! ### zip of two texts -/
/-- the signs of x and y, two by two, each pair new -/
def Izs (x y : Str) : It :=
  ⟨fun i _ => i < min x.cps.size y.cps.size, fun i H v H' => ∃ (T : Addr) (c d : Nat), v = .ref T ∧ H T = none ∧ x.cps[i]? = some c ∧ y.cps[i]? = some d ∧ H' = upd H T (.tup [.str ⟨#[c]⟩, .str ⟨#[d]⟩]), fun i _ => i = min x.cps.size y.cps.size⟩
theorem turn_zipS {P : Program} {w : World} {K : PySem.W.Frag} {elts : List Expr} {kk : Nat} {tpos : Pos} (x y : Str) (t u : Tok) (z TI TO i1 i2 : Addr) (S : ZipSep2 z TI TO i1 i2 [i1] [i2]) :
    Turn P w K (.Tuple elts kk tpos) (Izs x y) (z :: TI :: TO :: ([i1] ++ [i2])) z (fun i h => IsZip h z TI TO .none ∧ IsTupOf2 h TI (.ref i1) (.ref i2) ∧ (∃ a1 a2, IsTupOf2 h TO a1 a2) ∧ h.IsStrIter i1 (strIterType x) x t i ∧ h.IsStrIter i2 (strIterType y) y u i) where
  mem := by simp
  obj := fun i h st c hc => by
    obtain ⟨hz, hTI, ⟨a1, a2, hTO⟩, ⟨o1, e1, _, d1⟩, ⟨o2, e2, _, d2⟩⟩ := st
    have e' : c = z ∨ c = TI ∨ c = TO ∨ c = i1 ∨ c = i2 := by simpa using hc
    rcases e' with q | q | q | q | q
    · rw [q]; exact ⟨_, hz, fun v q => nomatch q⟩
    · rw [q]; exact ⟨_, hTI, fun v q => nomatch q⟩
    · rw [q]; exact ⟨_, hTO, fun v q => nomatch q⟩
    · rw [q]; exact ⟨o1, e1, fun v q => by rw [d1] at q; cases q⟩
    · rw [q]; exact ⟨o2, e2, fun v q => by rw [d2] at q; cases q⟩
  keep := fun i h h' st k => by
    obtain ⟨hz, hTI, ⟨a1, a2, hTO⟩, ⟨o1, e1, r1⟩, ⟨o2, e2, r2⟩⟩ := st
    exact ⟨k z (by simp) _ hz, k TI (by simp) _ hTI, ⟨a1, a2, k TO (by simp) _ hTO⟩, ⟨o1, k i1 (by simp) o1 e1, r1⟩, ⟨o2, k i2 (by simp) o2 e2, r2⟩⟩
  item := by
    intro X hP hw hK hc i pins s σ H E I hf st hg
    subst hP hw hK
    have D1 := Draws.text (prog := X.prog) (w := X.w) (A := X.A.in1) (I.ok.hd hc) i1 x t
    have D2 := Draws.text (prog := X.prog) (w := X.w) (A := X.A.in1) (I.ok.hd hc) i2 y u
    have G := GoesN.zip2 (elts := elts) (x1 := kk) (pos := tpos) S D1 D2
    refine G.goes i s (fun v s2 => ∃ x1 H', Inv X pins σ H' s2 ∧ RelV x1 v ∧ (Izs x y).yld i H x1 H' ∧ _ ∧ ∀ b ∈ (z :: TI :: TO :: ([i1] ++ [i2])), H' b = none) E hg st fun v h' tk hY st' hk htk => ?_
    obtain ⟨T, v1, v2, rfl, hT, ⟨c, u1, hc1, rfl⟩, ⟨d, u2, hd1, rfl⟩, tup⟩ := hY
    have new : ObjOk X.prog X.w (upd H T (.tup [.str ⟨#[c]⟩, .str ⟨#[d]⟩])) h' T (.tup [.str ⟨#[c]⟩, .str ⟨#[d]⟩]) := by
      obtain ⟨o, ho, hcl, n, hd⟩ := tup
      exact ⟨by show 2 ≤ sizeLine; decide, [.str ⟨#[c]⟩ u1, .str ⟨#[d]⟩ u2], .cons ⟨_, rfl⟩ (.cons ⟨_, rfl⟩ .nil), ⟨o, ho, hcl, n, hd⟩⟩
    have I1 : Inv X pins σ (upd H T (.tup [.str ⟨#[c]⟩, .str ⟨#[d]⟩])) { s with heap := h', toks := tk } :=
      I.turnedNew (t' := tk) (ch := z :: TI :: TO :: ([i1] ++ [i2])) (fun b o hb q => hk b o (fun z' => hb (G.sub b z')) q) hf hT new
    refine ⟨.ref T, _, I1, rfl, ⟨T, c, d, rfl, I.hok.fresh hT, hc1, hd1, rfl⟩, st', fun b hb => ?_⟩
    have n1 := (hf b hb).1
    have : b ≠ T := fun e => by
      obtain ⟨hz, hTI, ⟨a1, a2, hTO⟩, ⟨o1, e1, _⟩, ⟨o2, e2, _⟩⟩ := st
      have e' : b = z ∨ b = TI ∨ b = TO ∨ b = i1 ∨ b = i2 := by simpa using hb
      have lt : b < s.heap.objs.size := by
        rcases e' with q | q | q | q | q
        · rw [q]; exact Heap.lt_size hz
        · rw [q]; exact Heap.lt_size hTI
        · rw [q]; exact Heap.lt_size hTO
        · rw [q]; exact Heap.lt_size e1
        · rw [q]; exact Heap.lt_size e2
      rw [e] at lt
      exact absurd hT (Nat.not_le_of_lt lt)
    rw [upd_ne this]
    exact n1
  done := by
    intro X hP hw hK hc i pins s σ H E I hf st hg
    subst hP hw hK
    have D1 := Draws.text (prog := X.prog) (w := X.w) (A := X.A.in1) (I.ok.hd hc) i1 x t
    have D2 := Draws.text (prog := X.prog) (w := X.w) (A := X.A.in1) (I.ok.hd hc) i2 y u
    have G := GoesN.zip2 (elts := elts) (x1 := kk) (pos := tpos) S D1 D2
    have hg' : i = min x.cps.size y.cps.size := hg
    subst hg'
    exact G.stops s (fun s1 => Inv X pins σ H s1) E st fun h' tk hk htk => I.turnedL (t' := tk) (ch := z :: TI :: TO :: ([i1] ++ [i2])) (fun b o hb q => hk b o (fun z' => hb (G.sub b z')) q) hf
  self := fun A i s Q E st h => wpAny_pyIter_zip st.1 h
def iZipS (ta : TA) : TI := fun σ H R => ta σ H fun vs H1 => ∃ x y, vs = [.str x, .str y] ∧ R (Izs x y) H1
theorem pi_zipS {X : Cx} {e e2 : Expr} {ta : TA} {p pos tpos : Pos} {elts : List Expr} {kk : Nat} (hg : Gl X "zip") (hm : X.mg "zip" = none) (ha : PA X [e, e2] ta)
    (hs : starEach [e, e2] X.env = (false, eval e X.env) :: starEach [e2] X.env := by rfl) (hpl : (backTo pos (starEach [e2] X.env)).any (·.1) = false := by rfl) :
    PI X (.Tuple elts kk tpos) (.Call (.Name "zip" p) [e, e2] [] pos) (iZipS ta) := by
  refine ⟨fun pins s σ H R I h => ?_⟩
  refine Call_ (ld_blt I hg hm PyProof.Rows.boot_zip (PyProof.Rows.callWith_type1 (thn (ha.run pos pins s σ H _ I h) fun us s1 ⟨vs, H1, I1, r1, q1⟩ => ?_) hs hpl))
  obtain ⟨x, y, ex, q⟩ := q1
  subst ex
  cases r1 with
  | cons r rr =>
    cases rr with
    | cons r' rr =>
      cases rr
      obtain ⟨t, rfl⟩ := r
      obtain ⟨u, rfl⟩ := r'
      refine zip_begins2 (begins_text x t) (begins_text y u) trivial trivial fun h' hz hTI hTO h1 h2 hsz hk => wpAny_pyIter_zip hz ?_
      have I2 : Inv X pins σ H1 { s1 with heap := h' } := I1.kept (t' := s1.toks) hk
      have S : ZipSep2 (s1.heap.objs.size + 4) (s1.heap.objs.size + 2) (s1.heap.objs.size + 3) s1.heap.objs.size (s1.heap.objs.size + 1) [s1.heap.objs.size] [s1.heap.objs.size + 1] := zip_sep2 (fp1 := []) (fp2 := []) (by simp) (by simp)
      refine ⟨s1.heap.objs.size + 4, (s1.heap.objs.size + 4) :: (s1.heap.objs.size + 2) :: (s1.heap.objs.size + 3) :: ([s1.heap.objs.size] ++ [s1.heap.objs.size + 1]), _, _, H1, rfl, I2, turn_zipS x y t u _ _ _ _ _ S, ⟨hz, hTI, ⟨_, _, hTO⟩, ⟨_, h1, rfl, rfl⟩, ⟨_, h2, rfl, rfl⟩⟩, fun c hcm => ?_, q⟩
      have e' : c = s1.heap.objs.size + 4 ∨ c = s1.heap.objs.size + 2 ∨ c = s1.heap.objs.size + 3 ∨ c = s1.heap.objs.size ∨ c = s1.heap.objs.size + 1 := by simpa using hcm
      have hle : s1.heap.objs.size ≤ c := by
        rcases e' with z | z | z | z | z
        · rw [z]; exact Nat.le_add_right _ _
        · rw [z]; exact Nat.le_add_right _ _
        · rw [z]; exact Nat.le_add_right _ _
        · rw [z]; exact Nat.le_refl _
        · rw [z]; exact Nat.le_add_right _ _
      exact I1.fpOk hle (I1.hok.fresh hle)
theorem walk_zipS {x y : Str} : Walk (Izs x y) (min x.cps.size y.cps.size) (fun _ => True) (fun i H v H' => ∃ (T : Addr) (c d : Nat), v = .ref T ∧ H T = none ∧ x.cps[i]? = some c ∧ y.cps[i]? = some d ∧ H' = upd H T (.tup [.str ⟨#[c]⟩, .str ⟨#[d]⟩])) :=
  ⟨fun _ _ hi _ => hi, fun _ _ => rfl, fun _ _ _ _ _ _ y => y⟩
end SB
-- R23
namespace SB
open PySem PySem.Spec PyProof.Rows L2
open PySem.Sem (wp)
/-! ### the class of a slice object -/
theorem sl_slot_ga : Slot "slice" "__getattribute__" "slice.__getattribute__" :=
  .of (owner := "slice") (n := "__getattribute__") (by rw [typeLookup_type, builtinLookup_eq_fast]; kernel_rfl) (by decide +kernel) (by decide +kernel) (by decide +kernel)
    (by first | exact .inl (by decide +kernel) | exact .inr (by decide +kernel)) (by rw [isSubtype_type]; kernel_rfl)
theorem sl_args (a b : Value) : argsOk "slice.__getattribute__" ⟨[a, b], []⟩ := by
  unfold argsOk; kernel_rfl
theorem sl_entry : entryFor table "slice.__getattribute__" = some Builtin.«object.__getattribute__» :=
  entryFor_alias (id' := "object.__getattribute__") (by kernel_rfl) (by first | rfl | decide +kernel) (by decide +kernel) (by kernel_rfl)
theorem sl_class : typeLookup (.type "slice") "__class__" = pure (some (.builtin "object.__class__")) := by rw [typeLookup_type, builtinLookup_eq_fast]; kernel_rfl
theorem sl_owner : isSubtype (.type "slice") (.type (".".intercalate ("object.__class__".cutAt '.').dropLast)) = pure true := by
  rw [F.owner_object_class, isSubtype_type]; kernel_rfl
section
variable {prog : Program} {w : World} {A : Around} {E : Value → Shared → Prop} {h : Heap} {g : Array GenState} {d : Drawn} {t : Nat} {os : OsState} {a : Addr} {o : Obj}
theorem slc_get {R : Result → Shared → Prop} (hx : h.get? a = some o) (hc : o.cls = .type "slice") (hq : R (.ok (.ret (.type "slice"))) ⟨h, g, d, t, os⟩) :
    codeAny (model prog w) A (.call (.builtin "getset_descriptor.__get__") ⟨[.builtin "object.__class__", .ref a, .type "slice"], []⟩) R ⟨h, g, d, t, os⟩ := by
  have hT : (⟨h, g, d, t, os⟩ : Shared).TypeIs (.ref a) "slice" := ⟨_, hx, hc⟩
  have hT5 : (⟨h, g, d, t, os⟩ : Shared).TypeIs (.builtin "object.__class__") "getset_descriptor" := F.typeOf_object_class
  have f8 := sl_owner
  refine codeAny_call_builtin F.slot_gs_get.plain F.entry_gs_get (F.slot_gs_get.check _ _ _ _ _ _ _ _ hT5 (F.args_gs_get _ _ _) ?_)
  repeat (any_goals (first | assumption | wp_step))
  refine ⟨Code.quiet_builtin _ (by decide +kernel), codeAny_builtin F.entry_object_class ?_⟩
  repeat (any_goals (first | assumption | wp_step))
theorem slc_entry {tk : Tok} {Q : Fin → Shared → Prop} (hx : h.get? a = some o) (hc : o.cls = .type "slice") (hq : Q (.done (.ret (.type "slice"))) ⟨h, g, d, t, os⟩) :
    wpAny (model prog w) A (Builtin.«object.__getattribute__» ⟨[.ref a, .str "__class__" tk], []⟩) Q E ⟨h, g, d, t, os⟩ := by
  have hT : (⟨h, g, d, t, os⟩ : Shared).TypeIs (.ref a) "slice" := ⟨_, hx, hc⟩
  have hT5 : (⟨h, g, d, t, os⟩ : Shared).TypeIs (.builtin "object.__class__") "getset_descriptor" := F.typeOf_object_class
  have f4 := sl_class
  have f5 := F.typeOf_object_class
  have f6 := F.slot_gs_get.lookup
  have f7 := F.slot_gs_set.lookup
  repeat (any_goals (first | assumption | wp_step))
  refine slc_get hx hc ?_
  repeat (any_goals (first | assumption | wp_step))
theorem slc_call {tk : Tok} {R : Result → Shared → Prop} (hx : h.get? a = some o) (hc : o.cls = .type "slice") (hq : R (.ok (.ret (.type "slice"))) ⟨h, g, d, t, os⟩) :
    codeAny (model prog w) A (.call (.builtin "slice.__getattribute__") ⟨[.ref a, .str "__class__" tk], []⟩) R ⟨h, g, d, t, os⟩ :=
  codeAny_call_builtin sl_slot_ga.plain sl_entry (sl_slot_ga.check _ _ _ _ _ _ _ _ (show (⟨h, g, d, t, os⟩ : Shared).TypeIs (.ref a) "slice" from ⟨_, hx, hc⟩) (sl_args _ _) (slc_entry hx hc hq))
theorem slc_by {tk : Tok} {Q : Value → Shared → Prop} (hx : h.get? a = some o) (hc : o.cls = .type "slice") (hq : Q (.type "slice") ⟨h, g, d, t, os⟩) : wpAny (model prog w) A (getAttrBy (.ref a) (.str "__class__" tk) false) Q E ⟨h, g, d, t, os⟩ := by
  have hT : (⟨h, g, d, t, os⟩ : Shared).TypeIs (.ref a) "slice" := ⟨_, hx, hc⟩
  have f2 := sl_slot_ga.lookup
  have f3 := sl_slot_ga.bind (.ref a)
  repeat (any_goals (first | assumption | wp_step))
  refine slc_call hx hc ?_
  repeat (any_goals (first | assumption | wp_step))
theorem slc_attr? {Q : Option Value → Shared → Prop} (hx : h.get? a = some o) (hc : o.cls = .type "slice") (hq : Q (some (.type "slice")) ⟨h, g, d, t + 1, os⟩) : wpAny (model prog w) A (getAttr? (.ref a) "__class__") Q E ⟨h, g, d, t, os⟩ := by
  unfold getAttr? getAttrBy?
  repeat (any_goals (first | assumption | with_reducible apply slc_by hx hc | wp_step))
end
end SB
-- R24
namespace SB
open PySem PySem.Spec PyProof.Rows L2
open PySem.Sem (wp)
section
variable {prog : Program} {w : World} {A : Around} {E : Value → Shared → Prop} {h : Heap} {g : Array GenState} {d : Drawn} {t : Nat} {os : OsState} {a : Addr} {o : Obj} {n : Int} {u : Tok}
theorem slc_attr {Q : Value → Shared → Prop} (hx : h.get? a = some o) (hc : o.cls = .type "slice") (hq : Q (.type "slice") ⟨h, g, d, t + 1, os⟩) : wpAny (model prog w) A (getAttr (.ref a) "__class__" true) Q E ⟨h, g, d, t, os⟩ := by
  have hT : (⟨h, g, d, t + 1, os⟩ : Shared).TypeIs (.ref a) "slice" := ⟨_, hx, hc⟩
  have f2 := sl_slot_ga.lookup
  have f3 := sl_slot_ga.bind (.ref a)
  unfold getAttr
  repeat (any_goals (first | assumption | wp_step))
  refine slc_call hx hc ?_
  exact PySem.W.handed_on rfl hq
theorem intc_attr {Q : Value → Shared → Prop} (hq : Q (.type "int") ⟨h, g, d, t + 1, os⟩) : wpAny (model prog w) A (getAttr (.int n u) "__class__" true) Q E ⟨h, g, d, t, os⟩ := by
  have hT : (⟨h, g, d, t + 1, os⟩ : Shared).TypeIs (.int n u) "int" := rfl
  have f2 := F.slot_int_getattribute.lookup
  have f3 := F.slot_int_getattribute.bind (.int n u)
  unfold getAttr
  repeat (any_goals (first | assumption | wp_step))
  refine class_call_int ?_
  exact PySem.W.handed_on rfl hq
end
end SB
-- R25
namespace SB
open PySem PySem.Spec PyProof.Rows L2
/-! ### slice objects: what is told of them, texts and own things by them -/
/-- at p: the slice object lo : hi : st -/
def slO (p : Addr) (lo hi st : Option Int) : HO := .ext fun h => ∃ l u t : Option (Int × Tok), l.map (·.1) = lo ∧ u.map (·.1) = hi ∧ t.map (·.1) = st ∧ h.IsSlice p l u t
theorem slO_ok {P : Program} {w : World} {H : Hp} {h : Heap} {p : Addr} {l u t : Option (Int × Tok)} (e : h.IsSlice p l u t) : ObjOk P w H h p (slO p (l.map (·.1)) (u.map (·.1)) (t.map (·.1))) := by
  refine ⟨⟨l, u, t, rfl, rfl, rfl, e⟩, ?_, fun h1 h2 q k => ?_⟩
  · obtain ⟨o, ho, _⟩ := e
    exact ⟨o, ho⟩
  · obtain ⟨l', u', t', e1, e2, e3, o, ho, r⟩ := q
    exact ⟨l', u', t', e1, e2, e3, o, k o ho, r⟩
/-- the part of a text that a slice with a step tells -/
def stepS (z : Str) (lo hi : Option Int) (k : Int) : Str := ⟨((Builtin.Str.strSliceIndices lo hi k z.length).filterMap (z.cps[·]?)).toArray⟩
def slS (z : Str) (lo hi st : Option Int) : Str := match st with
  | none => cutS z lo hi
  | some k => stepS z lo hi k
section
variable {X : Cx}
theorem get_slS {pins : List (Addr × Obj)} {σ : L2.St} {H : Hp} {s : Shared} {Q : VK} {z : Str} {t : Tok} {p : Addr} {l u st : Option (Int × Tok)} (I : Inv X pins σ H s) (hs : s.heap.IsSlice p l u st) (h0 : st.map (·.1) ≠ some 0) (h1 : st.map (·.1) ≠ some 1) (hz : (slS z (l.map (·.1)) (u.map (·.1)) (st.map (·.1))).length ≤ sizeLine)
    (q : Q (.str (slS z (l.map (·.1)) (u.map (·.1)) (st.map (·.1)))) H) : wpAny (model X.prog X.w) X.A (getItem (.str z t) (.ref p)) (EP X pins σ Q) X.xe s := by
  cases st with
  | none =>
    refine wpAny_getItem_str_slice (l := l) (u := u) (st := none) hs rfl ?_
    replace hz : (cutS z (l.map (·.1)) (u.map (·.1))).length ≤ sizeLine := hz
    replace q : Q (.str (cutS z (l.map (·.1)) (u.map (·.1)))) H := q
    rw [← sliceText_cut] at q hz
    unfold PySem.StrLaws.sliceText at q hz
    show Made.post (if ((1 : Int) == 1 && (Builtin.Str.strSliceIndices (l.map (·.1)) (u.map (·.1)) 1 z.length).length == z.length) = true then Made.val (.str z t)
      else Made.str ⟨((Builtin.Str.strSliceIndices (l.map (·.1)) (u.map (·.1)) 1 z.length).filterMap (z.cps[·]?)).toArray⟩) (EP X pins σ Q) s
    by_cases c : ((1 : Int) == 1 && (Builtin.Str.strSliceIndices (l.map (·.1)) (u.map (·.1)) 1 z.length).length == z.length) = true
    · rw [if_pos c] at q ⊢
      exact ⟨.str z, H, I, ⟨t, rfl⟩, q⟩
    · rw [if_neg c] at q hz ⊢
      exact ⟨hz, .str _, H, I.tok _, ⟨_, rfl⟩, q⟩
  | some kt =>
    obtain ⟨k, kk⟩ := kt
    have n0 : k ≠ 0 := fun e => h0 (by rw [e]; rfl)
    have n1 : k ≠ 1 := fun e => h1 (by rw [e]; rfl)
    refine wpAny_getItem_str_slice (l := l) (u := u) (st := some (k, kk)) hs (by show (k == 0) = false; exact beq_eq_false_iff_ne.mpr n0) ?_
    show Made.post (if (k == 1 && (Builtin.Str.strSliceIndices (l.map (·.1)) (u.map (·.1)) k z.length).length == z.length) = true then Made.val (.str z t)
      else Made.str ⟨((Builtin.Str.strSliceIndices (l.map (·.1)) (u.map (·.1)) k z.length).filterMap (z.cps[·]?)).toArray⟩) (EP X pins σ Q) s
    rw [if_neg (by rw [beq_eq_false_iff_ne.mpr n1, Bool.false_and]; exact Bool.false_ne_true)]
    exact ⟨hz, .str _, H, I.tok _, ⟨_, rfl⟩, q⟩
/-- z[p], z a text, p a slice object -/
def rIxSl : R2 := fun x y H Q => ∃ (z : Str) (p : Addr) (lo hi st : Option Int), x = .str z ∧ y = .ref p ∧ H p = some (slO p lo hi st) ∧ st ≠ some 0 ∧ st ≠ some 1 ∧ (slS z lo hi st).length ≤ sizeLine ∧ Q (.str (slS z lo hi st)) H
theorem ix_slS : IxR X rIxSl := by
  intro value slice pins s σ H x y v u Q I rx ry h hs
  obtain ⟨z, p, lo, hi, st, rfl, rfl, hp, h0, h1, hz, q⟩ := h
  obtain ⟨t, rfl⟩ := rx
  obtain rfl : u = Value.ref p := ry
  obtain ⟨⟨l, u', t', rfl, rfl, rfl, e⟩, _⟩ := (show ObjOk X.prog X.w H s.heap p (slO p lo hi st) from I.hok p _ hp)
  exact tail_any (typeIs_str s z t) slot_str_getitem.lookup (get_slS I e h0 h1 hz q) hs
/-- e[::k], e a text, in one -/
theorem pe_stepS {e st : Expr} {te ts : TE} {p2 pos : Pos} (he : PE X e te) (hst : PE X st ts) :
    PE X (.Subscript e (.Slice none none (some st) p2) pos) (fun σ H Q => te σ H fun x H1 => ts σ H1 fun y H2 => ∃ (z : Str) (k : Int), x = .str z ∧ y = .int k ∧ k ≠ 0 ∧ k ≠ 1 ∧ (stepS z none none k).length ≤ sizeLine ∧ Q (.str (stepS z none none k)) H2) := by
  refine ⟨fun pins s σ H Q I h => ?_⟩
  refine Subscript_ (thn (he.run pins s σ H _ I h) fun v s1 hh => ?_)
  obtain ⟨x, H1, I1, r1, q1⟩ := hh
  refine wpAny_Slice ?_
  rw [evalPart_none, evalPart_some]
  refine wpAny_pure (wpAny_pure (thn (hst.run pins s1 σ H1 _ I1 q1) fun u s2 hh => ?_))
  obtain ⟨y, H2, I2, r2, z, k, rfl, rfl, n0, n1, hz, q⟩ := hh
  obtain ⟨t, rfl⟩ := r1
  obtain ⟨t2, rfl⟩ := r2
  have I4 : Inv X pins σ H2 { s2 with heap := s2.heap.push { cls := .type "slice", data := .fields #[.none, .none, .int k t2] } } := I2.kept (t' := s2.toks) fun b ob q => Heap.get?_push_of_some _ q
  exact tail_any (ops := [.ref s2.heap.objs.size, .str z t]) (typeIs_str _ _ _) F.slot_str_getitem.lookup
    (get_slS (l := none) (u := none) (st := some (k, t2)) I4 ⟨_, Heap.get?_push_size _ rfl, rfl, rfl⟩ (fun e => n0 (Option.some.inj e)) (fun e => n1 (Option.some.inj e)) hz q) (by with_unfolding_all rfl)
/-- e.__class__.__name__ of a slice, of an int -/
structure NameK (K : PySem.W.Frag) : Prop where
  sl : PySem.W.findCls K (.type "slice") (.type "type") "__name__" = some (.get (.builtin "getset_descriptor.__get__") (.builtin "type.__name__") (.type "slice") (.type "type"))
  it : PySem.W.findCls K (.type "int") (.type "type") "__name__" = some (.get (.builtin "getset_descriptor.__get__") (.builtin "type.__name__") (.type "int") (.type "type"))
def tClsName (te : TE) : TE := fun σ H Q => te σ H fun x H1 => (∃ (p : Addr) (lo hi st : Option Int), x = .ref p ∧ H1 p = some (slO p lo hi st) ∧ Q (.str "slice") H1) ∨ (∃ i : Int, x = .int i ∧ Q (.str "int") H1)
theorem pe_clsName {e : Expr} {te : TE} {p1 p2 : Pos} (N : NameK X.K) (he : PE X e te) (hb : attributeBase e "__class__" X.env (eval e X.env) = eval e X.env)
    (hb2 : attributeBase (.Attribute e "__class__" p1) "__name__" X.env (eval (.Attribute e "__class__" p1) X.env) = eval (.Attribute e "__class__" p1) X.env) : PE X (.Attribute (.Attribute e "__class__" p1) "__name__" p2) (tClsName te) := by
  refine ⟨fun pins s σ H Q I h => ?_⟩
  refine attr_of hb2 (attr_of hb (thn (he.run pins s σ H _ I h) fun u s1 hh => ?_))
  obtain ⟨x, H1, I1, rx, hq⟩ := hh
  obtain ⟨m, Fm⟩ := frame_of I1
  obtain ⟨hp, g, d, tk, os⟩ := s1
  rcases hq with ⟨p, lo, hi, st, rfl, ep, q⟩ | ⟨i, rfl, q⟩
  · obtain rfl : u = Value.ref p := rx
    obtain ⟨⟨l, u', t', rfl, rfl, rfl, o, ho, hc, _⟩, _⟩ := (show ObjOk X.prog X.w H1 hp p (slO p lo hi st) from I1.hok p _ ep)
    refine slc_attr ho hc ?_
    exact PySem.W.ktyn_attr (q := "slice") Fm I1.ok.mod.kin (by decide +kernel) (by decide +kernel) N.sl (by kernel_rfl) (by decide +kernel) fun tk u => ⟨.str "slice", H1, I1.tok u, ⟨_, rfl⟩, q⟩
  · obtain ⟨t, rfl⟩ := rx
    refine intc_attr ?_
    exact PySem.W.ktyn_attr (q := "int") Fm I1.ok.mod.kin (by decide +kernel) (by decide +kernel) N.it (by kernel_rfl) (by decide +kernel) fun tk u => ⟨.str "int", H1, I1.tok u, ⟨_, rfl⟩, q⟩
/-- isinstance(p, T), p a slice object -/
theorem kitx_slice {K : PySem.W.Frag} {a : Addr} : PySem.W.KitX K (.ref a) (.type "slice") (PySem.W.KitAt a "slice") :=
  PySem.W.kitx_of PySem.W.kitAt_ty (fun {_ _ _ _ _ s} p k => by
    obtain ⟨h, g, d, t, os⟩ := s
    obtain ⟨o, h1, h2⟩ := p
    exact slc_attr? h1 h2 k)
def rIsiSl (K : PySem.W.Frag) : List V → Hp → VK → Prop := fun xs H Q => (∃ (p : Addr) (c : V) (u : Value) (b : Bool) (lo hi st : Option Int), xs = [.ref p, c] ∧ H p = some (slO p lo hi st) ∧ ClsV c u ∧ PySem.W.kitOne K (.type "slice") u = some b ∧ Q (.bl b) H) ∨ rIsi K xs H Q
theorem call_isiSl : CallR X (.builtin "isinstance") (rIsiSl X.K) := by
  intro pins s σ H xs us Q I r h
  rcases h with ⟨p, c, u, b, lo, hi, st, rfl, ep, k, e, q⟩ | h
  · obtain ⟨u1, u2, rfl, r1, r2⟩ := vals2 r
    have e2 := k.eq r2
    subst e2
    obtain rfl : u1 = Value.ref p := r1
    obtain ⟨⟨l, u', t', rfl, rfl, rfl, o, ho, hc, _⟩, _⟩ := (show ObjOk X.prog X.w H s.heap p (slO p lo hi st) from I.hok p _ ep)
    exact PySem.W.kia_one kitx_slice I.kIn ⟨o, ho, hc⟩ e (fun z => nomatch z) fun tk => ⟨.bl b, H, I.tok tk, rfl, q⟩
  · exact call_isi pins s σ H xs us Q I r h
end
end SB
-- R26
namespace SB
open PySem PySem.Spec PyProof.Rows L2
/-! ### own things by an item, by a slice: the own __getitem__ -/
/-- what is told of a class whose __getitem__ is its own -/
structure ItemC (K : PySem.W.Frag) (C f : Addr) : Prop where
  find : PySem.W.findIn K (.ref C) "__getitem__" = some (some (.ref f))
  fn : PySem.W.isFn K (.ref f) = true
  fi : PySem.W.fnIn K f = true
  nq : PySem.W.noSeq K C = true
section
variable {X : Cx} {CX : CXT} {k : Nat} {C f : Addr} {fd : FuncData} {ps : List Str} {sp : Sp} {E : XK}
/-- e[i], i no slice that is written there -/
def tItemOwn (C : Addr) (sp : Sp) (E : XK) (te ti : TE) : TE := fun σ H Q => te σ H fun x H1 => ti σ H1 fun y H2 => ∃ (a dx : Addr) (fs : List (Str × V)), x = .ref a ∧ H2 a = some (.ins C dx fs) ∧ sp [x, y] H2 Q E
theorem pe_itemOwn {e i : Expr} {te ti : TE} {pos : Pos} (T : ItemC X.K C f) (F : FnOk X.prog X.w X.K X.mg X.base CX k f fd ps sp) (hr : Room (k + 1) X.A) (hb : Binds X.K fd ps []) (hx : Passes CX X E) (he : PE X e te) (hi : PE X i ti)
    (hsl : ∀ (x : Addr) (u : Value), subscripted i true (.ref x) u = runValue (.builtin "lifetime.subscript" ⟨[.ref x, u], []⟩) := by intro _ _; with_unfolding_all rfl) :
    PE X (.Subscript e i pos) (tItemOwn C sp E te ti) := by
  refine ⟨fun pins s σ H Q I h => ?_⟩
  refine Subscript_ (thn (he.run pins s σ H _ I h) fun v s1 hh => ?_)
  obtain ⟨x, H1, I1, r1, q1⟩ := hh
  refine thn (hi.run pins s1 σ H1 _ I1 q1) fun u s2 hh => ?_
  obtain ⟨y, H2, I2, r2, a, dx, fs, rfl, ea, q⟩ := hh
  obtain rfl : v = Value.ref a := r1
  obtain ⟨od, J⟩ := inst_of I2 ea
  obtain ⟨m, Fm⟩ := frame_of I2
  exact PySem.W.sub_K Fm I2.ok.mod.kin J T.find T.fi T.fn (run_in1 (us := [.ref a, u]) (vs := [.ref a, y]) F hr hb hx I2 (.cons rfl (.cons r2 .nil)) q) (hsl a u)
/-- e[lo:hi] -/
def tSliceOwn (C : Addr) (sp : Sp) (E : XK) (te : TE) (tl th ts : TO) : TE := fun σ H Q => te σ H fun x H1 => tl σ H1 fun l H2 => th σ H2 fun u H3 => ts σ H3 fun st H4 => ∃ (a dx : Addr) (fs : List (Str × V)), x = .ref a ∧ H4 a = some (.ins C dx fs) ∧
  ∀ p, H4 p = none → sp [x, .ref p] (upd H4 p (slO p l u st)) Q E
theorem pe_sliceOwn {e : Expr} {lo hi st : Option Expr} {te : TE} {tl th ts : TO} {p2 pos : Pos} (T : ItemC X.K C f) (F : FnOk X.prog X.w X.K X.mg X.base CX k f fd ps sp) (hr : Room (k + 1) X.A) (hb : Binds X.K fd ps []) (hx : Passes CX X E) (he : PE X e te) (hl : PO X lo tl) (hu : PO X hi th) (hst : PO X st ts)
    (hsl : (∀ (x : Addr) (u : Value), subscripted (.Slice lo hi st p2) true (.ref x) u = runValue (.builtin "lifetime.subscript" ⟨[.ref x, u], []⟩)) ∨ (∀ (x : Addr) (u : Value), subscripted (.Slice lo hi st p2) true (.ref x) u = operate [u, .ref x] (getItem (.ref x) u))) :
    PE X (.Subscript e (.Slice lo hi st p2) pos) (tSliceOwn C sp E te tl th ts) := by
  refine ⟨fun pins s σ H Q I h => ?_⟩
  refine Subscript_ (thn (he.run pins s σ H _ I h) fun v s1 hh => ?_)
  obtain ⟨x, H1, I1, r1, q1⟩ := hh
  refine wpAny_Slice (thn (hl.run pins s1 σ H1 _ I1 q1) fun vl s2 hh2 => ?_)
  obtain ⟨l, H2, I2, pl, q2⟩ := hh2
  refine thn (hu.run pins s2 σ H2 _ I2 q2) fun vu s3 hh3 => ?_
  obtain ⟨u, H3, I3, pu, q3⟩ := hh3
  refine thn (hst.run pins s3 σ H3 _ I3 q3) fun vs s4 hh4 => ?_
  obtain ⟨t, H4, I4, pt, a, dx, fs, rfl, ea, q⟩ := hh4
  obtain rfl : v = Value.ref a := r1
  obtain ⟨l', rfl, rfl⟩ := IsPart.raw pl
  obtain ⟨u', rfl, rfl⟩ := IsPart.raw pu
  obtain ⟨t', rfl, rfl⟩ := IsPart.raw pt
  have hs : (s4.heap.push { cls := .type "slice", data := .fields #[partValue l', partValue u', partValue t'] }).IsSlice s4.heap.objs.size l' u' t' := ⟨_, Heap.get?_push_size _ rfl, rfl, rfl⟩
  have I5 : Inv X pins σ (upd H4 s4.heap.objs.size (slO s4.heap.objs.size (l'.map (·.1)) (u'.map (·.1)) (t'.map (·.1)))) { s4 with heap := s4.heap.push { cls := .type "slice", data := .fields #[partValue l', partValue u', partValue t'] } } :=
    I4.laid (t' := s4.toks) (fun b ob q => Heap.get?_push_of_some _ q) (Nat.le_refl _) (slO_ok hs)
  have nw : H4 s4.heap.objs.size = none := I4.hok.fresh (Nat.le_refl _)
  have ea5 : upd H4 s4.heap.objs.size (slO s4.heap.objs.size (l'.map (·.1)) (u'.map (·.1)) (t'.map (·.1))) a = some (.ins C dx fs) := by
    rw [upd_ne (ne_of_none ea nw)]
    exact ea
  obtain ⟨od, J⟩ := inst_of I5 ea5
  obtain ⟨m, Fm⟩ := frame_of I5
  have q5 := q _ nw
  rcases hsl with hsl | hsl
  · exact PySem.W.sub_K Fm I5.ok.mod.kin J T.find T.fi T.fn (run_in1 (us := [.ref a, .ref s4.heap.objs.size]) (vs := [.ref a, .ref s4.heap.objs.size]) F hr hb hx I5 (.cons rfl (.cons rfl .nil)) q5) (hsl a _)
  · have fi := T.fi
    unfold PySem.W.fnIn at fi
    split at fi
    · rename_i eo
      have X2 := I5.ok.mod.kin.keeps Fm.keep
      unfold subscriptTail getitemInPython
      refine wpAny_bind (wpAny_bind (wpAny_bind (J.type.here ((PySem.W.looks_findIn X2 T.find).here ?_))))
      dsimp only
      refine wpAny_bind (wpAny_load (X2 _ _ eo) (wpAny_pure ?_))
      dsimp only
      rw [hsl]
      refine wpAny_bind (wpAny_operating (wpAny_mono (PySem.W.getItem_K Fm I5.ok.mod.kin J T.nq T.find T.fn (run_two (x := .ref a) (y := .ref s4.heap.objs.size) F (hr.mono (by omega)) hb hx I5 rfl rfl q5)) (fun r s5 h5 => ?_) fun _ _ x => x))
      exact wpAny_bind (wpAny_letTemporaryGo (wpAny_pure h5))
    · cases fi
end
end SB
-- K03H0
namespace K03
open PySem PySem.Spec PyProof.Rows L2 SB
local macro_rules | `(tactic| trivial) => `(tactic| first | assumption | (with_reducible rfl) | rfl | (apply Exists.intro) | (apply And.intro) | (rw [sizeLine_eq]; omega))
/-- what an order of words tells -/
def ordW (o : Int → Int → Bool) (g : List Nat → List Nat → Bool) (z v : Str) : Bool := if ((z.length : Nat) : Int) = (v.length : Nat) then g z.cps.toList v.cps.toList else o (z.length : Nat) (v.length : Nat)
section
variable {P : Program} {w : World} {K : PySem.W.Frag} {mg : Str → Option Value} {base : Heap}
def spOrd (CW : Addr) (o : Int → Int → Bool) (g : List Nat → List Nat → Bool) : Sp := fun vs H Q _ => ∃ (a b : Addr) (z v : Str), vs = [.ref a, .ref b] ∧ WordAt CW H a z ∧ WordAt CW H b v ∧ z.length ≤ 4000 ∧ v.length ≤ 4000 ∧ ∀ H', Same H H' → Q (.bl (ordW o g z v)) H'
theorem ok_Word_lt {f CW CB2 CM : Addr} {fd : FuncData} {k : Nat} (F : Fun K "__lt__" "Word.__lt__" s_Word_lt f fd) (MO : MakeOk P w K mg base CW CB2 CM k) (mi : mg "isinstance" = none) (ml : mg "len" = none) :
    FnOk P w K mg base CX0 (k + 1) f fd ["self", "other"] (spOrd CW (fun n m => decide (n < m)) (fun a b => decide (a < b))) := by
  have gW := MO.gW
  have cl := MO.cl
  have na := MO.na
  refine F.ok sc_Word_lt (fun vs H Q E h => ?_) (fun cdv A outer s H vs Q E hr h => ?_)
  · obtain ⟨a, b, z, v, rfl, _⟩ := h
    rfl
  · obtain ⟨a, b, z, v, rfl, ⟨dx, ha⟩, wb, lz, lv, q⟩ := h
    refine ⟨_, pss_cons (ps_if (pt_not (pt_val (pe_callB call_isi (by rfl) mi boot_isinstance (pa_cons (pv 1) (pa_cons (pe_glob (v := .ref CW) (by rfl) gW rfl) pa_nil)))))
        (pss_one ps_never) pss_nil)
      (pss_one (ps_ret (pe_cmpR (op_ltIS (Nat.lt_of_le_of_lt (Nat.le_add_right _ _) hr.units)) (pe_tup (pa_cons (pe_callB call_len (by rfl) ml PySem.boot_len (pa_cons (pe_fld (pv 0) rfl) pa_nil)) (pa_cons (pe_fld (pv 0) rfl) pa_nil)))
        (pe_tup (pa_cons (pe_callB call_len (by rfl) ml PySem.boot_len (pa_cons (pe_fld (pv 1) rfl) pa_nil)) (pa_cons (pe_fld (pv 1) rfl) pa_nil))) (nomark _)))), ?_⟩
    refine ⟨.ref b, rfl, .ref b, .ref CW, .ref CW, .ref CW, true, rfl, .own CW, isC_ty MO.cl MO.ic wb, kit_self, true, rfl, iteF ?_⟩
    obtain ⟨dy, hb⟩ := wb
    have lz' : z.length ≤ sizeLine := by
      rw [sizeLine_eq]
      omega
    have ly' : v.length ≤ sizeLine := by
      rw [sizeLine_eq]
      omega
    refine ⟨.ref a, rfl, a, CW, dx, _, .str z, rfl, ha, cl, na, rfl, .str z, z.length, rfl, ⟨lz', rfl⟩, .ref a, rfl, a, CW, dx, _, .str z, rfl, ha, cl, na, rfl, by show 2 ≤ sizeLine; decide, fun p hp => ?_⟩
    have s1 : Same H (upd H p (.tup [.int (z.length : Nat), .str z])) := same_new hp
    have hb1 := s1 _ _ hb
    refine ⟨.ref b, rfl, b, CW, dy, _, .str v, rfl, hb1, cl, na, rfl, .str v, v.length, rfl, ⟨ly', rfl⟩, .ref b, rfl, b, CW, dy, _, .str v, rfl, hb1, cl, na, rfl, by show 2 ≤ sizeLine; decide, fun r hr2 => ?_⟩
    have s2 := same_new (o := .tup [.int (v.length : Nat), .str v]) hr2
    exact ⟨p, r, _, _, z, v, rfl, rfl, .inl (.inl (s2 _ _ upd_same)), .inl (.inl upd_same), q _ (s1.trans s2)⟩
theorem ok_Word_le {f CW CB2 CM : Addr} {fd : FuncData} {k : Nat} (F : Fun K "__le__" "Word.__le__" s_Word_le f fd) (MO : MakeOk P w K mg base CW CB2 CM k) (mi : mg "isinstance" = none) (ml : mg "len" = none) :
    FnOk P w K mg base CX0 (k + 1) f fd ["self", "other"] (spOrd CW (fun n m => decide (n ≤ m)) (fun a b => !decide (b < a))) := by
  have gW := MO.gW
  have cl := MO.cl
  have na := MO.na
  refine F.ok sc_Word_le (fun vs H Q E h => ?_) (fun cdv A outer s H vs Q E hr h => ?_)
  · obtain ⟨a, b, z, v, rfl, _⟩ := h
    rfl
  · obtain ⟨a, b, z, v, rfl, ⟨dx, ha⟩, wb, lz, lv, q⟩ := h
    refine ⟨_, pss_cons (ps_if (pt_not (pt_val (pe_callB call_isi (by rfl) mi boot_isinstance (pa_cons (pv 1) (pa_cons (pe_glob (v := .ref CW) (by rfl) gW rfl) pa_nil)))))
        (pss_one ps_never) pss_nil)
      (pss_one (ps_ret (pe_cmpR (op_leIS (Nat.lt_of_le_of_lt (Nat.le_add_right _ _) hr.units)) (pe_tup (pa_cons (pe_callB call_len (by rfl) ml PySem.boot_len (pa_cons (pe_fld (pv 0) rfl) pa_nil)) (pa_cons (pe_fld (pv 0) rfl) pa_nil)))
        (pe_tup (pa_cons (pe_callB call_len (by rfl) ml PySem.boot_len (pa_cons (pe_fld (pv 1) rfl) pa_nil)) (pa_cons (pe_fld (pv 1) rfl) pa_nil))) (nomark _)))), ?_⟩
    refine ⟨.ref b, rfl, .ref b, .ref CW, .ref CW, .ref CW, true, rfl, .own CW, isC_ty MO.cl MO.ic wb, kit_self, true, rfl, iteF ?_⟩
    obtain ⟨dy, hb⟩ := wb
    have lz' : z.length ≤ sizeLine := by
      rw [sizeLine_eq]
      omega
    have ly' : v.length ≤ sizeLine := by
      rw [sizeLine_eq]
      omega
    refine ⟨.ref a, rfl, a, CW, dx, _, .str z, rfl, ha, cl, na, rfl, .str z, z.length, rfl, ⟨lz', rfl⟩, .ref a, rfl, a, CW, dx, _, .str z, rfl, ha, cl, na, rfl, by show 2 ≤ sizeLine; decide, fun p hp => ?_⟩
    have s1 : Same H (upd H p (.tup [.int (z.length : Nat), .str z])) := same_new hp
    have hb1 := s1 _ _ hb
    refine ⟨.ref b, rfl, b, CW, dy, _, .str v, rfl, hb1, cl, na, rfl, .str v, v.length, rfl, ⟨ly', rfl⟩, .ref b, rfl, b, CW, dy, _, .str v, rfl, hb1, cl, na, rfl, by show 2 ≤ sizeLine; decide, fun r hr2 => ?_⟩
    have s2 := same_new (o := .tup [.int (v.length : Nat), .str v]) hr2
    exact ⟨p, r, _, _, z, v, rfl, rfl, .inl (.inl (s2 _ _ upd_same)), .inl (.inl upd_same), q _ (s1.trans s2)⟩
theorem ok_Word_gt {f CW CB2 CM : Addr} {fd : FuncData} {k : Nat} (F : Fun K "__gt__" "Word.__gt__" s_Word_gt f fd) (MO : MakeOk P w K mg base CW CB2 CM k) (mi : mg "isinstance" = none) (ml : mg "len" = none) :
    FnOk P w K mg base CX0 (k + 1) f fd ["self", "other"] (spOrd CW (fun n m => decide (m < n)) (fun a b => decide (b < a))) := by
  have gW := MO.gW
  have cl := MO.cl
  have na := MO.na
  refine F.ok sc_Word_gt (fun vs H Q E h => ?_) (fun cdv A outer s H vs Q E hr h => ?_)
  · obtain ⟨a, b, z, v, rfl, _⟩ := h
    rfl
  · obtain ⟨a, b, z, v, rfl, ⟨dx, ha⟩, wb, lz, lv, q⟩ := h
    refine ⟨_, pss_cons (ps_if (pt_not (pt_val (pe_callB call_isi (by rfl) mi boot_isinstance (pa_cons (pv 1) (pa_cons (pe_glob (v := .ref CW) (by rfl) gW rfl) pa_nil)))))
        (pss_one ps_never) pss_nil)
      (pss_one (ps_ret (pe_cmpR (op_gtIS (Nat.lt_of_le_of_lt (Nat.le_add_right _ _) hr.units)) (pe_tup (pa_cons (pe_callB call_len (by rfl) ml PySem.boot_len (pa_cons (pe_fld (pv 0) rfl) pa_nil)) (pa_cons (pe_fld (pv 0) rfl) pa_nil)))
        (pe_tup (pa_cons (pe_callB call_len (by rfl) ml PySem.boot_len (pa_cons (pe_fld (pv 1) rfl) pa_nil)) (pa_cons (pe_fld (pv 1) rfl) pa_nil))) (nomark _)))), ?_⟩
    refine ⟨.ref b, rfl, .ref b, .ref CW, .ref CW, .ref CW, true, rfl, .own CW, isC_ty MO.cl MO.ic wb, kit_self, true, rfl, iteF ?_⟩
    obtain ⟨dy, hb⟩ := wb
    have lz' : z.length ≤ sizeLine := by
      rw [sizeLine_eq]
      omega
    have ly' : v.length ≤ sizeLine := by
      rw [sizeLine_eq]
      omega
    refine ⟨.ref a, rfl, a, CW, dx, _, .str z, rfl, ha, cl, na, rfl, .str z, z.length, rfl, ⟨lz', rfl⟩, .ref a, rfl, a, CW, dx, _, .str z, rfl, ha, cl, na, rfl, by show 2 ≤ sizeLine; decide, fun p hp => ?_⟩
    have s1 : Same H (upd H p (.tup [.int (z.length : Nat), .str z])) := same_new hp
    have hb1 := s1 _ _ hb
    refine ⟨.ref b, rfl, b, CW, dy, _, .str v, rfl, hb1, cl, na, rfl, .str v, v.length, rfl, ⟨ly', rfl⟩, .ref b, rfl, b, CW, dy, _, .str v, rfl, hb1, cl, na, rfl, by show 2 ≤ sizeLine; decide, fun r hr2 => ?_⟩
    have s2 := same_new (o := .tup [.int (v.length : Nat), .str v]) hr2
    exact ⟨p, r, _, _, z, v, rfl, rfl, .inl (.inl (s2 _ _ upd_same)), .inl (.inl upd_same), q _ (s1.trans s2)⟩
theorem ok_Word_ge {f CW CB2 CM : Addr} {fd : FuncData} {k : Nat} (F : Fun K "__ge__" "Word.__ge__" s_Word_ge f fd) (MO : MakeOk P w K mg base CW CB2 CM k) (mi : mg "isinstance" = none) (ml : mg "len" = none) :
    FnOk P w K mg base CX0 (k + 1) f fd ["self", "other"] (spOrd CW (fun n m => decide (m ≤ n)) (fun a b => !decide (a < b))) := by
  have gW := MO.gW
  have cl := MO.cl
  have na := MO.na
  refine F.ok sc_Word_ge (fun vs H Q E h => ?_) (fun cdv A outer s H vs Q E hr h => ?_)
  · obtain ⟨a, b, z, v, rfl, _⟩ := h
    rfl
  · obtain ⟨a, b, z, v, rfl, ⟨dx, ha⟩, wb, lz, lv, q⟩ := h
    refine ⟨_, pss_cons (ps_if (pt_not (pt_val (pe_callB call_isi (by rfl) mi boot_isinstance (pa_cons (pv 1) (pa_cons (pe_glob (v := .ref CW) (by rfl) gW rfl) pa_nil)))))
        (pss_one ps_never) pss_nil)
      (pss_one (ps_ret (pe_cmpR (op_geIS (Nat.lt_of_le_of_lt (Nat.le_add_right _ _) hr.units)) (pe_tup (pa_cons (pe_callB call_len (by rfl) ml PySem.boot_len (pa_cons (pe_fld (pv 0) rfl) pa_nil)) (pa_cons (pe_fld (pv 0) rfl) pa_nil)))
        (pe_tup (pa_cons (pe_callB call_len (by rfl) ml PySem.boot_len (pa_cons (pe_fld (pv 1) rfl) pa_nil)) (pa_cons (pe_fld (pv 1) rfl) pa_nil))) (nomark _)))), ?_⟩
    refine ⟨.ref b, rfl, .ref b, .ref CW, .ref CW, .ref CW, true, rfl, .own CW, isC_ty MO.cl MO.ic wb, kit_self, true, rfl, iteF ?_⟩
    obtain ⟨dy, hb⟩ := wb
    have lz' : z.length ≤ sizeLine := by
      rw [sizeLine_eq]
      omega
    have ly' : v.length ≤ sizeLine := by
      rw [sizeLine_eq]
      omega
    refine ⟨.ref a, rfl, a, CW, dx, _, .str z, rfl, ha, cl, na, rfl, .str z, z.length, rfl, ⟨lz', rfl⟩, .ref a, rfl, a, CW, dx, _, .str z, rfl, ha, cl, na, rfl, by show 2 ≤ sizeLine; decide, fun p hp => ?_⟩
    have s1 : Same H (upd H p (.tup [.int (z.length : Nat), .str z])) := same_new hp
    have hb1 := s1 _ _ hb
    refine ⟨.ref b, rfl, b, CW, dy, _, .str v, rfl, hb1, cl, na, rfl, .str v, v.length, rfl, ⟨ly', rfl⟩, .ref b, rfl, b, CW, dy, _, .str v, rfl, hb1, cl, na, rfl, by show 2 ≤ sizeLine; decide, fun r hr2 => ?_⟩
    have s2 := same_new (o := .tup [.int (v.length : Nat), .str v]) hr2
    exact ⟨p, r, _, _, z, v, rfl, rfl, .inl (.inl (s2 _ _ upd_same)), .inl (.inl upd_same), q _ (s1.trans s2)⟩
end
end K03
-- K03G1
namespace K03
open PySem PySem.Spec PyProof.Rows L2 SB
/-- the place of a letter -/
def rk (c : Nat) : Nat := letters8.idxOf c
theorem occ_rk : ∀ c, isL c = true → Builtin.Str.occurrences "ABCDabcd" (s1 c) 0 (Str.length "ABCDabcd") 1 = [rk c] := by
  intro c h
  have h' : c ∈ letters8 := of_decide_eq_true h
  have all : ∀ c ∈ letters8, Builtin.Str.occurrences "ABCDabcd" (s1 c) 0 (Str.length "ABCDabcd") 1 = [letters8.idxOf c] := by decide +kernel
  exact all c h'
def vints (l : List Nat) : List V := l.map fun n => V.int (n : Nat)
section
variable {P : Program} {w : World} {K : PySem.W.Frag} {mg : Str → Option Value} {base : Heap}
def spPlaces : Sp := fun vs H Q _ => ∃ z : Str, vs = [.str z] ∧ z.length ≤ 100000 ∧ allL z.cps.toList ∧ ∀ D H', H D = none → Same H H' → H' D = some (.lst (vints (z.cps.toList.map rk))) → Q (.ref D) H'
theorem ok_law_places {f : Addr} {fd : FuncData} {k : Nat} (F : Fun K "_law_places" "_law_places" s__law_places f fd) : FnOk P w K mg base CX0 (k + 1) f fd ["row"] spPlaces := by
  refine F.ok sc__law_places (fun vs H Q E h => ?_) (fun cdv A outer s H vs Q E hr h => ?_)
  · obtain ⟨z, rfl, _⟩ := h
    rfl
  · obtain ⟨z, rfl, lz, aL, q⟩ := h
    have nd := sc__law_places.nd
    refine ⟨_, (pss_one (ps_ret (pe_lc (own := [("letter", 1)]) (g := gName 1) (by rfl) nd (pi_str (pv 0)) (blkOk_by (own := [("letter", 1)]) (N := ["row", "letter"]) (sc := defScope s__law_places) (by decide +kernel)) (fun _ _ _ _ _ => pg_name (i := 1) nd rfl (Or.inl rfl)) (fun _ _ _ _ _ => pts_nil) (fun _ _ _ _ _ => (pe_m1 PySem.F.slot_str_index PySem.F.type_str_index mt_sindex pe_str (pv 1)))))), ?_⟩
    refine ⟨.str z, rfl, z, rfl, fun D hD => lc_it walk_str (fun i H' => Same H H' ∧ H' D = some (.lst (vints ((z.cps.toList.take i).map rk)))) ⟨same_new hD, upd_same⟩ (fun _ _ _ _ => trivial) (fun i x Ha Hb hi hPc hY => ?_) (fun H5 hPc => ?_)⟩
    · obtain ⟨sa, hd⟩ := hPc
      obtain ⟨rfl, c, hc, rfl⟩ := hY
      have hc' : z.cps.toList[i]? = some c := by
        rw [Array.getElem?_toList]
        exact hc
      have cL : isL c = true := aL c (List.mem_of_getElem? hc')
      have hlz : z.cps.toList.length = z.length := rfl
      refine ⟨rfl, ⟨_, rfl⟩, .str (s1 c), rfl, _, _, rk c, [], rfl, rfl, occ_rk c cL, _, hd, ?_, fun b u e => ?_, ?_⟩
      · unfold vints
        rw [List.length_map, List.length_map, List.length_take, sizeLine_eq]
        omega
      · rw [upd_ne (ne_of_none e hD)]
        exact sa b u e
      · rw [upd_same, List.take_add_one, hc', List.map_append]
        unfold vints
        rw [List.map_append]
        rfl
    · obtain ⟨s5, hd⟩ := hPc
      have full : z.cps.toList.take z.cps.size = z.cps.toList := List.take_of_length_le (by simp)
      rw [full] at hd
      exact q D _ hD s5 hd
end
end K03
-- K03G2
namespace K03
open PySem PySem.Spec PyProof.Rows L2 SB
/-- what two rows begin with together -/
def comm : List Nat → List Nat → List Nat
  | x :: a, y :: b => if x = y then x :: comm a b else []
  | _, _ => []
theorem comm_step {a b : List Nat} {n x y : Nat} (hx : a[n]? = some x) (hy : b[n]? = some y) : comm (a.drop n) (b.drop n) = if x = y then x :: comm (a.drop (n + 1)) (b.drop (n + 1)) else [] := by
  obtain ⟨l1, e1⟩ := List.getElem?_eq_some_iff.mp hx
  obtain ⟨l2, e2⟩ := List.getElem?_eq_some_iff.mp hy
  rw [List.drop_eq_getElem_cons l1, List.drop_eq_getElem_cons l2, e1, e2]
  rfl
theorem comm_end {a b : List Nat} (h : a = [] ∨ b = []) : comm a b = [] := by
  rcases h with rfl | rfl
  · simp [comm]
  · cases a <;> simp [comm]
section
variable {P : Program} {w : World} {K : PySem.W.Frag} {mg : Str → Option Value} {base : Heap}
def spCommon : Sp := fun vs H Q _ => ∃ a b : Str, vs = [.str a, .str b] ∧ a.length ≤ 100000 ∧ b.length ≤ 100000 ∧ Q (.str (SB.T (comm a.cps.toList b.cps.toList))) H
theorem ok_law_common {f : Addr} {fd : FuncData} {k : Nat} (F : Fun K "_law_common" "_law_common" s__law_common f fd) (m_len : mg "len" = none) : FnOk P w K mg base CX0 (k + 1) f fd ["one", "other"] spCommon := by
  refine F.ok sc__law_common (fun vs H Q E h => ?_) (fun cdv A outer s H vs Q E hr h => ?_)
  · obtain ⟨a, b, rfl, _⟩ := h
    rfl
  · obtain ⟨a, b, rfl, la, lb, q⟩ := h
    have nd := sc__law_common.nd
    refine ⟨_, (pss_cons (ps_set (i := 2) nd rfl (.inl rfl) pe_str)
      (pss_cons (ps_while PassesOwn.never (PW.pt (pw_and (pt_cmpR op_lt (pe_callB call_len (by rfl) m_len PySem.boot_len (pa_cons (pv 2) pa_nil)) (pe_callB call_len (by rfl) m_len PySem.boot_len (pa_cons (pv 0) pa_nil)) (nomark _)) (pw_and (pt_cmpR op_lt (pe_callB call_len (by rfl) m_len PySem.boot_len (pa_cons (pv 2) pa_nil)) (pe_callB call_len (by rfl) m_len PySem.boot_len (pa_cons (pv 1) pa_nil)) (nomark _)) (pw_and1 (pt_cmpR op_eq (pe_ix ix_str (pv 0) (pe_callB call_len (by rfl) m_len PySem.boot_len (pa_cons (pv 2) pa_nil)) (fun _ _ => rfl)) (pe_ix ix_str (pv 1) (pe_callB call_len (by rfl) m_len PySem.boot_len (pa_cons (pv 2) pa_nil)) (fun _ _ => rfl)) (nomark _)))))) (pss_one (ps_set (i := 2) nd rfl (.inl rfl) (pe_op op_add_str (pv 2) (pe_ix ix_str (pv 0) (pe_callB call_len (by rfl) m_len PySem.boot_len (pa_cons (pv 2) pa_nil)) (fun _ _ => rfl))))))
      (pss_one (ps_ret (pv 2))))), ?_⟩
    have hla : a.cps.toList.length = a.length := rfl
    have hlb : b.cps.toList.length = b.length := rfl
    have sz : ∀ {z : Str}, z.length ≤ 100001 → z.length ≤ sizeLine := fun {z} h => by
      rw [sizeLine_eq]
      omega
    refine ⟨fun m σ H' => ∃ n : Nat, σ = [some (.str a), some (.str b), some (.str (SB.T (a.cps.toList.take n)))] ∧ H' = H ∧ n ≤ a.length ∧ n ≤ b.length ∧ m + n = a.length ∧ comm a.cps.toList b.cps.toList = a.cps.toList.take n ++ comm (a.cps.toList.drop n) (b.cps.toList.drop n),
      ⟨a.length, 0, by rw [List.take_zero]; rfl, rfl, by omega, by omega, rfl, by simp⟩, ?_⟩
    rintro m σ H' ⟨n, rfl, rfl, na, nb, mn, es⟩
    have ln : (SB.T (a.cps.toList.take n)).length = n := by
      show (a.cps.toList.take n).length = n
      rw [List.length_take]
      omega
    refine ⟨.str (SB.T (a.cps.toList.take n)), rfl, .str (SB.T (a.cps.toList.take n)), n, rfl, ⟨sz (by omega), by rw [ln]⟩, .str a, rfl, .str a, a.length, rfl, ⟨sz (by omega), rfl⟩, _, _, rfl, rfl, _, rfl, ?_⟩
    have fin : (a.cps.toList.drop n = [] ∨ b.cps.toList.drop n = []) → SB.T (comm a.cps.toList b.cps.toList) = SB.T (a.cps.toList.take n) := fun h => by
      rw [es, comm_end h, List.append_nil]
    refine ite2 (fun e1 => ⟨.str (SB.T (a.cps.toList.take n)), rfl, .str (SB.T (a.cps.toList.take n)), n, rfl, ⟨sz (by omega), by rw [ln]⟩, .str b, rfl, .str b, b.length, rfl, ⟨sz (by omega), rfl⟩, _, _, rfl, rfl, _, rfl, ite2 (fun e2 => ?_) (fun e2 => ?_)⟩) (fun e1 => ?_)
    · have l1 : n < a.length := by
        have := of_decide_eq_true e1
        omega
      have l2 : n < b.length := by
        have := of_decide_eq_true e2
        omega
      obtain ⟨x, hx⟩ : ∃ x, a.cps.toList[n]? = some x := ⟨_, List.getElem?_eq_getElem (by omega)⟩
      obtain ⟨y, hy⟩ : ∃ y, b.cps.toList[n]? = some y := ⟨_, List.getElem?_eq_getElem (by omega)⟩
      have st := comm_step hx hy
      refine ⟨.str a, rfl, .str (SB.T (a.cps.toList.take n)), rfl, .str (SB.T (a.cps.toList.take n)), n, rfl, ⟨sz (by omega), by rw [ln]⟩, a, _, x, rfl, rfl, sz (by omega), atI_nat hx, .str b, rfl, .str (SB.T (a.cps.toList.take n)), rfl, .str (SB.T (a.cps.toList.take n)), n, rfl, ⟨sz (by omega), by rw [ln]⟩, b, _, y, rfl, rfl, sz (by omega), atI_nat hy, rfl, _, rfl, ?_⟩
      by_cases ec : x = y
      · rw [decide_eq_true (congrArg (fun c => V.str (s1 c)) ec)]
        refine ⟨fun σ' H'' => ∃ m', m' < m ∧ _, fun σ' H'' h => h, ?_⟩
        refine ⟨.str (SB.T (a.cps.toList.take n)), rfl, .str a, rfl, .str (SB.T (a.cps.toList.take n)), rfl, .str (SB.T (a.cps.toList.take n)), n, rfl, ⟨sz (by omega), by rw [ln]⟩, a, _, x, rfl, rfl, sz (by omega), atI_nat hx, _, _, rfl, rfl, by rw [ln, sizeLine_eq]; show n + 1 ≤ _; omega, m - 1, by omega, n + 1, ?_, rfl, by omega, by omega, by omega, ?_⟩
        · have e : SB.T (a.cps.toList.take n) ++ s1 x = SB.T (a.cps.toList.take (n + 1)) := by
            refine str_ext ?_
            rw [app_codes, List.take_add_one, hx]
            rfl
          show [_, _, some (V.str (SB.T (a.cps.toList.take n) ++ s1 x))] = _
          rw [e]
        · rw [es, st, if_pos ec, List.take_add_one, hx, List.append_assoc]
          rfl
      · rw [decide_eq_false fun q => ec (s1_inj (V.str.inj q))]
        refine ⟨.str (SB.T (a.cps.toList.take n)), rfl, ?_⟩
        have e : SB.T (comm a.cps.toList b.cps.toList) = SB.T (a.cps.toList.take n) := by
          rw [es, st, if_neg ec, List.append_nil]
        rw [← e]
        exact q
    · have l2 : ¬ n < b.length := fun z => e2 (decide_eq_true (by omega))
      refine ⟨.str (SB.T (a.cps.toList.take n)), rfl, ?_⟩
      rw [← fin (.inr (List.drop_eq_nil_of_le (by omega)))]
      exact q
    · have l1 : ¬ n < a.length := fun z => e1 (decide_eq_true (by omega))
      refine ⟨.str (SB.T (a.cps.toList.take n)), rfl, ?_⟩
      rw [← fin (.inl (List.drop_eq_nil_of_le (by omega)))]
      exact q
end
end K03
-- K03H1
namespace K03
open PySem PySem.Spec PyProof.Rows L2 SB
local macro_rules | `(tactic| trivial) => `(tactic| first | assumption | (with_reducible rfl) | rfl | (apply Exists.intro) | (apply And.intro) | (exact Nat.le_of_ble_eq_true rfl) | (rw [sizeLine_eq]; omega) | omega)
section
variable {P : Program} {w : World} {K : PySem.W.Frag} {mg : Str → Option Value} {base : Heap}
def spLen (CW : Addr) : Sp := fun vs H Q _ => ∃ a z, vs = [.ref a] ∧ WordAt CW H a z ∧ z.length ≤ 100000 ∧ Q (.int (z.length : Nat)) H
theorem ok_Word_len {f CW : Addr} {fd : FuncData} {k : Nat} (F : Fun K "__len__" "Word.__len__" s_Word_len f fd) (cl : Cls K CW) (na : NoAttr K CW "letters") (ml : mg "len" = none) :
    FnOk P w K mg base CX0 (k + 1) f fd ["self"] (spLen CW) := by
  refine F.ok sc_Word_len (fun vs H Q E h => ?_) (fun cdv A outer s H vs Q E hr h => ?_)
  · obtain ⟨a, z, rfl, _⟩ := h
    rfl
  · obtain ⟨a, z, rfl, ⟨dx, ha⟩, hl, q⟩ := h
    refine ⟨_, pss_one (ps_ret (pe_callB call_len (by rfl) ml PySem.boot_len (pa_cons (pe_fld (pv 0) rfl) pa_nil))), ?_⟩
    exact ⟨.ref a, rfl, a, CW, dx, _, .str z, rfl, ha, cl, na, rfl, .str z, z.length, rfl, ⟨by rw [sizeLine_eq]; omega, rfl⟩, q⟩
theorem ok_Word_iter {f CW : Addr} {fd : FuncData} {k : Nat} (F : Fun K "__iter__" "Word.__iter__" s_Word_iter f fd) (cl : Cls K CW) (na : NoAttr K CW "letters") (mi : mg "iter" = none)
    (wi : PySem.W.findIn K (.ref CW) "__iter__" = some (some (.ref f))) (wif : PySem.W.isFn K (.ref f) = true) (bI : Binds K fd ["self"] []) : IterOk P w K mg base CW f "letters" (k + 1) := by
  refine ⟨wi, wif, fun A outer s H a dx z hr e0 ha => ?_⟩
  have KX : K.In s.heap := e0.mod.kin.keeps fun b o e => (e0.bs b o e).1
  have hb := bI s [.ref a] KX rfl
  obtain ⟨oc, od, kV, doc, pm, an, cdv, ct, osl, rfl, lk, hcd⟩ := F.ex
  refine LamX.run_ofS (N := ["self"]) (ps := ["self"]) (us := [.ref a]) (vs := [.ref a]) lk hcd sc_Word_iter hr e0 hb (.cons rfl .nil) rfl fun hr' => ?_
  have hbn : PSs (cxOf CX0 P w K mg base ["self"] "Word.__iter__" (defScope s_Word_iter) f cdv A outer s H E0).nox (defBody s_Word_iter) _ := pss_one (ps_ret (pe_callB call_iterS (by rfl) mi (by decide +kernel) (pa_cons (pe_fld (pv 0) rfl) pa_nil)))
  refine ⟨_, hbn.nox, ?_⟩
  exact ⟨.ref a, rfl, a, CW, dx, _, .str z, rfl, ha, cl, na, rfl, z, rfl, fun it hn hs => ⟨it, rfl, hn, hs, rfl⟩⟩
/-- an int, or a slice object -/
def IntOrSl (H : Hp) (y : V) (b : Bool) : Prop := (b = true ∧ ∃ i : Int, y = .int i) ∨ (b = false ∧ ∃ (p : Addr) (lo hi st : Option Int), y = .ref p ∧ H p = some (slO p lo hi st))
def spIsInt : Sp := fun vs H Q _ => ∃ (y : V) (b : Bool), vs = [y] ∧ IntOrSl H y b ∧ Q (.bl b) H
theorem ok_is_integer {f : Addr} {fd : FuncData} {k : Nat} (F : Fun K "is_integer" "is_integer" s_is_integer f fd) (mi : mg "isinstance" = none) (mt : mg "int" = none) (mb : mg "bool" = none) :
    FnOk P w K mg base CX0 (k + 1) f fd ["value"] spIsInt := by
  refine F.ok sc_is_integer (fun vs H Q E h => ?_) (fun cdv A outer s H vs Q E hr h => ?_)
  · obtain ⟨y, b, rfl, _⟩ := h
    rfl
  · obtain ⟨y, b, rfl, hy, q⟩ := h
    refine ⟨_, pss_one (ps_ret (pe_and (pe_callB call_isiSl (by rfl) mi boot_isinstance (pa_cons (pv 0) (pa_cons (pe_bltn (v := .ty "int") (by rfl) mt PyProof.Rows.boot_int rfl) pa_nil)))
      (pe_one (pe_not (pe_callB call_isiSl (by rfl) mi boot_isinstance (pa_cons (pv 0) (pa_cons (pe_bltn (v := .ty "bool") (by rfl) mb (by decide +kernel) rfl) pa_nil))))))), ?_⟩
    rcases hy with ⟨rfl, i, rfl⟩ | ⟨rfl, p, lo, hi, st, rfl, hp⟩
    · refine ⟨.int i, rfl, .inr ⟨.int i, .ty "int", .type "int", .type "int", true, rfl, .ty _, .base (.int i), kit_ty (by decide +kernel), true, rfl, iteT ?_⟩⟩
      exact ⟨.int i, rfl, .inr ⟨.int i, .ty "bool", .type "int", .type "bool", false, rfl, .ty _, .base (.int i), kit_ty (by decide +kernel), false, rfl, q⟩⟩
    · exact ⟨.ref p, rfl, .inl ⟨p, .ty "int", .type "int", false, lo, hi, st, rfl, hp, .ty _, kit_ty (by decide +kernel), false, rfl, iteF q⟩⟩
def spWithin : Sp := fun vs H Q _ => ∃ (y : V) (l m : Int), vs = [y, .int l, .int m] ∧ ((∃ i : Int, y = .int i ∧ Q (.bl (decide (l ≤ i) && decide (i ≤ m))) H) ∨ (∃ (p : Addr) (lo hi st : Option Int), y = .ref p ∧ H p = some (slO p lo hi st) ∧ Q (.bl false) H))
theorem ok_is_within {f fI : Addr} {fd fdI : FuncData} {k : Nat} (F : Fun K "is_within" "is_within" s_is_within f fd) (GI : FnOk P w K mg base CX0 (k + 1) fI fdI ["value"] spIsInt) (gI : mg "is_integer" = some (.ref fI)) (kI : PySem.W.keepIn K (.ref fI) = true) (bI : Binds K fdI ["value"] []) :
    FnOk P w K mg base CX0 (k + 2) f fd ["value", "least", "most"] spWithin := by
  refine F.ok sc_is_within (fun vs H Q E h => ?_) (fun cdv A outer s H vs Q E hr h => ?_)
  · obtain ⟨y, l, m, rfl, _⟩ := h
    rfl
  · obtain ⟨y, l, m, rfl, hy⟩ := h
    refine ⟨_, pss_one (ps_ret (pe_and (pe_call GI (hr.mono (by omega)) (by rfl) gI kI bI .nil pass0 (pa_cons (pv 0) pa_nil)) (pe_one (pe_chain op_le op_le (pv 1) (pv 0) (pv 2))))), ?_⟩
    rcases hy with ⟨i, rfl, q⟩ | ⟨p, lo, hi, st, rfl, hp, q⟩
    · refine ⟨.int i, rfl, .int i, true, rfl, .inl ⟨rfl, i, rfl⟩, true, rfl, iteT ?_⟩
      refine ⟨.int l, rfl, .int i, rfl, l, i, rfl, rfl, _, rfl, ite2 (fun e => ⟨.int m, rfl, i, m, rfl, rfl, ?_⟩) (fun e => ?_)⟩
      · rw [e, Bool.true_and] at q
        exact q
      · rw [Bool.eq_false_iff.mpr e, Bool.false_and] at q
        exact q
    · exact ⟨.ref p, rfl, .ref p, false, rfl, .inr ⟨rfl, p, lo, hi, st, rfl, hp⟩, false, rfl, iteF q⟩
end
end K03
-- K03H2
namespace K03
open PySem PySem.Spec PyProof.Rows L2 SB
local macro_rules | `(tactic| trivial) => `(tactic| first | assumption | (with_reducible rfl) | rfl | (apply Exists.intro) | (apply And.intro) | (exact Nat.le_of_ble_eq_true rfl) | (rw [sizeLine_eq]; omega) | omega)
section
variable {P : Program} {w : World} {K : PySem.W.Frag} {mg : Str → Option Value} {base : Heap}
theorem ok_BadNumber_init {f : Addr} {fd : FuncData} {k : Nat} (F : Fun K "__init__" "BadNumber.__init__" s_BadNumber_init f fd) : FnOk P w K mg base CX0 (k + 1) f fd ["self", "part"] (spErr1 K "part") := by
  refine F.ok sc_BadNumber_init (fun vs H Q E h => init1_sp h) (fun cdv A outer s H vs Q E hr h => ?_)
  exact ⟨_, pss_one (ps_ost (pv 0) (pv 1)), init1_read rfl h⟩
def spItem (CW CB1 CB2 : Addr) : Sp := fun vs H Q E => ∃ (a : Addr) (z : Str) (y : V), vs = [.ref a, y] ∧ WordAt CW H a z ∧ z.length ≤ 1000 ∧
  ((∃ (i : Nat) (c : Nat), y = .int i ∧ z.cps.toList[i]? = some c ∧ Q (.str (s1 c)) H) ∨
   (∃ i : Int, y = .int i ∧ (i < 0 ∨ (z.length : Nat) ≤ i) ∧ ∀ d, H d = none → E (.ref CB1) (some d) (upd H d (.xd [("part", .str "at")]))) ∨
   (∃ (p : Addr) (lo hi st : Option Int), y = .ref p ∧ H p = some (slO p lo hi st) ∧ st ≠ some 0 ∧ st ≠ some 1 ∧ (slS z lo hi st).length ≤ 1000 ∧
     (∀ i, fault (slS z lo hi st).cps.toList = some i → ∀ H' d, Same H H' → H' d = none → E (.ref CB2) (some d) (upd H' d (.xd [("at", .int (i : Nat))]))) ∧
     (fault (slS z lo hi st).cps.toList = none → ∀ c H', H c = none → Same H H' → WordAt CW H' c (slS z lo hi st) → Q (.ref c) H')))
theorem ok_Word_getitem {f CW CB1 CB2 CM fB1 fW' : Addr} {fd fdB1 fdW' : FuncData} {k : Nat} (F : Fun K "__getitem__" "Word.__getitem__" s_Word_getitem f fd) (MO : MakeOk P w K mg base CW CB2 CM k) (NK : NameK K) (E1 : Err1 K mg "BadNumber" "part" CB1 fB1) (FB : Fun K "__init__" "BadNumber.__init__" s_BadNumber_init fB1 fdB1) (bB : Binds K fdB1 ["self", "part"] [])
    (GI : FnOk P w K mg base CX0 (k + 2) fW' fdW' ["value", "least", "most"] spWithin) (gI : mg "is_within" = some (.ref fW')) (kI : PySem.W.keepIn K (.ref fW') = true) (bI : Binds K fdW' ["value", "least", "most"] []) (ml : mg "len" = none) :
    FnOk P w K mg base (L2.CX P w) (k + 5) f fd ["self", "at"] (spItem CW CB1 CB2) := by
  obtain ⟨fW, fdW, tE, M, GW, bW, bW0, rE⟩ := MO.word
  have gW := MO.gW
  have cl := MO.cl
  have na := MO.na
  refine F.okX sc_Word_getitem (fun vs H Q E h => ?_) (fun cdv A outer s H vs Q E hr h => ?_)
  · obtain ⟨a, z, y, rfl, _⟩ := h
    rfl
  · obtain ⟨a, z, y, rfl, ⟨dx, ha⟩, lz, h⟩ := h
    have nd := sc_Word_getitem.nd
    refine ⟨_, pss_cons (ps_if (pt_val (pe_call GI (hr.mono (by omega)) (by rfl) gI kI bI .nil pass0 (pa_cons (pv 1) (pa_cons pe_int (pa_cons (pe_op op_sub (pe_callB call_len (by rfl) ml PySem.boot_len (pa_cons (pe_fld (pv 0) rfl) pa_nil)) pe_int) pa_nil)))))
        (pss_one (ps_ret (pe_ix ix_str (pe_fld (pv 0) rfl) (pv 1) (fun _ _ => rfl)))) pss_nil)
      (pss_cons (ps_if (pt_cmpR op_eq (pe_clsName NK (pv 1) rfl rfl) pe_str (nomark _))
        (pss_one (ps_ret (pe_make M GW (hr.mono (by omega)) (by rfl) gW bW .nil (E := E) (passes_call (takes_of rfl rfl rfl rfl) fun _ _ _ _ q => q) (pa_cons (pe_ix ix_slS (pe_fld (pv 0) rfl) (pv 1) (fun _ _ => rfl)) pa_nil)))) pss_nil)
      (pss_one (ps_raise1 E1 (ok_BadNumber_init (k := k) FB) bB (hr.mono (by omega)) rfl (takes_of rfl rfl rfl rfl) pass0 pe_str))), ?_⟩
    have lz' : z.length ≤ sizeLine := by
      rw [sizeLine_eq]
      omega
    have hl : z.cps.toList.length = z.length := rfl
    rcases h with ⟨i, c, rfl, hc, q⟩ | ⟨i, rfl, hi, bad⟩ | ⟨p, lo, hi, st, rfl, hp, st0, st1, lS, bad, good⟩
    · obtain ⟨hi, _⟩ := List.getElem?_eq_some_iff.mp hc
      refine ⟨.int i, rfl, .ref a, rfl, a, CW, dx, _, .str z, rfl, ha, cl, na, rfl, .str z, z.length, rfl, ⟨lz', rfl⟩, _, _, rfl, rfl, .int i, 0, ((z.length : Nat) : Int) - 1, rfl, .inl ⟨i, rfl, _, rfl, ?_⟩⟩
      rw [decide_eq_true (by omega), decide_eq_true (by omega)]
      refine iteT ⟨.ref a, rfl, a, CW, dx, _, .str z, rfl, ha, cl, na, rfl, .int i, rfl, z, i, c, rfl, rfl, lz', atI_nat hc, q⟩
    · refine ⟨.int i, rfl, .ref a, rfl, a, CW, dx, _, .str z, rfl, ha, cl, na, rfl, .str z, z.length, rfl, ⟨lz', rfl⟩, _, _, rfl, rfl, .int i, 0, ((z.length : Nat) : Int) - 1, rfl, .inl ⟨i, rfl, _, rfl, ?_⟩⟩
      have e : (decide ((0 : Int) ≤ i) && decide (i ≤ ((z.length : Nat) : Int) - 1)) = false := by
        rcases hi with hi | hi
        · rw [decide_eq_false (by omega), Bool.false_and]
        · rw [decide_eq_false (p := i ≤ _) (by omega), Bool.and_false]
      rw [e]
      refine iteF ⟨.int i, rfl, .inr ⟨i, rfl, rfl, _, rfl, ?_⟩⟩
      rw [decide_eq_false (by intro z; exact absurd (V.str.inj z) (by decide +kernel))]
      exact iteF (raised1 E1 fun d hd => bad d hd)
    · refine ⟨.ref p, rfl, .ref a, rfl, a, CW, dx, _, .str z, rfl, ha, cl, na, rfl, .str z, z.length, rfl, ⟨lz', rfl⟩, _, _, rfl, rfl, .ref p, 0, ((z.length : Nat) : Int) - 1, rfl, .inr ⟨p, lo, hi, st, rfl, hp, _, rfl, iteF ?_⟩⟩
      refine ⟨.ref p, rfl, .inl ⟨p, lo, hi, st, rfl, hp, rfl, _, rfl, ?_⟩⟩
      rw [decide_eq_true rfl]
      refine iteT ⟨.ref a, rfl, a, CW, dx, _, .str z, rfl, ha, cl, na, rfl, .ref p, rfl, z, p, lo, hi, st, rfl, rfl, hp, st0, st1, by rw [sizeLine_eq]; omega, ?_⟩
      refine fun x dx2 nx nd' ne => ⟨x, dx2, .str (slS z lo hi st), rfl, upd_same, .inl ⟨_, rfl⟩, fun z' hz' => ?_, fun nz => (nz _ rfl).elim⟩
      cases hz'
      refine ⟨by omega, (fun j hj H2 d s2 hd => bad j hj H2 d (same_make nx nd' ne s2) hd), fun _ l4 => absurd l4 (by omega), fun ef l4 H2 s2 => ⟨rfl, ?_⟩⟩
      obtain ⟨s3, w3⟩ := made_word (z := slS z lo hi st) nx nd' s2
      exact good ef x _ nx s3 w3
end
end K03
-- K03H3
namespace K03
open PySem PySem.Spec PyProof.Rows L2 SB
local macro_rules | `(tactic| trivial) => `(tactic| first | assumption | (with_reducible rfl) | rfl | (apply Exists.intro) | (apply And.intro) | (exact Nat.le_of_ble_eq_true rfl) | (rw [sizeLine_eq]; omega) | omega)
theorem xd_no (f g : Str) (v : V) (h : f ≠ g) : ([(g, v)] : List (Str × V)).lookup f = none := by
  have e : (f == g) = false := by simpa using h
  simp [List.lookup, e]
theorem T_self (z : Str) : SB.T z.cps.toList = z := str_ext rfl
theorem none_back {H H' : Hp} {x : Addr} (s : Same H H') (n : H' x = none) : H x = none := by
  cases e : H x with
  | none => rfl
  | some o =>
    rw [s _ _ e] at n
    cases n
section
variable {K : PySem.W.Frag} {CW CB2 CM : Addr}
theorem make_q {H : Hp} {Qx : VK} {E : XK} {z : Str} {x dx : Addr} (nx : H x = none) (nd' : H dx = none) (ne : dx ≠ x) (fz : Fine z.cps.toList) (lz : z.length ≤ 4000) (q : ∀ H', Same H H' → WordAt CW H' x z → Qx .non H') :
    spWordI K CW CB2 CM (.ref x :: ([.str z] ++ [])) (upd (upd H dx (.own x)) x (.ins CW dx [])) Qx E := by
  have ef := fine_word fz
  refine ⟨x, dx, .str z, rfl, upd_same, .inl ⟨_, rfl⟩, fun z' hz' => ?_, fun nz => (nz _ rfl).elim⟩
  cases hz'
  refine ⟨by omega, (fun j hj => by rw [ef] at hj; cases hj), (fun _ l4 => absurd l4 (by omega)), fun _ _ H2 s2 => ?_⟩
  obtain ⟨s3, w3⟩ := made_word (z := z) nx nd' s2
  exact q _ s3 w3
theorem WordAt.same {H H' : Hp} {a : Addr} {z : Str} (w : WordAt CW H a z) (s : Same H H') : WordAt CW H' a z := by
  obtain ⟨dx, h⟩ := w
  exact ⟨dx, s _ _ h⟩
end
section
variable {P : Program} {w : World} {K : PySem.W.Frag} {mg : Str → Option Value} {base : Heap}
theorem comm_take {a b : List Nat} {n : Nat} (h : comm a b = a.take n ++ comm (a.drop n) (b.drop n)) (e : min a.length b.length ≤ n) : comm a b = a.take n := by
  rw [h, comm_end, List.append_nil]
  by_cases q : a.length ≤ n
  · exact .inl (List.drop_eq_nil_of_le q)
  · exact .inr (List.drop_eq_nil_of_le (by omega))
def spMeet (K : PySem.W.Frag) (CW CB2 : Addr) : Sp := fun vs H Q E => ∃ (a : Addr) (z : Str) (y : V), vs = [.ref a, y] ∧ WordAt CW H a z ∧ Fine z.cps.toList ∧ z.length ≤ 1000 ∧
  ((∃ (b : Addr) (v : Str), y = .ref b ∧ WordAt CW H b v ∧ ∀ c H', H c = none → Same H H' → WordAt CW H' c (SB.T (comm z.cps.toList v.cps.toList)) → Q (.ref c) H') ∨
   (∃ t, TyX K H y t ∧ PySem.W.kitOne K t (.ref CW) = some false ∧ ∀ d, H d = none → E (.ref CB2) (some d) (upd H d (.xd [("at", .int 0)]))))
theorem ok_Word_meet {f CW CB2 CM fB : Addr} {fd fdB : FuncData} {k : Nat} (F : Fun K "meet" "Word.meet" s_Word_meet f fd) (MO : MakeOk P w K mg base CW CB2 CM k) (E2 : Err1 K mg "BadWord" "at" CB2 fB) (FB : Fun K "__init__" "BadWord.__init__" s_BadWord_init fB fdB) (bB : Binds K fdB ["self", "at"] []) (mi : mg "isinstance" = none) (mz : mg "zip" = none) :
    FnOk P w K mg base (L2.CX P w) (k + 5) f fd ["self", "other"] (spMeet K CW CB2) := by
  obtain ⟨fW, fdW, tE, M, GW, bW, bW0, rE⟩ := MO.word
  have gW := MO.gW
  have cl := MO.cl
  have na := MO.na
  refine F.okX sc_Word_meet (fun vs H Q E h => ?_) (fun cdv A outer s H vs Q E hr h => ?_)
  · obtain ⟨a, z, y, rfl, _⟩ := h
    rfl
  · obtain ⟨a, z, y, rfl, ⟨dx, ha⟩, fz, lz, h⟩ := h
    have nd := sc_Word_meet.nd
    refine ⟨_, pss_cons (ps_if (pt_not (pt_val (pe_callB call_isi (by rfl) mi boot_isinstance (pa_cons (pv 1) (pa_cons (pe_glob (v := .ref CW) (by rfl) gW rfl) pa_nil)))))
        (pss_one (ps_raise1 E2 (ok_BadWord_init (k := k) FB) bB (hr.mono (by omega)) rfl (takes_of rfl rfl rfl rfl) pass0 pe_int)) pss_nil)
      (pss_cons (ps_set (i := 2) nd rfl (.inl rfl) pe_int)
      (pss_cons (ps_for (passes_of rfl) rfl (pi_zipS (by rfl) mz (pa_cons (pe_fld (pv 0) rfl) (pa_cons (pe_fld (pv 1) rfl) pa_nil)))
          (pg_tup rfl (pgs_cons (pg_name (i := 3) nd rfl (.inl rfl)) (pgs_cons (pg_name (i := 4) nd rfl (.inl rfl)) pgs_nil)))
        (pss_cons (ps_if (pt_cmpR op_ne (pv 3) (pv 4) (nomark _)) (pss_one ps_break) pss_nil)
        (pss_one (ps_aug (i := 2) nd rfl (.inl rfl) pe_int ip_add))))
      (pss_one (ps_ret (pe_make M GW (hr.mono (by omega)) (by rfl) gW bW .nil (E := E) (passes_call (takes_of rfl rfl rfl rfl) fun _ _ _ _ q => q) (pa_cons (pe_slice sl_str (pe_fld (pv 0) rfl) po_none (po_some (pv 2))) pa_nil)))))), ?_⟩
    rcases h with ⟨b, v, rfl, wb, q⟩ | ⟨t, ty, ek, bad⟩
    · refine ⟨.ref b, rfl, .ref b, .ref CW, .ref CW, .ref CW, true, rfl, .own CW, isC_ty MO.cl MO.ic wb, kit_self, true, rfl, iteF ?_⟩
      obtain ⟨dy, hb⟩ := wb
      have hl : z.cps.toList.length = z.length := rfl
      have hv : v.cps.toList.length = v.length := rfl
      have done : ∀ (n : Nat) (H1 : Hp), Same H H1 → n ≤ z.length → comm z.cps.toList v.cps.toList = z.cps.toList.take n → ∃ m : Nat, m = n ∧ WordAt CW H1 a z ∧ Fine (cutS z none (some (n : Int))).cps.toList ∧ (cutS z none (some (n : Int))).length ≤ 4000 ∧ SB.T (comm z.cps.toList v.cps.toList) = cutS z none (some (n : Int)) := fun n H1 s1 hn e => by
        have ec := cut_take z n
        refine ⟨n, rfl, ⟨dx, s1 _ _ ha⟩, ?_, ?_, ?_⟩
        · rw [ec]
          exact fine_take fz n
        · show (cutS z none (some (n : Int))).cps.toList.length ≤ 4000
          rw [ec, List.length_take]
          omega
        · rw [e, ← ec]
          exact T_self _
      refine ⟨.ref a, rfl, a, CW, dx, _, .str z, rfl, ha, cl, na, rfl, .ref b, rfl, b, CW, dy, _, .str v, rfl, hb, cl, na, rfl, z, v, rfl, for_it walk_zipS
        (fun i σ H1 => ∃ y3 y4, σ = [some (.ref a), some (.ref b), some (.int i), y3, y4] ∧ Same H H1 ∧ comm z.cps.toList v.cps.toList = z.cps.toList.take i ++ comm (z.cps.toList.drop i) (v.cps.toList.drop i))
        ⟨none, none, rfl, Same.refl H, by simp⟩ (fun _ _ _ _ _ => .intro) (fun i x σ H1 H2 hi hP hY => ?_) (fun σ H1 hP => ?_)⟩
      · obtain ⟨y3, y4, rfl, sm, ec⟩ := hP
        obtain ⟨T, c, d, rfl, nT, hc, hd, rfl⟩ := hY
        have hc' : z.cps.toList[i]? = some c := by rw [Array.getElem?_toList]; exact hc
        have hd' : v.cps.toList[i]? = some d := by rw [Array.getElem?_toList]; exact hd
        have st := comm_step hc' hd'
        have sm2 : Same H (upd H1 T (.tup [.str ⟨#[c]⟩, .str ⟨#[d]⟩])) := sm.trans (same_new nT)
        have hiz : i < z.length := by
          have : i < min z.length v.length := hi
          omega
        refine ⟨T, _, rfl, .inl (.inl upd_same), rfl, _, _, rfl, _, _, rfl, rfl, _, rfl, _, rfl, rfl, _, rfl, ?_⟩
        by_cases e : c = d
        · subst e
          rw [decide_eq_true rfl]
          refine iteF ?_
          rw [if_pos rfl] at st
          refine ⟨_, rfl, _, _, rfl, rfl, _, _, rfl, sm2, ?_⟩
          rw [ec, st, List.take_add_one, hc', List.append_assoc]
          rfl
        · rw [decide_eq_false fun q => e (s1_inj (V.str.inj q))]
          refine iteT ?_
          rw [if_neg e] at st
          obtain ⟨m, rfl, ⟨d1, h1⟩, f1, l1, e1⟩ := done i _ sm2 (by omega) (by rw [ec, st, List.append_nil])
          refine ⟨.ref a, rfl, a, CW, d1, _, .str z, rfl, h1, cl, na, rfl, .int m, rfl, m, rfl, z, rfl, by rw [sizeLine_eq]; omega, fun x dx2 n2 d2 e2 => make_q n2 d2 e2 f1 l1 fun H3 s3 w3 => ⟨rfl, ?_⟩⟩
          rw [← e1] at w3
          exact q x _ (none_back sm2 n2) (sm2.trans s3) w3
      · obtain ⟨y3, y4, rfl, sm, ec⟩ := hP
        have hm : min z.cps.size v.cps.size ≤ z.length := Nat.min_le_left _ _
        obtain ⟨m, em, ⟨d1, h1⟩, f1, l1, e1⟩ := done (min z.cps.size v.cps.size) _ sm hm (comm_take ec (Nat.le_refl _))
        refine ⟨.ref a, rfl, a, CW, d1, _, .str z, rfl, h1, cl, na, rfl, _, rfl, _, rfl, z, rfl, by rw [sizeLine_eq]; omega, fun x dx2 n2 d2 e2 => make_q n2 d2 e2 f1 l1 fun H3 s3 w3 => ⟨rfl, ?_⟩⟩
        rw [← e1] at w3
        exact q x _ (none_back sm n2) (sm.trans s3) w3
    · refine ⟨y, rfl, y, .ref CW, t, .ref CW, false, rfl, .own CW, ty, ek, false, rfl, iteT ?_⟩
      exact raised1 E2 fun d hd => bad d hd
end
end K03
-- K03H4
namespace K03
open PySem PySem.Spec PyProof.Rows L2 SB
local macro_rules | `(tactic| trivial) => `(tactic| first | assumption | (with_reducible rfl) | rfl | (apply Exists.intro) | (apply And.intro) | (exact Nat.le_of_ble_eq_true rfl) | (rw [sizeLine_eq]; omega) | omega)
section
variable {P : Program} {w : World} {K : PySem.W.Frag} {mg : Str → Option Value} {base : Heap}
def spOther : Sp := fun vs H Q _ => ∃ (p l : Addr) (N : Int) (z : Str), vs = [.ref p, .str z] ∧ PenQ l N H p ∧ N ≤ 50000 ∧ Fine z.cps.toList ∧ z.length ≤ 100 ∧
  ∀ t H', Fine t.cps.toList → t.length ≤ z.length + 8 → Kept p H H' → PenQ l (N + 20) H' p → Q (.str t) H'
/-- a letter that may stand behind n letters of a row -/
def mayN (l : List Nat) (n : Nat) (c : Nat) : Bool := decide (n = 0) || (match l[n - 1]? with | none => true | some d => decide (d ≠ up c))
theorem fine_may {l : List Nat} {n : Nat} {c : Nat} (fl : Fine l) (hn : n ≤ l.length) (hc : isL c = true) : Fine (l.take n ++ [c].filter (mayN l n)) := by
  by_cases m : mayN l n c = true
  · rw [List.filter_cons_of_pos m, List.filter_nil]
    refine fine_snoc (fine_take fl n) hc fun e => ?_
    have e2 : l.take n ≠ [] := fun q => by
      rw [q] at e
      cases e
    have n0 : n ≠ 0 := fun q => e2 (by rw [q]; rfl)
    rw [List.getLast?_eq_getElem?, List.length_take, Nat.min_eq_left hn, List.getElem?_take_of_lt (by omega)] at e
    unfold mayN at m
    rw [e, decide_eq_false n0, Bool.false_or] at m
    exact (of_decide_eq_true m) rfl
  · rw [List.filter_cons_of_neg m, List.filter_nil, List.append_nil]
    exact fine_take fl n
theorem ok_law_other {f f__law_draw f__law_pick f__law_undo f__law_row : Addr} {fd d__law_draw d__law_pick d__law_undo d__law_row : FuncData} {k : Nat} (F : Fun K "_law_other" "_law_other" s__law_other f fd)
    (G__law_draw : FnOk P w K mg base CX0 (k + 2) f__law_draw d__law_draw ["pen", "many"] spDraw) (g__law_draw : mg "_law_draw" = some (.ref f__law_draw)) (k__law_draw : PySem.W.keepIn K (.ref f__law_draw) = true) (b__law_draw : Binds K d__law_draw ["pen", "many"] [])
    (G__law_pick : FnOk P w K mg base CX0 (k + 2) f__law_pick d__law_pick ["pen", "some"] (spPick K)) (g__law_pick : mg "_law_pick" = some (.ref f__law_pick)) (k__law_pick : PySem.W.keepIn K (.ref f__law_pick) = true) (b__law_pick : Binds K d__law_pick ["pen", "some"] [])
    (G__law_undo : FnOk P w K mg base CX0 (k + 2) f__law_undo d__law_undo ["letter"] spUndo) (g__law_undo : mg "_law_undo" = some (.ref f__law_undo)) (k__law_undo : PySem.W.keepIn K (.ref f__law_undo) = true) (b__law_undo : Binds K d__law_undo ["letter"] [])
    (G__law_row : FnOk P w K mg base CX0 (k + 3) f__law_row d__law_row ["pen", "most"] spRow) (g__law_row : mg "_law_row" = some (.ref f__law_row)) (k__law_row : PySem.W.keepIn K (.ref f__law_row) = true) (b__law_row : Binds K d__law_row ["pen", "most"] [])
    (m_len : mg "len" = none) : FnOk P w K mg base CX0 (k + 4) f fd ["pen", "row"] spOther := by
  refine F.ok sc__law_other (fun vs H Q E h => ?_) (fun cdv A outer s H vs Q E hr h => ?_)
  · obtain ⟨p, l, N, z, rfl, _⟩ := h
    rfl
  · obtain ⟨p, l, N, z, rfl, hP, hN, fz, lz, q⟩ := h
    have nd := sc__law_other.nd
    refine ⟨_, (pss_cons (ps_asg (pe_tup (pa_cons (pe_call G__law_draw (hr.mono (by omega)) (by rfl) g__law_draw k__law_draw b__law_draw .nil pass0 (pa_cons (pv 0) (pa_cons pe_int pa_nil))) (pa_cons (pe_call G__law_draw (hr.mono (by omega)) (by rfl) g__law_draw k__law_draw b__law_draw .nil pass0 (pa_cons (pv 0) (pa_cons (pe_op op_add (pe_callB call_len (by rfl) m_len PySem.boot_len (pa_cons (pv 1) pa_nil)) pe_int) pa_nil))) pa_nil))) (pg_tup rfl (pgs_cons (pg_name (i := 2) nd rfl (.inl rfl)) (pgs_cons (pg_name (i := 3) nd rfl (.inr rfl)) pgs_nil))))
      (pss_cons (ps_if (pt_cmpR op_eq (pv 2) pe_int (nomark _)) (pss_one (ps_ret (pe_slice sl_str (pv 1) po_none (po_some (pv 3))))) pss_nil)
      (pss_cons (ps_if (pt_cmpR op_eq (pv 2) pe_int (nomark _)) (pss_one (ps_ret (pe_slice sl_str (pv 1) (po_some (pv 3)) po_none))) pss_nil)
      (pss_cons (ps_if (pt_cmpR op_eq (pv 2) pe_int (nomark _)) (pss_one (ps_ret (pe_op op_add_str (pe_slice sl_str (pv 1) po_none (po_some (pv 3))) (pe_join pe_str (pe_lc (own := [("letter", 4)]) (g := gName 4) (by rfl) nd (pi_str (pe_call G__law_pick (hr.mono (by omega)) (by rfl) g__law_pick k__law_pick b__law_pick .nil pass0 (pa_cons (pv 0) (pa_cons (pe_lst (pa_cons pe_str (pa_cons pe_str (pa_cons pe_str pa_nil)))) pa_nil)))) (blkOk_by (own := [("letter", 4)]) (N := ["pen", "row", "way", "cut", "letter"]) (sc := defScope s__law_other) (by decide +kernel)) (fun _ _ _ _ _ => pg_name (i := 4) nd rfl (Or.inl rfl)) (fun _ _ _ _ _ => (pts_one (PW.pt (pw_or (pt_cmpR op_eq (pv 3) pe_int (nomark _)) (pw_or1 (pt_cmpR op_ne (pe_ix ix_str (pv 1) (pe_op op_sub (pv 3) pe_int) (fun _ _ => rfl)) (pe_call G__law_undo (hr.mono (by omega)) (by rfl) g__law_undo k__law_undo b__law_undo .nil pass0 (pa_cons (pv 4) pa_nil)) (nomark _))))))) (fun _ _ _ _ _ => (pv 4))))))) pss_nil)
      (pss_one (ps_ret (pe_ifExp (pt_cmpR op_eq (pv 2) pe_int (nomark _)) (pv 1) (pe_call G__law_row (hr.mono (by omega)) (by rfl) g__law_row k__law_row b__law_row .nil pass0 (pa_cons (pv 0) (pa_cons pe_int pa_nil)))))))))), ?_⟩
    have zs : z.length ≤ sizeLine := by
      rw [sizeLine_eq]
      omega
    have hl : z.cps.toList.length = z.length := rfl
    refine ⟨.ref p, rfl, p, l, N, 5, rfl, hP, by omega, by decide, by decide, fun way H1 w0 w1 k1 p1 => ?_⟩
    refine ⟨.ref p, rfl, .str z, rfl, .str z, z.length, rfl, ⟨zs, rfl⟩, _, 1, rfl, rfl, p, l, _, _, rfl, p1, by omega, by omega, by omega, fun cut H2 c0 c1 k2 p2 => ?_⟩
    obtain ⟨n, en⟩ : ∃ n : Nat, cut = (n : Int) := ⟨cut.toNat, by omega⟩
    subst en
    refine ⟨Nat.le_of_ble_eq_true rfl, fun t ht => ?_⟩
    have p3 := p2.same (same_new (o := .tup [.int way, .int n]) ht)
    have k12 : Kept p H (upd H2 t (.tup [.int way, .int n])) := (k1.trans k2).trans (Kept.of (same_new ht))
    refine ⟨t, _, rfl, .inl (.inl upd_same), rfl, _, _, rfl, _, _, rfl, rfl, ?_⟩
    generalize upd H2 t (.tup [.int way, .int n]) = H3 at *
    have cd := cut_drop z n
    have ct := cut_take z n
    have ld := cutS_length z (some ((n : Nat) : Int)) none
    have lt := cutS_length z none (some ((n : Nat) : Int))
    refine ⟨.int way, rfl, rfl, _, rfl, ite2 (fun e => ?_) (fun e => ?_)⟩
    · refine ⟨.str z, rfl, .int n, rfl, _, rfl, z, rfl, zs, ?_⟩
      exact q _ H3 (by rw [ct]; exact fine_take fz n) (by omega) k12 (p3.mono (by omega))
    refine ⟨.int way, rfl, rfl, _, rfl, ite2 (fun e => ?_) (fun e => ?_)⟩
    · refine ⟨.str z, rfl, .int n, rfl, _, rfl, z, rfl, zs, ?_⟩
      exact q _ H3 (by rw [cd]; exact fine_drop fz n) (by omega) k12 (p3.mono (by omega))
    refine ⟨.int way, rfl, rfl, _, rfl, ite2 (fun e => ?_) (fun e => ?_)⟩
    · refine ⟨.str z, rfl, .int n, rfl, _, rfl, z, rfl, zs, ⟨_, rfl⟩, .ref p, rfl, Nat.le_of_ble_eq_true rfl, fun a ha => ?_⟩
      have s0 := same_new (o := .lst [.str "A", .str "B", .str "d"]) ha
      have pa : a ≠ p := p3.ne_p ha
      refine ⟨p, l, .ref a, _, _, rfl, p3.same s0, by omega, .inl ⟨a, rfl, .inl (.inl upd_same), pa⟩, by decide, by decide, fun x H4 hx k4 p4 => ?_⟩
      obtain ⟨c, hc, rfl⟩ : ∃ c, isL c = true ∧ x = .str (s1 c) := by
        simp only [List.mem_cons, List.not_mem_nil, or_false] at hx
        rcases hx with rfl | rfl | rfl
        · exact ⟨65, by decide, rfl⟩
        · exact ⟨66, by decide, rfl⟩
        · exact ⟨100, by decide, rfl⟩
      have k124 : Kept p H H4 := k12.trans ((Kept.of s0).trans k4)
      refine ⟨s1 c, rfl, fun D hD => lc_it walk_str (fun i' H' => Same H4 H' ∧ H' D = some (.lst (vs1 (([c].take i').filter (mayN z.cps.toList n))))) ⟨same_new hD, upd_same⟩ (fun _ _ _ _ => .intro) (fun i' x Ha Hb hi' hPc hY => ?_) (fun H5 hPc => ?_)⟩
      · obtain ⟨sa, ha'⟩ := hPc
        obtain ⟨rfl, c', hc', rfl⟩ := hY
        have i0 : i' = 0 := by
          have : i' < 1 := hi'
          omega
        subst i0
        obtain rfl : c = c' := by
          have : [c][0]? = some c' := hc'
          simpa using this
        have small : (vs1 (([c].take 0).filter (mayN z.cps.toList n))).length < sizeLine := by
          rw [sizeLine_eq]
          show 0 < _
          omega
        have more : mayN z.cps.toList n c = true → Same H4 (upd Hb D (.lst (vs1 (([c].take 0).filter (mayN z.cps.toList n)) ++ [.str (s1 c)]))) ∧
            (upd Hb D (.lst (vs1 (([c].take 0).filter (mayN z.cps.toList n)) ++ [.str (s1 c)]))) D = some (.lst (vs1 (([c].take (0 + 1)).filter (mayN z.cps.toList n)))) := fun em => by
          refine ⟨fun b u e => ?_, ?_⟩
          · rw [upd_ne (ne_of_none e hD)]
            exact sa b u e
          · rw [upd_same]
            show some (HO.lst (vs1 [] ++ [.str (s1 c)])) = some (HO.lst (vs1 ([c].filter (mayN z.cps.toList n))))
            rw [List.filter_cons_of_pos em]
            rfl
        refine ⟨rfl, .int n, rfl, rfl, _, rfl, ite2 (fun e => ?_) (fun e => ?_)⟩
        · have n0 : n = 0 := by
            have := V.int.inj (of_decide_eq_true e)
            omega
          have em : mayN z.cps.toList n c = true := by
            unfold mayN
            rw [decide_eq_true n0]
            rfl
          refine iteT ?_
          exact ⟨.str (s1 c), rfl, _, ha', small, more em⟩
        · have n0 : n ≠ 0 := fun q => e (decide_eq_true (by rw [q]; rfl))
          obtain ⟨d, hd⟩ : ∃ d, z.cps.toList[n - 1]? = some d := ⟨_, List.getElem?_eq_getElem (by omega)⟩
          have emay : mayN z.cps.toList n c = decide (d ≠ up c) := by
            unfold mayN
            rw [hd, decide_eq_false n0]
            rfl
          have ei : ((n : Nat) : Int) - 1 = ((n - 1 : Nat) : Int) := by omega
          refine ⟨.str z, rfl, .int n, rfl, n, 1, rfl, rfl, z, ((n : Nat) : Int) - 1, d, rfl, rfl, zs, by rw [ei]; exact atI_nat hd, .str (s1 c), rfl, c, rfl, hc, rfl, _, rfl, ?_⟩
          by_cases ec : d = up c
          · have e1 : (!decide (V.str (s1 d) = V.str (s1 (up c)))) = false := by
              rw [ec]
              simp
            rw [e1]
            refine iteF ⟨sa, ?_⟩
            rw [ha']
            show some (HO.lst (vs1 [])) = some (HO.lst (vs1 ([c].filter (mayN z.cps.toList n))))
            rw [List.filter_cons_of_neg (by rw [emay]; simpa using ec)]
            rfl
          · have e1 : (!decide (V.str (s1 d) = V.str (s1 (up c)))) = true := by
              rw [decide_eq_false fun q => ec (s1_inj (V.str.inj q))]
              rfl
            rw [e1]
            refine iteT ?_
            exact ⟨.str (s1 c), rfl, _, ha', small, more (emay.trans (decide_eq_true ec))⟩
      · obtain ⟨sa, ha'⟩ := hPc
        have e1 : ([c].take (s1 c).cps.size) = [c] := rfl
        rw [e1] at ha'
        have ev : vs1 ([c].filter (mayN z.cps.toList n)) = (([c].filter (mayN z.cps.toList n)).map s1).map V.str := by
          unfold vs1
          rw [List.map_map]
          rfl
        rw [ev] at ha'
        have lf := List.length_filter_le (mayN z.cps.toList n) [c]
        have lf' : ([c].filter (mayN z.cps.toList n)).length ≤ 1 := lf
        refine ⟨"", D, _, rfl, rfl, .inl (.inl (.inl ha')), ?_, ?_⟩
        · rw [join_sum]
          show _ + _ * 0 ≤ 16777216
          omega
        · rw [SB.join_one]
          have lT : (SB.T ([c].filter (mayN z.cps.toList n))).length = ([c].filter (mayN z.cps.toList n)).length := rfl
          refine ⟨_, _, rfl, rfl, by rw [sizeLine_eq, lT]; omega, ?_⟩
          refine q _ H5 ?_ (by rw [Str.length_append, lT]; omega) (k124.trans (Kept.of sa)) ((p4.same sa).mono (by omega))
          rw [app_codes, ct]
          exact fine_may fz (by omega) hc
    · refine ⟨.int way, rfl, rfl, _, rfl, ite2 (fun e => ?_) (fun e => ?_)⟩
      · exact ⟨.str z, rfl, q _ H3 fz (by omega) k12 (p3.mono (by omega))⟩
      · refine ⟨.ref p, rfl, p, l, _, 8, rfl, p3, by decide, by decide, by omega, fun t H4 rt k4 p4 => ?_⟩
        have r8 : t.length ≤ 8 := rt.2
        exact q t H4 ((fine_iff _).mp rt.1) (by omega) (k12.trans k4) (p4.mono (by omega))
end
end K03
-- K03G3
namespace K03
open PySem PySem.Spec PyProof.Rows L2 SB
/-- the earlier of two rows of as many letters -/
def lexB : List Nat → List Nat → Bool
  | x :: a, y :: b => if x = y then lexB a b else decide (rk x < rk y)
  | _, _ => false
def lessB (a b : List Nat) : Bool := if a.length = b.length then lexB a b else decide (a.length < b.length)
theorem lex_step {a b : List Nat} {n x y : Nat} (hx : a[n]? = some x) (hy : b[n]? = some y) : lexB (a.drop n) (b.drop n) = if x = y then lexB (a.drop (n + 1)) (b.drop (n + 1)) else decide (rk x < rk y) := by
  obtain ⟨l1, e1⟩ := List.getElem?_eq_some_iff.mp hx
  obtain ⟨l2, e2⟩ := List.getElem?_eq_some_iff.mp hy
  rw [List.drop_eq_getElem_cons l1, List.drop_eq_getElem_cons l2, e1, e2]
  rfl
section
variable {P : Program} {w : World} {K : PySem.W.Frag} {mg : Str → Option Value} {base : Heap}
def spLess : Sp := fun vs H Q _ => ∃ a b : Str, vs = [.str a, .str b] ∧ a.length ≤ 10000 ∧ b.length ≤ 10000 ∧ allL a.cps.toList ∧ allL b.cps.toList ∧ ∀ H', Same H H' → Q (.bl (lessB a.cps.toList b.cps.toList)) H'
theorem ok_law_less {f f__law_places : Addr} {fd d__law_places : FuncData} {k : Nat} (F : Fun K "_law_less" "_law_less" s__law_less f fd)
    (G__law_places : FnOk P w K mg base CX0 (k + 1) f__law_places d__law_places ["row"] spPlaces) (g__law_places : mg "_law_places" = some (.ref f__law_places)) (k__law_places : PySem.W.keepIn K (.ref f__law_places) = true) (b__law_places : Binds K d__law_places ["row"] [])
    (m_len : mg "len" = none) (m_range : mg "range" = none) : FnOk P w K mg base CX0 (k + 2) f fd ["one", "other"] spLess := by
  refine F.ok sc__law_less (fun vs H Q E h => ?_) (fun cdv A outer s H vs Q E hr h => ?_)
  · obtain ⟨a, b, rfl, _⟩ := h
    rfl
  · obtain ⟨a, b, rfl, la, lb, aL, bL, q⟩ := h
    have nd := sc__law_less.nd
    refine ⟨_, (pss_cons (ps_if (pt_cmpR op_ne (pe_callB call_len (by rfl) m_len PySem.boot_len (pa_cons (pv 0) pa_nil)) (pe_callB call_len (by rfl) m_len PySem.boot_len (pa_cons (pv 1) pa_nil)) (nomark _)) (pss_one (ps_ret (pe_cmpR op_lt (pe_callB call_len (by rfl) m_len PySem.boot_len (pa_cons (pv 0) pa_nil)) (pe_callB call_len (by rfl) m_len PySem.boot_len (pa_cons (pv 1) pa_nil)) (nomark _)))) pss_nil)
      (pss_cons (ps_for PassesOwn.never rfl (pi_range1 (by rfl) m_range (pa_cons (pe_callB call_len (by rfl) m_len PySem.boot_len (pa_cons (pv 0) pa_nil)) pa_nil)) (pg_name (i := 2) nd rfl (.inl rfl)) (pss_one (ps_if (pt_cmpR op_ne (pe_ix ix_str (pv 0) (pv 2) (fun _ _ => rfl)) (pe_ix ix_str (pv 1) (pv 2) (fun _ _ => rfl)) (nomark _)) (pss_one (ps_ret (pe_cmpR op_lt (pe_ix ix_list (pe_call G__law_places (hr.mono (by omega)) (by rfl) g__law_places k__law_places b__law_places .nil pass0 (pa_cons (pv 0) pa_nil)) (pv 2) (fun _ _ => rfl)) (pe_ix ix_list (pe_call G__law_places (hr.mono (by omega)) (by rfl) g__law_places k__law_places b__law_places .nil pass0 (pa_cons (pv 1) pa_nil)) (pv 2) (fun _ _ => rfl)) (nomark _)))) pss_nil)))
      (pss_one (ps_ret pe_bl)))), ?_⟩
    have hla : a.cps.toList.length = a.length := rfl
    have hlb : b.cps.toList.length = b.length := rfl
    have sz : ∀ {z : Str}, z.length ≤ 100001 → z.length ≤ sizeLine := fun {z} h => by
      rw [sizeLine_eq]
      omega
    refine ⟨.str a, rfl, .str a, a.length, rfl, ⟨sz (by omega), rfl⟩, .str b, rfl, .str b, b.length, rfl, ⟨sz (by omega), rfl⟩, rfl, _, rfl, ?_⟩
    by_cases el : a.length = b.length
    · have e : (!decide (V.int ((a.length : Nat) : Int) = V.int ((b.length : Nat) : Int))) = false := by
        rw [decide_eq_true (by rw [el])]
        rfl
      rw [e]
      have eL : lessB a.cps.toList b.cps.toList = lexB a.cps.toList b.cps.toList := if_pos el
      refine iteF ⟨.str a, rfl, .str a, a.length, rfl, ⟨sz (by omega), rfl⟩, _, rfl, by omega, by omega, for_range (lo := 0) (n := a.length) (fun i σ H' => ∃ y2, σ = [some (.str a), some (.str b), y2] ∧ H' = H ∧ i ≤ a.length ∧ lexB a.cps.toList b.cps.toList = lexB (a.cps.toList.drop i) (b.cps.toList.drop i))
        ⟨none, rfl, rfl, Nat.zero_le _, rfl⟩ (fun i σ H' hi hPv => ?_) (fun σ H' hPv => ?_)⟩
      · obtain ⟨y2, rfl, rfl, _, es⟩ := hPv
        have i0 : (0 : Int) + (i : Int) = ((i : Nat) : Int) := by omega
        obtain ⟨x, hx⟩ : ∃ x, a.cps.toList[i]? = some x := ⟨_, List.getElem?_eq_getElem (by omega)⟩
        obtain ⟨y, hy⟩ : ∃ y, b.cps.toList[i]? = some y := ⟨_, List.getElem?_eq_getElem (by omega)⟩
        have st := lex_step hx hy
        rw [i0]
        refine ⟨.str a, rfl, .int i, rfl, a, _, x, rfl, rfl, sz (by omega), atI_nat hx, .str b, rfl, .int i, rfl, b, _, y, rfl, rfl, sz (by omega), atI_nat hy, rfl, _, rfl, ?_⟩
        by_cases ec : x = y
        · have e : (!decide (V.str (s1 x) = V.str (s1 y))) = false := by
            rw [decide_eq_true (by rw [ec])]
            rfl
          show if (!decide (V.str (s1 x) = V.str (s1 y))) = true then _ else _
          rw [e]
          exact iteF ⟨_, rfl, rfl, by omega, by rw [es, st, if_pos ec]⟩
        · have e : (!decide (V.str (s1 x) = V.str (s1 y))) = true := by
            rw [decide_eq_false fun q => ec (s1_inj (V.str.inj q))]
            rfl
          show if (!decide (V.str (s1 x) = V.str (s1 y))) = true then _ else _
          rw [e]
          refine iteT ⟨.str a, rfl, a, rfl, by omega, aL, fun D H1 nD s1' d1 => ⟨.int i, rfl, D, _, _, .int (rk x : Nat), rfl, rfl, .inl (.inl d1), atI_nat ?_, .str b, rfl, b, rfl, by omega, bL, fun D2 H2 nD2 s2 d2 => ⟨.int i, rfl, D2, _, _, .int (rk y : Nat), rfl, rfl, .inl (.inl d2), atI_nat ?_, _, _, rfl, rfl, ?_⟩⟩⟩
          · unfold vints
            rw [List.map_map, List.getElem?_map, hx]
            rfl
          · unfold vints
            rw [List.map_map, List.getElem?_map, hy]
            rfl
          · have := q H2 (s1'.trans s2)
            rw [eL, es, st, if_neg ec] at this
            have e2 : decide (((rk x : Nat) : Int) < ((rk y : Nat) : Int)) = decide (rk x < rk y) := decide_eq_decide.mpr (by omega)
            rw [← e2] at this
            exact this
      · obtain ⟨y2, rfl, rfl, _, es⟩ := hPv
        have e0 : lexB a.cps.toList b.cps.toList = false := by
          rw [es, List.drop_eq_nil_of_le (by omega)]
          simp [lexB]
        have := q H' (fun _ _ z => z)
        rw [eL, e0] at this
        exact this
    · have e : (!decide (V.int ((a.length : Nat) : Int) = V.int ((b.length : Nat) : Int))) = true := by
        rw [decide_eq_false fun z => el (by have := V.int.inj z; omega)]
        rfl
      rw [e]
      refine iteT ⟨.str a, rfl, .str a, a.length, rfl, ⟨sz (by omega), rfl⟩, .str b, rfl, .str b, b.length, rfl, ⟨sz (by omega), rfl⟩, _, _, rfl, rfl, ?_⟩
      have e1 : lessB a.cps.toList b.cps.toList = decide (((a.length : Nat) : Int) < ((b.length : Nat) : Int)) := by
        unfold lessB
        rw [hla, hlb, if_neg el]
        exact decide_eq_decide.mpr (by omega)
      have := q H (fun _ _ z => z)
      rw [e1] at this
      exact this
end
end K03
-- K03H5
namespace K03
open PySem PySem.Spec PyProof.Rows L2 SB
theorem rk_lt : ∀ x, isL x = true → ∀ y, isL y = true → decide (rk x < rk y) = decide (x < y) := by
  have h : ∀ x ∈ letters8, ∀ y ∈ letters8, decide (rk x < rk y) = decide (x < y) := by decide +kernel
  exact fun x hx y hy => h x (of_decide_eq_true hx) y (of_decide_eq_true hy)
theorem lex_lt : ∀ (a b : List Nat), allL a → allL b → a.length = b.length → lexB a b = decide (a < b)
  | [], [], _, _, _ => by simp [lexB]
  | x :: a, y :: b, ha, hb, hl => by
    have hx := ha x List.mem_cons_self
    have hy := hb y List.mem_cons_self
    have ih := lex_lt a b (fun c hc => ha c (List.mem_cons_of_mem _ hc)) (fun c hc => hb c (List.mem_cons_of_mem _ hc)) (by simpa using hl)
    unfold lexB
    by_cases e : x = y
    · subst e
      rw [if_pos rfl, ih]
      refine decide_eq_decide.mpr ?_
      rw [List.cons_lt_cons_iff]
      constructor
      · exact fun h => .inr ⟨rfl, h⟩
      · rintro (h | ⟨_, h⟩)
        · exact absurd h (Nat.lt_irrefl _)
        · exact h
    · rw [if_neg e, rk_lt x hx y hy]
      refine decide_eq_decide.mpr ?_
      rw [List.cons_lt_cons_iff]
      constructor
      · exact fun h => .inl h
      · rintro (h | ⟨h, _⟩)
        · exact h
        · exact absurd h e
theorem lt_flip : ∀ (a b : List Nat), a.length = b.length → decide (b < a) = (!decide (a < b) && !decide (a = b))
  | [], [], _ => by simp
  | x :: a, y :: b, hl => by
    have ih := lt_flip a b (by simpa using hl)
    by_cases h1 : x < y
    · have e1 : decide (x :: a < y :: b) = true := decide_eq_true (List.cons_lt_cons_iff.mpr (.inl h1))
      have e2 : decide (y :: b < x :: a) = false := decide_eq_false fun h => by
        rcases List.cons_lt_cons_iff.mp h with h | ⟨h, _⟩ <;> omega
      rw [e1, e2]
      rfl
    · by_cases h2 : y < x
      · have e1 : decide (x :: a < y :: b) = false := decide_eq_false fun h => by
          rcases List.cons_lt_cons_iff.mp h with h | ⟨h, _⟩ <;> omega
        have e2 : decide (y :: b < x :: a) = true := decide_eq_true (List.cons_lt_cons_iff.mpr (.inl h2))
        have e3 : decide (x :: a = y :: b) = false := decide_eq_false fun h => by
          injection h with h _
          omega
        rw [e1, e2, e3]
        rfl
      · have e : x = y := by omega
        subst e
        have e1 : decide (x :: a < x :: b) = decide (a < b) := decide_eq_decide.mpr ⟨fun h => by
          rcases List.cons_lt_cons_iff.mp h with h | ⟨_, h⟩
          · omega
          · exact h, fun h => List.cons_lt_cons_iff.mpr (.inr ⟨rfl, h⟩)⟩
        have e2 : decide (x :: b < x :: a) = decide (b < a) := decide_eq_decide.mpr ⟨fun h => by
          rcases List.cons_lt_cons_iff.mp h with h | ⟨_, h⟩
          · omega
          · exact h, fun h => List.cons_lt_cons_iff.mpr (.inr ⟨rfl, h⟩)⟩
        have e3 : decide (x :: a = x :: b) = decide (a = b) := decide_eq_decide.mpr ⟨fun h => by
          injection h, fun h => by rw [h]⟩
        rw [e1, e2, e3, ih]
theorem str_eq_codes (z v : Str) : (z = v) ↔ z.cps.toList = v.cps.toList := ⟨fun h => by rw [h], str_ext⟩
theorem ord_all {z v : Str} (hz : allL z.cps.toList) (hv : allL v.cps.toList) :
    ordW (fun n m => decide (n < m)) (fun a b => decide (a < b)) z v = lessB z.cps.toList v.cps.toList ∧
    ordW (fun n m => decide (n ≤ m)) (fun a b => !decide (b < a)) z v = (lessB z.cps.toList v.cps.toList || decide (z = v)) ∧
    ordW (fun n m => decide (m < n)) (fun a b => decide (b < a)) z v = (!lessB z.cps.toList v.cps.toList && !decide (z = v)) ∧
    ordW (fun n m => decide (m ≤ n)) (fun a b => !decide (a < b)) z v = !lessB z.cps.toList v.cps.toList := by
  have l1 : z.cps.toList.length = z.length := rfl
  have l2 : v.cps.toList.length = v.length := rfl
  unfold ordW lessB
  by_cases e : z.length = v.length
  · have e' : ((z.length : Nat) : Int) = (v.length : Nat) := by rw [e]
    have el : z.cps.toList.length = v.cps.toList.length := by omega
    rw [if_pos e', if_pos e', if_pos e', if_pos e', if_pos el, lex_lt _ _ hz hv el]
    have f := lt_flip _ _ el
    have g : decide (z = v) = decide (z.cps.toList = v.cps.toList) := decide_eq_decide.mpr (str_eq_codes z v)
    dsimp only
    rw [f, g]
    refine ⟨rfl, ?_, rfl, rfl⟩
    cases decide (z.cps.toList < v.cps.toList) <;> cases decide (z.cps.toList = v.cps.toList) <;> rfl
  · have e' : ¬ ((z.length : Nat) : Int) = (v.length : Nat) := by omega
    have el : ¬ z.cps.toList.length = v.cps.toList.length := by omega
    have g : decide (z = v) = false := decide_eq_false fun q => e (by rw [q])
    rw [if_neg e', if_neg e', if_neg e', if_neg e', if_neg el, g, Bool.or_false, Bool.not_false, Bool.and_true]
    dsimp only
    refine ⟨decide_eq_decide.mpr (by omega), decide_eq_decide.mpr (by omega), ?_, ?_⟩
    · rw [← decide_not]
      exact decide_eq_decide.mpr (by omega)
    · rw [← decide_not]
      exact decide_eq_decide.mpr (by omega)
theorem comm_symm : ∀ a b : List Nat, comm a b = comm b a
  | [], [] => rfl
  | [], _ :: _ => rfl
  | _ :: _, [] => rfl
  | x :: a, y :: b => by
    unfold comm
    by_cases e : x = y
    · rw [if_pos e, if_pos e.symm, comm_symm a b, e]
    · rw [if_neg e, if_neg fun q => e q.symm]
theorem comm_pre : ∀ a b : List Nat, comm a b <+: a
  | [], [] => List.prefix_refl _
  | [], _ :: _ => List.prefix_refl _
  | x :: a, [] => List.nil_prefix
  | x :: a, y :: b => by
    unfold comm
    by_cases e : x = y
    · rw [if_pos e, List.cons_prefix_cons]
      exact ⟨rfl, comm_pre a b⟩
    · rw [if_neg e]
      exact List.nil_prefix
theorem comm_eq : ∀ a b : List Nat, (comm a b = b) ↔ b <+: a
  | [], [] => by simp [comm]
  | [], _ :: _ => by simp [comm]
  | _ :: _, [] => by simp [comm]
  | x :: a, y :: b => by
    unfold comm
    by_cases e : x = y
    · subst e
      rw [if_pos rfl, List.cons_prefix_cons]
      simp [comm_eq a b]
    · rw [if_neg e, List.cons_prefix_cons]
      constructor
      · intro h
        cases h
      · rintro ⟨h, _⟩
        exact absurd h.symm e
theorem starts_comm (z v : Str) : Txt.startswith z v = decide (SB.T (comm z.cps.toList v.cps.toList) = v) := by
  have e : decide (SB.T (comm z.cps.toList v.cps.toList) = v) = decide (v.cps.toList <+: z.cps.toList) := decide_eq_decide.mpr (by rw [str_eq_codes, SB.T_cps, comm_eq])
  rw [e]
  unfold Txt.startswith
  rw [PySem.StrLaws.subAt_eq, List.drop_zero, Nat.zero_add]
  have l1 : z.cps.toList.length = z.length := rfl
  have l2 : v.cps.toList.length = v.length := rfl
  by_cases p : v.cps.toList <+: z.cps.toList
  · rw [decide_eq_true p, decide_eq_true (by have := p.length_le; omega), Bool.true_and]
    rw [List.prefix_iff_eq_take] at p
    exact beq_iff_eq.mpr p.symm
  · rw [decide_eq_false p, Bool.and_eq_false_iff]
    right
    refine beq_eq_false_iff_ne.mpr fun q => p ?_
    rw [← q]
    exact List.take_prefix _ _
theorem ends_cut (z v : Str) : Txt.endswith z v = (decide (((z.length : Nat) : Int) - (v.length : Nat) ≥ 0) && decide (cutS z (some (((z.length - v.length : Nat) : Nat) : Int)) none = v)) := by
  unfold Txt.endswith
  rw [PySem.StrLaws.subAt_eq, Nat.zero_add]
  have l1 : z.cps.toList.length = z.length := rfl
  have l2 : v.cps.toList.length = v.length := rfl
  by_cases h : v.length ≤ z.length
  · rw [decide_eq_true h, decide_eq_true (by omega), Bool.true_and, Bool.true_and]
    have e : (z.cps.toList.drop (z.length - v.length)).take v.length = z.cps.toList.drop (z.length - v.length) := List.take_of_length_le (by rw [List.length_drop]; omega)
    rw [e]
    by_cases q : z.cps.toList.drop (z.length - v.length) = v.cps.toList
    · rw [beq_iff_eq.mpr q, decide_eq_true (by rw [str_eq_codes, cut_drop]; exact q)]
    · rw [beq_eq_false_iff_ne.mpr q, decide_eq_false (by rw [str_eq_codes, cut_drop]; exact q)]
  · rw [decide_eq_false h, decide_eq_false (p := ((z.length : Nat) : Int) - (v.length : Nat) ≥ 0) (by omega), Bool.false_and, Bool.false_and]
end K03
-- K03I1
namespace K03
open PySem PySem.Spec PyProof.Rows L2 SB
local macro_rules | `(tactic| trivial) => `(tactic| first | assumption | (with_reducible rfl) | rfl | (apply Exists.intro) | (apply And.intro) | (exact xd_no _ _ _ (by decide +kernel)) | (exact Nat.le_of_ble_eq_true rfl) | (rw [sizeLine_eq]; omega) | omega)
section
variable {K : PySem.W.Frag} {CW CB2 CM : Addr}
theorem ord_q {o : Int → Int → Bool} {g : List Nat → List Nat → Bool} {H : Hp} {Q : VK} {E : XK} {a b : Addr} {z v : Str} (wa : WordAt CW H a z) (wb : WordAt CW H b v) (lz : z.length ≤ 1000) (lv : v.length ≤ 1000)
    (q : ∀ H', Same H H' → Q (.bl (ordW o g z v)) H') : rOrdOwn CW (spOrd CW o g) E (.ref a) (.ref b) H Q := by
  have wa' := wa
  have wb' := wb
  obtain ⟨dx, ha⟩ := wa
  obtain ⟨dy, hb⟩ := wb
  exact ⟨a, b, dx, dy, _, _, rfl, rfl, ha, hb, a, b, z, v, rfl, wa', wb', by omega, by omega, fun H' s => ⟨_, rfl, q H' s⟩⟩
theorem eq_q {H : Hp} {Q : VK} {E : XK} {a b : Addr} {z v : Str} (cl : Cls K CW) (ic : IsC K CW) (nf : PySem.W.notFirst K CW (.ref CW) = true) (wa : WordAt CW H a z) (wb : WordAt CW H b v) (fz : Fine z.cps.toList) (fv : Fine v.cps.toList) (lz : z.length ≤ 1000) (lv : v.length ≤ 1000)
    (q : ∀ H', Same H H' → Q (.bl (decide (z = v))) H') : rEqOwn K CW (spEq K CW) E (.ref a) (.ref b) H Q := by
  have wa' := wa
  obtain ⟨dx, ha⟩ := wa
  exact ⟨a, dx, _, .ref CW, rfl, ha, isC_ty cl ic wb, nf, a, z, .ref b, rfl, wa', fz, by omega, .inl ⟨b, v, rfl, wb, fv, by omega, fun H' s => ⟨_, rfl, q H' s⟩⟩⟩
theorem ne_q {H : Hp} {Q : VK} {E : XK} {a b : Addr} {z v : Str} (wa : WordAt CW H a z) (wb : WordAt CW H b v) (fz : Fine z.cps.toList) (fv : Fine v.cps.toList) (lz : z.length ≤ 1000) (lv : v.length ≤ 1000)
    (q : ∀ H', Same H H' → Q (.bl (!decide (z = v))) H') : rNeOwn CW (spEq K CW) E (.ref a) (.ref b) H Q := by
  have wa' := wa
  have wb' := wb
  obtain ⟨dx, ha⟩ := wa
  obtain ⟨dy, hb⟩ := wb
  exact ⟨a, b, dx, dy, _, _, rfl, rfl, ha, hb, a, z, .ref b, rfl, wa', fz, by omega, .inl ⟨b, v, rfl, wb', fv, by omega, fun H' s => ⟨_, rfl, q H' s⟩⟩⟩
end
theorem or_q {L S : Bool} {σ : L2.St} {H : Hp} {Q : VK} {j : Nat} (hs : σ[j]? = some (some (.bl S))) (h : Q (.bl (L || S)) H) : if L = true then Q (.bl true) H else tVar j σ H Q := by
  cases L with
  | true => exact h
  | false => exact ⟨_, hs, h⟩
theorem andv_q {c T : Bool} {σ : L2.St} {H : Hp} {Q : VK} {tE : TE} (rest : Q (.bl T) H) (h1 : c = true → Q (.bl T) H → tE σ H Q) (h0 : c = false → T = false) : if c = true then tE σ H Q else Q (.bl false) H := by
  cases c with
  | true => exact h1 rfl rest
  | false =>
    rw [h0 rfl] at rest
    exact rest
theorem and_q {c S : Bool} {σ : L2.St} {H : Hp} {Q : VK} {j : Nat} (hs : σ[j]? = some (some (.bl S))) (h : Q (.bl (c && !S)) H) : if c = true then tNotV (tVar j) σ H Q else Q (.bl false) H := by
  cases c with
  | true => exact ⟨_, hs, _, rfl, h⟩
  | false => exact h
section
variable {P : Program} {w : World} {K : PySem.W.Frag} {mg : Str → Option Value} {base : Heap}
/-- what is told of Words -/
structure OpsOk (P : Program) (w : World) (K : PySem.W.Frag) (mg : Str → Option Value) (base : Heap) (CW CB1 CB2 : Addr) (k : Nat) : Prop where
  nf : PySem.W.notFirst K CW (.ref CW) = true
  lt_ : ∃ f fd, PySem.W.findIn K (.ref CW) "__lt__" = some (some (.ref f)) ∧ PySem.W.isFn K (.ref f) = true ∧ FnOk P w K mg base CX0 (k + 1) f fd ["self", "other"] (spOrd CW (fun n m => decide (n < m)) (fun a b => decide (a < b))) ∧ Binds K fd ["self", "other"] []
  le_ : ∃ f fd, PySem.W.findIn K (.ref CW) "__le__" = some (some (.ref f)) ∧ PySem.W.isFn K (.ref f) = true ∧ FnOk P w K mg base CX0 (k + 1) f fd ["self", "other"] (spOrd CW (fun n m => decide (n ≤ m)) (fun a b => !decide (b < a))) ∧ Binds K fd ["self", "other"] []
  gt_ : ∃ f fd, PySem.W.findIn K (.ref CW) "__gt__" = some (some (.ref f)) ∧ PySem.W.isFn K (.ref f) = true ∧ FnOk P w K mg base CX0 (k + 1) f fd ["self", "other"] (spOrd CW (fun n m => decide (m < n)) (fun a b => decide (b < a))) ∧ Binds K fd ["self", "other"] []
  ge_ : ∃ f fd, PySem.W.findIn K (.ref CW) "__ge__" = some (some (.ref f)) ∧ PySem.W.isFn K (.ref f) = true ∧ FnOk P w K mg base CX0 (k + 1) f fd ["self", "other"] (spOrd CW (fun n m => decide (m ≤ n)) (fun a b => !decide (a < b))) ∧ Binds K fd ["self", "other"] []
  eq_ : ∃ f fd, EqC K CW f ∧ FnOk P w K mg base CX0 (k + 1) f fd ["self", "other"] (spEq K CW) ∧ Binds K fd ["self", "other"] []
  be_ : ∃ f fd, Meth K CW "begins" f ∧ FnOk P w K mg base (L2.CX P w) (k + 3) f fd ["self", "other"] (spBegins K CW CB2) ∧ Binds K fd ["self", "other"] [] ∧ KBn K fd ["self", "other"] 1 ["other"] (fun us ws => us ++ ws) (fun vs zs => vs ++ zs)
  en_ : ∃ f fd, Meth K CW "ends" f ∧ FnOk P w K mg base (L2.CX P w) (k + 3) f fd ["self", "other"] (spEnds K CW CB2) ∧ Binds K fd ["self", "other"] [] ∧ KBn K fd ["self", "other"] 1 ["other"] (fun us ws => us ++ ws) (fun vs zs => vs ++ zs)
  me_ : ∃ f fd, Meth K CW "meet" f ∧ FnOk P w K mg base (L2.CX P w) (k + 5) f fd ["self", "other"] (spMeet K CW CB2) ∧ Binds K fd ["self", "other"] [] ∧ KBn K fd ["self", "other"] 1 ["other"] (fun us ws => us ++ ws) (fun vs zs => vs ++ zs)
  it_ : ∃ f fd, ItemC K CW f ∧ FnOk P w K mg base (L2.CX P w) (k + 5) f fd ["self", "at"] (spItem CW CB1 CB2) ∧ Binds K fd ["self", "at"] []
  ln_ : ∃ f fd, PySem.W.findIn K (.ref CW) "__len__" = some (some (.ref f)) ∧ PySem.W.isFn K (.ref f) = true ∧ FnOk P w K mg base CX0 (k + 1) f fd ["self"] (spLen CW) ∧ Binds K fd ["self"] []
  ti_ : ∃ f, IterOk P w K mg base CW f "letters" (k + 1)
def spPair : Sp := fun vs H Q _ => ∃ a b : Str, vs = [.str a, .str b] ∧ Fine a.cps.toList ∧ Fine b.cps.toList ∧ a.length ≤ 200 ∧ b.length ≤ 200 ∧ ∀ H', Same H H' → Q (.bl true) H'
theorem ok_law_pair_right {f CB1 CB2 CM CW f__law_less f__law_common f__law_told : Addr} {fd d__law_less d__law_common d__law_told : FuncData} {k : Nat} (F : Fun K "_law_pair_right" "_law_pair_right" s__law_pair_right f fd)
    (MO : MakeOk P w K mg base CW CB2 CM k) (OO : OpsOk P w K mg base CW CB1 CB2 k)
    (G__law_less : FnOk P w K mg base CX0 (k + 3) f__law_less d__law_less ["one", "other"] spLess) (g__law_less : mg "_law_less" = some (.ref f__law_less)) (k__law_less : PySem.W.keepIn K (.ref f__law_less) = true) (b__law_less : Binds K d__law_less ["one", "other"] [])
    (G__law_common : FnOk P w K mg base CX0 (k + 1) f__law_common d__law_common ["one", "other"] spCommon) (g__law_common : mg "_law_common" = some (.ref f__law_common)) (k__law_common : PySem.W.keepIn K (.ref f__law_common) = true) (b__law_common : Binds K d__law_common ["one", "other"] [])
    (G__law_told : FnOk P w K mg base CX0 (k + 1) f__law_told d__law_told ["told", "due"] spTold) (g__law_told : mg "_law_told" = some (.ref f__law_told)) (k__law_told : PySem.W.keepIn K (.ref f__law_told) = true) (b__law_told : Binds K d__law_told ["told", "due"] [])
    (m_isinstance : mg "isinstance" = none) (m_len : mg "len" = none) (m_max : mg "max" = none) : FnOk P w K mg base CX0 (k + 6) f fd ["one", "other"] spPair := by
  obtain ⟨fW, fdW, tE, M, GW, bW, bW0, rE⟩ := MO.word
  obtain ⟨fL, fdL, wl, wlf, GL, bL⟩ := OO.lt_
  obtain ⟨fLE, fdLE, wle, wlef, GLE, bLE⟩ := OO.le_
  obtain ⟨fG, fdG, wg, wgf, GG, bG⟩ := OO.gt_
  obtain ⟨fGE, fdGE, wge, wgef, GGE, bGE⟩ := OO.ge_
  obtain ⟨fE, fdE, EqW, GE, bE⟩ := OO.eq_
  obtain ⟨fBe, fdBe, mBe, GBe, bBe, kBe⟩ := OO.be_
  obtain ⟨fEn, fdEn, mEn, GEn, bEn, kEn⟩ := OO.en_
  obtain ⟨fMe, fdMe, mMe, GMe, bMe, kMe⟩ := OO.me_
  have gW := MO.gW
  have cl := MO.cl
  have na := MO.na
  have ic := MO.ic
  have nf := OO.nf
  refine F.ok sc__law_pair_right (fun vs H Q E h => ?_) (fun cdv A outer s H vs Q E hr h => ?_)
  · obtain ⟨a, b, rfl, _⟩ := h
    rfl
  · obtain ⟨a, b, rfl, fa, fb, la, lb, q⟩ := h
    have nd := sc__law_pair_right.nd
    refine ⟨_, (pss_cons (ps_par (i := 2) (j := 3) (by rfl) nd rfl rfl (by decide) rfl rfl (pa_cons (pe_make M GW (hr.mono (by omega)) (by rfl) gW bW .nil passL (pa_cons (pv 0) pa_nil)) (pa_cons (pe_make M GW (hr.mono (by omega)) (by rfl) gW bW .nil passL (pa_cons (pv 1) pa_nil)) pa_nil)) (by rfl))
      (pss_cons (ps_par (i := 4) (j := 5) (by rfl) nd rfl rfl (by decide) rfl rfl (pa_cons (pe_call G__law_less (hr.mono (by omega)) (by rfl) g__law_less k__law_less b__law_less .nil pass0 (pa_cons (pv 0) (pa_cons (pv 1) pa_nil))) (pa_cons (pe_cmpR op_eq (pv 0) (pv 1) (nomark _)) pa_nil)) (by rfl))
      (pss_cons (ps_set (i := 6) nd rfl (.inl rfl) (pe_lst (pa_cons (pe_cmpR (op_ltOwn OO.nf wl wlf GL (hr.mono (by omega)) bL pass0) (pv 2) (pv 3) (nomark _)) (pa_cons (pe_cmpR (op_leOwn OO.nf wle wlef GLE (hr.mono (by omega)) bLE pass0) (pv 2) (pv 3) (nomark _)) (pa_cons (pe_cmpR (op_gtOwn OO.nf wg wgf GG (hr.mono (by omega)) bG pass0) (pv 2) (pv 3) (nomark _)) (pa_cons (pe_cmpR (op_geOwn OO.nf wge wgef GGE (hr.mono (by omega)) bGE pass0) (pv 2) (pv 3) (nomark _)) (pa_cons (pe_cmpR (op_eqOwn EqW.find EqW.fn GE (hr.mono (by omega)) bE pass0) (pv 2) (pv 3) (nomark _)) (pa_cons (pe_cmpR (op_neOwn EqW GE (hr.mono (by omega)) bE pass0) (pv 2) (pv 3) (nomark _)) pa_nil))))))))
      (pss_cons (ps_if (pt_cmpR (op_neD hr.units) (pv 6) (pe_lst (pa_cons (pv 4) (pa_cons (pe_or (pv 4) (pe_one (pv 5))) (pa_cons (pe_and (pe_not (pv 4)) (pe_one (pe_not (pv 5)))) (pa_cons (pe_not (pv 4)) (pa_cons (pv 5) (pa_cons (pe_not (pv 5)) pa_nil))))))) (nomark _)) (pss_one (ps_ret pe_bl)) pss_nil)
      (pss_cons (ps_set (i := 7) nd rfl (.inl rfl) (pe_op op_sub (pe_callB call_len (by rfl) m_len PySem.boot_len (pa_cons (pv 0) pa_nil)) (pe_callB call_len (by rfl) m_len PySem.boot_len (pa_cons (pv 1) pa_nil))))
      (pss_cons (ps_set (i := 8) nd rfl (.inl rfl) (pe_and (pe_cmpR op_ge (pv 7) pe_int (nomark _)) (pe_one (pe_cmpR op_eq (pe_slice sl_str (pv 0) (po_some (pe_callB (call_max2 rfl) (by rfl) m_max (by decide +kernel) (pa_cons pe_int (pa_cons (pv 7) pa_nil)))) po_none) (pv 1) (nomark _)))))
      (pss_cons (ps_set (i := 9) nd rfl (.inl rfl) (pe_cmpR op_eq (pe_call G__law_common (hr.mono (by omega)) (by rfl) g__law_common k__law_common b__law_common .nil pass0 (pa_cons (pv 0) (pa_cons (pv 1) pa_nil))) (pv 1) (nomark _)))
      (pss_cons (ps_if (PW.pt (pw_or (pt_not (pt_val (pe_call G__law_told (hr.mono (by omega)) (by rfl) g__law_told k__law_told b__law_told .nil pass0 (pa_cons (pe_meth (pv 2) cl mBe GBe (hr.mono (by omega)) bBe .nil passL (pa_cons (pv 3) pa_nil)) (pa_cons (pv 9) pa_nil))))) (pw_or1 (pt_not (pt_val (pe_call G__law_told (hr.mono (by omega)) (by rfl) g__law_told k__law_told b__law_told .nil pass0 (pa_cons (pe_meth (pv 2) cl mEn GEn (hr.mono (by omega)) bEn .nil passL (pa_cons (pv 3) pa_nil)) (pa_cons (pv 8) pa_nil)))))))) (pss_one (ps_ret pe_bl)) pss_nil)
      (pss_cons (ps_set (i := 10) nd rfl (.inl rfl) (pe_meth (pv 2) cl mMe GMe (hr.mono (by omega)) bMe .nil passL (pa_cons (pv 3) pa_nil)))
      (pss_cons (ps_if (PW.pt (pw_or (pt_not (pt_val (pe_callB call_isi (by rfl) m_isinstance boot_isinstance (pa_cons (pv 10) (pa_cons (pe_glob (v := .ref CW) (by rfl) gW rfl) pa_nil))))) (pw_or (pt_cmpR op_ne (pe_fld (pv 10) rfl) (pe_call G__law_common (hr.mono (by omega)) (by rfl) g__law_common k__law_common b__law_common .nil pass0 (pa_cons (pv 0) (pa_cons (pv 1) pa_nil))) (nomark _)) (pw_or1 (pt_cmpR (op_neOwn EqW GE (hr.mono (by omega)) bE pass0) (pv 10) (pe_meth (pv 3) cl mMe GMe (hr.mono (by omega)) bMe .nil passL (pa_cons (pv 2) pa_nil)) (nomark _)))))) (pss_one (ps_ret pe_bl)) pss_nil)
      (pss_cons (ps_if (PW.pt (pw_or (pt_not (pt_val (pe_call G__law_told (hr.mono (by omega)) (by rfl) g__law_told k__law_told b__law_told .nil pass0 (pa_cons (pe_methK (pv 2) cl mBe GBe (hr.mono (by omega)) kBe passL (pk_cons (pv 3) pk_nil)) (pa_cons (pv 9) pa_nil))))) (pw_or1 (pt_not (pt_val (pe_call G__law_told (hr.mono (by omega)) (by rfl) g__law_told k__law_told b__law_told .nil pass0 (pa_cons (pe_methK (pv 2) cl mEn GEn (hr.mono (by omega)) kEn passL (pk_cons (pv 3) pk_nil)) (pa_cons (pv 8) pa_nil)))))))) (pss_one (ps_ret pe_bl)) pss_nil)
      (pss_cons (ps_if (pt_cmpR (op_neOwn EqW GE (hr.mono (by omega)) bE pass0) (pe_methK (pv 2) cl mMe GMe (hr.mono (by omega)) kMe passL (pk_cons (pv 3) pk_nil)) (pv 10) (nomark _)) (pss_one (ps_ret pe_bl)) pss_nil)
      (pss_one (ps_ret (pe_and (pe_cmpR op_eq (pe_fld (pv 2) rfl) (pv 0) (nomark _)) (pe_one (pe_cmpR op_eq (pe_fld (pv 3) rfl) (pv 1) (nomark _)))))))))))))))))), ?_⟩
    refine ⟨.str a, rfl, fun x1 dx1 n1 d1 e1 => make_q n1 d1 e1 fa (by omega) fun H1 s1' w1 => ⟨rfl, .str b, rfl, fun x2 dx2 n2 d2 e2 => make_q n2 d2 e2 fb (by omega) fun H2 s2 w2 => ⟨rfl, _, _, rfl, ?_⟩⟩⟩
    have w1 := w1.same s2
    refine ⟨.str a, rfl, .str b, rfl, a, b, rfl, by omega, by omega, fa.1, fb.1, fun H3 s3 => ⟨.str a, rfl, .str b, rfl, rfl, _, _, rfl, ?_⟩⟩
    have w1 := w1.same s3
    have w2 := w2.same s3
    obtain ⟨o1, o2, o3, o4⟩ := ord_all fa.1 fb.1
    refine ⟨.ref x1, rfl, .ref x2, rfl, ord_q w1 w2 (by omega) (by omega) fun H4 s4 => ⟨.ref x1, rfl, .ref x2, rfl, ord_q (w1.same s4) (w2.same s4) (by omega) (by omega) fun H5 s5 => ?_⟩⟩
    have w1 := (w1.same s4).same s5
    have w2 := (w2.same s4).same s5
    refine ⟨.ref x1, rfl, .ref x2, rfl, ord_q w1 w2 (by omega) (by omega) fun H6 s6 => ⟨.ref x1, rfl, .ref x2, rfl, ord_q (w1.same s6) (w2.same s6) (by omega) (by omega) fun H7 s7 => ?_⟩⟩
    have w1 := (w1.same s6).same s7
    have w2 := (w2.same s6).same s7
    refine ⟨.ref x1, rfl, .ref x2, rfl, eq_q cl ic nf w1 w2 fa fb (by omega) (by omega) fun H8 s8 => ⟨.ref x1, rfl, .ref x2, rfl, ne_q (w1.same s8) (w2.same s8) fa fb (by omega) (by omega) fun H9 s9 => ?_⟩⟩
    have w1 := (w1.same s8).same s9
    have w2 := (w2.same s8).same s9
    have sT : Same H H9 := s1'.trans (s2.trans (s3.trans (s4.trans (s5.trans (s6.trans (s7.trans (s8.trans s9)))))))
    rw [o1, o2, o3, o4]
    clear o1 o2 o3 o4 s1' s2 s3 s4 s5 s6 s7 s8 s9
    obtain ⟨L, hL⟩ : ∃ L, L = lessB a.cps.toList b.cps.toList := ⟨_, rfl⟩
    obtain ⟨S, hS⟩ : ∃ S, S = decide (a = b) := ⟨_, rfl⟩
    have eS : decide (V.str a = V.str b) = S := by
      rw [hS]
      exact decide_eq_decide.mpr ⟨fun e => V.str.inj e, fun e => by rw [e]⟩
    rw [eS, ← hL, ← hS]
    refine ⟨Nat.le_of_ble_eq_true rfl, fun D hD => ?_⟩
    have sD := same_new (o := .lst [.bl L, .bl (L || S), .bl (!L && !S), .bl (!L), .bl S, .bl (!S)]) hD
    have w1 := w1.same sD
    have w2 := w2.same sD
    have sT := sT.trans sD
    have hD' : upd H9 D (.lst [.bl L, .bl (L || S), .bl (!L && !S), .bl (!L), .bl S, .bl (!S)]) D = some (.lst [.bl L, .bl (L || S), .bl (!L && !S), .bl (!L), .bl S, .bl (!S)]) := upd_same
    clear sD
    refine ⟨.ref D, rfl, .bl L, rfl, .bl L, rfl, L, rfl, or_q (j := 5) rfl ⟨.bl L, rfl, L, rfl, !L, rfl, and_q (j := 5) rfl ⟨.bl L, rfl, L, rfl, .bl S, rfl, .bl S, rfl, S, rfl, Nat.le_of_ble_eq_true rfl, fun D2 hD2 => ?_⟩⟩⟩
    have sD := same_new (o := .lst [.bl L, .bl (L || S), .bl (!L && !S), .bl (!L), .bl S, .bl (!S)]) hD2
    have hd1 := sD _ _ hD'
    generalize upd H9 D (.lst [.bl L, .bl (L || S), .bl (!L && !S), .bl (!L), .bl S, .bl (!S)]) = H10 at *
    have dA : ∀ Hx, DpAll K Hx [.bl L, .bl (L || S), .bl (!L && !S), .bl (!L), .bl S, .bl (!S)] [.bool L, .bool (L || S), .bool (!L && !S), .bool (!L), .bool S, .bool (!S)] := fun Hx => .cons (.bl _) (.cons (.bl _) (.cons (.bl _) (.cons (.bl _) (.cons (.bl _) (.cons (.bl _) .nil)))))
    refine ⟨.list [.bool L, .bool (L || S), .bool (!L && !S), .bool (!L), .bool S, .bool (!S)], .list [.bool L, .bool (L || S), .bool (!L && !S), .bool (!L), .bool S, .bool (!S)], .lst (.inl (.inl hd1)) (dA _), .lst (.inl (.inl upd_same)) (dA _), by cases L <;> cases S <;> decide +kernel, by cases L <;> cases S <;> decide +kernel, _, rfl, ?_⟩
    have ev : PyData.eqv (.list [.bool L, .bool (L || S), .bool (!L && !S), .bool (!L), .bool S, .bool (!S)]) (.list [.bool L, .bool (L || S), .bool (!L && !S), .bool (!L), .bool S, .bool (!S)]) = true := by cases L <;> cases S <;> decide +kernel
    rw [ev]
    refine iteF ?_
    have w1 := w1.same sD
    have w2 := w2.same sD
    have sT := sT.trans sD
    generalize upd H10 D2 _ = H11 at *
    clear hd1 hD' sD ev dA hD2 hD
    repeat trivial
    refine andv_q (T := Txt.endswith a b) ?_ (fun e rest => ?_) (fun e => ?_)
    case refine_2 =>
      have hle := of_decide_eq_true e
      refine ⟨.str a, rfl, _, rfl, 0, _, rfl, _, rfl, a, rfl, by rw [sizeLine_eq]; omega, .str b, rfl, rfl, ?_⟩
      have ec : decide (V.str (cutS a (some (if ((a.length : Nat) : Int) - (b.length : Nat) > 0 then ((a.length : Nat) : Int) - (b.length : Nat) else 0)) none) = V.str b) = Txt.endswith a b := by
        rw [ends_cut, decide_eq_true (p := ((a.length : Nat) : Int) - (b.length : Nat) ≥ 0) hle, Bool.true_and]
        have e2 : (if ((a.length : Nat) : Int) - (b.length : Nat) > 0 then ((a.length : Nat) : Int) - (b.length : Nat) else 0) = ((a.length - b.length : Nat) : Int) := by
          split <;> omega
        rw [e2]
        exact decide_eq_decide.mpr ⟨fun e => V.str.inj e, fun e => by rw [e]⟩
      rw [← ec] at rest
      exact rest
    case refine_3 =>
      rw [ends_cut]
      have : decide (((a.length : Nat) : Int) - (b.length : Nat) ≥ 0) = false := e
      rw [this, Bool.false_and]
    have eB : decide (V.str (SB.T (comm a.cps.toList b.cps.toList)) = V.str b) = Txt.startswith a b := by
      rw [starts_comm]
      exact decide_eq_decide.mpr ⟨fun e => V.str.inj e, fun e => by rw [e]⟩
    refine ⟨.str a, rfl, .str b, rfl, a, b, rfl, by omega, by omega, .str b, rfl, rfl, ?_⟩
    rw [eB]
    obtain ⟨d1, h1⟩ := w1
    have w1 : WordAt CW H11 x1 a := ⟨d1, h1⟩
    obtain ⟨d2, h2⟩ := w2
    have w2 : WordAt CW H11 x2 b := ⟨d2, h2⟩
    refine ⟨.ref x1, rfl, x1, d1, _, rfl, h1, xd_no _ _ _ (by decide +kernel), .ref x2, rfl, x1, a, .ref x2, rfl, w1, .inl ⟨x2, b, rfl, w2, .bl _, rfl, _, rfl, true, rfl, iteF ?_⟩⟩
    refine ⟨.ref x1, rfl, x1, d1, _, rfl, h1, xd_no _ _ _ (by decide +kernel), .ref x2, rfl, x1, a, .ref x2, rfl, w1, .inl ⟨x2, b, rfl, w2, .bl _, rfl, _, rfl, true, rfl, iteF ?_⟩⟩
    refine ⟨.ref x1, rfl, x1, d1, _, rfl, h1, xd_no _ _ _ (by decide +kernel), .ref x2, rfl, x1, a, .ref x2, rfl, w1, fa, by omega, .inl ⟨x2, b, rfl, w2, fun x3 H12 n3 s3 w3 => ?_⟩⟩
    have w1 := w1.same s3
    have w2 := w2.same s3
    have h1 := s3 _ _ h1
    have h2 := s3 _ _ h2
    have sT := sT.trans s3
    have fC : Fine (SB.T (comm a.cps.toList b.cps.toList)).cps.toList := by
      obtain ⟨r, er⟩ := comm_pre a.cps.toList b.cps.toList
      exact fine_pre (b := r) (by rw [SB.T_cps, er]; exact fa)
    have lC : (SB.T (comm a.cps.toList b.cps.toList)).length ≤ 1000 := by
      have := (comm_pre a.cps.toList b.cps.toList).length_le
      have l1 : a.cps.toList.length = a.length := rfl
      show (comm a.cps.toList b.cps.toList).length ≤ 1000
      omega
    refine ⟨.ref x3, rfl, .ref x3, .ref CW, .ref CW, .ref CW, true, rfl, .own CW, isC_ty cl ic w3, kit_self, true, rfl, iteF ?_⟩
    obtain ⟨d3, h3⟩ := w3
    have w3 : WordAt CW H12 x3 (SB.T (comm a.cps.toList b.cps.toList)) := ⟨d3, h3⟩
    refine ⟨.ref x3, rfl, x3, CW, d3, _, _, rfl, h3, cl, na, rfl, .str a, rfl, .str b, rfl, a, b, rfl, by omega, by omega, rfl, _, rfl, ?_⟩
    rw [decide_eq_true rfl]
    refine iteF ⟨.ref x3, rfl, .ref x2, rfl, x2, d2, _, rfl, h2, xd_no _ _ _ (by decide +kernel), .ref x1, rfl, x2, b, .ref x1, rfl, w2, fb, by omega, .inl ⟨x1, a, rfl, w1, fun x4 H13 n4 s4 w4 => ?_⟩⟩
    rw [comm_symm b.cps.toList a.cps.toList] at w4
    refine ne_q (w3.same s4) w4 fC fC lC lC fun H14 s5 => ⟨_, rfl, ?_⟩
    rw [decide_eq_true rfl]
    have s45 := s4.trans s5
    have w1 := w1.same s45
    have w2 := w2.same s45
    have w3 := w3.same s45
    have h1 := s45 _ _ h1
    have h2 := s45 _ _ h2
    have sT := sT.trans s45
    refine iteF ?_
    refine ⟨.ref x1, rfl, x1, d1, _, rfl, h1, xd_no _ _ _ (by decide +kernel), .ref x2, rfl, rfl, x1, a, .ref x2, rfl, w1, .inl ⟨x2, b, rfl, w2, .bl _, rfl, _, rfl, true, rfl, iteF ?_⟩⟩
    refine ⟨.ref x1, rfl, x1, d1, _, rfl, h1, xd_no _ _ _ (by decide +kernel), .ref x2, rfl, rfl, x1, a, .ref x2, rfl, w1, .inl ⟨x2, b, rfl, w2, .bl _, rfl, _, rfl, true, rfl, iteF ?_⟩⟩
    refine ⟨.ref x1, rfl, x1, d1, _, rfl, h1, xd_no _ _ _ (by decide +kernel), .ref x2, rfl, rfl, x1, a, .ref x2, rfl, w1, fa, by omega, .inl ⟨x2, b, rfl, w2, fun x5 H15 n5 s6 w5 => ?_⟩⟩
    refine ⟨.ref x3, rfl, ne_q w5 (w3.same s6) fC fC lC lC fun H16 s7 => ⟨_, rfl, ?_⟩⟩
    rw [decide_eq_true rfl]
    have s67 := s6.trans s7
    have h1 := s67 _ _ h1
    have h2 := s67 _ _ h2
    refine iteF ⟨.ref x1, rfl, x1, CW, d1, _, _, rfl, h1, cl, na, rfl, .str a, rfl, rfl, ?_⟩
    rw [decide_eq_true rfl]
    refine ⟨true, rfl, iteT ⟨.ref x2, rfl, x2, CW, d2, _, _, rfl, h2, cl, na, rfl, .str b, rfl, rfl, ?_⟩⟩
    rw [decide_eq_true rfl]
    exact q _ (sT.trans s67)
end
end K03
-- K03I2
namespace K03
open PySem PySem.Spec PyProof.Rows L2 SB
theorem fine_cut {z : Str} (fz : Fine z.cps.toList) (lo hi : Option Int) : Fine (cutS z lo hi).cps.toList := by
  unfold cutS
  exact fine_take (fine_drop fz _) _
theorem cut_all (z : Str) : cutS z none none = z := by
  refine str_ext ?_
  unfold cutS
  rw [HT.sIx_none, HT.sIx_none]
  show (z.cps.toList.drop 0).take (z.length - 0) = _
  exact List.take_of_length_le (Nat.le_refl _)
theorem step_rev (z : Str) : (stepS z none none (-1)).cps.toList = z.cps.toList.reverse := by
  unfold stepS
  rw [rev_indices]
  have := rev_pick z.cps.toList
  rw [show z.cps.toList.length = z.length from rfl] at this
  simpa using this
theorem flat_chain {l : List Nat} : flat l l.length ↔ ∀ j c d, l[j]? = some d → l[j + 1]? = some c → c ≠ up d := by
  constructor
  · intro h j c d hd hc
    obtain ⟨lt, _⟩ := List.getElem?_eq_some_iff.mp hc
    exact h j c d lt hd hc
  · intro h j c d _ hd hc
    exact h j c d hd hc
theorem fine_rev {l : List Nat} (h : Fine l) : Fine l.reverse := by
  refine ⟨fun c hc => h.1 c (List.mem_reverse.mp hc), flat_chain.mpr fun j c d hd hc => ?_⟩
  have f := flat_chain.mp h.2
  obtain ⟨lt, _⟩ := List.getElem?_eq_some_iff.mp hc
  rw [List.length_reverse] at lt
  rw [List.getElem?_reverse (by omega)] at hd hc
  have e1 : l.length - 1 - j = (l.length - 1 - (j + 1)) + 1 := by omega
  rw [e1] at hd
  intro q
  refine f _ _ _ hc hd ?_
  rw [q, up_up d (h.1 d (List.mem_of_getElem? hd))]
/-- the picks of a slice are letters of the text -/
theorem step_mem {z : Str} {k : Int} {c : Nat} (h : c ∈ (stepS z none none k).cps.toList) : c ∈ z.cps.toList := by
  unfold stepS at h
  have h' : c ∈ (Builtin.Str.strSliceIndices none none k z.length).filterMap (z.cps[·]?) := h
  obtain ⟨i, _, hi⟩ := List.mem_filterMap.mp h'
  have hi' : z.cps.toList[i]? = some c := by rw [Array.getElem?_toList]; exact hi
  exact List.mem_of_getElem? hi'
theorem step_len {z : Str} {k : Int} (hk : k = 2 ∨ k = 3 ∨ k = -1 ∨ k = -2) : (stepS z none none k).length ≤ z.length := by
  have h1 : (stepS z none none k).length ≤ (Builtin.Str.strSliceIndices none none k z.length).length := by
    show ((Builtin.Str.strSliceIndices none none k z.length).filterMap (z.cps[·]?)).length ≤ _
    exact List.length_filterMap_le _ _
  refine Nat.le_trans h1 ?_
  generalize z.length = n
  show (sliceRange (if k > 0 then 0 else (n : Int) - 1) (if k > 0 then (n : Int) else -1) k).length ≤ n
  unfold sliceRange
  rcases hk with rfl | rfl | rfl | rfl
  all_goals simp
  all_goals (try split) <;> omega
section
variable {K : PySem.W.Frag} {CW CB1 CB2 : Addr}
theorem slice_q {H : Hp} {Q : VK} {E : XK} {a p : Addr} {z : Str} {lo hi st : Option Int} (wa : WordAt CW H a z) (lz : z.length ≤ 1000) (hp : H p = none) (st0 : st ≠ some 0) (st1 : st ≠ some 1) (fS : Fine (slS z lo hi st).cps.toList) (lS : (slS z lo hi st).length ≤ 1000)
    (q : ∀ c H', H c = none → Same H H' → WordAt CW H' c (slS z lo hi st) → Q (.ref c) H') : spItem CW CB1 CB2 [.ref a, .ref p] (upd H p (slO p lo hi st)) Q E := by
  have sp := same_new (o := slO p lo hi st) hp
  refine ⟨a, z, .ref p, rfl, wa.same sp, lz, .inr (.inr ⟨p, lo, hi, st, rfl, upd_same, st0, st1, lS, fun i hi => ?_, fun _ c H' nc s wc => q c H' (none_back sp nc) (sp.trans s) wc⟩)⟩
  rw [fine_word fS] at hi
  cases hi
end
end K03
-- R27
namespace SB
open PySem PySem.Spec PyProof.Rows L2
/-! ### list(x), x a text -/
def ones (l : List Nat) : List V := l.map fun c => V.str ⟨#[c]⟩
theorem ones_vals : ∀ (l : List Nat) (its : List Value), its.length = l.length → (∀ (i c : Nat) (v : Value), l[i]? = some c → its[i]? = some v → ∃ t, v = .str ⟨#[c]⟩ t) → Vals (ones l) its
  | [], [], _, _ => .nil
  | c :: l, v :: its, h, f => by
    obtain ⟨t, rfl⟩ := f 0 c v rfl rfl
    exact .cons ⟨t, rfl⟩ (ones_vals l its (by simpa using h) fun i d u hd hu => f (i + 1) d u hd hu)
section
variable {X : Cx}
theorem call_listS (hc : X.calm = true) : CallR X (.type "list") (fun xs H Q => ∃ z : Str, xs = [.str z] ∧ z.length ≤ sizeLine ∧ ∀ l, H l = none → Q (.ref l) (upd H l (.lst (ones z.cps.toList)))) := by
  intro pins s σ H xs us Q I r h
  obtain ⟨z, rfl, hz, q⟩ := h
  obtain ⟨u, rfl, t, rfl⟩ := vals1 r
  refine call_list_str (I.ok.hd hc) z t (fun h' tk acc c' hk hg hacc => ?_) hz
  have v : Vals (ones z.cps.toList) acc.toList := by
    refine ones_vals _ _ (by rw [Array.length_toList]; exact hacc.1) fun i d u hd hu => ?_
    obtain ⟨c, t2, hc2, rfl⟩ := hacc.2 i u (by rw [← Array.getElem?_toList]; exact hu)
    rw [← Array.getElem?_toList, hd] at hc2
    cases hc2
    exact ⟨t2, rfl⟩
  refine ⟨.ref s.heap.objs.size, _, I.laid (t' := tk) hk (Nat.le_refl _) (show ObjOk X.prog X.w _ h' _ (.lst (ones z.cps.toList)) from ⟨?_, acc.toList, c', v, by simpa using hg⟩), rfl, q _ (I.hok.fresh (Nat.le_refl _))⟩
  unfold ones
  rw [List.length_map]
  exact hz
end
end SB
-- K03I3
namespace K03
open PySem PySem.Spec PyProof.Rows L2 SB
local macro_rules | `(tactic| trivial) => `(tactic| first | assumption | (with_reducible rfl) | rfl | (apply Exists.intro) | (apply And.intro) | (exact xd_no _ _ _ (by decide +kernel)) | (exact Nat.le_of_ble_eq_true rfl) | (rw [sizeLine_eq]; omega) | omega)
/-- the name of the lambda in a def -/
def lq (x : Str) : Str := (envOfC x (defScope s__law_heard) 0 0 .none).qual ++ "<lambda>"
theorem extN_same {H H' : Hp} (s : Same H H') : LamX.ExtN H H' := LamX.ExtN.of s
theorem tabs_same {T : List (Addr × Str)} {H H' : Hp} (t : LamX.Tabs T H) (s : Same H H') : LamX.Tabs T H' := t.ext s
theorem xd_fld (g : Str) (v : V) : ([(g, v)] : List (Str × V)).lookup g = some v := by simp [List.lookup]
/-- the pen, the tables, what was, the word -/
structure Sta (CW p l : Addr) (N : Int) (T : List (Addr × Str)) (x : Addr) (z : Str) (H0 H : Hp) : Prop where
  pen : PenQ l N H p
  tab : LamX.Tabs T H
  kn : KN p H0 H
  wd : WordAt CW H x z
theorem Sta.same {CW p l : Addr} {N : Int} {T : List (Addr × Str)} {x : Addr} {z : Str} {H0 H H' : Hp} (s : Sta CW p l N T x z H0 H) (e : Same H H') : Sta CW p l N T x z H0 H' :=
  ⟨s.pen.same e, tabs_same s.tab e, s.kn.trans (KN.of e), s.wd.same e⟩
theorem Sta.kept {CW p l : Addr} {N M : Int} {T : List (Addr × Str)} {x : Addr} {z : Str} {H0 H H' : Hp} (s : Sta CW p l N T x z H0 H) (k : Kept p H H') (q : PenQ l M H' p) : Sta CW p l M T x z H0 H' :=
  ⟨q, tabs_keptQ s.tab s.pen k, s.kn.trans (KN.kept k), by
    obtain ⟨d, h⟩ := s.wd
    exact ⟨d, k _ _ h (s.pen.not_p h fun xs z => nomatch z)⟩⟩
theorem Sta.ext {CW p l : Addr} {N : Int} {T : List (Addr × Str)} {x : Addr} {z : Str} {H0 H H' : Hp} (s : Sta CW p l N T x z H0 H) (e : LamX.ExtN H H') (t : LamX.Tabs T H') : Sta CW p l N T x z H0 H' :=
  ⟨penQ_ext s.pen e, t, s.kn.trans (KN.ext e), by
    obtain ⟨d, h⟩ := s.wd
    exact ⟨d, e _ _ h (fun _ z => nomatch z)⟩⟩
section
variable {P : Program} {w : World} {K : PySem.W.Frag} {mg : Str → Option Value} {base : Heap}
def spParts (T : List (Addr × Str)) : Sp := fun vs H Q _ => ∃ (p l : Addr) (N : Int) (z : Str), vs = [.ref p, .str z] ∧ PenQ l N H p ∧ N ≤ 50000 ∧ LamX.Tabs T H ∧ Fine z.cps.toList ∧ z.length ≤ 200 ∧
  ∀ H', KN p H H' → LamX.Tabs T H' → PenQ l (N + 10) H' p → Q (.bl true) H'
theorem ok_law_parts_right {T : List (Addr × Str)} {f c Pt CB CB1 CB2 CM CW fB1 f__law_draw : Addr} {fd d__law_draw : FuncData} {k : Nat} (F : FunT K "_law_parts_right" "_law_parts_right" s__law_parts_right f c fd) (Hd : Heard K mg CB)
    (TB : LamX.TabB base mg c Pt) (hmT : (Pt, lq "_law_parts_right") ∈ T) (hu : ∀ p ∈ T, p.1 = Pt → p.2 = lq "_law_parts_right")
    (MO : MakeOk P w K mg base CW CB2 CM k) (OO : OpsOk P w K mg base CW CB1 CB2 k) (E1 : Err1 K mg "BadNumber" "part" CB1 fB1) (xm1 : PySem.W.exmOne K (.ref CB1) (.ref CB) = some true)
    (G__law_draw : FnOk P w K mg base CX0 (k + 2) f__law_draw d__law_draw ["pen", "many"] spDraw) (g__law_draw : mg "_law_draw" = some (.ref f__law_draw)) (k__law_draw : PySem.W.keepIn K (.ref f__law_draw) = true) (b__law_draw : Binds K d__law_draw ["pen", "many"] [])
    (m_isinstance : mg "isinstance" = none) (m_len : mg "len" = none) (m_range : mg "range" = none) (m_list : mg "list" = none) : FnOk P w K mg base CX0 (k + 9) f fd ["pen", "row"] (spParts T) := by
  obtain ⟨fW, fdW, tE, M, GW, bW, bW0, rE⟩ := MO.word
  obtain ⟨fIt, fdIt, IC, GIt, bIt⟩ := OO.it_
  obtain ⟨fLn, fdLn, wn, wnf, GLn, bLn⟩ := OO.ln_
  obtain ⟨fTi, TIt⟩ := OO.ti_
  have gW := MO.gW
  have cl := MO.cl
  have na := MO.na
  have g_BadNumber := E1.at_
  refine F.ok sc__law_parts_right (fun vs H Q E h => ?_) (fun A outer s H vs Q E hr h => ?_)
  · obtain ⟨p, l, N, z, rfl, _⟩ := h
    rfl
  · obtain ⟨p, l, N, z, rfl, p0, hN, t0, fz, lz, q⟩ := h
    have nd := sc__law_parts_right.nd
    refine ⟨_, (pss_cons (ps_asg (pe_tup (pa_cons (pe_make M GW (hr.mono (by omega)) (by rfl) gW bW .nil passL (pa_cons (pv 1) pa_nil)) (pa_cons (pe_call G__law_draw (hr.mono (by omega)) (by rfl) g__law_draw k__law_draw b__law_draw .nil pass0 (pa_cons (pv 0) (pa_cons (pe_op op_add (pe_callB call_len (by rfl) m_len PySem.boot_len (pa_cons (pv 1) pa_nil)) pe_int) pa_nil))) (pa_cons (pe_call G__law_draw (hr.mono (by omega)) (by rfl) g__law_draw k__law_draw b__law_draw .nil pass0 (pa_cons (pv 0) (pa_cons (pe_op op_add (pe_callB call_len (by rfl) m_len PySem.boot_len (pa_cons (pv 1) pa_nil)) pe_int) pa_nil))) pa_nil)))) (pg_tup rfl (pgs_cons (pg_name (i := 7) nd rfl (.inr rfl)) (pgs_cons (pg_name (i := 2) nd rfl (.inl rfl)) (pgs_cons (pg_name (i := 3) nd rfl (.inl rfl)) pgs_nil)))))
      (pss_cons (ps_set (i := 4) nd rfl (.inl rfl) (pe_lst (pa_cons (pe_tup (pa_cons (pe_sliceOwn IC GIt (hr.mono (by omega)) bIt passL (pv 7) (po_some (pv 2)) (po_some (pv 3)) po_none (.inr fun _ _ => rfl)) (pa_cons (pe_slice sl_str (pv 1) (po_some (pv 2)) (po_some (pv 3))) pa_nil))) (pa_cons (pe_tup (pa_cons (pe_sliceOwn IC GIt (hr.mono (by omega)) bIt passL (pv 7) (po_some (pv 2)) po_none po_none (.inr fun _ _ => rfl)) (pa_cons (pe_slice sl_str (pv 1) (po_some (pv 2)) po_none) pa_nil))) (pa_cons (pe_tup (pa_cons (pe_sliceOwn IC GIt (hr.mono (by omega)) bIt passL (pv 7) po_none (po_some (pv 3)) po_none (.inr fun _ _ => rfl)) (pa_cons (pe_slice sl_str (pv 1) po_none (po_some (pv 3))) pa_nil))) (pa_cons (pe_tup (pa_cons (pe_sliceOwn IC GIt (hr.mono (by omega)) bIt passL (pv 7) po_none po_none po_none (.inr fun _ _ => rfl)) (pa_cons (pv 1) pa_nil))) pa_nil))))))
      (pss_cons (ps_set (i := 4) nd rfl (.inl rfl) (pe_op op_cat (pv 4) (pe_lst (pa_cons (pe_tup (pa_cons (pe_sliceOwn IC GIt (hr.mono (by omega)) bIt passL (pv 7) po_none po_none (po_some (pe_un un_neg pe_int)) (.inl fun _ _ => rfl)) (pa_cons (pe_stepS (pv 1) (pe_un un_neg pe_int)) pa_nil))) (pa_cons (pe_tup (pa_cons (pe_sliceOwn IC GIt (hr.mono (by omega)) bIt passL (pv 7) (po_some (pe_op op_sub (pe_un un_neg (pv 2)) pe_int)) po_none po_none (.inr fun _ _ => rfl)) (pa_cons (pe_slice sl_str (pv 1) (po_some (pe_op op_sub (pe_un un_neg (pv 2)) pe_int)) po_none) pa_nil))) pa_nil)))))
      (pss_cons (ps_if (pt_cmpR (op_neD hr.units) (pe_lc (own := [("part", 8), ("due", 9)]) (g := gTup K 2 (gCons (gName 8) (gCons (gName 9) gNil))) (te := tFld K (tVar 8) "letters") (by rfl) nd (pi_list (pv 4)) (blkOk_by (own := [("part", 8), ("due", 9)]) (N := ["pen", "row", "begin", "end", "parts", "at", "caught", "word", "part", "due", "letter"]) (sc := defScope s__law_parts_right) (by decide +kernel)) (fun _ _ _ _ _ => (pg_tup rfl (pgs_cons (pg_name (i := 8) nd rfl (Or.inl rfl)) (pgs_cons (pg_name (i := 9) nd rfl (Or.inl rfl)) pgs_nil)))) (fun _ _ _ _ _ => pts_nil) (fun _ _ _ _ _ => (pe_fld (pv 8) rfl))) (pe_lc (own := [("part", 8), ("due", 9)]) (g := gTup K 2 (gCons (gName 8) (gCons (gName 9) gNil))) (by rfl) nd (pi_list (pv 4)) (blkOk_by (own := [("part", 8), ("due", 9)]) (N := ["pen", "row", "begin", "end", "parts", "at", "caught", "word", "part", "due", "letter"]) (sc := defScope s__law_parts_right) (by decide +kernel)) (fun _ _ _ _ _ => (pg_tup rfl (pgs_cons (pg_name (i := 8) nd rfl (Or.inl rfl)) (pgs_cons (pg_name (i := 9) nd rfl (Or.inl rfl)) pgs_nil)))) (fun _ _ _ _ _ => pts_nil) (fun _ _ _ _ _ => (pv 9))) (nomark _)) (pss_one (ps_ret pe_bl)) pss_nil)
      (pss_cons (ps_if (PW.pt (pw_or (pt_cmpR (op_neD hr.units) (pe_lc (own := [("at", 5)]) (g := gName 5) (by rfl) nd (pi_range1 (by rfl) m_range (pa_cons (pe_callB call_len (by rfl) m_len PySem.boot_len (pa_cons (pv 1) pa_nil)) pa_nil)) (blkOk_by (own := [("at", 5)]) (N := ["pen", "row", "begin", "end", "parts", "at", "caught", "word", "part", "due", "letter"]) (sc := defScope s__law_parts_right) (by decide +kernel)) (fun _ _ _ _ _ => pg_name (i := 5) nd rfl (Or.inl rfl)) (fun _ _ _ _ _ => pts_nil) (fun _ _ _ _ _ => (pe_itemOwn IC GIt (hr.mono (by omega)) bIt passL (pv 7) (pv 5)))) (pe_lc (own := [("letter", 10)]) (g := gName 10) (by rfl) nd (pi_str (pv 1)) (blkOk_by (own := [("letter", 10)]) (N := ["pen", "row", "begin", "end", "parts", "at", "caught", "word", "part", "due", "letter"]) (sc := defScope s__law_parts_right) (by decide +kernel)) (fun _ _ _ _ _ => pg_name (i := 10) nd rfl (Or.inl rfl)) (fun _ _ _ _ _ => pts_nil) (fun _ _ _ _ _ => (pv 10))) (nomark _)) (pw_or1 (pt_cmpR (op_neD hr.units) (pe_lc (own := [("letter", 10)]) (g := gName 10) (by rfl) nd (pi_ownS TIt (hr.mono (by omega)) (pv 7)) (blkOk_by (own := [("letter", 10)]) (N := ["pen", "row", "begin", "end", "parts", "at", "caught", "word", "part", "due", "letter"]) (sc := defScope s__law_parts_right) (by decide +kernel)) (fun _ _ _ _ _ => pg_name (i := 10) nd rfl (Or.inl rfl)) (fun _ _ _ _ _ => pts_nil) (fun _ _ _ _ _ => (pv 10))) (pe_callTy (call_listS (by rfl)) (by rfl) m_list PyProof.Rows.boot_list (pa_cons (pv 1) pa_nil)) (nomark _))))) (pss_one (ps_ret pe_bl)) pss_nil)
      (pss_cons (ps_for PassesOwn.never rfl (pi_list (pe_lst (pa_cons (pe_op op_sub (pe_un un_neg pe_int) (pe_call G__law_draw (hr.mono (by omega)) (by rfl) g__law_draw k__law_draw b__law_draw .nil pass0 (pa_cons (pv 0) (pa_cons pe_int pa_nil)))) (pa_cons (pe_op op_add (pe_callB call_len (by rfl) m_len PySem.boot_len (pa_cons (pv 1) pa_nil)) (pe_call G__law_draw (hr.mono (by omega)) (by rfl) g__law_draw k__law_draw b__law_draw .nil pass0 (pa_cons (pv 0) (pa_cons pe_int pa_nil)))) pa_nil)))) (pg_name (i := 5) nd rfl (.inr rfl)) (pss_cons (ps_set (i := 6) nd rfl (.inl rfl) (pe_heard Hd (by rfl) TB (by rfl) hmT hu (k := k + 6) (hr.mono (by omega)) (LamX.lamS_by (sc := defScope s__law_parts_right) (by decide +kernel)) (by rfl) (fun _ _ _ _ _ => rfl) (fun _ _ _ _ E' _ _ hr' => (pe_itemOwn IC GIt (hr'.mono (by omega)) bIt (E := E') (passes_call (takes_of rfl rfl rfl rfl) fun _ _ _ _ q => q) (pv 7) (pv 5)))))
      (pss_one (ps_if (PW.pt (pw_or (pt_not (pt_val (pe_callB call_isErr (by rfl) m_isinstance boot_isinstance (pa_cons (pv 6) (pa_cons (pe_glob (v := .ref CB1) (by rfl) g_BadNumber rfl) pa_nil))))) (pw_or1 (pt_cmpR op_ne (pe_errF (pv 6)) pe_str (nomark _))))) (pss_one (ps_ret pe_bl)) pss_nil))))
      (pss_one (ps_ret (pe_and (pe_cmpR op_eq (pe_callB (call_lenOwn wn wnf GLn (hr.mono (by omega)) bLn pass0) (by rfl) m_len PySem.boot_len (pa_cons (pv 7) pa_nil)) (pe_callB call_len (by rfl) m_len PySem.boot_len (pa_cons (pv 1) pa_nil)) (nomark _)) (pe_one (pe_cmpR op_eq (pe_fld (pv 7) rfl) (pv 1) (nomark _)))))))))))), ?_⟩
    have zs : z.length ≤ sizeLine := by
      rw [sizeLine_eq]
      omega
    refine ⟨.str z, rfl, fun x dx nx nd' ne => make_q nx nd' ne fz (by omega) fun H1 s1 w1 => ⟨rfl, ?_⟩⟩
    have S1 : Sta CW p l N T x z H H1 := ⟨p0.same s1, tabs_same t0 s1, KN.of s1, w1⟩
    refine ⟨.ref p, rfl, .str z, rfl, .str z, z.length, rfl, ⟨zs, rfl⟩, _, 2, rfl, rfl, p, l, _, _, rfl, S1.pen, by omega, by omega, by omega, fun b H2 b0 b1 k2 p2 => ?_⟩
    have S2 := S1.kept k2 p2
    refine ⟨.ref p, rfl, .str z, rfl, .str z, z.length, rfl, ⟨zs, rfl⟩, _, 2, rfl, rfl, p, l, _, _, rfl, S2.pen, by omega, by omega, by omega, fun e H3 e0 e1 k3 p3 => ?_⟩
    have S3 := S2.kept k3 p3
    refine ⟨Nat.le_of_ble_eq_true rfl, fun t ht => ?_⟩
    have S4 := S3.same (same_new (o := .tup [.ref x, .int b, .int e]) ht)
    refine ⟨t, _, rfl, .inl (.inl upd_same), rfl, _, _, rfl, _, _, rfl, _, _, rfl, rfl, ?_⟩
    generalize upd H3 t (.tup [.ref x, .int b, .int e]) = H4 at S4 ⊢
    clear S1 S2 S3 p2 p3 k2 k3 w1 s1 nx nd' ne ht
    have f5 : Fine (stepS z none none (-1)).cps.toList := by
      rw [step_rev]
      exact fine_rev fz
    obtain ⟨dd1, hh1⟩ := S4.wd
    repeat trivial
    refine fun p1 hp1 => slice_q S4.wd (by omega) hp1 (fun q => nomatch q) (fun q => nomatch q) (fine_cut fz _ _) (Nat.le_trans (cutS_length _ _ _) (by omega)) fun c1 H1a nc1 s1a w1 => ?_
    have S1a := S4.same s1a
    repeat trivial
    refine fun t1 ht1 => ?_
    have s1b := same_new (o := .tup [.ref c1, .str (cutS z (some b) (some e))]) ht1
    have S1b := S1a.same s1b
    have w1 := w1.same s1b
    have g1 : upd H1a t1 (.tup [.ref c1, .str (cutS z (some b) (some e))]) t1 = some (.tup [.ref c1, .str (cutS z (some b) (some e))]) := upd_same
    generalize upd H1a t1 (.tup [.ref c1, .str (cutS z (some b) (some e))]) = H1b at *
    clear ht1 hp1 nc1 s1a s1b hh1
    obtain ⟨dd2, hh2⟩ := S1b.wd
    repeat trivial
    refine fun p2 hp2 => slice_q S1b.wd (by omega) hp2 (fun q => nomatch q) (fun q => nomatch q) (fine_cut fz _ _) (Nat.le_trans (cutS_length _ _ _) (by omega)) fun c2 H2a nc2 s2a w2 => ?_
    have S2a := S1b.same s2a
    have g1 := s2a _ _ g1
    have w1 := w1.same s2a
    repeat trivial
    refine fun t2 ht2 => ?_
    have s2b := same_new (o := .tup [.ref c2, .str (cutS z (some b) none)]) ht2
    have S2b := S2a.same s2b
    have g1 := s2b _ _ g1
    have w1 := w1.same s2b
    have w2 := w2.same s2b
    have g2 : upd H2a t2 (.tup [.ref c2, .str (cutS z (some b) none)]) t2 = some (.tup [.ref c2, .str (cutS z (some b) none)]) := upd_same
    generalize upd H2a t2 (.tup [.ref c2, .str (cutS z (some b) none)]) = H2b at *
    clear ht2 hp2 nc2 s2a s2b hh2
    obtain ⟨dd3, hh3⟩ := S2b.wd
    repeat trivial
    refine fun p3 hp3 => slice_q S2b.wd (by omega) hp3 (fun q => nomatch q) (fun q => nomatch q) (fine_cut fz _ _) (Nat.le_trans (cutS_length _ _ _) (by omega)) fun c3 H3a nc3 s3a w3 => ?_
    have S3a := S2b.same s3a
    have g1 := s3a _ _ g1
    have w1 := w1.same s3a
    have g2 := s3a _ _ g2
    have w2 := w2.same s3a
    repeat trivial
    refine fun t3 ht3 => ?_
    have s3b := same_new (o := .tup [.ref c3, .str (cutS z none (some e))]) ht3
    have S3b := S3a.same s3b
    have g1 := s3b _ _ g1
    have w1 := w1.same s3b
    have g2 := s3b _ _ g2
    have w2 := w2.same s3b
    have w3 := w3.same s3b
    have g3 : upd H3a t3 (.tup [.ref c3, .str (cutS z none (some e))]) t3 = some (.tup [.ref c3, .str (cutS z none (some e))]) := upd_same
    generalize upd H3a t3 (.tup [.ref c3, .str (cutS z none (some e))]) = H3b at *
    clear ht3 hp3 nc3 s3a s3b hh3
    obtain ⟨dd4, hh4⟩ := S3b.wd
    repeat trivial
    refine fun p4 hp4 => slice_q S3b.wd (by omega) hp4 (fun q => nomatch q) (fun q => nomatch q) (fine_cut fz _ _) (Nat.le_trans (cutS_length _ _ _) (by omega)) fun c4 H4a nc4 s4a w4 => ?_
    have S4a := S3b.same s4a
    have g1 := s4a _ _ g1
    have w1 := w1.same s4a
    have g2 := s4a _ _ g2
    have w2 := w2.same s4a
    have g3 := s4a _ _ g3
    have w3 := w3.same s4a
    repeat trivial
    refine fun t4 ht4 => ?_
    have s4b := same_new (o := .tup [.ref c4, .str (z)]) ht4
    have S4b := S4a.same s4b
    have g1 := s4b _ _ g1
    have w1 := w1.same s4b
    have g2 := s4b _ _ g2
    have w2 := w2.same s4b
    have g3 := s4b _ _ g3
    have w3 := w3.same s4b
    have w4 := w4.same s4b
    have g4 : upd H4a t4 (.tup [.ref c4, .str (z)]) t4 = some (.tup [.ref c4, .str (z)]) := upd_same
    generalize upd H4a t4 (.tup [.ref c4, .str (z)]) = H4b at *
    clear ht4 hp4 nc4 s4a s4b hh4
    repeat trivial
    refine fun D1 hD1 => ?_
    have sD := same_new (o := .lst [.ref t1, .ref t2, .ref t3, .ref t4]) hD1
    have S4c := S4b.same sD
    have g1 := sD _ _ g1
    have w1 := w1.same sD
    have g2 := sD _ _ g2
    have w2 := w2.same sD
    have g3 := sD _ _ g3
    have w3 := w3.same sD
    have g4 := sD _ _ g4
    have w4 := w4.same sD
    have gD : upd H4b D1 (.lst [.ref t1, .ref t2, .ref t3, .ref t4]) D1 = some (.lst [.ref t1, .ref t2, .ref t3, .ref t4]) := upd_same
    generalize upd H4b D1 (.lst [.ref t1, .ref t2, .ref t3, .ref t4]) = H4c at *
    clear hD1 sD
    obtain ⟨dd5, hh5⟩ := S4c.wd
    repeat trivial
    refine fun p5 hp5 => slice_q S4c.wd (by omega) hp5 (by decide) (by decide) (f5) (Nat.le_trans (step_len (.inr (.inr (.inl rfl)))) (by omega)) fun c5 H5a nc5 s5a w5 => ?_
    have S5a := S4c.same s5a
    have g1 := s5a _ _ g1
    have w1 := w1.same s5a
    have g2 := s5a _ _ g2
    have w2 := w2.same s5a
    have g3 := s5a _ _ g3
    have w3 := w3.same s5a
    have g4 := s5a _ _ g4
    have w4 := w4.same s5a
    refine ⟨.str z, rfl, 1, rfl, z, -1, rfl, rfl, by decide, by decide, Nat.le_trans (step_len (.inr (.inr (.inl rfl)))) zs, ?_⟩
    repeat trivial
    refine fun t5 ht5 => ?_
    have s5b := same_new (o := .tup [.ref c5, .str (stepS z none none (-1))]) ht5
    have S5b := S5a.same s5b
    have g1 := s5b _ _ g1
    have w1 := w1.same s5b
    have g2 := s5b _ _ g2
    have w2 := w2.same s5b
    have g3 := s5b _ _ g3
    have w3 := w3.same s5b
    have g4 := s5b _ _ g4
    have w4 := w4.same s5b
    have gD := s5b _ _ (s5a _ _ gD)
    have w5 := w5.same s5b
    have g5 : upd H5a t5 (.tup [.ref c5, .str (stepS z none none (-1))]) t5 = some (.tup [.ref c5, .str (stepS z none none (-1))]) := upd_same
    generalize upd H5a t5 (.tup [.ref c5, .str (stepS z none none (-1))]) = H5b at *
    clear ht5 hp5 nc5 s5a s5b hh5
    obtain ⟨dd6, hh6⟩ := S5b.wd
    repeat trivial
    refine fun p6 hp6 => slice_q S5b.wd (by omega) hp6 (fun q => nomatch q) (fun q => nomatch q) (fine_cut fz _ _) (Nat.le_trans (cutS_length _ _ _) (by omega)) fun c6 H6a nc6 s6a w6 => ?_
    have S6a := S5b.same s6a
    have g1 := s6a _ _ g1
    have w1 := w1.same s6a
    have g2 := s6a _ _ g2
    have w2 := w2.same s6a
    have g3 := s6a _ _ g3
    have w3 := w3.same s6a
    have g4 := s6a _ _ g4
    have w4 := w4.same s6a
    have g5 := s6a _ _ g5
    have w5 := w5.same s6a
    repeat trivial
    refine fun t6 ht6 => ?_
    have s6b := same_new (o := .tup [.ref c6, .str (cutS z (some (-b - 1)) none)]) ht6
    have S6b := S6a.same s6b
    have g1 := s6b _ _ g1
    have w1 := w1.same s6b
    have g2 := s6b _ _ g2
    have w2 := w2.same s6b
    have g3 := s6b _ _ g3
    have w3 := w3.same s6b
    have g4 := s6b _ _ g4
    have w4 := w4.same s6b
    have g5 := s6b _ _ g5
    have w5 := w5.same s6b
    have gD := s6b _ _ (s6a _ _ gD)
    have w6 := w6.same s6b
    have g6 : upd H6a t6 (.tup [.ref c6, .str (cutS z (some (-b - 1)) none)]) t6 = some (.tup [.ref c6, .str (cutS z (some (-b - 1)) none)]) := upd_same
    generalize upd H6a t6 (.tup [.ref c6, .str (cutS z (some (-b - 1)) none)]) = H6b at *
    clear ht6 hp6 nc6 s6a s6b hh6
    refine ⟨Nat.le_of_ble_eq_true rfl, fun D2 hD2 => ?_⟩
    have sD := same_new (o := .lst [.ref t5, .ref t6]) hD2
    have S7 := S6b.same sD
    have g1 := sD _ _ g1
    have w1 := w1.same sD
    have g2 := sD _ _ g2
    have w2 := w2.same sD
    have g3 := sD _ _ g3
    have w3 := w3.same sD
    have g4 := sD _ _ g4
    have w4 := w4.same sD
    have g5 := sD _ _ g5
    have w5 := w5.same sD
    have g6 := sD _ _ g6
    have w6 := w6.same sD
    have gD := sD _ _ gD
    have gE : upd H6b D2 (.lst [.ref t5, .ref t6]) D2 = some (.lst [.ref t5, .ref t6]) := upd_same
    generalize upd H6b D2 (.lst [.ref t5, .ref t6]) = H7 at *
    clear sD hD2
    refine ⟨D1, D2, _, _, rfl, rfl, gD, gE, Nat.le_of_ble_eq_true rfl, fun D3 hD3 => ?_⟩
    have sD := same_new (o := .lst ([.ref t1, .ref t2, .ref t3, .ref t4] ++ [.ref t5, .ref t6])) hD3
    have S8 := S7.same sD
    have g1 := sD _ _ g1
    have w1 := w1.same sD
    have g2 := sD _ _ g2
    have w2 := w2.same sD
    have g3 := sD _ _ g3
    have w3 := w3.same sD
    have g4 := sD _ _ g4
    have w4 := w4.same sD
    have g5 := sD _ _ g5
    have w5 := w5.same sD
    have g6 := sD _ _ g6
    have w6 := w6.same sD
    have gF : upd H7 D3 (.lst ([.ref t1, .ref t2, .ref t3, .ref t4] ++ [.ref t5, .ref t6])) D3 = some (.lst ([.ref t1, .ref t2, .ref t3, .ref t4] ++ [.ref t5, .ref t6])) := upd_same
    generalize upd H7 D3 (.lst ([.ref t1, .ref t2, .ref t3, .ref t4] ++ [.ref t5, .ref t6])) = H8 at *
    clear sD hD3 gD gE S4b S4c S5b S6b S7 S1a S1b S2a S2b S3a S3b S4a S5a S6a
    obtain ⟨L, hL⟩ : ∃ L : List (Addr × Addr × Str), L = [(t1, c1, cutS z (some b) (some e)), (t2, c2, cutS z (some b) none), (t3, c3, cutS z none (some e)), (t4, c4, z), (t5, c5, stepS z none none (-1)), (t6, c6, cutS z (some (-b - 1)) none)] := ⟨_, rfl⟩
    have eL : ([.ref t1, .ref t2, .ref t3, .ref t4] ++ [.ref t5, .ref t6] : List V) = L.map fun e => V.ref e.1 := by
      rw [hL]
      rfl
    have e4 : slS z none none none = z := cut_all z
    rw [e4] at w4
    have hA : ∀ e ∈ L, H8 e.1 = some (.tup [.ref e.2.1, .str e.2.2]) ∧ WordAt CW H8 e.2.1 e.2.2 ∧ Fine e.2.2.cps.toList := by
      rw [hL]
      intro e he
      simp only [List.mem_cons, List.not_mem_nil, or_false] at he
      rcases he with rfl | rfl | rfl | rfl | rfl | rfl
      · exact ⟨g1, w1, fine_cut fz _ _⟩
      · exact ⟨g2, w2, fine_cut fz _ _⟩
      · exact ⟨g3, w3, fine_cut fz _ _⟩
      · exact ⟨g4, w4, fz⟩
      · exact ⟨g5, w5, f5⟩
      · exact ⟨g6, w6, fine_cut fz _ _⟩
    have lL : L.length = 6 := by rw [hL]; rfl
    rw [eL] at gF
    clear g1 g2 g3 g4 g5 g6 w1 w2 w3 w4 w5 w6 hL eL e4
    refine ⟨.ref D3, rfl, D3, rfl, ⟨_, .inl (.inl gF)⟩, fun D4 hD4 => lc_list (xs := L.map fun e => V.ref e.1) (fun i H' => Same H8 H' ∧ H' D4 = some (.lst (vstrs ((L.take i).map (·.2.2))))) ⟨same_new hD4, upd_same⟩ (fun i H' _ hP => .inl (.inl (hP.1 _ _ gF))) (fun i v H' hx hP => ?_) (fun H9 hP9 => ?_)⟩
    · obtain ⟨sa, ha'⟩ := hP
      rw [List.getElem?_map] at hx
      obtain ⟨en, hen, rfl⟩ := Option.map_eq_some_iff.mp hx
      obtain ⟨gt, wt, ft⟩ := hA en (List.mem_of_getElem? hen)
      obtain ⟨dt, ht⟩ := wt
      have ti : i < 6 := by
        obtain ⟨q, _⟩ := List.getElem?_eq_some_iff.mp hen
        omega
      refine ⟨en.1, _, rfl, .inl (.inl (sa _ _ gt)), rfl, _, _, rfl, _, _, rfl, rfl, rfl, ?_⟩
      refine ⟨.ref en.2.1, rfl, en.2.1, CW, dt, _, .str en.2.2, rfl, sa _ _ ht, cl, na, rfl, _, ha', ?_, ?_, ?_⟩
      · unfold vstrs
        rw [List.length_map, List.length_map, List.length_take, sizeLine_eq]
        omega
      · exact fun b u eb => by
          rw [upd_ne (ne_of_none eb hD4)]
          exact sa b u eb
      · rw [upd_same, List.take_add_one, hen]
        unfold vstrs
        rw [List.map_append, List.map_append]
        rfl
    · obtain ⟨s9, h9⟩ := hP9
      rw [List.length_map, List.take_length] at h9
      have gF := s9 _ _ gF
      refine ⟨.ref D3, rfl, D3, rfl, ⟨_, .inl (.inl gF)⟩, fun D5 hD5 => lc_list (xs := L.map fun e => V.ref e.1) (fun i H' => Same H9 H' ∧ H' D5 = some (.lst (vstrs ((L.take i).map (·.2.2))))) ⟨same_new hD5, upd_same⟩ (fun i H' _ hP => .inl (.inl (hP.1 _ _ gF))) (fun i v H' hx hP => ?_) (fun H10 hP10 => ?_)⟩
      · obtain ⟨sa, ha'⟩ := hP
        rw [List.getElem?_map] at hx
        obtain ⟨en, hen, rfl⟩ := Option.map_eq_some_iff.mp hx
        obtain ⟨gt, wt, ft⟩ := hA en (List.mem_of_getElem? hen)
        have ti : i < 6 := by
          obtain ⟨q, _⟩ := List.getElem?_eq_some_iff.mp hen
          omega
        refine ⟨en.1, _, rfl, .inl (.inl (sa _ _ (s9 _ _ gt))), rfl, _, _, rfl, _, _, rfl, rfl, rfl, .str en.2.2, rfl, _, ha', ?_, ?_, ?_⟩
        · unfold vstrs
          rw [List.length_map, List.length_map, List.length_take, sizeLine_eq]
          omega
        · exact fun b u eb => by
            rw [upd_ne (ne_of_none eb hD5)]
            exact sa b u eb
        · rw [upd_same, List.take_add_one, hen]
          unfold vstrs
          rw [List.map_append, List.map_append]
          rfl
      · obtain ⟨s10, h10⟩ := hP10
        rw [List.length_map, List.take_length] at h10
        have pl : ∀ v ∈ L.map (·.2.2), Plain v := fun v hv => by
          obtain ⟨en, hen, rfl⟩ := List.mem_map.mp hv
          exact plain_fine (fine_word (hA en hen).2.2)
        refine ⟨.list (dstrs (L.map (·.2.2))), .list (dstrs (L.map (·.2.2))), .lst (.inl (.inl (s10 _ _ h9))) (dp_texts _), .lst (.inl (.inl h10)) (dp_texts _), shaped_texts pl, shaped_texts pl, _, rfl, ?_⟩
        have ev : PyData.eqv (.list (dstrs (L.map (·.2.2)))) (.list (dstrs (L.map (·.2.2)))) = true := eqv_texts _
        rw [ev]
        refine iteF ?_
        have S10 := S8.same (s9.trans s10)
        clear h9 h10 gF hA s9 s10 ev pl S8 hD5 hD4
        obtain ⟨dx8, hx8⟩ := S10.wd
        refine ⟨.str z, rfl, .str z, z.length, rfl, ⟨zs, rfl⟩, _, rfl, by omega, by omega, fun D6 hD6 => lc_it walk_range (fun i H' => Same H10 H' ∧ H' D6 = some (.lst (ones (z.cps.toList.take i)))) ⟨same_new hD6, upd_same⟩ (fun _ _ _ _ => .intro) (fun i v H' H'' hi hP hY => ?_) (fun H11 hP11 => ?_)⟩
        · obtain ⟨sa, ha'⟩ := hP
          obtain ⟨rfl, rfl⟩ := hY
          have i0 : (0 : Int) + (i : Int) = ((i : Nat) : Int) := by omega
          obtain ⟨c', hc'⟩ : ∃ c', z.cps.toList[i]? = some c' := ⟨_, List.getElem?_eq_getElem (by have : z.cps.toList.length = z.length := rfl; omega)⟩
          refine ⟨rfl, ?_⟩
          refine ⟨.ref x, rfl, _, rfl, x, dx8, _, rfl, sa _ _ hx8, x, z, _, rfl, ⟨dx8, sa _ _ hx8⟩, by omega, .inl ⟨i, c', congrArg V.int i0, hc', _, ha', ?_, ?_, ?_⟩⟩
          · unfold ones
            rw [List.length_map, List.length_take, sizeLine_eq]
            omega
          · exact fun b u eb => by
              rw [upd_ne (ne_of_none eb hD6)]
              exact sa b u eb
          · rw [upd_same, List.take_add_one, hc']
            unfold ones
            rw [List.map_append]
            rfl
        · obtain ⟨s11, h11⟩ := hP11
          have full : z.cps.toList.take z.length = z.cps.toList := List.take_of_length_le (Nat.le_refl _)
          rw [Int.toNat_natCast, full] at h11
          refine ⟨.str z, rfl, z, rfl, fun D7 hD7 => lc_it walk_str (fun i H' => Same H11 H' ∧ H' D7 = some (.lst (ones (z.cps.toList.take i)))) ⟨same_new hD7, upd_same⟩ (fun _ _ _ _ => .intro) (fun i v H' H'' hi hP hY => ?_) (fun H12 hP12 => ?_)⟩
          · obtain ⟨sa, ha'⟩ := hP
            obtain ⟨rfl, c', hc', rfl⟩ := hY
            have hc2 : z.cps.toList[i]? = some c' := by rw [Array.getElem?_toList]; exact hc'
            refine ⟨rfl, _, rfl, _, ha', ?_, ?_, ?_⟩
            · unfold ones
              rw [List.length_map, List.length_take, sizeLine_eq]
              have : z.cps.toList.length = z.length := rfl
              omega
            · exact fun b u eb => by
                rw [upd_ne (ne_of_none eb hD7)]
                exact sa b u eb
            · rw [upd_same, List.take_add_one, hc2]
              unfold ones
              rw [List.map_append]
              rfl
          · obtain ⟨s12, h12⟩ := hP12
            rw [show z.cps.toList.take z.cps.size = z.cps.toList from full] at h12
            have ov : ones z.cps.toList = vstrs (z.cps.toList.map s1) := by
              unfold ones vstrs
              rw [List.map_map]
              rfl
            have pz := plain_ones fz.1
            have ev : PyData.eqv (.list (dstrs (z.cps.toList.map s1))) (.list (dstrs (z.cps.toList.map s1))) = true := eqv_texts _
            refine ⟨.list (dstrs (z.cps.toList.map s1)), .list (dstrs (z.cps.toList.map s1)), .lst (.inl (.inl (by rw [← ov]; exact s12 _ _ h11))) (dp_texts _), .lst (.inl (.inl (by rw [← ov]; exact h12))) (dp_texts _), shaped_texts pz, shaped_texts pz, _, rfl, ?_⟩
            rw [ev]
            refine iteF ?_
            have S12 := S10.same (s11.trans s12)
            clear h11 h12 s11 s12 S10 hx8
            obtain ⟨dx9, hx9⟩ := S12.wd
            refine ⟨.ref x, rfl, x, dx9, z, rfl, hx9, fun D8 hD8 => lc_it walk_str (fun i H' => Same H12 H' ∧ H' D8 = some (.lst (ones (z.cps.toList.take i)))) ⟨same_new hD8, upd_same⟩ (fun _ _ _ _ => .intro) (fun i v H' H'' hi hP hY => ?_) (fun H13 hP13 => ?_)⟩
            · obtain ⟨sa, ha'⟩ := hP
              obtain ⟨rfl, c', hc', rfl⟩ := hY
              have hc2 : z.cps.toList[i]? = some c' := by rw [Array.getElem?_toList]; exact hc'
              refine ⟨rfl, _, rfl, _, ha', ?_, ?_, ?_⟩
              · unfold ones
                rw [List.length_map, List.length_take, sizeLine_eq]
                have : z.cps.toList.length = z.length := rfl
                omega
              · exact fun b u eb => by
                  rw [upd_ne (ne_of_none eb hD8)]
                  exact sa b u eb
              · rw [upd_same, List.take_add_one, hc2]
                unfold ones
                rw [List.map_append]
                rfl
            · obtain ⟨s13, h13⟩ := hP13
              rw [show z.cps.toList.take z.cps.size = z.cps.toList from full] at h13
              refine ⟨.str z, rfl, z, rfl, zs, fun D9 hD9 => ?_⟩
              have s14 := same_new (o := .lst (ones z.cps.toList)) hD9
              refine ⟨.list (dstrs (z.cps.toList.map s1)), .list (dstrs (z.cps.toList.map s1)), .lst (.inl (.inl (by rw [← ov]; exact s14 _ _ h13))) (dp_texts _), .lst (.inl (.inl (by rw [← ov]; exact upd_same))) (dp_texts _), shaped_texts pz, shaped_texts pz, _, rfl, ?_⟩
              rw [ev]
              refine iteF ?_
              have S13 := S12.same (s13.trans s14)
              generalize upd H13 D9 (.lst (ones z.cps.toList)) = H14 at *
              clear h13 s13 s14 S12 hx9 ev pz ov hD9 hD8 hD7 hD6
              refine ⟨1, rfl, .ref p, rfl, p, l, _, 4, rfl, S13.pen, by omega, by decide, by decide, fun d1 H15 d10 d11 k15 p15 => ?_⟩
              have S15 := S13.kept k15 p15
              refine ⟨_, _, rfl, rfl, .str z, rfl, .str z, z.length, rfl, ⟨zs, rfl⟩, .ref p, rfl, p, l, _, 3, rfl, S15.pen, by omega, by decide, by decide, fun d2 H16 d20 d21 k16 p16 => ?_⟩
              have S16 := S15.kept k16 p16
              refine ⟨_, _, rfl, rfl, Nat.le_of_ble_eq_true rfl, fun D10 hD10 => ?_⟩
              have s17 := same_new (o := .lst [.int (- 1 - d1), .int ((z.length : Nat) + d2)]) hD10
              have S17 := S16.same s17
              have gL : upd H16 D10 (.lst [.int (- 1 - d1), .int ((z.length : Nat) + d2)]) D10 = some (.lst [.int (- 1 - d1), .int ((z.length : Nat) + d2)]) := upd_same
              generalize upd H16 D10 (.lst [.int (- 1 - d1), .int ((z.length : Nat) + d2)]) = H17 at *
              clear s17 S13 S15 S16 k15 k16 p15 p16 hD10
              refine ⟨D10, rfl, ⟨_, .inl (.inl gL)⟩, for_it (walk_list (xs := [.int (- 1 - d1), .int ((z.length : Nat) + d2)])) (fun i σ H' => ∃ y5 y6, σ = [some (.ref p), some (.str z), some (.int b), some (.int e), some (.ref D3), y5, y6, some (.ref x), none, none, none] ∧ H' D10 = some (.lst [.int (- 1 - d1), .int ((z.length : Nat) + d2)]) ∧ Sta CW p l (N + 1 + 1 + 1 + 1) T x z H H')
                ⟨none, none, rfl, gL, S17⟩ (fun i σ H' _ hPv => ?_) (fun i v σ Ha Hb hi hPv hY => ?_) (fun σ H' hPv => ?_)⟩
              · obtain ⟨y5, y6, rfl, gL, _⟩ := hPv
                exact .inl (.inl gL)
              · obtain ⟨y5, y6, rfl, gL, Sa⟩ := hPv
                obtain ⟨rfl, hx⟩ := hY
                obtain ⟨at_, rfl, hat⟩ : ∃ at_ : Int, v = .int at_ ∧ (at_ < 0 ∨ ((z.length : Nat) : Int) ≤ at_) := by
                  match i, hi, hx with
                  | 0, _, hx =>
                    cases hx
                    exact ⟨_, rfl, .inl (by omega)⟩
                  | 1, _, hx =>
                    cases hx
                    exact ⟨_, rfl, .inr (by omega)⟩
                refine ⟨Sa.tab, fun H5 e5 t5 => ?_⟩
                have S5 := Sa.ext e5 t5
                have gL5 := e5 _ _ gL (fun _ z => nomatch z)
                obtain ⟨dx5, hx5⟩ := S5.wd
                refine ⟨.ref x, rfl, .int at_, rfl, x, dx5, _, rfl, hx5, x, z, .int at_, rfl, ⟨dx5, hx5⟩, by omega, .inr (.inl ⟨at_, rfl, hat, fun d8 hd8 => ⟨true, xm1, (fun z => nomatch z), fun _ => ⟨CB1, d8, rfl, rfl, fun a8 ha8 => ?_⟩⟩⟩)⟩
                obtain ⟨hA8, hD8, se8⟩ := err_put (C := CB1) hd8 ha8
                have S8 := S5.same se8
                have gL8 := se8 _ _ gL5
                have fld := xd_fld "part" (V.str "at")
                refine ⟨.ref a8, rfl, a8, CB1, d8, CB1, _, true, rfl, hA8, hD8, E1.ec, kit_self, true, rfl, iteF ?_⟩
                refine ⟨.ref a8, rfl, a8, CB1, d8, _, .str "at", rfl, hA8, hD8, E1.ec, E1.no, fld, rfl, _, rfl, ?_⟩
                rw [decide_eq_true rfl]
                exact iteF ⟨_, _, rfl, gL8, S8⟩
              · obtain ⟨y5, y6, rfl, gL, Sa⟩ := hPv
                obtain ⟨dx5, hx5⟩ := Sa.wd
                refine ⟨.ref x, rfl, x, dx5, _, rfl, hx5, x, z, rfl, ⟨dx5, hx5⟩, by omega, _, rfl, by omega, by omega, .str z, rfl, .str z, z.length, rfl, ⟨zs, rfl⟩, rfl, ?_⟩
                rw [decide_eq_true rfl]
                refine ⟨true, rfl, iteT ⟨.ref x, rfl, x, CW, dx5, _, .str z, rfl, hx5, cl, na, rfl, .str z, rfl, rfl, ?_⟩⟩
                rw [decide_eq_true rfl]
                exact q _ Sa.kn Sa.tab (Sa.pen.mono (by omega))
end
end K03
-- K03I4
namespace K03
open PySem PySem.Spec PyProof.Rows L2 SB
def isBad (l : List Nat) (j : Nat) : Bool := match l[j]?, l[j + 1]? with
  | some d, some c => decide (c = up d)
  | _, _ => false
theorem bad_at {l : List Nat} {j c d : Nat} (hd : l[j]? = some d) (hc : l[j + 1]? = some c) : isBad l j = decide (c = up d) := by
  unfold isBad
  rw [hd, hc]
theorem bad_lt {l : List Nat} {j : Nat} (h : isBad l j = true) : j + 1 < l.length := by
  unfold isBad at h
  cases e1 : l[j]? with
  | none => rw [e1] at h; cases h
  | some d =>
    cases e2 : l[j + 1]? with
    | none => rw [e1, e2] at h; cases h
    | some c =>
      obtain ⟨q, _⟩ := List.getElem?_eq_some_iff.mp e2
      exact q
theorem bad_cons (c : Nat) (r : List Nat) (j : Nat) : isBad (c :: r) (j + 1) = isBad r j := rfl
theorem fault_bad : ∀ (l : List Nat) (p : Option Nat) (i k : Nat), allL l → faultFrom p i l = some k → (∃ c, l[0]? = some c ∧ some (up c) = p ∧ k = i) ∨ ((∀ c, l[0]? = some c → some (up c) ≠ p) ∧ ∃ j, k = i + (j + 1) ∧ isBad l j = true ∧ ∀ j', j' < j → isBad l j' = false)
  | [], p, i, k, _, h => by cases h
  | c :: r, p, i, k, hL, h => by
    have cL := hL c List.mem_cons_self
    have rL : allL r := fun d hd => hL d (List.mem_cons_of_mem _ hd)
    have h' : (if isL c = false ∨ some (up c) = p then some i else faultFrom (some c) (i + 1) r) = some k := h
    by_cases e : isL c = false ∨ some (up c) = p
    · rw [if_pos e] at h'
      cases h'
      rcases e with e | e
      · rw [cL] at e
        cases e
      · exact .inl ⟨c, rfl, e, rfl⟩
    · rw [if_neg e] at h'
      refine .inr ⟨fun d hd => ?_, ?_⟩
      · cases hd
        exact fun q => e (.inr q)
      · rcases fault_bad r (some c) (i + 1) k rL h' with ⟨d, hd, ed, rfl⟩ | ⟨n0, j, rfl, bj, mn⟩
        · refine ⟨0, by omega, ?_, fun j' hj => absurd hj (Nat.not_lt_zero _)⟩
          have dL := rL d (List.mem_of_getElem? hd)
          rw [bad_at (l := c :: r) (j := 0) (d := c) (c := d) rfl hd]
          refine decide_eq_true ?_
          rw [← Option.some.inj ed, up_up d dL]
        · refine ⟨j + 1, by omega, bj, fun j' hj => ?_⟩
          cases j' with
          | zero =>
            cases hr : r[0]? with
            | none =>
              unfold isBad
              show (match (c :: r)[0]?, r[0]? with | some d, some c => decide (c = up d) | _, _ => false) = false
              rw [hr]
              rfl
            | some d =>
              rw [bad_at (l := c :: r) (j := 0) (d := c) (c := d) rfl hr]
              refine decide_eq_false fun q => n0 d hr ?_
              rw [q, up_up c cL]
          | succ j' => exact mn j' (by omega)
theorem steps_math {l : List Nat} (hL : allL l) : ((List.range (l.length - 1)).filter (isBad l) = [] ∧ fault l = none) ∨ ∃ j0 r, (List.range (l.length - 1)).filter (isBad l) = j0 :: r ∧ fault l = some (j0 + 1) := by
  cases hf : fault l with
  | none =>
    refine .inl ⟨?_, rfl⟩
    have f := flat_chain.mp ((fault_iff l).mp hf).2
    refine List.filter_eq_nil_iff.mpr fun j hj hb => ?_
    have lt := bad_lt hb
    have h1 : l[j]? = some l[j] := List.getElem?_eq_getElem (by omega)
    have h2 : l[j + 1]? = some l[j + 1] := List.getElem?_eq_getElem lt
    rw [bad_at h1 h2] at hb
    exact f _ _ _ h1 h2 (of_decide_eq_true hb)
  | some k =>
    right
    rcases fault_bad l none 0 k hL hf with ⟨c, _, e, _⟩ | ⟨_, j, rfl, bj, mn⟩
    · cases e
    · have lt := bad_lt bj
      have mem : j ∈ (List.range (l.length - 1)).filter (isBad l) := List.mem_filter.mpr ⟨List.mem_range.mpr (by omega), bj⟩
      cases hF : (List.range (l.length - 1)).filter (isBad l) with
      | nil => rw [hF] at mem; cases mem
      | cons j0 r =>
        have h0 : (List.range (l.length - 1)).find? (isBad l) = some j0 := by
          rw [← List.head?_filter, hF]
          rfl
        have h1 : isBad l j0 = true := List.find?_some h0
        have h2 : ¬ j < j0 := fun q => by
          have := (List.find?_range_eq_some.mp h0).2.2 j q
          rw [bj] at this
          cases this
        have h3 : ¬ j0 < j := fun q => by
          rw [mn j0 q] at h1
          cases h1
        have : j0 = j := by omega
        subst this
        exact ⟨j0, r, rfl, by congr 1; omega⟩
end K03
-- K03I5
namespace K03
open PySem PySem.Spec PyProof.Rows L2 SB
/-- the bad places of a row, each one on -/
def badAt (l : List Nat) (n : Nat) : List Int := ((List.range n).filter (isBad l)).map fun j => ((j : Nat) : Int) + 1
theorem badAt_succ (l : List Nat) (n : Nat) : badAt l (n + 1) = badAt l n ++ (if isBad l n = true then [((n : Nat) : Int) + 1] else []) := by
  unfold badAt
  rw [List.range_succ, List.filter_append, List.map_append]
  congr 1
  by_cases h : isBad l n = true
  · rw [if_pos h, List.filter_cons_of_pos h]
    rfl
  · rw [if_neg h, List.filter_cons_of_neg h]
    rfl
theorem badAt_len (l : List Nat) (n : Nat) : (badAt l n).length ≤ n := by
  unfold badAt
  rw [List.length_map]
  exact Nat.le_trans (List.length_filter_le _ _) (by rw [List.length_range]; exact Nat.le_refl n)
section
variable {P : Program} {w : World} {K : PySem.W.Frag} {mg : Str → Option Value} {base : Heap}
theorem ok_law_steps_right {T : List (Addr × Str)} {f c Pt CB CB1 CB2 CM CW fB2 f__law_pick f__law_undo : Addr} {fd d__law_pick d__law_undo : FuncData} {k : Nat} (F : FunT K "_law_steps_right" "_law_steps_right" s__law_steps_right f c fd) (Hd : Heard K mg CB)
    (TB : LamX.TabB base mg c Pt) (hmT : (Pt, lq "_law_steps_right") ∈ T) (hu : ∀ p ∈ T, p.1 = Pt → p.2 = lq "_law_steps_right")
    (MO : MakeOk P w K mg base CW CB2 CM k) (OO : OpsOk P w K mg base CW CB1 CB2 k) (E2 : Err1 K mg "BadWord" "at" CB2 fB2) (xm2 : PySem.W.exmOne K (.ref CB2) (.ref CB) = some true)
    (G__law_pick : FnOk P w K mg base CX0 (k + 2) f__law_pick d__law_pick ["pen", "some"] (spPick K)) (g__law_pick : mg "_law_pick" = some (.ref f__law_pick)) (k__law_pick : PySem.W.keepIn K (.ref f__law_pick) = true) (b__law_pick : Binds K d__law_pick ["pen", "some"] [])
    (G__law_undo : FnOk P w K mg base CX0 (k + 2) f__law_undo d__law_undo ["letter"] spUndo) (g__law_undo : mg "_law_undo" = some (.ref f__law_undo)) (k__law_undo : PySem.W.keepIn K (.ref f__law_undo) = true) (b__law_undo : Binds K d__law_undo ["letter"] [])
    (m_isinstance : mg "isinstance" = none) (m_len : mg "len" = none) (m_range : mg "range" = none) : FnOk P w K mg base CX0 (k + 9) f fd ["pen", "row"] (spParts T) := by
  obtain ⟨fW, fdW, tE, M, GW, bW, bW0, rE⟩ := MO.word
  obtain ⟨fIt, fdIt, IC, GIt, bIt⟩ := OO.it_
  have gW := MO.gW
  have cl := MO.cl
  have na := MO.na
  have g_BadWord := E2.at_
  refine F.ok sc__law_steps_right (fun vs H Q E h => ?_) (fun A outer s H vs Q E hr h => ?_)
  · obtain ⟨p, l, N, z, rfl, _⟩ := h
    rfl
  · obtain ⟨p, l, N, z, rfl, p0, hN, t0, fz, lz, q⟩ := h
    have nd := sc__law_steps_right.nd
    refine ⟨_, (pss_cons (ps_asg (pe_tup (pa_cons (pe_make M GW (hr.mono (by omega)) (by rfl) gW bW .nil passL (pa_cons (pv 1) pa_nil)) (pa_cons (pe_call G__law_pick (hr.mono (by omega)) (by rfl) g__law_pick k__law_pick b__law_pick .nil pass0 (pa_cons (pv 0) (pa_cons (pe_lst (pa_cons pe_int (pa_cons pe_int (pa_cons (pe_un un_neg pe_int) (pa_cons (pe_un un_neg pe_int) pa_nil))))) pa_nil))) pa_nil))) (pg_tup rfl (pgs_cons (pg_name (i := 6) nd rfl (.inr rfl)) (pgs_cons (pg_name (i := 5) nd rfl (.inr rfl)) pgs_nil))))
      (pss_cons (ps_set (i := 2) nd rfl (.inr rfl) (pe_stepS (pv 1) (pv 5)))
      (pss_cons (ps_setLc (i := 3) (own := [("at", 7)]) (g := gName 7) (by rfl) nd rfl rfl (sw_true rfl rfl rfl (by decide +kernel)) (pi_range2 (by rfl) m_range (pa_cons pe_int (pa_cons (pe_callB call_len (by rfl) m_len PySem.boot_len (pa_cons (pv 2) pa_nil)) pa_nil))) (blkOk_by (own := [("at", 7)]) (N := ["pen", "row", "due", "wrong", "caught", "step", "word", "at"]) (sc := defScope s__law_steps_right) (by decide +kernel)) (fun _ _ _ _ _ => pg_name (i := 7) nd rfl (Or.inl rfl)) (fun _ _ _ _ _ => (pts_one (pt_cmpR op_eq (pe_ix ix_str (pv 2) (pv 7) (fun _ _ => rfl)) (pe_call G__law_undo (hr.mono (by omega)) (by rfl) g__law_undo k__law_undo b__law_undo .nil pass0 (pa_cons (pe_ix ix_str (pv 2) (pe_op op_sub (pv 7) pe_int) (fun _ _ => rfl)) pa_nil)) (nomark _)))) (fun _ _ _ _ _ => (pv 7)))
      (pss_cons (ps_if (pt_cmpR (op_eqD hr.units) (pv 3) (pe_lst pa_nil) (nomark _)) (pss_one (ps_ret (pe_cmpR op_eq (pe_fld (pe_sliceOwn IC GIt (hr.mono (by omega)) bIt passL (pv 6) po_none po_none (po_some (pv 5)) (.inl fun _ _ => rfl)) rfl) (pv 2) (nomark _)))) pss_nil)
      (pss_cons (ps_set (i := 4) nd rfl (.inl rfl) (pe_heard Hd (by rfl) TB (by rfl) hmT hu (k := k + 6) (hr.mono (by omega)) (LamX.lamS_by (sc := defScope s__law_steps_right) (by decide +kernel)) (by rfl) (fun _ _ _ _ _ => rfl) (fun _ _ _ _ E' _ _ hr' => (pe_sliceOwn IC GIt (hr'.mono (by omega)) bIt (E := E') (passes_call (takes_of rfl rfl rfl rfl) fun _ _ _ _ q => q) (pv 6) po_none po_none (po_some (pv 5)) (.inl fun _ _ => rfl)))))
      (pss_one (ps_ret (pe_and (pe_callB call_isErr (by rfl) m_isinstance boot_isinstance (pa_cons (pv 4) (pa_cons (pe_glob (v := .ref CB2) (by rfl) g_BadWord rfl) pa_nil))) (pe_one (pe_cmpR op_eq (pe_errF (pv 4)) (pe_ix ix_list (pv 3) pe_int (fun _ _ => rfl)) (nomark _))))))))))), ?_⟩
    have zs : z.length ≤ sizeLine := by
      rw [sizeLine_eq]
      omega
    refine ⟨.str z, rfl, fun x dx nx nd' ne => make_q nx nd' ne fz (by omega) fun H1 s1 w1 => ⟨rfl, ?_⟩⟩
    have S1 : Sta CW p l N T x z H H1 := ⟨p0.same s1, tabs_same t0 s1, KN.of s1, w1⟩
    refine ⟨.ref p, rfl, 1, rfl, 2, rfl, Nat.le_of_ble_eq_true rfl, fun a ha => ?_⟩
    have S2 := S1.same (same_new (o := .lst [.int 2, .int 3, .int (-1), .int (-2)]) ha)
    have pa : a ≠ p := S1.pen.ne_p ha
    refine ⟨p, l, .ref a, _, _, rfl, S2.pen, by omega, .inl ⟨a, rfl, .inl (.inl upd_same), pa⟩, by decide, by decide, fun y H3 hy k3 p3 => ?_⟩
    have S3 := S2.kept k3 p3
    obtain ⟨st, rfl, hst⟩ : ∃ st : Int, y = .int st ∧ (st = 2 ∨ st = 3 ∨ st = -1 ∨ st = -2) := by
      simp only [List.mem_cons, List.not_mem_nil, or_false] at hy
      rcases hy with rfl | rfl | rfl | rfl
      · exact ⟨_, rfl, .inl rfl⟩
      · exact ⟨_, rfl, .inr (.inl rfl)⟩
      · exact ⟨_, rfl, .inr (.inr (.inl rfl))⟩
      · exact ⟨_, rfl, .inr (.inr (.inr rfl))⟩
    have st0 : st ≠ 0 := by rcases hst with rfl | rfl | rfl | rfl <;> decide
    have st1 : st ≠ 1 := by rcases hst with rfl | rfl | rfl | rfl <;> decide
    have ld := step_len (z := z) hst
    refine ⟨Nat.le_of_ble_eq_true rfl, fun t ht => ?_⟩
    have S4 := S3.same (same_new (o := .tup [.ref x, .int st]) ht)
    refine ⟨t, _, rfl, .inl (.inl upd_same), rfl, _, _, rfl, _, _, rfl, rfl, ?_⟩
    generalize upd H3 t (.tup [.ref x, .int st]) = H4 at S4 ⊢
    clear S1 S2 S3 p3 k3 w1 s1 nx nd' ne ht ha pa
    obtain ⟨D, hD⟩ : ∃ D : Str, D = stepS z none none st := ⟨_, rfl⟩
    have lD : D.length ≤ z.length := by rw [hD]; exact ld
    have DL : allL D.cps.toList := fun c hc => fz.1 c (by rw [hD] at hc; exact step_mem hc)
    have Ds : D.length ≤ sizeLine := Nat.le_trans lD zs
    have hl : D.cps.toList.length = D.length := rfl
    refine ⟨.str z, rfl, .int st, rfl, z, st, rfl, rfl, st0, st1, by rw [← hD]; exact Ds, ?_⟩
    rw [← hD]
    refine ⟨.str D, rfl, .str D, D.length, rfl, ⟨Ds, rfl⟩, 1, _, rfl, ⟨by decide, by decide, by omega, by omega⟩, fun W hW => lc_it (walk_range (lo := 1)) (fun i H' => Same H4 H' ∧ H' W = some (.lst ((badAt D.cps.toList i).map V.int))) ⟨same_new hW, upd_same⟩ (fun _ _ _ _ => .intro) (fun i v H' H'' hi hP hY => ?_) (fun H5 hP5 => ?_)⟩
    · obtain ⟨sa, ha'⟩ := hP
      obtain ⟨rfl, rfl⟩ := hY
      have lt : i + 1 < D.length := by omega
      have h1 : D.cps.toList[i]? = some D.cps.toList[i] := List.getElem?_eq_getElem (by omega)
      have h2 : D.cps.toList[i + 1]? = some D.cps.toList[i + 1] := List.getElem?_eq_getElem (by omega)
      generalize D.cps.toList[i] = d at h1
      generalize D.cps.toList[i + 1] = c' at h2
      have dL := DL d (List.mem_of_getElem? h1)
      have e1 : (1 : Int) + (i : Int) = ((i + 1 : Nat) : Int) := by omega
      have e2 : (1 : Int) + (i : Int) - 1 = ((i : Nat) : Int) := by omega
      have eb := bad_at h1 h2
      have es := badAt_succ D.cps.toList i
      have ll := badAt_len D.cps.toList i
      refine ⟨rfl, .str D, rfl, _, rfl, D, _, c', rfl, rfl, Ds, by rw [e1]; exact atI_nat h2, .str D, rfl, _, rfl, _, 1, rfl, rfl, D, _, d, rfl, rfl, Ds, by rw [e2]; exact atI_nat h1, d, rfl, dL, rfl, _, rfl, ?_⟩
      have ev : decide (V.str (s1 c') = V.str (s1 (up d))) = isBad D.cps.toList i := by
        rw [eb]
        exact decide_eq_decide.mpr ⟨fun q => s1_inj (V.str.inj q), fun q => by rw [q]⟩
      rw [ev]
      by_cases hb : isBad D.cps.toList i = true
      · rw [hb]
        rw [if_pos hb] at es
        refine iteT ⟨_, rfl, _, ha', ?_, ?_, ?_⟩
        · rw [List.length_map, sizeLine_eq]
          omega
        · exact fun b u eb' => by
            rw [upd_ne (ne_of_none eb' hW)]
            exact sa b u eb'
        · rw [upd_same, es, List.map_append]
          have e3 : (1 : Int) + (i : Int) = ((i : Nat) : Int) + 1 := by omega
          show some (HO.lst (_ ++ [V.int (1 + (i : Int))])) = _
          rw [e3]
          rfl
      · rw [Bool.eq_false_iff.mpr hb]
        rw [if_neg hb, List.append_nil] at es
        refine iteF ⟨sa, ?_⟩
        rw [es]
        exact ha'
    · obtain ⟨s5, h5⟩ := hP5
      have em : ((D.length : Nat) - 1 : Int).toNat = D.length - 1 := by omega
      rw [em] at h5
      have S5 := S4.same s5
      refine ⟨_, rfl, Nat.le_of_ble_eq_true rfl, fun D0 hD0 => ?_⟩
      have s6 := same_new (o := .lst []) hD0
      have S6 := S5.same s6
      have h6 := s6 _ _ h5
      have h0 : upd H5 D0 (.lst []) D0 = some (.lst []) := upd_same
      generalize upd H5 D0 (.lst []) = H6 at *
      clear s5 s6 h5 S4 S5 hD0 hW
      refine ⟨.list ((badAt D.cps.toList (D.length - 1)).map PyData.int), .list [], .lst (.inl (.inl h6)) (dp_nums _), .lst (.inl (.inl h0)) .nil, shaped_nums _, by decide +kernel, _, rfl, ?_⟩
      rw [eqv_empty]
      have eS : slS z none none (some st) = D := hD.symm
      rcases steps_math DL with ⟨e0, ef⟩ | ⟨j0, r, e0, ef⟩
      · have eB : badAt D.cps.toList (D.length - 1) = [] := by
          unfold badAt
          rw [show D.length - 1 = D.cps.toList.length - 1 from rfl, e0]
          rfl
        rw [decide_eq_true eB]
        obtain ⟨dx6, hx6⟩ := S6.wd
        refine iteT ⟨.ref x, rfl, .int st, rfl, st, rfl, x, dx6, _, rfl, hx6, fun p1 hp1 => slice_q ⟨dx6, hx6⟩ (by omega) hp1 (fun q => st0 (Option.some.inj q)) (fun q => st1 (Option.some.inj q)) (by rw [eS]; exact (fine_iff _).mp ef) (by rw [eS]; omega) fun c7 H7 nc s7 w7 => ?_⟩
        rw [eS] at w7
        obtain ⟨d7, h7⟩ := w7
        refine ⟨c7, CW, d7, _, .str D, rfl, h7, cl, na, rfl, .str D, rfl, rfl, ?_⟩
        rw [decide_eq_true rfl]
        have S7 := S6.same s7
        exact q _ S7.kn S7.tab (S7.pen.mono (by omega))
      · have eB : badAt D.cps.toList (D.length - 1) = (((j0 : Nat) : Int) + 1) :: r.map fun j => ((j : Nat) : Int) + 1 := by
          unfold badAt
          rw [show D.length - 1 = D.cps.toList.length - 1 from rfl, e0]
          rfl
        rw [decide_eq_false (by rw [eB]; exact fun q => nomatch q)]
        refine iteF ?_
        refine ⟨S6.tab, fun H8 e8 t8 => ?_⟩
        have S8 := S6.ext e8 t8
        have h8 := e8 _ _ h6 (fun _ z => nomatch z)
        obtain ⟨dx8, hx8⟩ := S8.wd
        refine ⟨.ref x, rfl, .int st, rfl, st, rfl, x, dx8, _, rfl, hx8, fun p1 hp1 => ?_⟩
        have sp := same_new (o := slO p1 none none (some st)) hp1
        refine ⟨x, z, .ref p1, rfl, ⟨dx8, sp _ _ hx8⟩, by omega, .inr (.inr ⟨p1, none, none, some st, rfl, upd_same, fun q => st0 (Option.some.inj q), fun q => st1 (Option.some.inj q), by rw [eS]; omega, fun i hi H9 d9 s9 hd9 => ?_, fun e => ?_⟩)⟩
        · rw [eS, ef] at hi
          cases hi
          refine ⟨true, xm2, (fun z => nomatch z), fun _ => ⟨CB2, d9, rfl, rfl, fun a9 ha9 => ?_⟩⟩
          obtain ⟨hA9, hD9, se9⟩ := err_put (C := CB2) hd9 ha9
          have S9 := S8.same (sp.trans (s9.trans se9))
          have h9 := se9 _ _ (s9 _ _ (sp _ _ h8))
          have fld := xd_fld "at" (V.int ((j0 + 1 : Nat) : Int))
          refine ⟨.ref a9, rfl, a9, CB2, d9, CB2, _, true, rfl, hA9, hD9, E2.ec, kit_self, true, rfl, iteT ?_⟩
          refine ⟨.ref a9, rfl, a9, CB2, d9, _, .int ((j0 + 1 : Nat) : Int), rfl, hA9, hD9, E2.ec, E2.no, fld, .ref W, rfl, W, _, 0, .int (((j0 : Nat) : Int) + 1), rfl, rfl, .inl (.inl h9), ?_, rfl, ?_⟩
          · rw [eB]
            exact atI_nat (j := 0) rfl
          · have e : (((j0 + 1 : Nat) : Int)) = ((j0 : Nat) : Int) + 1 := by omega
            rw [e, decide_eq_true rfl]
            exact q _ S9.kn S9.tab (S9.pen.mono (by omega))
        · rw [eS, ef] at e
          cases e
end
end K03
-- K03I6
namespace K03
open PySem PySem.Spec PyProof.Rows L2 SB
/-- what is told of the values that are no Words -/
def OddOk (K : PySem.W.Frag) (C : Addr) : Prop := ∀ T ∈ (["NoneType", "int", "str", "list", "tuple", "bool"] : List String), PySem.W.kitOne K (.type T) (.ref C) = some false
def Odd (K : PySem.W.Frag) (H : Hp) (C : Addr) (x : V) : Prop := ∃ T : String, TyX K H x (.type T) ∧ PySem.W.kitOne K (.type T) (.ref C) = some false
theorem odd_of {K : PySem.W.Frag} {C : Addr} {H : Hp} {l u : Addr} {x : V} (O : OddOk K C) (h1 : H l = some (.lst [.str "A"])) (h2 : H u = some (.tup [])) (hx : x ∈ [V.non, .int 0, .str "A", .str "", .ref l, .ref u, .bl true]) : Odd K H C x := by
  simp only [List.mem_cons, List.not_mem_nil, or_false] at hx
  rcases hx with rfl | rfl | rfl | rfl | rfl | rfl | rfl
  · exact ⟨_, .base .non, O "NoneType" (by simp)⟩
  · exact ⟨_, .base (.int _), O "int" (by simp)⟩
  · exact ⟨_, .base (.str _), O "str" (by simp)⟩
  · exact ⟨_, .base (.str _), O "str" (by simp)⟩
  · exact ⟨_, .base (.lst h1), O "list" (by simp)⟩
  · exact ⟨_, .base (.tup h2), O "tuple" (by simp)⟩
  · exact ⟨_, .base (.bl _), O "bool" (by simp)⟩
theorem fresh_of {p G : Addr} {H0 H : Hp} (kn : KN p H0 H) (hG : H G = none) : ∀ b o, H0 b = some o → b ≠ p → (∀ ps, o ≠ .tbl ps) → b ≠ G := fun b o h np nt e => by
  have := kn b o h np nt
  rw [e, hG] at this
  cases this
theorem Sta.put {CW p l : Addr} {N : Int} {T : List (Addr × Str)} {x : Addr} {z : Str} {H0 H : Hp} {G : Addr} {xs ys : List V} (s : Sta CW p l N T x z H0 H) (hG : H G = some (.lst xs)) (hn : ∀ b o, H0 b = some o → b ≠ p → (∀ ps, o ≠ .tbl ps) → b ≠ G) (np : G ≠ p) (nl : G ≠ l) : Sta CW p l N T x z H0 (upd H G (.lst ys)) :=
  ⟨s.pen.write np nl, tabs_put s.tab hG, fun b o h npb nt => by
    rw [upd_ne (hn b o h npb nt)]
    exact s.kn b o h npb nt, by
    obtain ⟨d, h⟩ := s.wd
    refine ⟨d, ?_⟩
    rw [upd_ne (ne_of h hG fun q => nomatch q)]
    exact h⟩
/-- the odd list and the odd tuple -/
structure Odds (l1 u1 : Addr) (H : Hp) : Prop where
  a : H l1 = some (.lst [.str "A"])
  b : H u1 = some (.tup [])
theorem Odds.same {l1 u1 : Addr} {H H' : Hp} (o : Odds l1 u1 H) (s : Same H H') : Odds l1 u1 H' := ⟨s _ _ o.a, s _ _ o.b⟩
theorem Odds.ext {l1 u1 : Addr} {H H' : Hp} (o : Odds l1 u1 H) (s : LamX.ExtN H H') : Odds l1 u1 H' := ⟨s _ _ o.a (fun _ z => nomatch z), s _ _ o.b (fun _ z => nomatch z)⟩
/-- kept errors of the class C, told at 0 -/
def Errs (C : Addr) (es : List (Addr × Addr)) (H : Hp) : Prop := ∀ e ∈ es, H e.1 = some (ErrO C e.2 e.1) ∧ H e.2 = some (.xd [("at", .int 0)])
theorem Errs.same {C : Addr} {es : List (Addr × Addr)} {H H' : Hp} (o : Errs C es H) (s : Same H H') : Errs C es H' := fun e he => ⟨s _ _ (o e he).1, s _ _ (o e he).2⟩
theorem Errs.ext {C : Addr} {es : List (Addr × Addr)} {H H' : Hp} (o : Errs C es H) (s : LamX.ExtN H H') : Errs C es H' := fun e he => ⟨s _ _ (o e he).1 errO_ne, s _ _ (o e he).2 (fun _ z => nomatch z)⟩
theorem Errs.put {C : Addr} {es : List (Addr × Addr)} {H : Hp} {G : Addr} {xs ys : List V} (o : Errs C es H) (hG : H G = some (.lst xs)) : Errs C es (upd H G (.lst ys)) := fun e he => by
  obtain ⟨h1, h2⟩ := o e he
  refine ⟨?_, ?_⟩
  · rw [upd_ne fun z => by
      rw [z, hG] at h1
      exact errO_lst _ (Option.some.inj h1).symm]
    exact h1
  · rw [upd_ne fun z => by
      rw [z, hG] at h2
      cases h2]
    exact h2
theorem Errs.cons {C a d : Addr} {es : List (Addr × Addr)} {H : Hp} (o : Errs C es H) (h1 : H a = some (ErrO C d a)) (h2 : H d = some (.xd [("at", .int 0)])) : Errs C (es ++ [(a, d)]) H := fun e he => by
  rcases List.mem_append.mp he with he | he
  · exact o e he
  · rw [List.mem_singleton.mp he]
    exact ⟨h1, h2⟩
section
variable {P : Program} {w : World} {K : PySem.W.Frag} {mg : Str → Option Value} {base : Heap}
theorem ok_law_refused_right {T : List (Addr × Str)} {f c Pt CB CB1 CB2 CM CW fB2 f__law_pick : Addr} {fd d__law_pick : FuncData} {k : Nat} (F : FunT K "_law_refused_right" "_law_refused_right" s__law_refused_right f c fd) (Hd : Heard K mg CB)
    (TB : LamX.TabB base mg c Pt) (hmT : (Pt, lq "_law_refused_right") ∈ T) (hu : ∀ p ∈ T, p.1 = Pt → p.2 = lq "_law_refused_right")
    (MO : MakeOk P w K mg base CW CB2 CM k) (OO : OpsOk P w K mg base CW CB1 CB2 k) (OD : OddOk K CW) (E2 : Err1 K mg "BadWord" "at" CB2 fB2) (xm2 : PySem.W.exmOne K (.ref CB2) (.ref CB) = some true)
    (G__law_pick : FnOk P w K mg base CX0 (k + 2) f__law_pick d__law_pick ["pen", "some"] (spPick K)) (g__law_pick : mg "_law_pick" = some (.ref f__law_pick)) (k__law_pick : PySem.W.keepIn K (.ref f__law_pick) = true) (b__law_pick : Binds K d__law_pick ["pen", "some"] [])
    (m_isinstance : mg "isinstance" = none) : FnOk P w K mg base CX0 (k + 9) f fd ["pen", "row"] (spParts T) := by
  obtain ⟨fW, fdW, tE, M, GW, bW, bW0, rE⟩ := MO.word
  obtain ⟨fBe, fdBe, mBe, GBe, bBe, kBe⟩ := OO.be_
  obtain ⟨fEn, fdEn, mEn, GEn, bEn, kEn⟩ := OO.en_
  obtain ⟨fMe, fdMe, mMe, GMe, bMe, kMe⟩ := OO.me_
  have gW := MO.gW
  have cl := MO.cl
  have na := MO.na
  have g_BadWord := E2.at_
  refine F.ok sc__law_refused_right (fun vs H Q E h => ?_) (fun A outer s H vs Q E hr h => ?_)
  · obtain ⟨p, l, N, z, rfl, _⟩ := h
    rfl
  · obtain ⟨p, l, N, z, rfl, p0, hN, t0, fz, lz, q⟩ := h
    have nd := sc__law_refused_right.nd
    refine ⟨_, (pss_cons (ps_asg (pe_tup (pa_cons (pe_make M GW (hr.mono (by omega)) (by rfl) gW bW .nil passL (pa_cons (pv 1) pa_nil)) (pa_cons (pe_call G__law_pick (hr.mono (by omega)) (by rfl) g__law_pick k__law_pick b__law_pick .nil pass0 (pa_cons (pv 0) (pa_cons (pe_lst (pa_cons pe_non (pa_cons pe_int (pa_cons pe_str (pa_cons pe_str (pa_cons (pe_lst (pa_cons pe_str pa_nil)) (pa_cons (pe_tup pa_nil) (pa_cons pe_bl pa_nil)))))))) pa_nil))) pa_nil))) (pg_tup rfl (pgs_cons (pg_name (i := 5) nd rfl (.inr rfl)) (pgs_cons (pg_name (i := 4) nd rfl (.inr rfl)) pgs_nil))))
      (pss_cons (ps_set (i := 2) nd rfl (.inl rfl) (pe_lst (pa_cons (pe_heard Hd (by rfl) TB (by rfl) hmT hu (k := k + 6) (hr.mono (by omega)) (LamX.lamS_by (sc := defScope s__law_refused_right) (by decide +kernel)) (by rfl) (fun _ _ _ _ _ => rfl) (fun _ _ _ _ E' _ _ hr' => (pe_meth (pv 5) cl mBe GBe (hr'.mono (by omega)) bBe .nil (E := E') (passes_call (takes_of rfl rfl rfl rfl) fun _ _ _ _ q => q) (pa_cons (pv 4) pa_nil)))) pa_nil)))
      (pss_cons (ps_expr (pe_bm PySem.F.plainAttrs_list PySem.F.slot_list_append PySem.F.type_list_append mt_append (pv 2) (pa_cons (pe_heard Hd (by rfl) TB (by rfl) hmT hu (k := k + 6) (hr.mono (by omega)) (LamX.lamS_by (sc := defScope s__law_refused_right) (by decide +kernel)) (by rfl) (fun _ _ _ _ _ => rfl) (fun _ _ _ _ E' _ _ hr' => (pe_meth (pv 5) cl mEn GEn (hr'.mono (by omega)) bEn .nil (E := E') (passes_call (takes_of rfl rfl rfl rfl) fun _ _ _ _ q => q) (pa_cons (pv 4) pa_nil)))) pa_nil)))
      (pss_cons (ps_expr (pe_bm PySem.F.plainAttrs_list PySem.F.slot_list_append PySem.F.type_list_append mt_append (pv 2) (pa_cons (pe_heard Hd (by rfl) TB (by rfl) hmT hu (k := k + 6) (hr.mono (by omega)) (LamX.lamS_by (sc := defScope s__law_refused_right) (by decide +kernel)) (by rfl) (fun _ _ _ _ _ => rfl) (fun _ _ _ _ E' _ _ hr' => (pe_meth (pv 5) cl mMe GMe (hr'.mono (by omega)) bMe .nil (E := E') (passes_call (takes_of rfl rfl rfl rfl) fun _ _ _ _ q => q) (pa_cons (pv 4) pa_nil)))) pa_nil)))
      (pss_cons (ps_for PassesOwn.never rfl (pi_list (pv 2)) (pg_name (i := 3) nd rfl (.inl rfl)) (pss_one (ps_if (PW.pt (pw_or (pt_not (pt_val (pe_callB call_isErr (by rfl) m_isinstance boot_isinstance (pa_cons (pv 3) (pa_cons (pe_glob (v := .ref CB2) (by rfl) g_BadWord rfl) pa_nil))))) (pw_or1 (pt_cmpR op_ne (pe_errF (pv 3)) pe_int (nomark _))))) (pss_one (ps_ret pe_bl)) pss_nil)))
      (pss_one (ps_ret (pe_cmpR op_eq (pe_fld (pv 5) rfl) (pv 1) (nomark _))))))))), ?_⟩
    refine ⟨.str z, rfl, fun x dx nx nd' ne => make_q nx nd' ne fz (by omega) fun H1 s1 w1 => ⟨rfl, ?_⟩⟩
    have S1 : Sta CW p l N T x z H H1 := ⟨p0.same s1, tabs_same t0 s1, KN.of s1, w1⟩
    refine ⟨.ref p, rfl, Nat.le_of_ble_eq_true rfl, fun l1 hl1 => ⟨Nat.le_of_ble_eq_true rfl, fun u1 hu1 => ⟨Nat.le_of_ble_eq_true rfl, fun L hL => ?_⟩⟩⟩
    have sl := same_new (o := .lst [.str "A"]) hl1
    have su := same_new (o := .tup []) hu1
    have sL := same_new (o := .lst [.non, .int 0, .str "A", .str "", .ref l1, .ref u1, .bl true]) hL
    have O4 : Odds l1 u1 (upd (upd (upd H1 l1 (.lst [.str "A"])) u1 (.tup [])) L (.lst [.non, .int 0, .str "A", .str "", .ref l1, .ref u1, .bl true])) := ⟨sL _ _ (su _ _ upd_same), sL _ _ upd_same⟩
    have S4 := ((S1.same sl).same su).same sL
    have np1 := S1.pen.ne_p hl1
    have np2 := ((S1.same sl).pen).ne_p hu1
    have np3 := (((S1.same sl).same su).pen).ne_p hL
    have aL : upd (upd (upd H1 l1 (.lst [.str "A"])) u1 (.tup [])) L (.lst [.non, .int 0, .str "A", .str "", .ref l1, .ref u1, .bl true]) L = some (.lst [.non, .int 0, .str "A", .str "", .ref l1, .ref u1, .bl true]) := upd_same
    generalize upd (upd (upd H1 l1 (.lst [.str "A"])) u1 (.tup [])) L (.lst [.non, .int 0, .str "A", .str "", .ref l1, .ref u1, .bl true]) = H2 at O4 aL S4 ⊢
    clear sl su sL hl1 hu1 hL
    refine ⟨p, l, .ref L, _, _, rfl, S4.pen, by omega, .inl ⟨L, rfl, .inl (.inl aL), np3⟩, by show 0 < 7; decide, by show 7 ≤ 100000; decide, fun y H3 hy k3 p3 => ?_⟩
    have S3 := S4.kept k3 p3
    have O3 : Odds l1 u1 H3 := ⟨k3 _ _ O4.a np1, k3 _ _ O4.b np2⟩
    refine ⟨Nat.le_of_ble_eq_true rfl, fun t ht => ?_⟩
    have sT := same_new (o := .tup [.ref x, y]) ht
    refine ⟨t, _, rfl, .inl (.inl upd_same), rfl, _, _, rfl, _, _, rfl, rfl, ?_⟩
    have S5 := S3.same sT
    have O5 := O3.same sT
    generalize upd H3 t (.tup [.ref x, y]) = H5 at S5 O5 ⊢
    clear S1 S3 S4 O3 O4 sT ht aL np1 np2 np3 k3 p3 w1 s1 nx nd' ne
    -- begins
    refine ⟨S5.tab, fun H6 e6 t6 => ?_⟩
    have S6 := S5.ext e6 t6
    have O6 := O5.ext e6
    obtain ⟨T6, ty6, ek6⟩ := odd_of OD O6.a O6.b hy
    obtain ⟨dx6, hx6⟩ := S6.wd
    refine ⟨.ref x, rfl, x, dx6, _, rfl, hx6, xd_no _ _ _ (by decide +kernel), y, rfl, x, z, y, rfl, ⟨dx6, hx6⟩, .inr ⟨_, ty6, ek6, fun d8 hd8 => ⟨true, xm2, (fun z => nomatch z), fun _ => ⟨CB2, d8, rfl, rfl, fun a8 ha8 => ?_⟩⟩⟩⟩
    obtain ⟨hA8, hD8, se8⟩ := err_put (C := CB2) hd8 ha8
    have S8 := S6.same se8
    have O8 := O6.same se8
    have R8 : Errs CB2 ([] ++ [(a8, d8)]) _ := Errs.cons (fun e he => by cases he) hA8 hD8
    generalize upd (upd H6 d8 (.xd [("at", .int 0)])) a8 (ErrO CB2 d8 a8) = H8 at S8 O8 R8 ⊢
    clear hA8 hD8 se8 hd8 ha8 hx6 S6 O6 S5 O5 e6 t6
    refine ⟨Nat.le_of_ble_eq_true rfl, fun G hG => ?_⟩
    have sG := same_new (o := .lst [.ref a8]) hG
    have fG := fresh_of S8.kn hG
    have nGp := S8.pen.ne_p hG
    have nGl := S8.pen.ne_l hG
    have S9 := S8.same sG
    have O9 := O8.same sG
    have R9 := R8.same sG
    have G9 : upd H8 G (.lst [.ref a8]) G = some (.lst [.ref a8]) := upd_same
    generalize upd H8 G (.lst [.ref a8]) = H9 at S9 O9 R9 G9 ⊢
    clear S8 O8 R8 sG hG
    -- ends
    refine ⟨.ref G, rfl, .inl ⟨rfl, _, .inl (.inl G9)⟩, S9.tab, fun H11 e11 t11 => ?_⟩
    have S11 := S9.ext e11 t11
    have O11 := O9.ext e11
    have R11 := R9.ext e11
    have G11 := e11 _ _ G9 (fun _ z => nomatch z)
    obtain ⟨T11, ty11, ek11⟩ := odd_of OD O11.a O11.b hy
    obtain ⟨dx11, hx11⟩ := S11.wd
    refine ⟨.ref x, rfl, x, dx11, _, rfl, hx11, xd_no _ _ _ (by decide +kernel), y, rfl, x, z, y, rfl, ⟨dx11, hx11⟩, .inr ⟨_, ty11, ek11, fun d12 hd12 => ⟨true, xm2, (fun z => nomatch z), fun _ => ⟨CB2, d12, rfl, rfl, fun a12 ha12 => ?_⟩⟩⟩⟩
    obtain ⟨hA12, hD12, se12⟩ := err_put (C := CB2) hd12 ha12
    have S12 := S11.same se12
    have O12 := O11.same se12
    have R12 := (R11.same se12).cons hA12 hD12
    have G12 := se12 _ _ G11
    generalize upd (upd H11 d12 (.xd [("at", .int 0)])) a12 (ErrO CB2 d12 a12) = H12 at S12 O12 R12 G12 ⊢
    clear hA12 hD12 se12 hd12 ha12 hx11 S11 O11 R11 G11 S9 O9 R9 G9 e11 t11
    refine ⟨G, _, _, rfl, rfl, G12, by show 1 < sizeLine; decide, ?_⟩
    have S13 := S12.put (ys := [.ref a8] ++ [.ref a12]) G12 fG nGp nGl
    have R13 := R12.put (ys := [.ref a8] ++ [.ref a12]) G12
    have O13 : Odds l1 u1 (upd H12 G (.lst ([.ref a8] ++ [.ref a12]))) := by
      refine ⟨?_, ?_⟩
      · rw [upd_ne (ne_of O12.a G12 fun q => by cases q)]
        exact O12.a
      · rw [upd_ne (ne_of O12.b G12 fun q => by cases q)]
        exact O12.b
    have G13 : upd H12 G (.lst ([.ref a8] ++ [.ref a12])) G = some (.lst ([.ref a8] ++ [.ref a12])) := upd_same
    generalize upd H12 G (.lst ([.ref a8] ++ [.ref a12])) = H13 at S13 O13 R13 G13 ⊢
    clear S12 O12 R12 G12
    -- meet
    refine ⟨.ref G, rfl, .inl ⟨rfl, _, .inl (.inl G13)⟩, S13.tab, fun H14 e14 t14 => ?_⟩
    have S14 := S13.ext e14 t14
    have O14 := O13.ext e14
    have R14 := R13.ext e14
    have G14 := e14 _ _ G13 (fun _ z => nomatch z)
    obtain ⟨T14, ty14, ek14⟩ := odd_of OD O14.a O14.b hy
    obtain ⟨dx14, hx14⟩ := S14.wd
    refine ⟨.ref x, rfl, x, dx14, _, rfl, hx14, xd_no _ _ _ (by decide +kernel), y, rfl, x, z, y, rfl, ⟨dx14, hx14⟩, fz, by omega, .inr ⟨_, ty14, ek14, fun d15 hd15 => ⟨true, xm2, (fun z => nomatch z), fun _ => ⟨CB2, d15, rfl, rfl, fun a15 ha15 => ?_⟩⟩⟩⟩
    obtain ⟨hA15, hD15, se15⟩ := err_put (C := CB2) hd15 ha15
    have S15 := S14.same se15
    have R15 := (R14.same se15).cons hA15 hD15
    have G15 := se15 _ _ G14
    generalize upd (upd H14 d15 (.xd [("at", .int 0)])) a15 (ErrO CB2 d15 a15) = H15 at S15 R15 G15 ⊢
    clear hA15 hD15 se15 hd15 ha15 hx14 S14 O14 R14 G14 S13 O13 R13 G13 e14 t14
    refine ⟨G, _, _, rfl, rfl, G15, by show 2 < sizeLine; decide, ?_⟩
    have S16 := S15.put (ys := [.ref a8] ++ [.ref a12] ++ [.ref a15]) G15 fG nGp nGl
    have R16 := R15.put (ys := [.ref a8] ++ [.ref a12] ++ [.ref a15]) G15
    have G16 : upd H15 G (.lst ([.ref a8] ++ [.ref a12] ++ [.ref a15])) G = some (.lst ([.ref a8] ++ [.ref a12] ++ [.ref a15])) := upd_same
    generalize upd H15 G (.lst ([.ref a8] ++ [.ref a12] ++ [.ref a15])) = H16 at S16 R16 G16 ⊢
    clear S15 R15 G15
    refine ⟨.ref G, rfl, G, rfl, ⟨_, .inl (.inl G16)⟩, for_it (walk_list (xs := [.ref a8] ++ [.ref a12] ++ [.ref a15])) (fun i σ H' => ∃ y3, σ = [some (.ref p), some (.str z), some (.ref G), y3, some y, some (.ref x)] ∧ H' = H16)
      ⟨none, rfl, rfl⟩ (fun i σ H' _ hPv => ?_) (fun i v σ Ha Hb hi hPv hY => ?_) (fun σ H' hPv => ?_)⟩
    · obtain ⟨y3, rfl, rfl⟩ := hPv
      exact .inl (.inl G16)
    · obtain ⟨y3, rfl, rfl⟩ := hPv
      obtain ⟨rfl, hx⟩ := hY
      obtain ⟨e, he, rfl⟩ : ∃ e ∈ ([] ++ [(a8, d8)] ++ [(a12, d12)] ++ [(a15, d15)] : List (Addr × Addr)), v = .ref e.1 := by
        match i, hi, hx with
        | 0, _, hx =>
          cases hx
          exact ⟨(a8, d8), by simp, rfl⟩
        | 1, _, hx =>
          cases hx
          exact ⟨(a12, d12), by simp, rfl⟩
        | 2, _, hx =>
          cases hx
          exact ⟨(a15, d15), by simp, rfl⟩
      obtain ⟨gA, gD⟩ := R16 e he
      have fld := xd_fld "at" (V.int 0)
      refine ⟨.ref e.1, rfl, e.1, CB2, e.2, CB2, _, true, rfl, gA, gD, E2.ec, kit_self, true, rfl, iteF ?_⟩
      refine ⟨.ref e.1, rfl, e.1, CB2, e.2, _, .int 0, rfl, gA, gD, E2.ec, E2.no, fld, rfl, _, rfl, ?_⟩
      rw [decide_eq_true rfl]
      exact iteF ⟨_, rfl, rfl⟩
    · obtain ⟨y3, rfl, rfl⟩ := hPv
      obtain ⟨dx17, hx17⟩ := S16.wd
      refine ⟨.ref x, rfl, x, CW, dx17, _, .str z, rfl, hx17, cl, na, rfl, .str z, rfl, rfl, ?_⟩
      rw [decide_eq_true rfl]
      exact q _ S16.kn S16.tab (S16.pen.mono (by omega))
end
end K03
-- K03J
namespace K03
open PySem PySem.Spec PyProof.Rows L2 SB
section
variable {P : Program} {w : World} {K : PySem.W.Frag} {mg : Str → Option Value} {base : Heap}
def spLaw (K : PySem.W.Frag) (T : List (Addr × Str)) : Sp := fun vs H Q _ => ∃ (a : Addr) (ns : List Int), vs = [.ref a] ∧ SqL K H a (ns.map V.int) ∧ LamX.Tabs T H ∧ ∀ H', Q (.bl true) H'
theorem ok_law {T : List (Addr × Str)} {f f__law_pen f__law_row f__law_other f__law_pair_right f__law_parts_right f__law_steps_right f__law_refused_right : Addr} {fd d__law_pen d__law_row d__law_other d__law_pair_right d__law_parts_right d__law_steps_right d__law_refused_right : FuncData} {k : Nat} (F : Fun K "law" "law" s_law f fd)
    (G__law_pen : FnOk P w K mg base CX0 (k + 1) f__law_pen d__law_pen ["script"] (spPen K)) (g__law_pen : mg "_law_pen" = some (.ref f__law_pen)) (k__law_pen : PySem.W.keepIn K (.ref f__law_pen) = true) (b__law_pen : Binds K d__law_pen ["script"] [])
    (G__law_row : FnOk P w K mg base CX0 (k + 3) f__law_row d__law_row ["pen", "most"] spRow) (g__law_row : mg "_law_row" = some (.ref f__law_row)) (k__law_row : PySem.W.keepIn K (.ref f__law_row) = true) (b__law_row : Binds K d__law_row ["pen", "most"] [])
    (G__law_other : FnOk P w K mg base CX0 (k + 4) f__law_other d__law_other ["pen", "row"] spOther) (g__law_other : mg "_law_other" = some (.ref f__law_other)) (k__law_other : PySem.W.keepIn K (.ref f__law_other) = true) (b__law_other : Binds K d__law_other ["pen", "row"] [])
    (G__law_pair_right : FnOk P w K mg base CX0 (k + 6) f__law_pair_right d__law_pair_right ["one", "other"] spPair) (g__law_pair_right : mg "_law_pair_right" = some (.ref f__law_pair_right)) (k__law_pair_right : PySem.W.keepIn K (.ref f__law_pair_right) = true) (b__law_pair_right : Binds K d__law_pair_right ["one", "other"] [])
    (G__law_parts_right : FnOk P w K mg base CX0 (k + 9) f__law_parts_right d__law_parts_right ["pen", "row"] (spParts T)) (g__law_parts_right : mg "_law_parts_right" = some (.ref f__law_parts_right)) (k__law_parts_right : PySem.W.keepIn K (.ref f__law_parts_right) = true) (b__law_parts_right : Binds K d__law_parts_right ["pen", "row"] [])
    (G__law_steps_right : FnOk P w K mg base CX0 (k + 9) f__law_steps_right d__law_steps_right ["pen", "row"] (spParts T)) (g__law_steps_right : mg "_law_steps_right" = some (.ref f__law_steps_right)) (k__law_steps_right : PySem.W.keepIn K (.ref f__law_steps_right) = true) (b__law_steps_right : Binds K d__law_steps_right ["pen", "row"] [])
    (G__law_refused_right : FnOk P w K mg base CX0 (k + 9) f__law_refused_right d__law_refused_right ["pen", "row"] (spParts T)) (g__law_refused_right : mg "_law_refused_right" = some (.ref f__law_refused_right)) (k__law_refused_right : PySem.W.keepIn K (.ref f__law_refused_right) = true) (b__law_refused_right : Binds K d__law_refused_right ["pen", "row"] [])
    (m_range : mg "range" = none) : FnOk P w K mg base CX0 (k + 10) f fd ["script"] (spLaw K T) := by
  refine F.ok sc_law (fun vs H Q E h => ?_) (fun cdv A outer s H vs Q E hr h => ?_)
  · obtain ⟨a, ns, rfl, _⟩ := h
    rfl
  · obtain ⟨a, ns, rfl, hS, tabs, q⟩ := h
    have nd := sc_law.nd
    refine ⟨_, (pss_cons (ps_set (i := 1) nd rfl (.inl rfl) (pe_call G__law_pen (hr.mono (by omega)) (by rfl) g__law_pen k__law_pen b__law_pen .nil pass0 (pa_cons (pv 0) pa_nil)))
      (pss_cons (ps_for PassesOwn.never rfl (pi_range1 (by rfl) m_range (pa_cons pe_int pa_nil)) (pg_name (i := 2) nd rfl (.inl rfl)) (pss_cons (ps_set (i := 3) nd rfl (.inl rfl) (pe_call G__law_row (hr.mono (by omega)) (by rfl) g__law_row k__law_row b__law_row .nil pass0 (pa_cons (pv 1) (pa_cons pe_int pa_nil))))
      (pss_cons (ps_set (i := 4) nd rfl (.inl rfl) (pe_call G__law_other (hr.mono (by omega)) (by rfl) g__law_other k__law_other b__law_other .nil pass0 (pa_cons (pv 1) (pa_cons (pv 3) pa_nil))))
      (pss_cons (ps_if (PW.pt (pw_or (pt_not (pt_val (pe_call G__law_pair_right (hr.mono (by omega)) (by rfl) g__law_pair_right k__law_pair_right b__law_pair_right .nil pass0 (pa_cons (pv 3) (pa_cons (pv 4) pa_nil))))) (pw_or1 (pt_not (pt_val (pe_call G__law_pair_right (hr.mono (by omega)) (by rfl) g__law_pair_right k__law_pair_right b__law_pair_right .nil pass0 (pa_cons (pv 4) (pa_cons (pv 3) pa_nil)))))))) (pss_one (ps_ret pe_bl)) pss_nil)
      (pss_one (ps_if (PW.pt (pw_or (pt_not (pt_val (pe_call G__law_parts_right (hr.mono (by omega)) (by rfl) g__law_parts_right k__law_parts_right b__law_parts_right .nil pass0 (pa_cons (pv 1) (pa_cons (pv 3) pa_nil))))) (pw_or (pt_not (pt_val (pe_call G__law_steps_right (hr.mono (by omega)) (by rfl) g__law_steps_right k__law_steps_right b__law_steps_right .nil pass0 (pa_cons (pv 1) (pa_cons (pv 3) pa_nil))))) (pw_or1 (pt_not (pt_val (pe_call G__law_refused_right (hr.mono (by omega)) (by rfl) g__law_refused_right k__law_refused_right b__law_refused_right .nil pass0 (pa_cons (pv 1) (pa_cons (pv 4) pa_nil))))))))) (pss_one (ps_ret pe_bl)) pss_nil))))))
      (pss_one (ps_ret pe_bl)))), ?_⟩
    refine ⟨.ref a, rfl, a, ns, rfl, hS, fun p l H1 np nl s1 p1 => ?_⟩
    have t1 := tabs_same tabs s1
    refine ⟨9, rfl, by decide, by decide, for_range (lo := 0) (n := 9) (fun i σ H' => ∃ y2 y3 y4, σ = [some (.ref a), some (.ref p), y2, y3, y4] ∧ PenQ l (70 * (i : Int)) H' p ∧ LamX.Tabs T H')
      ⟨none, none, none, rfl, p1.mono (by decide), t1⟩ (fun i σ H2 hi hPv => ?_) (fun σ H2 hPv => ?_)⟩
    · obtain ⟨y2, y3, y4, rfl, p2, t2⟩ := hPv
      refine ⟨.ref p, rfl, p, l, _, 9, rfl, p2, by decide, by decide, by omega, fun z H3 rz k3 p3 => ?_⟩
      obtain ⟨fz, lz⟩ := rz
      have fz : Fine z.cps.toList := (fine_iff _).mp fz
      have lz : z.length ≤ 9 := lz
      have t3 := tabs_keptQ t2 p2 k3
      refine ⟨.ref p, rfl, .str z, rfl, p, l, _, z, rfl, p3, by omega, fz, by omega, fun t H4 ft lt k4 p4 => ?_⟩
      have t4 := tabs_keptQ t3 p3 k4
      refine ⟨.str z, rfl, .str t, rfl, z, t, rfl, fz, ft, by omega, by omega, fun H5 s5 => ⟨true, rfl, iteF ?_⟩⟩
      refine ⟨.str t, rfl, .str z, rfl, t, z, rfl, ft, fz, by omega, by omega, fun H6 s6 => ⟨true, rfl, iteF ?_⟩⟩
      have p6 := p4.same (s5.trans s6)
      have t6 := tabs_same t4 (s5.trans s6)
      refine ⟨.ref p, rfl, .str z, rfl, p, l, _, z, rfl, p6, by omega, t6, fz, by omega, fun H7 k7 t7 p7 => ⟨true, rfl, iteF ?_⟩⟩
      refine ⟨.ref p, rfl, .str z, rfl, p, l, _, z, rfl, p7, by omega, t7, fz, by omega, fun H8 k8 t8 p8 => ⟨true, rfl, iteF ?_⟩⟩
      refine ⟨.ref p, rfl, .str t, rfl, p, l, _, t, rfl, p8, by omega, t8, ft, by omega, fun H9 k9 t9 p9 => ⟨true, rfl, iteF ?_⟩⟩
      exact ⟨_, _, _, rfl, p9.mono (by omega), t9⟩
    · obtain ⟨y2, y3, y4, rfl, p2, t2⟩ := hPv
      exact q H2
end
end K03
-- K03Z
namespace K03
open PySem PySem.Spec PyProof.Rows L2 SB
theorem begins_kw {K : PySem.W.Frag} {f : Addr} {fd : FuncData} (F : Fun K "begins" "Word.begins" s_Word_begins f fd) : KBn K fd ["self", "other"] 1 ["other"] (fun us ws => us ++ ws) (fun vs zs => vs ++ zs) := by
  obtain ⟨oc, od, kV, doc, pm, an, cdv, ct, osl, rfl, lk, hcd⟩ := F.ex
  exact ⟨fun s us ws hX l1 l2 => match us, ws, l1, l2 with | [_], [_], _, _ => .of_eq rfl, fun r1 r2 => r1.append r2⟩
theorem ends_kw {K : PySem.W.Frag} {f : Addr} {fd : FuncData} (F : Fun K "ends" "Word.ends" s_Word_ends f fd) : KBn K fd ["self", "other"] 1 ["other"] (fun us ws => us ++ ws) (fun vs zs => vs ++ zs) := by
  obtain ⟨oc, od, kV, doc, pm, an, cdv, ct, osl, rfl, lk, hcd⟩ := F.ex
  exact ⟨fun s us ws hX l1 l2 => match us, ws, l1, l2 with | [_], [_], _, _ => .of_eq rfl, fun r1 r2 => r1.append r2⟩
theorem meet_kw {K : PySem.W.Frag} {f : Addr} {fd : FuncData} (F : Fun K "meet" "Word.meet" s_Word_meet f fd) : KBn K fd ["self", "other"] 1 ["other"] (fun us ws => us ++ ws) (fun vs zs => vs ++ zs) := by
  obtain ⟨oc, od, kV, doc, pm, an, cdv, ct, osl, rfl, lk, hcd⟩ := F.ex
  exact ⟨fun s us ws hX l1 l2 => match us, ws, l1, l2 with | [_], [_], _, _ => .of_eq rfl, fun r1 r2 => r1.append r2⟩
theorem all_mk {w : World} {K : PySem.W.Frag} {h : Heap} {mg : Str → Option Value} {fa : Addr} (X : K.In h) (G : h.Ns mainGlobals mg) (hfa : mg "law" = some (.ref fa))
    {CB CW : Addr} {tL tM : Tok} {f_first_fault : Addr} {od_first_fault an_first_fault : Option Addr} {sl_first_fault : Array (Option Value)} {oc_first_fault kV_first_fault dc_first_fault pm_first_fault ct_first_fault cd_first_fault : Value} {f_is_integer : Addr} {od_is_integer an_is_integer : Option Addr} {sl_is_integer : Array (Option Value)} {oc_is_integer kV_is_integer dc_is_integer pm_is_integer ct_is_integer cd_is_integer : Value} {f_is_within : Addr} {od_is_within an_is_within : Option Addr} {sl_is_within : Array (Option Value)} {oc_is_within kV_is_within dc_is_within pm_is_within ct_is_within cd_is_within : Value} {f__law_pen : Addr} {od__law_pen an__law_pen : Option Addr} {sl__law_pen : Array (Option Value)} {oc__law_pen kV__law_pen dc__law_pen pm__law_pen ct__law_pen cd__law_pen : Value} {f__law_draw : Addr} {od__law_draw an__law_draw : Option Addr} {sl__law_draw : Array (Option Value)} {oc__law_draw kV__law_draw dc__law_draw pm__law_draw ct__law_draw cd__law_draw : Value} {f__law_pick : Addr} {od__law_pick an__law_pick : Option Addr} {sl__law_pick : Array (Option Value)} {oc__law_pick kV__law_pick dc__law_pick pm__law_pick ct__law_pick cd__law_pick : Value} {f__law_heard : Addr} {od__law_heard an__law_heard : Option Addr} {sl__law_heard : Array (Option Value)} {oc__law_heard kV__law_heard dc__law_heard pm__law_heard ct__law_heard cd__law_heard : Value} {f__law_undo : Addr} {od__law_undo an__law_undo : Option Addr} {sl__law_undo : Array (Option Value)} {oc__law_undo kV__law_undo dc__law_undo pm__law_undo ct__law_undo cd__law_undo : Value} {f__law_row : Addr} {od__law_row an__law_row : Option Addr} {sl__law_row : Array (Option Value)} {oc__law_row kV__law_row dc__law_row pm__law_row ct__law_row cd__law_row : Value} {f__law_places : Addr} {od__law_places an__law_places : Option Addr} {sl__law_places : Array (Option Value)} {oc__law_places kV__law_places dc__law_places pm__law_places ct__law_places cd__law_places : Value} {f__law_less : Addr} {od__law_less an__law_less : Option Addr} {sl__law_less : Array (Option Value)} {oc__law_less kV__law_less dc__law_less pm__law_less ct__law_less cd__law_less : Value} {f__law_common : Addr} {od__law_common an__law_common : Option Addr} {sl__law_common : Array (Option Value)} {oc__law_common kV__law_common dc__law_common pm__law_common ct__law_common cd__law_common : Value} {f__law_other : Addr} {od__law_other an__law_other : Option Addr} {sl__law_other : Array (Option Value)} {oc__law_other kV__law_other dc__law_other pm__law_other ct__law_other cd__law_other : Value} {f__law_told : Addr} {od__law_told an__law_told : Option Addr} {sl__law_told : Array (Option Value)} {oc__law_told kV__law_told dc__law_told pm__law_told ct__law_told cd__law_told : Value} {f__law_pair_right : Addr} {od__law_pair_right an__law_pair_right : Option Addr} {sl__law_pair_right : Array (Option Value)} {oc__law_pair_right kV__law_pair_right dc__law_pair_right pm__law_pair_right ct__law_pair_right cd__law_pair_right : Value} {f_law : Addr} {od_law an_law : Option Addr} {sl_law : Array (Option Value)} {oc_law kV_law dc_law pm_law ct_law cd_law : Value} {f__law_parts_right : Addr} {od__law_parts_right an__law_parts_right : Option Addr} {sl__law_parts_right : Array (Option Value)} {oc__law_parts_right kV__law_parts_right dc__law_parts_right pm__law_parts_right ct__law_parts_right : Value} {u__law_parts_right P__law_parts_right : Addr} {qc__law_parts_right : Value} {qd__law_parts_right : Option Addr} {qv__law_parts_right : Array Value} {qs__law_parts_right : Array (Option Value)} {f__law_steps_right : Addr} {od__law_steps_right an__law_steps_right : Option Addr} {sl__law_steps_right : Array (Option Value)} {oc__law_steps_right kV__law_steps_right dc__law_steps_right pm__law_steps_right ct__law_steps_right : Value} {u__law_steps_right P__law_steps_right : Addr} {qc__law_steps_right : Value} {qd__law_steps_right : Option Addr} {qv__law_steps_right : Array Value} {qs__law_steps_right : Array (Option Value)} {f__law_refused_right : Addr} {od__law_refused_right an__law_refused_right : Option Addr} {sl__law_refused_right : Array (Option Value)} {oc__law_refused_right kV__law_refused_right dc__law_refused_right pm__law_refused_right ct__law_refused_right : Value} {u__law_refused_right P__law_refused_right : Addr} {qc__law_refused_right : Value} {qd__law_refused_right : Option Addr} {qv__law_refused_right : Array Value} {qs__law_refused_right : Array (Option Value)} {f_TM f_BW f_BN f_WI f_WE f_WLT f_WLE f_WGT f_WGE f_WB f_WN f_WMT f_WGI f_WLN f_WIT : Addr} {CM : Addr} {nm_CM q_CM : Str} {N_CM : Addr} {bs_CM : List Value} {sn_CM : List Str} {sub_CM : List Value} {ab_CM : Bool} {col_CM : Option Bool} {dd_CM : Option Addr} {m0_CM m1_CM m2_CM m3_CM m5_CM : Option Value} {bm_CM : List Value} {C2 : Addr} {nm_C2 q_C2 : Str} {N_C2 : Addr} {bs_C2 : List Value} {sn_C2 : List Str} {sub_C2 : List Value} {ab_C2 : Bool} {col_C2 : Option Bool} {dd_C2 : Option Addr} {m0_C2 m1_C2 m2_C2 m3_C2 m5_C2 : Option Value} {bm_C2 : List Value} {C1 : Addr} {nm_C1 q_C1 : Str} {N_C1 : Addr} {bs_C1 : List Value} {sn_C1 : List Str} {sub_C1 : List Value} {ab_C1 : Bool} {col_C1 : Option Bool} {dd_C1 : Option Addr} {m0_C1 m1_C1 m2_C1 m3_C1 m5_C1 : Option Value} {bm_C1 : List Value} {nmW qW : Str} {NW : Addr} {bsW : List Value} {hdW : Bool} {snW : List Str} {subW : List Value} {abW : Bool} {colW : Option Bool} {ddW : Option Addr} {w0 w1 w2 w3 w5 : Option Value} {newW : String}  {od_TM an_TM : Option Addr} {sl_TM : Array (Option Value)} {oc_TM kV_TM dc_TM pm_TM ct_TM cd_TM : Value}  {od_BW an_BW : Option Addr} {sl_BW : Array (Option Value)} {oc_BW kV_BW dc_BW pm_BW ct_BW cd_BW : Value}  {od_WI an_WI : Option Addr} {sl_WI : Array (Option Value)} {oc_WI kV_WI dc_WI pm_WI ct_WI cd_WI : Value} {T_WI : Addr} {nT_WI : Nat} {cT_WI : Value} {dT_WI : Option Addr} {sT_WI : Array (Option Value)} {tt_WI : Tok}  {od_BN an_BN : Option Addr} {sl_BN : Array (Option Value)} {oc_BN kV_BN dc_BN pm_BN ct_BN cd_BN : Value}  {od_WE an_WE : Option Addr} {sl_WE : Array (Option Value)} {oc_WE kV_WE dc_WE pm_WE ct_WE cd_WE : Value}  {od_WLT an_WLT : Option Addr} {sl_WLT : Array (Option Value)} {oc_WLT kV_WLT dc_WLT pm_WLT ct_WLT cd_WLT : Value}  {od_WLE an_WLE : Option Addr} {sl_WLE : Array (Option Value)} {oc_WLE kV_WLE dc_WLE pm_WLE ct_WLE cd_WLE : Value}  {od_WGT an_WGT : Option Addr} {sl_WGT : Array (Option Value)} {oc_WGT kV_WGT dc_WGT pm_WGT ct_WGT cd_WGT : Value}  {od_WGE an_WGE : Option Addr} {sl_WGE : Array (Option Value)} {oc_WGE kV_WGE dc_WGE pm_WGE ct_WGE cd_WGE : Value}  {od_WGI an_WGI : Option Addr} {sl_WGI : Array (Option Value)} {oc_WGI kV_WGI dc_WGI pm_WGI ct_WGI cd_WGI : Value}  {od_WLN an_WLN : Option Addr} {sl_WLN : Array (Option Value)} {oc_WLN kV_WLN dc_WLN pm_WLN ct_WLN cd_WLN : Value}  {od_WIT an_WIT : Option Addr} {sl_WIT : Array (Option Value)} {oc_WIT kV_WIT dc_WIT pm_WIT ct_WIT cd_WIT : Value}  {od_WB an_WB : Option Addr} {sl_WB : Array (Option Value)} {oc_WB kV_WB dc_WB pm_WB ct_WB cd_WB : Value}  {od_WN an_WN : Option Addr} {sl_WN : Array (Option Value)} {oc_WN kV_WN dc_WN pm_WN ct_WN cd_WN : Value}  {od_WMT an_WMT : Option Addr} {sl_WMT : Array (Option Value)} {oc_WMT kV_WMT dc_WMT pm_WMT ct_WMT cd_WMT : Value}
    (g_CB : PySem.W.nsIn K mainGlobals "BallError" = some (some (.ref CB)))
    (g_CW : PySem.W.nsIn K mainGlobals "Word" = some (some (.ref CW)))
    (g_L : PySem.W.nsIn K mainGlobals "LETTERS" = some (some (.str "ABCDabcd" tL)))
    (g_M : PySem.W.nsIn K mainGlobals "MOST_LETTERS" = some (some (.int 4000 tM)))
    (z_len : PySem.W.nsIn K mainGlobals "len" = some none)
    (z_isinstance : PySem.W.nsIn K mainGlobals "isinstance" = some none)
    (z_str : PySem.W.nsIn K mainGlobals "str" = some none)
    (z_int : PySem.W.nsIn K mainGlobals "int" = some none)
    (z_bool : PySem.W.nsIn K mainGlobals "bool" = some none)
    (z_range : PySem.W.nsIn K mainGlobals "range" = some none)
    (z_abs : PySem.W.nsIn K mainGlobals "abs" = some none)
    (z_list : PySem.W.nsIn K mainGlobals "list" = some none)
    (z_enumerate : PySem.W.nsIn K mainGlobals "enumerate" = some none)
    (z_max : PySem.W.nsIn K mainGlobals "max" = some none)
    (z_zip : PySem.W.nsIn K mainGlobals "zip" = some none)
    (z_iter : PySem.W.nsIn K mainGlobals "iter" = some none)
    (cg : PySem.W.specialIn K (.builtin "object.__class__") "__get__" = some (some (.builtin "getset_descriptor.__get__")))
    (ct : PySem.W.takesIn K (.builtin "object.__class__") = some true)
    (a_first_fault : PySem.W.nsIn K mainGlobals "first_fault" = some (some (.ref f_first_fault)))
    (l_first_fault : K.lookup f_first_fault = some ⟨oc_first_fault, od_first_fault, .func (PySem.W.fnOf "first_fault" "first_fault" (defArgs s_first_fault) (defBody s_first_fault) (defScope s_first_fault) .none kV_first_fault dc_first_fault pm_first_fault an_first_fault cd_first_fault ct_first_fault), sl_first_fault⟩)
    (c_first_fault : PySem.W.codeIn K cd_first_fault "first_fault" = true)
    (k_first_fault : PySem.W.keepIn K (.ref f_first_fault) = true)
    (a_is_integer : PySem.W.nsIn K mainGlobals "is_integer" = some (some (.ref f_is_integer)))
    (l_is_integer : K.lookup f_is_integer = some ⟨oc_is_integer, od_is_integer, .func (PySem.W.fnOf "is_integer" "is_integer" (defArgs s_is_integer) (defBody s_is_integer) (defScope s_is_integer) .none kV_is_integer dc_is_integer pm_is_integer an_is_integer cd_is_integer ct_is_integer), sl_is_integer⟩)
    (c_is_integer : PySem.W.codeIn K cd_is_integer "is_integer" = true)
    (k_is_integer : PySem.W.keepIn K (.ref f_is_integer) = true)
    (a_is_within : PySem.W.nsIn K mainGlobals "is_within" = some (some (.ref f_is_within)))
    (l_is_within : K.lookup f_is_within = some ⟨oc_is_within, od_is_within, .func (PySem.W.fnOf "is_within" "is_within" (defArgs s_is_within) (defBody s_is_within) (defScope s_is_within) .none kV_is_within dc_is_within pm_is_within an_is_within cd_is_within ct_is_within), sl_is_within⟩)
    (c_is_within : PySem.W.codeIn K cd_is_within "is_within" = true)
    (k_is_within : PySem.W.keepIn K (.ref f_is_within) = true)
    (a__law_pen : PySem.W.nsIn K mainGlobals "_law_pen" = some (some (.ref f__law_pen)))
    (l__law_pen : K.lookup f__law_pen = some ⟨oc__law_pen, od__law_pen, .func (PySem.W.fnOf "_law_pen" "_law_pen" (defArgs s__law_pen) (defBody s__law_pen) (defScope s__law_pen) .none kV__law_pen dc__law_pen pm__law_pen an__law_pen cd__law_pen ct__law_pen), sl__law_pen⟩)
    (c__law_pen : PySem.W.codeIn K cd__law_pen "_law_pen" = true)
    (k__law_pen : PySem.W.keepIn K (.ref f__law_pen) = true)
    (a__law_draw : PySem.W.nsIn K mainGlobals "_law_draw" = some (some (.ref f__law_draw)))
    (l__law_draw : K.lookup f__law_draw = some ⟨oc__law_draw, od__law_draw, .func (PySem.W.fnOf "_law_draw" "_law_draw" (defArgs s__law_draw) (defBody s__law_draw) (defScope s__law_draw) .none kV__law_draw dc__law_draw pm__law_draw an__law_draw cd__law_draw ct__law_draw), sl__law_draw⟩)
    (c__law_draw : PySem.W.codeIn K cd__law_draw "_law_draw" = true)
    (k__law_draw : PySem.W.keepIn K (.ref f__law_draw) = true)
    (a__law_pick : PySem.W.nsIn K mainGlobals "_law_pick" = some (some (.ref f__law_pick)))
    (l__law_pick : K.lookup f__law_pick = some ⟨oc__law_pick, od__law_pick, .func (PySem.W.fnOf "_law_pick" "_law_pick" (defArgs s__law_pick) (defBody s__law_pick) (defScope s__law_pick) .none kV__law_pick dc__law_pick pm__law_pick an__law_pick cd__law_pick ct__law_pick), sl__law_pick⟩)
    (c__law_pick : PySem.W.codeIn K cd__law_pick "_law_pick" = true)
    (k__law_pick : PySem.W.keepIn K (.ref f__law_pick) = true)
    (a__law_heard : PySem.W.nsIn K mainGlobals "_law_heard" = some (some (.ref f__law_heard)))
    (l__law_heard : K.lookup f__law_heard = some ⟨oc__law_heard, od__law_heard, .func (PySem.W.fnOf "_law_heard" "_law_heard" (defArgs s__law_heard) (defBody s__law_heard) (defScope s__law_heard) .none kV__law_heard dc__law_heard pm__law_heard an__law_heard cd__law_heard ct__law_heard), sl__law_heard⟩)
    (c__law_heard : PySem.W.codeIn K cd__law_heard "_law_heard" = true)
    (k__law_heard : PySem.W.keepIn K (.ref f__law_heard) = true)
    (a__law_undo : PySem.W.nsIn K mainGlobals "_law_undo" = some (some (.ref f__law_undo)))
    (l__law_undo : K.lookup f__law_undo = some ⟨oc__law_undo, od__law_undo, .func (PySem.W.fnOf "_law_undo" "_law_undo" (defArgs s__law_undo) (defBody s__law_undo) (defScope s__law_undo) .none kV__law_undo dc__law_undo pm__law_undo an__law_undo cd__law_undo ct__law_undo), sl__law_undo⟩)
    (c__law_undo : PySem.W.codeIn K cd__law_undo "_law_undo" = true)
    (k__law_undo : PySem.W.keepIn K (.ref f__law_undo) = true)
    (a__law_row : PySem.W.nsIn K mainGlobals "_law_row" = some (some (.ref f__law_row)))
    (l__law_row : K.lookup f__law_row = some ⟨oc__law_row, od__law_row, .func (PySem.W.fnOf "_law_row" "_law_row" (defArgs s__law_row) (defBody s__law_row) (defScope s__law_row) .none kV__law_row dc__law_row pm__law_row an__law_row cd__law_row ct__law_row), sl__law_row⟩)
    (c__law_row : PySem.W.codeIn K cd__law_row "_law_row" = true)
    (k__law_row : PySem.W.keepIn K (.ref f__law_row) = true)
    (a__law_places : PySem.W.nsIn K mainGlobals "_law_places" = some (some (.ref f__law_places)))
    (l__law_places : K.lookup f__law_places = some ⟨oc__law_places, od__law_places, .func (PySem.W.fnOf "_law_places" "_law_places" (defArgs s__law_places) (defBody s__law_places) (defScope s__law_places) .none kV__law_places dc__law_places pm__law_places an__law_places cd__law_places ct__law_places), sl__law_places⟩)
    (c__law_places : PySem.W.codeIn K cd__law_places "_law_places" = true)
    (k__law_places : PySem.W.keepIn K (.ref f__law_places) = true)
    (a__law_less : PySem.W.nsIn K mainGlobals "_law_less" = some (some (.ref f__law_less)))
    (l__law_less : K.lookup f__law_less = some ⟨oc__law_less, od__law_less, .func (PySem.W.fnOf "_law_less" "_law_less" (defArgs s__law_less) (defBody s__law_less) (defScope s__law_less) .none kV__law_less dc__law_less pm__law_less an__law_less cd__law_less ct__law_less), sl__law_less⟩)
    (c__law_less : PySem.W.codeIn K cd__law_less "_law_less" = true)
    (k__law_less : PySem.W.keepIn K (.ref f__law_less) = true)
    (a__law_common : PySem.W.nsIn K mainGlobals "_law_common" = some (some (.ref f__law_common)))
    (l__law_common : K.lookup f__law_common = some ⟨oc__law_common, od__law_common, .func (PySem.W.fnOf "_law_common" "_law_common" (defArgs s__law_common) (defBody s__law_common) (defScope s__law_common) .none kV__law_common dc__law_common pm__law_common an__law_common cd__law_common ct__law_common), sl__law_common⟩)
    (c__law_common : PySem.W.codeIn K cd__law_common "_law_common" = true)
    (k__law_common : PySem.W.keepIn K (.ref f__law_common) = true)
    (a__law_other : PySem.W.nsIn K mainGlobals "_law_other" = some (some (.ref f__law_other)))
    (l__law_other : K.lookup f__law_other = some ⟨oc__law_other, od__law_other, .func (PySem.W.fnOf "_law_other" "_law_other" (defArgs s__law_other) (defBody s__law_other) (defScope s__law_other) .none kV__law_other dc__law_other pm__law_other an__law_other cd__law_other ct__law_other), sl__law_other⟩)
    (c__law_other : PySem.W.codeIn K cd__law_other "_law_other" = true)
    (k__law_other : PySem.W.keepIn K (.ref f__law_other) = true)
    (a__law_told : PySem.W.nsIn K mainGlobals "_law_told" = some (some (.ref f__law_told)))
    (l__law_told : K.lookup f__law_told = some ⟨oc__law_told, od__law_told, .func (PySem.W.fnOf "_law_told" "_law_told" (defArgs s__law_told) (defBody s__law_told) (defScope s__law_told) .none kV__law_told dc__law_told pm__law_told an__law_told cd__law_told ct__law_told), sl__law_told⟩)
    (c__law_told : PySem.W.codeIn K cd__law_told "_law_told" = true)
    (k__law_told : PySem.W.keepIn K (.ref f__law_told) = true)
    (a__law_pair_right : PySem.W.nsIn K mainGlobals "_law_pair_right" = some (some (.ref f__law_pair_right)))
    (l__law_pair_right : K.lookup f__law_pair_right = some ⟨oc__law_pair_right, od__law_pair_right, .func (PySem.W.fnOf "_law_pair_right" "_law_pair_right" (defArgs s__law_pair_right) (defBody s__law_pair_right) (defScope s__law_pair_right) .none kV__law_pair_right dc__law_pair_right pm__law_pair_right an__law_pair_right cd__law_pair_right ct__law_pair_right), sl__law_pair_right⟩)
    (c__law_pair_right : PySem.W.codeIn K cd__law_pair_right "_law_pair_right" = true)
    (k__law_pair_right : PySem.W.keepIn K (.ref f__law_pair_right) = true)
    (a_law : PySem.W.nsIn K mainGlobals "law" = some (some (.ref f_law)))
    (l_law : K.lookup f_law = some ⟨oc_law, od_law, .func (PySem.W.fnOf "law" "law" (defArgs s_law) (defBody s_law) (defScope s_law) .none kV_law dc_law pm_law an_law cd_law ct_law), sl_law⟩)
    (c_law : PySem.W.codeIn K cd_law "law" = true)
    (k_law : PySem.W.keepIn K (.ref f_law) = true)
    (a__law_parts_right : PySem.W.nsIn K mainGlobals "_law_parts_right" = some (some (.ref f__law_parts_right)))
    (l__law_parts_right : K.lookup f__law_parts_right = some ⟨oc__law_parts_right, od__law_parts_right, .func (PySem.W.fnOf "_law_parts_right" "_law_parts_right" (defArgs s__law_parts_right) (defBody s__law_parts_right) (defScope s__law_parts_right) .none kV__law_parts_right dc__law_parts_right pm__law_parts_right an__law_parts_right (.ref u__law_parts_right) ct__law_parts_right), sl__law_parts_right⟩)
    (c__law_parts_right : PySem.W.codeIn K (.ref u__law_parts_right) "_law_parts_right" = true)
    (k__law_parts_right : PySem.W.keepIn K (.ref f__law_parts_right) = true)
    (q__law_parts_right : K.lookup u__law_parts_right = some ⟨qc__law_parts_right, qd__law_parts_right, .fields qv__law_parts_right, qs__law_parts_right⟩)
    (p__law_parts_right : (qv__law_parts_right[11]? : Option Value) = some (.ref P__law_parts_right))
    (h__law_parts_right : PySem.W.codeHdIn K u__law_parts_right P__law_parts_right = true)
    (n__law_parts_right : K.lookup P__law_parts_right = none)
    (t__law_parts_right : h.get? P__law_parts_right = some { cls := .none, data := .fields #[] })
    (a__law_steps_right : PySem.W.nsIn K mainGlobals "_law_steps_right" = some (some (.ref f__law_steps_right)))
    (l__law_steps_right : K.lookup f__law_steps_right = some ⟨oc__law_steps_right, od__law_steps_right, .func (PySem.W.fnOf "_law_steps_right" "_law_steps_right" (defArgs s__law_steps_right) (defBody s__law_steps_right) (defScope s__law_steps_right) .none kV__law_steps_right dc__law_steps_right pm__law_steps_right an__law_steps_right (.ref u__law_steps_right) ct__law_steps_right), sl__law_steps_right⟩)
    (c__law_steps_right : PySem.W.codeIn K (.ref u__law_steps_right) "_law_steps_right" = true)
    (k__law_steps_right : PySem.W.keepIn K (.ref f__law_steps_right) = true)
    (q__law_steps_right : K.lookup u__law_steps_right = some ⟨qc__law_steps_right, qd__law_steps_right, .fields qv__law_steps_right, qs__law_steps_right⟩)
    (p__law_steps_right : (qv__law_steps_right[11]? : Option Value) = some (.ref P__law_steps_right))
    (h__law_steps_right : PySem.W.codeHdIn K u__law_steps_right P__law_steps_right = true)
    (n__law_steps_right : K.lookup P__law_steps_right = none)
    (t__law_steps_right : h.get? P__law_steps_right = some { cls := .none, data := .fields #[] })
    (a__law_refused_right : PySem.W.nsIn K mainGlobals "_law_refused_right" = some (some (.ref f__law_refused_right)))
    (l__law_refused_right : K.lookup f__law_refused_right = some ⟨oc__law_refused_right, od__law_refused_right, .func (PySem.W.fnOf "_law_refused_right" "_law_refused_right" (defArgs s__law_refused_right) (defBody s__law_refused_right) (defScope s__law_refused_right) .none kV__law_refused_right dc__law_refused_right pm__law_refused_right an__law_refused_right (.ref u__law_refused_right) ct__law_refused_right), sl__law_refused_right⟩)
    (c__law_refused_right : PySem.W.codeIn K (.ref u__law_refused_right) "_law_refused_right" = true)
    (k__law_refused_right : PySem.W.keepIn K (.ref f__law_refused_right) = true)
    (q__law_refused_right : K.lookup u__law_refused_right = some ⟨qc__law_refused_right, qd__law_refused_right, .fields qv__law_refused_right, qs__law_refused_right⟩)
    (p__law_refused_right : (qv__law_refused_right[11]? : Option Value) = some (.ref P__law_refused_right))
    (h__law_refused_right : PySem.W.codeHdIn K u__law_refused_right P__law_refused_right = true)
    (n__law_refused_right : K.lookup P__law_refused_right = none)
    (t__law_refused_right : h.get? P__law_refused_right = some { cls := .none, data := .fields #[] })
    (g_CM : PySem.W.nsIn K mainGlobals "TooMany" = some (some (.ref CM)))
    (x_CM : K.lookup CM = some (excClassObj nm_CM q_CM CM N_CM bs_CM bm_CM true sn_CM sub_CM ab_CM col_CM dd_CM m0_CM m1_CM m2_CM m3_CM m5_CM "ValueError.__new__"))
    (bm1_CM : PySem.HandSPX.refsVE bm_CM = true)
    (sa_CM : PySem.W.findIn K (.ref CM) "__setattr__" = some (some (.builtin "object.__setattr__")))
    (ex_CM : PySem.W.subIn K (.ref CM) (.type "BaseException") = some true)
    (ty_CM : PySem.W.typeIn K (.ref CM) = some (.type "type"))
    (kC_CM : PySem.W.keepIn K (.ref CM) = true)
    (cs_CM : (PySem.W.clsIn K CM).isSome = true)
    (ow_CM : PySem.W.hasDictIn K CM = true)
    (ga_CM : PySem.W.findIn K (.ref CM) "__getattribute__" = some (some (.builtin "BaseException.__getattribute__")))
    (gt_CM : PySem.W.findIn K (.ref CM) "__getattr__" = some none)
    (ca_CM : PySem.W.findIn K (.ref CM) "__class__" = some (some (.builtin "object.__class__")))
    (mr_CM : PySem.W.mroIn K CM (.type "object") = some true)
    (ii_CM : PySem.W.findIn K (.ref CM) "__init__" = some (some (.ref f_TM)))
    (no_CM : PySem.W.findIn K (.ref CM) "what" = some none)
    (xm_CM : PySem.W.exmOne K (.ref CM) (.ref CB) = some true)
    (ti_CM : PySem.W.typeIn K (.ref f_TM) = some (.type "function"))
    (ng_CM : PySem.W.findIn K (.ref CM) "most" = some none)
    (g_C2 : PySem.W.nsIn K mainGlobals "BadWord" = some (some (.ref C2)))
    (x_C2 : K.lookup C2 = some (excClassObj nm_C2 q_C2 C2 N_C2 bs_C2 bm_C2 true sn_C2 sub_C2 ab_C2 col_C2 dd_C2 m0_C2 m1_C2 m2_C2 m3_C2 m5_C2 "ValueError.__new__"))
    (bm1_C2 : PySem.HandSPX.refsVE bm_C2 = true)
    (sa_C2 : PySem.W.findIn K (.ref C2) "__setattr__" = some (some (.builtin "object.__setattr__")))
    (ex_C2 : PySem.W.subIn K (.ref C2) (.type "BaseException") = some true)
    (ty_C2 : PySem.W.typeIn K (.ref C2) = some (.type "type"))
    (kC_C2 : PySem.W.keepIn K (.ref C2) = true)
    (cs_C2 : (PySem.W.clsIn K C2).isSome = true)
    (ow_C2 : PySem.W.hasDictIn K C2 = true)
    (ga_C2 : PySem.W.findIn K (.ref C2) "__getattribute__" = some (some (.builtin "BaseException.__getattribute__")))
    (gt_C2 : PySem.W.findIn K (.ref C2) "__getattr__" = some none)
    (ca_C2 : PySem.W.findIn K (.ref C2) "__class__" = some (some (.builtin "object.__class__")))
    (mr_C2 : PySem.W.mroIn K C2 (.type "object") = some true)
    (ii_C2 : PySem.W.findIn K (.ref C2) "__init__" = some (some (.ref f_BW)))
    (no_C2 : PySem.W.findIn K (.ref C2) "at" = some none)
    (xm_C2 : PySem.W.exmOne K (.ref C2) (.ref CB) = some true)
    (ti_C2 : PySem.W.typeIn K (.ref f_BW) = some (.type "function"))
    (g_C1 : PySem.W.nsIn K mainGlobals "BadNumber" = some (some (.ref C1)))
    (x_C1 : K.lookup C1 = some (excClassObj nm_C1 q_C1 C1 N_C1 bs_C1 bm_C1 true sn_C1 sub_C1 ab_C1 col_C1 dd_C1 m0_C1 m1_C1 m2_C1 m3_C1 m5_C1 "ValueError.__new__"))
    (bm1_C1 : PySem.HandSPX.refsVE bm_C1 = true)
    (sa_C1 : PySem.W.findIn K (.ref C1) "__setattr__" = some (some (.builtin "object.__setattr__")))
    (ex_C1 : PySem.W.subIn K (.ref C1) (.type "BaseException") = some true)
    (ty_C1 : PySem.W.typeIn K (.ref C1) = some (.type "type"))
    (kC_C1 : PySem.W.keepIn K (.ref C1) = true)
    (cs_C1 : (PySem.W.clsIn K C1).isSome = true)
    (ow_C1 : PySem.W.hasDictIn K C1 = true)
    (ga_C1 : PySem.W.findIn K (.ref C1) "__getattribute__" = some (some (.builtin "BaseException.__getattribute__")))
    (gt_C1 : PySem.W.findIn K (.ref C1) "__getattr__" = some none)
    (ca_C1 : PySem.W.findIn K (.ref C1) "__class__" = some (some (.builtin "object.__class__")))
    (mr_C1 : PySem.W.mroIn K C1 (.type "object") = some true)
    (ii_C1 : PySem.W.findIn K (.ref C1) "__init__" = some (some (.ref f_BN)))
    (no_C1 : PySem.W.findIn K (.ref C1) "part" = some none)
    (xm_C1 : PySem.W.exmOne K (.ref C1) (.ref CB) = some true)
    (ti_C1 : PySem.W.typeIn K (.ref f_BN) = some (.type "function"))
    (w_pg : PySem.W.plainGet K CW Str.empty = true)
    (w_hd : PySem.W.hasDictIn K CW = true)
    (w_po : PySem.W.plainOver K CW = true)
    (w_sa : PySem.W.findIn K (.ref CW) "__setattr__" = some (some (.builtin "object.__setattr__")))
    (w_ca : PySem.W.findIn K (.ref CW) "__class__" = some (some (.builtin "object.__class__")))
    (w_mr : PySem.W.mroIn K CW (.type "object") = some true)
    (w_ns : PySem.W.kitOne K (.ref CW) (.type "str") = some false)
    (w_na : PySem.W.findIn K (.ref CW) "letters" = some none)
    (w_mk : PySem.W.makesIn K CW = true)
    (w_ii : PySem.W.findIn K (.ref CW) "__init__" = some (some (.ref f_WI)))
    (w_if : PySem.W.isFn K (.ref f_WI) = true)
    (w_kp : PySem.W.keepIn K (.ref CW) = true)
    (w_ob : K.lookup CW = some (excClassObj nmW qW CW NW bsW [.type "object"] hdW snW subW abW colW ddW w0 w1 w2 w3 w5 newW))
    (w_nk : PySem.W.nsOkIn K NW = true)
    (w_e1 : PySem.W.nsIn K NW "__eq__" = some (some (.ref f_WE)))
    (w_e2 : PySem.W.nsIn K NW "__ne__" = some none)
    (w_ef : PySem.W.findIn K (.ref CW) "__eq__" = some (some (.ref f_WE)))
    (w_en : PySem.W.isFn K (.ref f_WE) = true)
    (w_lt_f : PySem.W.findIn K (.ref CW) "__lt__" = some (some (.ref f_WLT)))
    (w_lt_n : PySem.W.isFn K (.ref f_WLT) = true)
    (w_le_f : PySem.W.findIn K (.ref CW) "__le__" = some (some (.ref f_WLE)))
    (w_le_n : PySem.W.isFn K (.ref f_WLE) = true)
    (w_gt_f : PySem.W.findIn K (.ref CW) "__gt__" = some (some (.ref f_WGT)))
    (w_gt_n : PySem.W.isFn K (.ref f_WGT) = true)
    (w_ge_f : PySem.W.findIn K (.ref CW) "__ge__" = some (some (.ref f_WGE)))
    (w_ge_n : PySem.W.isFn K (.ref f_WGE) = true)
    (w_getitem_f : PySem.W.findIn K (.ref CW) "__getitem__" = some (some (.ref f_WGI)))
    (w_getitem_n : PySem.W.isFn K (.ref f_WGI) = true)
    (w_len_f : PySem.W.findIn K (.ref CW) "__len__" = some (some (.ref f_WLN)))
    (w_len_n : PySem.W.isFn K (.ref f_WLN) = true)
    (w_iter_f : PySem.W.findIn K (.ref CW) "__iter__" = some (some (.ref f_WIT)))
    (w_iter_n : PySem.W.isFn K (.ref f_WIT) = true)
    (w_begins_f : PySem.W.findIn K (.ref CW) "begins" = some (some (.ref f_WB)))
    (w_begins_n : PySem.W.isFn K (.ref f_WB) = true)
    (w_ends_f : PySem.W.findIn K (.ref CW) "ends" = some (some (.ref f_WN)))
    (w_ends_n : PySem.W.isFn K (.ref f_WN) = true)
    (w_meet_f : PySem.W.findIn K (.ref CW) "meet" = some (some (.ref f_WMT)))
    (w_meet_n : PySem.W.isFn K (.ref f_WMT) = true)
    (w_gi_fi : PySem.W.fnIn K f_WGI = true)
    (w_gi_nq : PySem.W.noSeq K CW = true)
    (nk_slice : PySem.W.findCls K (.type "slice") (.type "type") "__name__" = some (.get (.builtin "getset_descriptor.__get__") (.builtin "type.__name__") (.type "slice") (.type "type")))
    (nk_int : PySem.W.findCls K (.type "int") (.type "type") "__name__" = some (.get (.builtin "getset_descriptor.__get__") (.builtin "type.__name__") (.type "int") (.type "type")))
    (w_nf : PySem.W.notFirst K CW (.ref CW) = true)
    (o4_NoneType : PySem.W.kitOne K (.type "NoneType") (.ref CW) = some false)
    (o4_int : PySem.W.kitOne K (.type "int") (.ref CW) = some false)
    (o4_str : PySem.W.kitOne K (.type "str") (.ref CW) = some false)
    (o4_list : PySem.W.kitOne K (.type "list") (.ref CW) = some false)
    (o4_tuple : PySem.W.kitOne K (.type "tuple") (.ref CW) = some false)
    (o4_bool : PySem.W.kitOne K (.type "bool") (.ref CW) = some false)
    (l_TM : K.lookup f_TM = some ⟨oc_TM, od_TM, .func (PySem.W.fnOf "__init__" "TooMany.__init__" (defArgs s_TooMany_init) (defBody s_TooMany_init) (defScope s_TooMany_init) .none kV_TM dc_TM pm_TM an_TM cd_TM ct_TM), sl_TM⟩)
    (c_TM : PySem.W.codeIn K cd_TM "TooMany.__init__" = true)
    (k_TM : PySem.W.keepIn K (.ref f_TM) = true)
    (l_BW : K.lookup f_BW = some ⟨oc_BW, od_BW, .func (PySem.W.fnOf "__init__" "BadWord.__init__" (defArgs s_BadWord_init) (defBody s_BadWord_init) (defScope s_BadWord_init) .none kV_BW dc_BW pm_BW an_BW cd_BW ct_BW), sl_BW⟩)
    (c_BW : PySem.W.codeIn K cd_BW "BadWord.__init__" = true)
    (k_BW : PySem.W.keepIn K (.ref f_BW) = true)
    (l_WI : K.lookup f_WI = some ⟨oc_WI, od_WI, .func (PySem.W.fnOf "__init__" "Word.__init__" (defArgs s_Word_init) (defBody s_Word_init) (defScope s_Word_init) (.ref T_WI) kV_WI dc_WI pm_WI an_WI cd_WI ct_WI), sl_WI⟩)
    (d_WI : K.lookup T_WI = some ⟨cT_WI, dT_WI, .seq [.str "" tt_WI].toArray nT_WI, sT_WI⟩)
    (c_WI : PySem.W.codeIn K cd_WI "Word.__init__" = true)
    (k_WI : PySem.W.keepIn K (.ref f_WI) = true)
    (l_BN : K.lookup f_BN = some ⟨oc_BN, od_BN, .func (PySem.W.fnOf "__init__" "BadNumber.__init__" (defArgs s_BadNumber_init) (defBody s_BadNumber_init) (defScope s_BadNumber_init) .none kV_BN dc_BN pm_BN an_BN cd_BN ct_BN), sl_BN⟩)
    (c_BN : PySem.W.codeIn K cd_BN "BadNumber.__init__" = true)
    (k_BN : PySem.W.keepIn K (.ref f_BN) = true)
    (l_WE : K.lookup f_WE = some ⟨oc_WE, od_WE, .func (PySem.W.fnOf "__eq__" "Word.__eq__" (defArgs s_Word_eq) (defBody s_Word_eq) (defScope s_Word_eq) .none kV_WE dc_WE pm_WE an_WE cd_WE ct_WE), sl_WE⟩)
    (c_WE : PySem.W.codeIn K cd_WE "Word.__eq__" = true)
    (k_WE : PySem.W.keepIn K (.ref f_WE) = true)
    (l_WLT : K.lookup f_WLT = some ⟨oc_WLT, od_WLT, .func (PySem.W.fnOf "__lt__" "Word.__lt__" (defArgs s_Word_lt) (defBody s_Word_lt) (defScope s_Word_lt) .none kV_WLT dc_WLT pm_WLT an_WLT cd_WLT ct_WLT), sl_WLT⟩)
    (c_WLT : PySem.W.codeIn K cd_WLT "Word.__lt__" = true)
    (k_WLT : PySem.W.keepIn K (.ref f_WLT) = true)
    (l_WLE : K.lookup f_WLE = some ⟨oc_WLE, od_WLE, .func (PySem.W.fnOf "__le__" "Word.__le__" (defArgs s_Word_le) (defBody s_Word_le) (defScope s_Word_le) .none kV_WLE dc_WLE pm_WLE an_WLE cd_WLE ct_WLE), sl_WLE⟩)
    (c_WLE : PySem.W.codeIn K cd_WLE "Word.__le__" = true)
    (k_WLE : PySem.W.keepIn K (.ref f_WLE) = true)
    (l_WGT : K.lookup f_WGT = some ⟨oc_WGT, od_WGT, .func (PySem.W.fnOf "__gt__" "Word.__gt__" (defArgs s_Word_gt) (defBody s_Word_gt) (defScope s_Word_gt) .none kV_WGT dc_WGT pm_WGT an_WGT cd_WGT ct_WGT), sl_WGT⟩)
    (c_WGT : PySem.W.codeIn K cd_WGT "Word.__gt__" = true)
    (k_WGT : PySem.W.keepIn K (.ref f_WGT) = true)
    (l_WGE : K.lookup f_WGE = some ⟨oc_WGE, od_WGE, .func (PySem.W.fnOf "__ge__" "Word.__ge__" (defArgs s_Word_ge) (defBody s_Word_ge) (defScope s_Word_ge) .none kV_WGE dc_WGE pm_WGE an_WGE cd_WGE ct_WGE), sl_WGE⟩)
    (c_WGE : PySem.W.codeIn K cd_WGE "Word.__ge__" = true)
    (k_WGE : PySem.W.keepIn K (.ref f_WGE) = true)
    (l_WGI : K.lookup f_WGI = some ⟨oc_WGI, od_WGI, .func (PySem.W.fnOf "__getitem__" "Word.__getitem__" (defArgs s_Word_getitem) (defBody s_Word_getitem) (defScope s_Word_getitem) .none kV_WGI dc_WGI pm_WGI an_WGI cd_WGI ct_WGI), sl_WGI⟩)
    (c_WGI : PySem.W.codeIn K cd_WGI "Word.__getitem__" = true)
    (k_WGI : PySem.W.keepIn K (.ref f_WGI) = true)
    (l_WLN : K.lookup f_WLN = some ⟨oc_WLN, od_WLN, .func (PySem.W.fnOf "__len__" "Word.__len__" (defArgs s_Word_len) (defBody s_Word_len) (defScope s_Word_len) .none kV_WLN dc_WLN pm_WLN an_WLN cd_WLN ct_WLN), sl_WLN⟩)
    (c_WLN : PySem.W.codeIn K cd_WLN "Word.__len__" = true)
    (k_WLN : PySem.W.keepIn K (.ref f_WLN) = true)
    (l_WIT : K.lookup f_WIT = some ⟨oc_WIT, od_WIT, .func (PySem.W.fnOf "__iter__" "Word.__iter__" (defArgs s_Word_iter) (defBody s_Word_iter) (defScope s_Word_iter) .none kV_WIT dc_WIT pm_WIT an_WIT cd_WIT ct_WIT), sl_WIT⟩)
    (c_WIT : PySem.W.codeIn K cd_WIT "Word.__iter__" = true)
    (k_WIT : PySem.W.keepIn K (.ref f_WIT) = true)
    (l_WB : K.lookup f_WB = some ⟨oc_WB, od_WB, .func (PySem.W.fnOf "begins" "Word.begins" (defArgs s_Word_begins) (defBody s_Word_begins) (defScope s_Word_begins) .none kV_WB dc_WB pm_WB an_WB cd_WB ct_WB), sl_WB⟩)
    (c_WB : PySem.W.codeIn K cd_WB "Word.begins" = true)
    (k_WB : PySem.W.keepIn K (.ref f_WB) = true)
    (l_WN : K.lookup f_WN = some ⟨oc_WN, od_WN, .func (PySem.W.fnOf "ends" "Word.ends" (defArgs s_Word_ends) (defBody s_Word_ends) (defScope s_Word_ends) .none kV_WN dc_WN pm_WN an_WN cd_WN ct_WN), sl_WN⟩)
    (c_WN : PySem.W.codeIn K cd_WN "Word.ends" = true)
    (k_WN : PySem.W.keepIn K (.ref f_WN) = true)
    (l_WMT : K.lookup f_WMT = some ⟨oc_WMT, od_WMT, .func (PySem.W.fnOf "meet" "Word.meet" (defArgs s_Word_meet) (defBody s_Word_meet) (defScope s_Word_meet) .none kV_WMT dc_WMT pm_WMT an_WMT cd_WMT ct_WMT), sl_WMT⟩)
    (c_WMT : PySem.W.codeIn K cd_WMT "Word.meet" = true)
    (k_WMT : PySem.W.keepIn K (.ref f_WMT) = true)
    (ne_0_1 : P__law_parts_right ≠ P__law_steps_right) (ne_0_2 : P__law_parts_right ≠ P__law_refused_right) (ne_1_2 : P__law_steps_right ≠ P__law_refused_right) :
    LamX.LawAtS PySem.Challenge.rw_sevenball_k03_orders_beginnings_and_tail w K CX0 10 63 "script" mg fa h := by
  have e := hfa.symm.trans (PySem.W.mg_of X G a_law)
  cases e
  have F_first_fault := fun_mk (st := s_first_fault) l_first_fault c_first_fault k_first_fault
  have F_is_integer := fun_mk (st := s_is_integer) l_is_integer c_is_integer k_is_integer
  have F_is_within := fun_mk (st := s_is_within) l_is_within c_is_within k_is_within
  have F__law_pen := fun_mk (st := s__law_pen) l__law_pen c__law_pen k__law_pen
  have F__law_draw := fun_mk (st := s__law_draw) l__law_draw c__law_draw k__law_draw
  have F__law_pick := fun_mk (st := s__law_pick) l__law_pick c__law_pick k__law_pick
  have F__law_heard := fun_mk (st := s__law_heard) l__law_heard c__law_heard k__law_heard
  have F__law_undo := fun_mk (st := s__law_undo) l__law_undo c__law_undo k__law_undo
  have F__law_row := fun_mk (st := s__law_row) l__law_row c__law_row k__law_row
  have F__law_places := fun_mk (st := s__law_places) l__law_places c__law_places k__law_places
  have F__law_less := fun_mk (st := s__law_less) l__law_less c__law_less k__law_less
  have F__law_common := fun_mk (st := s__law_common) l__law_common c__law_common k__law_common
  have F__law_other := fun_mk (st := s__law_other) l__law_other c__law_other k__law_other
  have F__law_told := fun_mk (st := s__law_told) l__law_told c__law_told k__law_told
  have F__law_pair_right := fun_mk (st := s__law_pair_right) l__law_pair_right c__law_pair_right k__law_pair_right
  have F_law := fun_mk (st := s_law) l_law c_law k_law
  have F_BW := fun_mk (st := s_BadWord_init) l_BW c_BW k_BW
  have F_BN := fun_mk (st := s_BadNumber_init) l_BN c_BN k_BN
  have F_TM := fun_mk (st := s_TooMany_init) l_TM c_TM k_TM
  have F_WE := fun_mk (st := s_Word_eq) l_WE c_WE k_WE
  have F_WLT := fun_mk (st := s_Word_lt) l_WLT c_WLT k_WLT
  have F_WLE := fun_mk (st := s_Word_le) l_WLE c_WLE k_WLE
  have F_WGT := fun_mk (st := s_Word_gt) l_WGT c_WGT k_WGT
  have F_WGE := fun_mk (st := s_Word_ge) l_WGE c_WGE k_WGE
  have F_WGI := fun_mk (st := s_Word_getitem) l_WGI c_WGI k_WGI
  have F_WLN := fun_mk (st := s_Word_len) l_WLN c_WLN k_WLN
  have F_WIT := fun_mk (st := s_Word_iter) l_WIT c_WIT k_WIT
  have F_WB := fun_mk (st := s_Word_begins) l_WB c_WB k_WB
  have F_WN := fun_mk (st := s_Word_ends) l_WN c_WN k_WN
  have F_WMT := fun_mk (st := s_Word_meet) l_WMT c_WMT k_WMT
  have T__law_parts_right := funT_mk (st := s__law_parts_right) l__law_parts_right c__law_parts_right k__law_parts_right
  have T__law_steps_right := funT_mk (st := s__law_steps_right) l__law_steps_right c__law_steps_right k__law_steps_right
  have T__law_refused_right := funT_mk (st := s__law_refused_right) l__law_refused_right c__law_refused_right k__law_refused_right
  have F_WI : FunD K "__init__" "Word.__init__" (defArgs s_Word_init) (defBody s_Word_init) (defScope s_Word_init) [.str ""] [] f_WI _ :=
    ⟨⟨_, _, _, _, _, _, _, _, _, _, rfl, l_WI, c_WI, .inr ⟨fun z => (nomatch z), T_WI, _, _, _, rfl, d_WI, rfl, .cons ⟨_, rfl⟩ .nil⟩, .inl rfl⟩, k_WI⟩
  have E3 : Err2 K mg "TooMany" "what" "most" CM f_TM := { ox := ⟨⟨_, _, _, _, _, _, _, _, _, _, _, _, _, _, _, x_CM, bm1_CM⟩, sa_CM, ex_CM, ty_CM, kC_CM⟩, ec := ⟨cs_CM, ow_CM, ga_CM, gt_CM, ex_CM, ca_CM, cg, ct, mr_CM⟩, iC := ii_CM, tI := ti_CM, nf := no_CM, ng := ng_CM, at_ := PySem.W.mg_of X G g_CM }
  have E1 : Err1 K mg "BadNumber" "part" C1 f_BN := { ox := ⟨⟨_, _, _, _, _, _, _, _, _, _, _, _, _, _, _, x_C1, bm1_C1⟩, sa_C1, ex_C1, ty_C1, kC_C1⟩, ec := ⟨cs_C1, ow_C1, ga_C1, gt_C1, ex_C1, ca_C1, cg, ct, mr_C1⟩, iC := ii_C1, tI := ti_C1, no := no_C1, at_ := PySem.W.mg_of X G g_C1 }
  have E2 : Err1 K mg "BadWord" "at" C2 f_BW := { ox := ⟨⟨_, _, _, _, _, _, _, _, _, _, _, _, _, _, _, x_C2, bm1_C2⟩, sa_C2, ex_C2, ty_C2, kC_C2⟩, ec := ⟨cs_C2, ow_C2, ga_C2, gt_C2, ex_C2, ca_C2, cg, ct, mr_C2⟩, iC := ii_C2, tI := ti_C2, no := no_C2, at_ := PySem.W.mg_of X G g_C2 }
  have cl : Cls K CW := ⟨w_pg, w_hd, w_po, w_sa⟩
  have ic : IsC K CW := ⟨w_ca, cg, ct, w_mr, w_ns⟩
  have M : Mk K CW f_WI := ⟨w_mk, w_ii, w_if, w_kp⟩
  have EqW : EqC K CW f_WE := ⟨⟨_, _, _, _, _, _, _, _, _, _, _, _, _, _, _, _, w_ob, w_nk, w_e1, w_e2⟩, w_ef, w_en⟩
  have me_begins : Meth K CW "begins" f_WB := ⟨w_begins_f, w_begins_n, k_WB⟩
  have me_ends : Meth K CW "ends" f_WN := ⟨w_ends_f, w_ends_n, k_WN⟩
  have me_meet : Meth K CW "meet" f_WMT := ⟨w_meet_f, w_meet_n, k_WMT⟩
  have IC : ItemC K CW f_WGI := ⟨w_getitem_f, w_getitem_n, w_gi_fi, w_gi_nq⟩
  have NK : NameK K := ⟨nk_slice, nk_int⟩
  have gW := PySem.W.mg_of X G g_CW
  have none := fun {x : Str} (z : PySem.W.nsIn K mainGlobals x = some Option.none) => PySem.W.mg_none_of X G z
  have m_len := none z_len
  have m_isinstance := none z_isinstance
  have m_str := none z_str
  have m_int := none z_int
  have m_bool := none z_bool
  have m_range := none z_range
  have m_abs := none z_abs
  have m_list := none z_list
  have m_enumerate := none z_enumerate
  have m_max := none z_max
  have m_zip := none z_zip
  have m_iter := none z_iter
  have mL : ∃ t, mg "LETTERS" = some (.str "ABCDabcd" t) := ⟨_, PySem.W.mg_of X G g_L⟩
  have mM : ∃ t, mg "MOST_LETTERS" = some (.int 4000 t) := ⟨_, PySem.W.mg_of X G g_M⟩
  have b_first_fault := F_first_fault.binds (ps := ["letters"]) fun _ _ _ _ _ _ us hl => match us, hl with | [_], _ => rfl
  have b_is_integer := F_is_integer.binds (ps := ["value"]) fun _ _ _ _ _ _ us hl => match us, hl with | [_], _ => rfl
  have b_is_within := F_is_within.binds (ps := ["value", "least", "most"]) fun _ _ _ _ _ _ us hl => match us, hl with | [_, _, _], _ => rfl
  have b__law_pen := F__law_pen.binds (ps := ["script"]) fun _ _ _ _ _ _ us hl => match us, hl with | [_], _ => rfl
  have b__law_draw := F__law_draw.binds (ps := ["pen", "many"]) fun _ _ _ _ _ _ us hl => match us, hl with | [_, _], _ => rfl
  have b__law_pick := F__law_pick.binds (ps := ["pen", "some"]) fun _ _ _ _ _ _ us hl => match us, hl with | [_, _], _ => rfl
  have b__law_heard := F__law_heard.binds (ps := ["ask"]) fun _ _ _ _ _ _ us hl => match us, hl with | [_], _ => rfl
  have b__law_undo := F__law_undo.binds (ps := ["letter"]) fun _ _ _ _ _ _ us hl => match us, hl with | [_], _ => rfl
  have b__law_row := F__law_row.binds (ps := ["pen", "most"]) fun _ _ _ _ _ _ us hl => match us, hl with | [_, _], _ => rfl
  have b__law_places := F__law_places.binds (ps := ["row"]) fun _ _ _ _ _ _ us hl => match us, hl with | [_], _ => rfl
  have b__law_less := F__law_less.binds (ps := ["one", "other"]) fun _ _ _ _ _ _ us hl => match us, hl with | [_, _], _ => rfl
  have b__law_common := F__law_common.binds (ps := ["one", "other"]) fun _ _ _ _ _ _ us hl => match us, hl with | [_, _], _ => rfl
  have b__law_other := F__law_other.binds (ps := ["pen", "row"]) fun _ _ _ _ _ _ us hl => match us, hl with | [_, _], _ => rfl
  have b__law_told := F__law_told.binds (ps := ["told", "due"]) fun _ _ _ _ _ _ us hl => match us, hl with | [_, _], _ => rfl
  have b__law_pair_right := F__law_pair_right.binds (ps := ["one", "other"]) fun _ _ _ _ _ _ us hl => match us, hl with | [_, _], _ => rfl
  have b_law := F_law.binds (ps := ["script"]) fun _ _ _ _ _ _ us hl => match us, hl with | [_], _ => rfl
  have b__law_parts_right := T__law_parts_right.fn.binds (ps := ["pen", "row"]) fun _ _ _ _ _ _ us hl => match us, hl with | [_, _], _ => rfl
  have b__law_steps_right := T__law_steps_right.fn.binds (ps := ["pen", "row"]) fun _ _ _ _ _ _ us hl => match us, hl with | [_, _], _ => rfl
  have b__law_refused_right := T__law_refused_right.fn.binds (ps := ["pen", "row"]) fun _ _ _ _ _ _ us hl => match us, hl with | [_, _], _ => rfl
  have b_BW := F_BW.binds (ps := ["self", "at"]) fun _ _ _ _ _ _ us hl => match us, hl with | [_, _], _ => rfl
  have b_BN := F_BN.binds (ps := ["self", "part"]) fun _ _ _ _ _ _ us hl => match us, hl with | [_, _], _ => rfl
  have b_TM := F_TM.binds (ps := ["self", "what", "most"]) fun _ _ _ _ _ _ us hl => match us, hl with | [_, _, _], _ => rfl
  have b_WE := F_WE.binds (ps := ["self", "other"]) fun _ _ _ _ _ _ us hl => match us, hl with | [_, _], _ => rfl
  have b_WLT := F_WLT.binds (ps := ["self", "other"]) fun _ _ _ _ _ _ us hl => match us, hl with | [_, _], _ => rfl
  have b_WLE := F_WLE.binds (ps := ["self", "other"]) fun _ _ _ _ _ _ us hl => match us, hl with | [_, _], _ => rfl
  have b_WGT := F_WGT.binds (ps := ["self", "other"]) fun _ _ _ _ _ _ us hl => match us, hl with | [_, _], _ => rfl
  have b_WGE := F_WGE.binds (ps := ["self", "other"]) fun _ _ _ _ _ _ us hl => match us, hl with | [_, _], _ => rfl
  have b_WGI := F_WGI.binds (ps := ["self", "at"]) fun _ _ _ _ _ _ us hl => match us, hl with | [_, _], _ => rfl
  have b_WLN := F_WLN.binds (ps := ["self"]) fun _ _ _ _ _ _ us hl => match us, hl with | [_], _ => rfl
  have b_WIT := F_WIT.binds (ps := ["self"]) fun _ _ _ _ _ _ us hl => match us, hl with | [_], _ => rfl
  have b_WB := F_WB.binds (ps := ["self", "other"]) fun _ _ _ _ _ _ us hl => match us, hl with | [_, _], _ => rfl
  have b_WN := F_WN.binds (ps := ["self", "other"]) fun _ _ _ _ _ _ us hl => match us, hl with | [_, _], _ => rfl
  have b_WMT := F_WMT.binds (ps := ["self", "other"]) fun _ _ _ _ _ _ us hl => match us, hl with | [_, _], _ => rfl
  have kw_begins := begins_kw F_WB
  have kw_ends := ends_kw F_WN
  have kw_meet := meet_kw F_WMT
  obtain ⟨ds1, v1, b_WI⟩ := F_WI.binds1 (ps := ["self", "letters"]) 2 1 (fun z => (nomatch z)) rfl fun _ _ _ _ _ _ _ us its h1 h2 => match us, its, h1, h2 with | [_, _], [_], _, _ => ⟨_, rfl, rfl⟩
  obtain ⟨ds2, v2, b_WI0⟩ := F_WI.binds1 (ps := ["self", "letters"]) 1 0 (fun z => (nomatch z)) rfl fun _ _ _ _ _ _ _ us its h1 h2 => match us, its, h1, h2 with | [_], [_], _, _ => ⟨_, rfl, rfl⟩
  have n1 : ds1 = [] := by
    cases v1
    rfl
  subst n1
  obtain ⟨tE, rfl, rE⟩ : ∃ tE, ds2 = [tE] ∧ RelV (.str "") tE := by
    cases v2 with
    | cons r q =>
      cases q
      exact ⟨_, rfl, r⟩
  have xm2 := xm_C2
  have xm1 := xm_C1
  have OD : OddOk K CW := fun T hT => by
    simp only [List.mem_cons, List.not_mem_nil, or_false] at hT
    rcases hT with rfl | rfl | rfl | rfl | rfl | rfl
    · exact o4_NoneType
    · exact o4_int
    · exact o4_str
    · exact o4_list
    · exact o4_tuple
    · exact o4_bool
  refine ⟨PySem.W.fnOf "law" "law" (defArgs s_law) (defBody s_law) (defScope s_law) .none kV_law dc_law pm_law an_law cd_law ct_law, [(u__law_parts_right, P__law_parts_right), (u__law_steps_right, P__law_steps_right), (u__law_refused_right, P__law_refused_right)], spLaw K [(P__law_parts_right, lq "_law_parts_right"), (P__law_steps_right, lq "_law_steps_right"), (P__law_refused_right, lq "_law_refused_right")], ?_, ?_, ?_, fun s u => ?_, ?_, fun base kb nb tb => ?_⟩
  · intro p hp
    simp only [List.mem_cons, List.not_mem_nil, or_false] at hp
    rcases hp with rfl | rfl | rfl
    · exact t__law_parts_right
    · exact t__law_steps_right
    · exact t__law_refused_right
  · intro p hp
    simp only [List.mem_cons, List.not_mem_nil, or_false] at hp
    rcases hp with rfl | rfl | rfl
    · exact n__law_parts_right
    · exact n__law_steps_right
    · exact n__law_refused_right
  · intro p hp
    simp only [List.mem_cons, List.not_mem_nil, or_false] at hp
    rcases hp with rfl | rfl | rfl
    · exact PySem.W.codeHd_of_K X h__law_parts_right
    · exact PySem.W.codeHd_of_K X h__law_steps_right
    · exact PySem.W.codeHd_of_K X h__law_refused_right
  · exact .of_eq rfl
  · intro H a ns _ _ hT hS
    refine ⟨a, ns, rfl, hS, ?_, fun _ => rfl⟩
    have one := fun p hp => hT p hp
    intro p hp
    simp only [List.mem_cons, List.not_mem_nil, or_false] at hp
    rcases hp with rfl | rfl | rfl
    · exact .nil (one (u__law_parts_right, P__law_parts_right) (by simp))
    · exact .nil (one (u__law_steps_right, P__law_steps_right) (by simp))
    · exact .nil (one (u__law_refused_right, P__law_refused_right) (by simp))
  · have in__law_parts_right : (P__law_parts_right, lq "_law_parts_right") ∈ [(P__law_parts_right, lq "_law_parts_right"), (P__law_steps_right, lq "_law_steps_right"), (P__law_refused_right, lq "_law_refused_right")] := by simp
    have in__law_steps_right : (P__law_steps_right, lq "_law_steps_right") ∈ [(P__law_parts_right, lq "_law_parts_right"), (P__law_steps_right, lq "_law_steps_right"), (P__law_refused_right, lq "_law_refused_right")] := by simp
    have in__law_refused_right : (P__law_refused_right, lq "_law_refused_right") ∈ [(P__law_parts_right, lq "_law_parts_right"), (P__law_steps_right, lq "_law_steps_right"), (P__law_refused_right, lq "_law_refused_right")] := by simp
    have un : ∀ q ∈ [(P__law_parts_right, lq "_law_parts_right"), (P__law_steps_right, lq "_law_steps_right"), (P__law_refused_right, lq "_law_refused_right")], (q.1 = P__law_parts_right → q.2 = lq "_law_parts_right") ∧ (q.1 = P__law_steps_right → q.2 = lq "_law_steps_right") ∧ (q.1 = P__law_refused_right → q.2 = lq "_law_refused_right") := by
      intro q hq
      simp only [List.mem_cons, List.not_mem_nil, or_false] at hq
      rcases hq with rfl | rfl | rfl
      · exact ⟨fun _ => rfl, fun z => absurd z ne_0_1, fun z => absurd z ne_0_2⟩
      · exact ⟨fun z => absurd z.symm ne_0_1, fun _ => rfl, fun z => absurd z ne_1_2⟩
      · exact ⟨fun z => absurd z.symm ne_0_2, fun z => absurd z.symm ne_1_2, fun _ => rfl⟩
    have Hd : Heard K mg CB := ⟨⟨_, _, F__law_heard, b__law_heard, PySem.W.mg_of X G a__law_heard⟩, PySem.W.mg_of X G g_CB⟩
    have GW := ok_Word_init (P := PySem.Challenge.rw_sevenball_k03_orders_beginnings_and_tail.prog) (w := w) (base := base) (k := 0) F_WI E2 F_BW b_BW E3 F_TM b_TM F_first_fault b_first_fault (PySem.W.mg_of X G a_first_fault) cl w_na m_isinstance m_str m_len m_enumerate mL mM
    have MO : MakeOk PySem.Challenge.rw_sevenball_k03_orders_beginnings_and_tail.prog w K mg base CW C2 CM 0 := ⟨⟨_, _, _, M, GW, b_WI, b_WI0, rE⟩, gW, cl, ic, w_na⟩
    have GII := ok_is_integer (P := PySem.Challenge.rw_sevenball_k03_orders_beginnings_and_tail.prog) (w := w) (base := base) (k := 0) F_is_integer m_isinstance m_int m_bool
    have GIW := ok_is_within (P := PySem.Challenge.rw_sevenball_k03_orders_beginnings_and_tail.prog) (w := w) (base := base) (k := 0) F_is_within GII (PySem.W.mg_of X G a_is_integer) k_is_integer b_is_integer
    have GE := ok_Word_eq (P := PySem.Challenge.rw_sevenball_k03_orders_beginnings_and_tail.prog) (w := w) (base := base) (k := 0) F_WE MO m_isinstance m_len
    have GLT := ok_Word_lt (P := PySem.Challenge.rw_sevenball_k03_orders_beginnings_and_tail.prog) (w := w) (base := base) (k := 0) F_WLT MO m_isinstance m_len
    have GLE := ok_Word_le (P := PySem.Challenge.rw_sevenball_k03_orders_beginnings_and_tail.prog) (w := w) (base := base) (k := 0) F_WLE MO m_isinstance m_len
    have GGT := ok_Word_gt (P := PySem.Challenge.rw_sevenball_k03_orders_beginnings_and_tail.prog) (w := w) (base := base) (k := 0) F_WGT MO m_isinstance m_len
    have GGE := ok_Word_ge (P := PySem.Challenge.rw_sevenball_k03_orders_beginnings_and_tail.prog) (w := w) (base := base) (k := 0) F_WGE MO m_isinstance m_len
    have GBe := ok_Word_begins (P := PySem.Challenge.rw_sevenball_k03_orders_beginnings_and_tail.prog) (w := w) (base := base) (k := 0) F_WB MO E2 F_BW b_BW m_isinstance
    have GEn := ok_Word_ends (P := PySem.Challenge.rw_sevenball_k03_orders_beginnings_and_tail.prog) (w := w) (base := base) (k := 0) F_WN MO E2 F_BW b_BW m_isinstance
    have GMe := ok_Word_meet (P := PySem.Challenge.rw_sevenball_k03_orders_beginnings_and_tail.prog) (w := w) (base := base) (k := 0) F_WMT MO E2 F_BW b_BW m_isinstance m_zip
    have GIt := ok_Word_getitem (P := PySem.Challenge.rw_sevenball_k03_orders_beginnings_and_tail.prog) (w := w) (base := base) (k := 0) F_WGI MO NK E1 F_BN b_BN GIW (PySem.W.mg_of X G a_is_within) k_is_within b_is_within m_len
    have GLn := ok_Word_len (P := PySem.Challenge.rw_sevenball_k03_orders_beginnings_and_tail.prog) (w := w) (base := base) (k := 0) F_WLN cl w_na m_len
    have TIt := ok_Word_iter (P := PySem.Challenge.rw_sevenball_k03_orders_beginnings_and_tail.prog) (w := w) (base := base) (k := 0) F_WIT cl w_na m_iter w_iter_f w_iter_n b_WIT
    have OO : OpsOk PySem.Challenge.rw_sevenball_k03_orders_beginnings_and_tail.prog w K mg base CW C1 C2 0 := ⟨w_nf, ⟨_, _, w_lt_f, w_lt_n, GLT, b_WLT⟩, ⟨_, _, w_le_f, w_le_n, GLE, b_WLE⟩, ⟨_, _, w_gt_f, w_gt_n, GGT, b_WGT⟩, ⟨_, _, w_ge_f, w_ge_n, GGE, b_WGE⟩, ⟨_, _, EqW, GE, b_WE⟩, ⟨_, _, me_begins, GBe, b_WB, kw_begins⟩, ⟨_, _, me_ends, GEn, b_WN, kw_ends⟩, ⟨_, _, me_meet, GMe, b_WMT, kw_meet⟩, ⟨_, _, IC, GIt, b_WGI⟩, ⟨_, _, w_len_f, w_len_n, GLn, b_WLN⟩, ⟨_, TIt⟩⟩
    have Gpen := ok_law_pen (P := PySem.Challenge.rw_sevenball_k03_orders_beginnings_and_tail.prog) (w := w) (base := base) (k := 0) F__law_pen m_list
    have Gdraw1 := ok_law_draw (P := PySem.Challenge.rw_sevenball_k03_orders_beginnings_and_tail.prog) (w := w) (base := base) (k := 0) F__law_draw m_int m_len m_abs
    have Gdraw2 := ok_law_draw (P := PySem.Challenge.rw_sevenball_k03_orders_beginnings_and_tail.prog) (w := w) (base := base) (k := 1) F__law_draw m_int m_len m_abs
    have Gpick := ok_law_pick (P := PySem.Challenge.rw_sevenball_k03_orders_beginnings_and_tail.prog) (w := w) (base := base) (k := 0) F__law_pick Gdraw1 (PySem.W.mg_of X G a__law_draw) k__law_draw b__law_draw m_len
    have Gundo := ok_law_undo (P := PySem.Challenge.rw_sevenball_k03_orders_beginnings_and_tail.prog) (w := w) (base := base) (mg := mg) (k := 1) F__law_undo
    have Grow := ok_law_row (P := PySem.Challenge.rw_sevenball_k03_orders_beginnings_and_tail.prog) (w := w) (base := base) (k := 0) F__law_row Gdraw2 (PySem.W.mg_of X G a__law_draw) k__law_draw b__law_draw Gpick (PySem.W.mg_of X G a__law_pick) k__law_pick b__law_pick Gundo (PySem.W.mg_of X G a__law_undo) k__law_undo b__law_undo m_range
    have Gplaces := ok_law_places (P := PySem.Challenge.rw_sevenball_k03_orders_beginnings_and_tail.prog) (w := w) (base := base) (mg := mg) (k := 1) F__law_places
    have Gless := ok_law_less (P := PySem.Challenge.rw_sevenball_k03_orders_beginnings_and_tail.prog) (w := w) (base := base) (k := 1) F__law_less Gplaces (PySem.W.mg_of X G a__law_places) k__law_places b__law_places m_len m_range
    have Gcommon := ok_law_common (P := PySem.Challenge.rw_sevenball_k03_orders_beginnings_and_tail.prog) (w := w) (base := base) (k := 0) F__law_common m_len
    have Gother := ok_law_other (P := PySem.Challenge.rw_sevenball_k03_orders_beginnings_and_tail.prog) (w := w) (base := base) (k := 0) F__law_other Gdraw2 (PySem.W.mg_of X G a__law_draw) k__law_draw b__law_draw Gpick (PySem.W.mg_of X G a__law_pick) k__law_pick b__law_pick Gundo (PySem.W.mg_of X G a__law_undo) k__law_undo b__law_undo Grow (PySem.W.mg_of X G a__law_row) k__law_row b__law_row m_len
    have Gtold := ok_law_told (P := PySem.Challenge.rw_sevenball_k03_orders_beginnings_and_tail.prog) (w := w) (base := base) (mg := mg) (k := 0) F__law_told
    have Gpair := ok_law_pair_right (k := 0) F__law_pair_right MO OO Gless (PySem.W.mg_of X G a__law_less) k__law_less b__law_less Gcommon (PySem.W.mg_of X G a__law_common) k__law_common b__law_common Gtold (PySem.W.mg_of X G a__law_told) k__law_told b__law_told m_isinstance m_len m_max
    have Gparts := ok_law_parts_right (k := 0) T__law_parts_right Hd (tb (u__law_parts_right, P__law_parts_right) (by simp)) in__law_parts_right (fun q hq => (un q hq).1) MO OO E1 xm1 Gdraw2 (PySem.W.mg_of X G a__law_draw) k__law_draw b__law_draw m_isinstance m_len m_range m_list
    have Gsteps := ok_law_steps_right (k := 0) T__law_steps_right Hd (tb (u__law_steps_right, P__law_steps_right) (by simp)) in__law_steps_right (fun q hq => (un q hq).2.1) MO OO E2 xm2 Gpick (PySem.W.mg_of X G a__law_pick) k__law_pick b__law_pick Gundo (PySem.W.mg_of X G a__law_undo) k__law_undo b__law_undo m_isinstance m_len m_range
    have Gref := ok_law_refused_right (k := 0) T__law_refused_right Hd (tb (u__law_refused_right, P__law_refused_right) (by simp)) in__law_refused_right (fun q hq => (un q hq).2.2) MO OO OD E2 xm2 Gpick (PySem.W.mg_of X G a__law_pick) k__law_pick b__law_pick m_isinstance
    exact ok_law (k := 0) F_law Gpen (PySem.W.mg_of X G a__law_pen) k__law_pen b__law_pen Grow (PySem.W.mg_of X G a__law_row) k__law_row b__law_row Gother (PySem.W.mg_of X G a__law_other) k__law_other b__law_other Gpair (PySem.W.mg_of X G a__law_pair_right) k__law_pair_right b__law_pair_right Gparts (PySem.W.mg_of X G a__law_parts_right) k__law_parts_right b__law_parts_right Gsteps (PySem.W.mg_of X G a__law_steps_right) k__law_steps_right b__law_steps_right Gref (PySem.W.mg_of X G a__law_refused_right) k__law_refused_right b__law_refused_right m_range
end K03
-- E03
open PySem PySem.W PyProof.Rows
set_option maxHeartbeats 0 in
theorem PySem.Challenge.cw_sevenball_k03_orders_beginnings_and_tail_holds : PySem.Challenge.rw_sevenball_k03_orders_beginnings_and_tail.Holds := by
  w_on; o_law; k_head; (case hw => w_witness2)
  k_fill
  refine LamX.walk_ofTs (l := PySem.Challenge.rw_sevenball_k03_orders_beginnings_and_tail) (n := 63) (k := 10) (x := "script") (CX := fun _ => L2.CX0) rfl (by decide) rfl ⟨rfl, by decide, by decide⟩ (fun w h Y => PySem.W.km_in_of Y) ?F (fun _ _ _ _ _ h => h)
  case F =>
    intro w mg fa h Y KX G hmg
    refine' K03.all_mk KX G hmg ?g_CB ?g_CW ?g_L ?g_M ?z_len ?z_isinstance ?z_str ?z_int ?z_bool ?z_range ?z_abs ?z_list ?z_enumerate ?z_max ?z_zip ?z_iter ?cg ?ct ?a_first_fault ?l_first_fault ?c_first_fault ?k_first_fault ?a_is_integer ?l_is_integer ?c_is_integer ?k_is_integer ?a_is_within ?l_is_within ?c_is_within ?k_is_within ?a__law_pen ?l__law_pen ?c__law_pen ?k__law_pen ?a__law_draw ?l__law_draw ?c__law_draw ?k__law_draw ?a__law_pick ?l__law_pick ?c__law_pick ?k__law_pick ?a__law_heard ?l__law_heard ?c__law_heard ?k__law_heard ?a__law_undo ?l__law_undo ?c__law_undo ?k__law_undo ?a__law_row ?l__law_row ?c__law_row ?k__law_row ?a__law_places ?l__law_places ?c__law_places ?k__law_places ?a__law_less ?l__law_less ?c__law_less ?k__law_less ?a__law_common ?l__law_common ?c__law_common ?k__law_common ?a__law_other ?l__law_other ?c__law_other ?k__law_other ?a__law_told ?l__law_told ?c__law_told ?k__law_told ?a__law_pair_right ?l__law_pair_right ?c__law_pair_right ?k__law_pair_right ?a_law ?l_law ?c_law ?k_law ?a__law_parts_right ?l__law_parts_right ?c__law_parts_right ?k__law_parts_right ?q__law_parts_right ?p__law_parts_right ?h__law_parts_right ?n__law_parts_right ?t__law_parts_right ?a__law_steps_right ?l__law_steps_right ?c__law_steps_right ?k__law_steps_right ?q__law_steps_right ?p__law_steps_right ?h__law_steps_right ?n__law_steps_right ?t__law_steps_right ?a__law_refused_right ?l__law_refused_right ?c__law_refused_right ?k__law_refused_right ?q__law_refused_right ?p__law_refused_right ?h__law_refused_right ?n__law_refused_right ?t__law_refused_right ?g_CM ?x_CM ?bm1_CM ?sa_CM ?ex_CM ?ty_CM ?kC_CM ?cs_CM ?ow_CM ?ga_CM ?gt_CM ?ca_CM ?mr_CM ?ii_CM ?no_CM ?xm_CM ?ti_CM ?ng_CM ?g_C2 ?x_C2 ?bm1_C2 ?sa_C2 ?ex_C2 ?ty_C2 ?kC_C2 ?cs_C2 ?ow_C2 ?ga_C2 ?gt_C2 ?ca_C2 ?mr_C2 ?ii_C2 ?no_C2 ?xm_C2 ?ti_C2 ?g_C1 ?x_C1 ?bm1_C1 ?sa_C1 ?ex_C1 ?ty_C1 ?kC_C1 ?cs_C1 ?ow_C1 ?ga_C1 ?gt_C1 ?ca_C1 ?mr_C1 ?ii_C1 ?no_C1 ?xm_C1 ?ti_C1 ?w_pg ?w_hd ?w_po ?w_sa ?w_ca ?w_mr ?w_ns ?w_na ?w_mk ?w_ii ?w_if ?w_kp ?w_ob ?w_nk ?w_e1 ?w_e2 ?w_ef ?w_en ?w_lt_f ?w_lt_n ?w_le_f ?w_le_n ?w_gt_f ?w_gt_n ?w_ge_f ?w_ge_n ?w_getitem_f ?w_getitem_n ?w_len_f ?w_len_n ?w_iter_f ?w_iter_n ?w_begins_f ?w_begins_n ?w_ends_f ?w_ends_n ?w_meet_f ?w_meet_n ?w_gi_fi ?w_gi_nq ?nk_slice ?nk_int ?w_nf ?o4_NoneType ?o4_int ?o4_str ?o4_list ?o4_tuple ?o4_bool ?l_TM ?c_TM ?k_TM ?l_BW ?c_BW ?k_BW ?l_WI ?d_WI ?c_WI ?k_WI ?l_BN ?c_BN ?k_BN ?l_WE ?c_WE ?k_WE ?l_WLT ?c_WLT ?k_WLT ?l_WLE ?c_WLE ?k_WLE ?l_WGT ?c_WGT ?k_WGT ?l_WGE ?c_WGE ?k_WGE ?l_WGI ?c_WGI ?k_WGI ?l_WLN ?c_WLN ?k_WLN ?l_WIT ?c_WIT ?k_WIT ?l_WB ?c_WB ?k_WB ?l_WN ?c_WN ?k_WN ?l_WMT ?c_WMT ?k_WMT ?ne_0_1 ?ne_0_2 ?ne_1_2
    (case g_CB => first | k_is | kernel_rfl)
    (case g_CW => first | k_is | kernel_rfl)
    (case g_L => first | k_is | kernel_rfl)
    (case g_M => first | k_is | kernel_rfl)
    (case z_len => first | k_is | kernel_rfl)
    (case z_isinstance => first | k_is | kernel_rfl)
    (case z_str => first | k_is | kernel_rfl)
    (case z_int => first | k_is | kernel_rfl)
    (case z_bool => first | k_is | kernel_rfl)
    (case z_range => first | k_is | kernel_rfl)
    (case z_abs => first | k_is | kernel_rfl)
    (case z_list => first | k_is | kernel_rfl)
    (case z_enumerate => first | k_is | kernel_rfl)
    (case z_max => first | k_is | kernel_rfl)
    (case z_zip => first | k_is | kernel_rfl)
    (case z_iter => first | k_is | kernel_rfl)
    (case cg => first | k_is | kernel_rfl)
    (case ct => first | k_is | kernel_rfl)
    (case a_first_fault => first | k_is | kernel_rfl)
    (case l_first_fault => first | k_is | kernel_rfl)
    (case c_first_fault => first | k_is | kernel_rfl)
    (case k_first_fault => first | k_is | kernel_rfl)
    (case a_is_integer => first | k_is | kernel_rfl)
    (case l_is_integer => first | k_is | kernel_rfl)
    (case c_is_integer => first | k_is | kernel_rfl)
    (case k_is_integer => first | k_is | kernel_rfl)
    (case a_is_within => first | k_is | kernel_rfl)
    (case l_is_within => first | k_is | kernel_rfl)
    (case c_is_within => first | k_is | kernel_rfl)
    (case k_is_within => first | k_is | kernel_rfl)
    (case a__law_pen => first | k_is | kernel_rfl)
    (case l__law_pen => first | k_is | kernel_rfl)
    (case c__law_pen => first | k_is | kernel_rfl)
    (case k__law_pen => first | k_is | kernel_rfl)
    (case a__law_draw => first | k_is | kernel_rfl)
    (case l__law_draw => first | k_is | kernel_rfl)
    (case c__law_draw => first | k_is | kernel_rfl)
    (case k__law_draw => first | k_is | kernel_rfl)
    (case a__law_pick => first | k_is | kernel_rfl)
    (case l__law_pick => first | k_is | kernel_rfl)
    (case c__law_pick => first | k_is | kernel_rfl)
    (case k__law_pick => first | k_is | kernel_rfl)
    (case a__law_heard => first | k_is | kernel_rfl)
    (case l__law_heard => first | k_is | kernel_rfl)
    (case c__law_heard => first | k_is | kernel_rfl)
    (case k__law_heard => first | k_is | kernel_rfl)
    (case a__law_undo => first | k_is | kernel_rfl)
    (case l__law_undo => first | k_is | kernel_rfl)
    (case c__law_undo => first | k_is | kernel_rfl)
    (case k__law_undo => first | k_is | kernel_rfl)
    (case a__law_row => first | k_is | kernel_rfl)
    (case l__law_row => first | k_is | kernel_rfl)
    (case c__law_row => first | k_is | kernel_rfl)
    (case k__law_row => first | k_is | kernel_rfl)
    (case a__law_places => first | k_is | kernel_rfl)
    (case l__law_places => first | k_is | kernel_rfl)
    (case c__law_places => first | k_is | kernel_rfl)
    (case k__law_places => first | k_is | kernel_rfl)
    (case a__law_less => first | k_is | kernel_rfl)
    (case l__law_less => first | k_is | kernel_rfl)
    (case c__law_less => first | k_is | kernel_rfl)
    (case k__law_less => first | k_is | kernel_rfl)
    (case a__law_common => first | k_is | kernel_rfl)
    (case l__law_common => first | k_is | kernel_rfl)
    (case c__law_common => first | k_is | kernel_rfl)
    (case k__law_common => first | k_is | kernel_rfl)
    (case a__law_other => first | k_is | kernel_rfl)
    (case l__law_other => first | k_is | kernel_rfl)
    (case c__law_other => first | k_is | kernel_rfl)
    (case k__law_other => first | k_is | kernel_rfl)
    (case a__law_told => first | k_is | kernel_rfl)
    (case l__law_told => first | k_is | kernel_rfl)
    (case c__law_told => first | k_is | kernel_rfl)
    (case k__law_told => first | k_is | kernel_rfl)
    (case a__law_pair_right => first | k_is | kernel_rfl)
    (case l__law_pair_right => first | k_is | kernel_rfl)
    (case c__law_pair_right => first | k_is | kernel_rfl)
    (case k__law_pair_right => first | k_is | kernel_rfl)
    (case a_law => first | k_is | kernel_rfl)
    (case l_law => first | k_is | kernel_rfl)
    (case c_law => first | k_is | kernel_rfl)
    (case k_law => first | k_is | kernel_rfl)
    (case a__law_parts_right => first | k_is | kernel_rfl)
    (case l__law_parts_right => first | k_is | kernel_rfl)
    (case c__law_parts_right => first | k_is | kernel_rfl)
    (case k__law_parts_right => first | k_is | kernel_rfl)
    (case q__law_parts_right => first | k_is | kernel_rfl)
    (case p__law_parts_right => rfl)
    (case h__law_parts_right => first | k_is | kernel_rfl)
    (case n__law_parts_right => first | k_is | kernel_rfl)
    (case t__law_parts_right => exact PySem.W.km_tabs_of Y _ (by k_mem))
    (case a__law_steps_right => first | k_is | kernel_rfl)
    (case l__law_steps_right => first | k_is | kernel_rfl)
    (case c__law_steps_right => first | k_is | kernel_rfl)
    (case k__law_steps_right => first | k_is | kernel_rfl)
    (case q__law_steps_right => first | k_is | kernel_rfl)
    (case p__law_steps_right => rfl)
    (case h__law_steps_right => first | k_is | kernel_rfl)
    (case n__law_steps_right => first | k_is | kernel_rfl)
    (case t__law_steps_right => exact PySem.W.km_tabs_of Y _ (by k_mem))
    (case a__law_refused_right => first | k_is | kernel_rfl)
    (case l__law_refused_right => first | k_is | kernel_rfl)
    (case c__law_refused_right => first | k_is | kernel_rfl)
    (case k__law_refused_right => first | k_is | kernel_rfl)
    (case q__law_refused_right => first | k_is | kernel_rfl)
    (case p__law_refused_right => rfl)
    (case h__law_refused_right => first | k_is | kernel_rfl)
    (case n__law_refused_right => first | k_is | kernel_rfl)
    (case t__law_refused_right => exact PySem.W.km_tabs_of Y _ (by k_mem))
    (case g_CM => first | k_is | kernel_rfl)
    (case x_CM => first | k_is | kernel_rfl)
    (case bm1_CM => decide +kernel)
    (case sa_CM => first | k_is | kernel_rfl)
    (case ex_CM => first | k_is | kernel_rfl)
    (case ty_CM => first | k_is | kernel_rfl)
    (case kC_CM => first | k_is | kernel_rfl)
    (case cs_CM => first | k_is | kernel_rfl)
    (case ow_CM => first | k_is | kernel_rfl)
    (case ga_CM => first | k_is | kernel_rfl)
    (case gt_CM => first | k_is | kernel_rfl)
    (case ca_CM => first | k_is | kernel_rfl)
    (case mr_CM => first | k_is | kernel_rfl)
    (case ii_CM => first | k_is | kernel_rfl)
    (case no_CM => first | k_is | kernel_rfl)
    (case xm_CM => first | k_is | kernel_rfl)
    (case ti_CM => first | k_is | kernel_rfl)
    (case ng_CM => first | k_is | kernel_rfl)
    (case g_C2 => first | k_is | kernel_rfl)
    (case x_C2 => first | k_is | kernel_rfl)
    (case bm1_C2 => decide +kernel)
    (case sa_C2 => first | k_is | kernel_rfl)
    (case ex_C2 => first | k_is | kernel_rfl)
    (case ty_C2 => first | k_is | kernel_rfl)
    (case kC_C2 => first | k_is | kernel_rfl)
    (case cs_C2 => first | k_is | kernel_rfl)
    (case ow_C2 => first | k_is | kernel_rfl)
    (case ga_C2 => first | k_is | kernel_rfl)
    (case gt_C2 => first | k_is | kernel_rfl)
    (case ca_C2 => first | k_is | kernel_rfl)
    (case mr_C2 => first | k_is | kernel_rfl)
    (case ii_C2 => first | k_is | kernel_rfl)
    (case no_C2 => first | k_is | kernel_rfl)
    (case xm_C2 => first | k_is | kernel_rfl)
    (case ti_C2 => first | k_is | kernel_rfl)
    (case g_C1 => first | k_is | kernel_rfl)
    (case x_C1 => first | k_is | kernel_rfl)
    (case bm1_C1 => decide +kernel)
    (case sa_C1 => first | k_is | kernel_rfl)
    (case ex_C1 => first | k_is | kernel_rfl)
    (case ty_C1 => first | k_is | kernel_rfl)
    (case kC_C1 => first | k_is | kernel_rfl)
    (case cs_C1 => first | k_is | kernel_rfl)
    (case ow_C1 => first | k_is | kernel_rfl)
    (case ga_C1 => first | k_is | kernel_rfl)
    (case gt_C1 => first | k_is | kernel_rfl)
    (case ca_C1 => first | k_is | kernel_rfl)
    (case mr_C1 => first | k_is | kernel_rfl)
    (case ii_C1 => first | k_is | kernel_rfl)
    (case no_C1 => first | k_is | kernel_rfl)
    (case xm_C1 => first | k_is | kernel_rfl)
    (case ti_C1 => first | k_is | kernel_rfl)
    (case w_pg => first | k_is | kernel_rfl)
    (case w_hd => first | k_is | kernel_rfl)
    (case w_po => first | k_is | kernel_rfl)
    (case w_sa => first | k_is | kernel_rfl)
    (case w_ca => first | k_is | kernel_rfl)
    (case w_mr => first | k_is | kernel_rfl)
    (case w_ns => first | k_is | kernel_rfl)
    (case w_na => first | k_is | kernel_rfl)
    (case w_mk => first | k_is | kernel_rfl)
    (case w_ii => first | k_is | kernel_rfl)
    (case w_if => first | k_is | kernel_rfl)
    (case w_kp => first | k_is | kernel_rfl)
    (case w_ob => first | k_is | kernel_rfl)
    (case w_nk => first | k_is | kernel_rfl)
    (case w_e1 => first | k_is | kernel_rfl)
    (case w_e2 => first | k_is | kernel_rfl)
    (case w_ef => first | k_is | kernel_rfl)
    (case w_en => first | k_is | kernel_rfl)
    (case w_lt_f => first | k_is | kernel_rfl)
    (case w_lt_n => first | k_is | kernel_rfl)
    (case w_le_f => first | k_is | kernel_rfl)
    (case w_le_n => first | k_is | kernel_rfl)
    (case w_gt_f => first | k_is | kernel_rfl)
    (case w_gt_n => first | k_is | kernel_rfl)
    (case w_ge_f => first | k_is | kernel_rfl)
    (case w_ge_n => first | k_is | kernel_rfl)
    (case w_getitem_f => first | k_is | kernel_rfl)
    (case w_getitem_n => first | k_is | kernel_rfl)
    (case w_len_f => first | k_is | kernel_rfl)
    (case w_len_n => first | k_is | kernel_rfl)
    (case w_iter_f => first | k_is | kernel_rfl)
    (case w_iter_n => first | k_is | kernel_rfl)
    (case w_begins_f => first | k_is | kernel_rfl)
    (case w_begins_n => first | k_is | kernel_rfl)
    (case w_ends_f => first | k_is | kernel_rfl)
    (case w_ends_n => first | k_is | kernel_rfl)
    (case w_meet_f => first | k_is | kernel_rfl)
    (case w_meet_n => first | k_is | kernel_rfl)
    (case w_gi_fi => first | k_is | kernel_rfl)
    (case w_gi_nq => first | k_is | kernel_rfl)
    (case nk_slice => first | k_is | kernel_rfl)
    (case nk_int => first | k_is | kernel_rfl)
    (case w_nf => first | k_is | kernel_rfl)
    (case o4_NoneType => first | k_is | kernel_rfl)
    (case o4_int => first | k_is | kernel_rfl)
    (case o4_str => first | k_is | kernel_rfl)
    (case o4_list => first | k_is | kernel_rfl)
    (case o4_tuple => first | k_is | kernel_rfl)
    (case o4_bool => first | k_is | kernel_rfl)
    (case l_TM => first | k_is | kernel_rfl)
    (case c_TM => first | k_is | kernel_rfl)
    (case k_TM => first | k_is | kernel_rfl)
    (case l_BW => first | k_is | kernel_rfl)
    (case c_BW => first | k_is | kernel_rfl)
    (case k_BW => first | k_is | kernel_rfl)
    (case l_WI => first | k_is | kernel_rfl)
    (case d_WI => first | k_is | kernel_rfl)
    (case c_WI => first | k_is | kernel_rfl)
    (case k_WI => first | k_is | kernel_rfl)
    (case l_BN => first | k_is | kernel_rfl)
    (case c_BN => first | k_is | kernel_rfl)
    (case k_BN => first | k_is | kernel_rfl)
    (case l_WE => first | k_is | kernel_rfl)
    (case c_WE => first | k_is | kernel_rfl)
    (case k_WE => first | k_is | kernel_rfl)
    (case l_WLT => first | k_is | kernel_rfl)
    (case c_WLT => first | k_is | kernel_rfl)
    (case k_WLT => first | k_is | kernel_rfl)
    (case l_WLE => first | k_is | kernel_rfl)
    (case c_WLE => first | k_is | kernel_rfl)
    (case k_WLE => first | k_is | kernel_rfl)
    (case l_WGT => first | k_is | kernel_rfl)
    (case c_WGT => first | k_is | kernel_rfl)
    (case k_WGT => first | k_is | kernel_rfl)
    (case l_WGE => first | k_is | kernel_rfl)
    (case c_WGE => first | k_is | kernel_rfl)
    (case k_WGE => first | k_is | kernel_rfl)
    (case l_WGI => first | k_is | kernel_rfl)
    (case c_WGI => first | k_is | kernel_rfl)
    (case k_WGI => first | k_is | kernel_rfl)
    (case l_WLN => first | k_is | kernel_rfl)
    (case c_WLN => first | k_is | kernel_rfl)
    (case k_WLN => first | k_is | kernel_rfl)
    (case l_WIT => first | k_is | kernel_rfl)
    (case c_WIT => first | k_is | kernel_rfl)
    (case k_WIT => first | k_is | kernel_rfl)
    (case l_WB => first | k_is | kernel_rfl)
    (case c_WB => first | k_is | kernel_rfl)
    (case k_WB => first | k_is | kernel_rfl)
    (case l_WN => first | k_is | kernel_rfl)
    (case c_WN => first | k_is | kernel_rfl)
    (case k_WN => first | k_is | kernel_rfl)
    (case l_WMT => first | k_is | kernel_rfl)
    (case c_WMT => first | k_is | kernel_rfl)
    (case k_WMT => first | k_is | kernel_rfl)
    (case ne_0_1 => decide)
    (case ne_0_2 => decide)
    (case ne_1_2 => decide)
