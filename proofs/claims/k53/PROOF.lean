import PyProof.Rows.All
import Wide.All
import OpenK.AllK
import Wide.FinOn
import PyProof.ReprRoads
import KE.KNestM
import HandS.ForMost
import HandS.EndTab
import HandS.ExcIs
import HandS.ExcValue
import HandS.ExcOwn
import HandS.RaiseMore
import HandS.IsInst
import HandS.Gcd
import HandS.Wide
import HandS.WideMore
import HandS.CallLocal
import HandS.WordsExc
import HandS.Style
import HandS.ExcInit
import KE.KExcSuper
import HandS.ExcField
import KE.KExcIs
import HandS.TupAny
import HandS.Zip0
import HandS.Walk
import HandS.Iter
import KE.KDictZip
import HandS.Rev
import HandS.Lambda
import HandS.Conv
import PyProof.ReprLen
import PySem.Challenge.RW_hitclocks_k53_mean_fronts_by_hand
import HandS.TupLe
import HandS.SortRule
import HandS.Strs
import HandS.Text
import HandS.Deep
import PyProof.P3Eq
set_option Elab.async false
set_option linter.all false
set_option maxRecDepth 100000
set_option maxHeartbeats 2000000
namespace HG
open PySem PySem.Spec PyProof.Rows L2

/-! ## repr of data, where no repr runs around -/
abbrev NoG (A : Around) : Prop := A.guards = some []

def rRepr (K : PySem.W.Frag) : List V → Hp → VK → Prop := fun xs H Q =>
  ∃ v d, xs = [v] ∧ Dp K H v d ∧ d.showable = true ∧ d.hasDict = false ∧ d.depth ≤ 64
    ∧ d.shown.length ≤ sizeLine ∧ Q (.str d.shown) H

theorem call_reprD {X : Cx} (hg : NoG X.A) (hu : X.A.units + 66 < cLine) :
    CallR X (.builtin "repr") (rRepr X.K) := by
  intro pins s σ H xs us Q I r h
  obtain ⟨v, d, rfl, hd, hs, hn, hdep, hz, q⟩ := h
  cases r with
  | cons rv rn =>
    rename_i u us'
    cases rn
    obtain ⟨as, hr⟩ := Dp.reads I d v u hd rv
    cases hd with
    | non =>
      cases rv
      simp only [PyData.shown] at q
      exact PySem.P.repr_of_none ⟨.str _, H, I.tok _, ⟨_, rfl⟩, q⟩
    | bl b =>
      cases rv
      simp only [PyData.shown] at q
      exact PySem.P.repr_of_bool ⟨.str _, H, I.tok _, ⟨_, rfl⟩, q⟩
    | int i =>
      obtain ⟨t, rfl⟩ := rv
      simp only [PyData.shown] at q
      exact PySem.P.repr_of_int (by simpa [PyData.showable] using hs) ⟨.str _, H, I.tok _, ⟨_, rfl⟩, q⟩
    | str x =>
      obtain ⟨t, rfl⟩ := rv
      simp only [PyData.shown] at q
      exact PySem.P.repr_of_str ⟨.str _, H, I.tok _, ⟨_, rfl⟩, q⟩ (by simpa only [PyData.shown] using hz)
    | lst hq ha =>
      obtain rfl := (show u = Value.ref _ from rv)
      exact repr_of_reads' hr hs (fun z => by rw [hn] at z; cases z) hg (by omega) (fun _ _ e => e)
        (fun h' u tk hk => ⟨.str _, H, I.kept (t' := tk) hk, ⟨_, rfl⟩, q⟩) hz
    | tup hq ha =>
      obtain rfl := (show u = Value.ref _ from rv)
      exact repr_of_reads' hr hs (fun z => by rw [hn] at z; cases z) hg (by omega) (fun _ _ e => e)
        (fun h' u tk hk => ⟨.str _, H, I.kept (t' := tk) hk, ⟨_, rfl⟩, q⟩) hz

/-! ## defs that may ask repr: promised where no repr runs around -/
structure FnP (P : Program) (w : World) (K : PySem.W.Frag) (mg : Str → Option Value) (base : Heap) (CX : CXT)
    (k : Nat) (f : Addr) (fd : FuncData) (ps : List Str) (sp : Sp) : Prop where
  args : ∀ vs H Q E, sp vs H Q E → vs.length = ps.length
  goes : ∀ (A : Around) (frames : List Env) (s : Shared) (H : Hp) (given : Args) (us : List Value) (vs : List V)
    (Q : VK) (E : XK), Room k A → NoG A → Env0 P w K mg base A frames s H → BindsTo s fd given (ps.zip us) →
    Vals vs us → sp vs H Q E → codeAny (model P w) A (.call (.ref f) given) (CR CX frames P w H s Q E) s

section
variable {P : Program} {w : World} {K : PySem.W.Frag} {mg : Str → Option Value} {base : Heap}
theorem FnP.ofFun {x qual : Str} {st : Stmt} {f : Addr} {fd : FuncData} {N ps : List Str} {k : Nat} {sp : Sp}
    (F : Fun K x qual st f fd) (S : FnScope N ps (defScope st))
    (len : ∀ vs H Q E, sp vs H Q E → vs.length = ps.length)
    (body : ∀ (cdv : Value) (A : Around) (frames : List Env) (s : Shared) (H : Hp) (vs : List V) (Q : VK) (E : XK),
      NoG (A.deeper (envOfC qual (defScope st) s.heap.objs.size f cdv)) →
      Room k (A.deeper (envOfC qual (defScope st) s.heap.objs.size f cdv)) → sp vs H Q E →
      ∃ t, PSs (cxOf CX0 P w K mg base N qual (defScope st) f cdv A frames s H E).nox (defBody st) t ∧
        t { nx := fun _ H' => Q .non H', rt := Q } (start N vs) H) :
    FnP P w K mg base CX0 (k + 1) f fd ps sp := by
  obtain ⟨oc, od, kV, doc, pm, an, cdv, ct, osl, rfl, lk, hcd⟩ := F.ex
  refine ⟨len, fun A frames s H given us vs Q E room ng e0 hb hv hs => ?_⟩
  refine LamX.run_ofS lk hcd S room e0 hb hv (len _ _ _ _ hs) fun room' => ?_
  obtain ⟨t, h, q⟩ := body cdv A frames s H vs Q E ng room' hs
  exact ⟨t, h.nox, q⟩
theorem FnP.ofOk {k : Nat} {f : Addr} {fd : FuncData} {ps : List Str} {sp : Sp} {CX : CXT}
    (F : FnOk P w K mg base CX k f fd ps sp) : FnP P w K mg base CX k f fd ps sp :=
  ⟨F.len, fun A fr s H g us vs Q E r _ e b v h => F.run A fr s H g us vs Q E r e b v h⟩
end

section
variable {X : Cx} {CX : CXT} {k : Nat} {f : Addr} {fd : FuncData} {ps ks : List Str} {sp : Sp} {dvs : List V}
  {ds : List Value} {E : XK} {x : Str} {p pos : Pos} {e : Expr} {es : List Expr} {t tk : TA} {kws : List Keyword}
theorem FnP.goesTo {pins : List (Addr × Obj)} {σ : L2.St} {H : Hp} {s : Shared} {Q : VK} {given : Args} {us : List Value}
    {vs : List V} (F : FnP X.prog X.w X.K X.mg X.base CX k f fd ps sp) (room : Room k X.A) (ng : NoG X.A)
    (lets : Passes CX X E) (I : Inv X pins σ H s) (hb : BindsTo s fd given (ps.zip us)) (r : Vals vs us)
    (h : sp vs H Q E) :
    codeAny (model X.prog X.w) X.A (.call (.ref f) given)
      (fun r s' => match r with
        | .ok (.ret u) => EP X pins σ Q u s'
        | .ok _ => False
        | .error z => X.xe z s') s := by
  refine codeAny_mono (F.goes X.A X.stack s H given us vs Q E room ng I.env0 hb r h) fun res s' hq => ?_
  match res, hq with
  | .error z, hq => exact lets pins σ H s z s' I hq
  | .ok (.ret u), hq => exact I.after hq
  | .ok .next, hq => exact hq.elim
  | .ok .brk, hq => exact hq.elim
  | .ok .cont, hq => exact hq.elim
theorem pe_callP (F : FnP X.prog X.w X.K X.mg X.base CX k f fd ps sp) (room : Room k X.A) (ng : NoG X.A)
    (glob : Gl X x) (at_ : X.mg x = some (.ref f)) (keep : PySem.W.keepIn X.K (.ref f) = true)
    (binds : Binds X.K fd ps []) (lets : Passes CX X E) (args : PA X (e :: es) t)
    (hdb : (x == ("__debug__" : Str)) = false := by decide)
    (he : starEach (e :: es) X.env = (false, eval e X.env) :: starEach es X.env := by rfl)
    (hpl : (backTo pos (starEach es X.env)).any (·.1) = false := by rfl) :
    PE X (.Call (.Name x p) (e :: es) [] pos) (fun σ H Q => t σ H fun vs H1 => sp vs H1 Q E) := by
  refine ⟨fun pins s σ H Q I h => wpAny_Call_Name_kw (ld_glob I glob at_ ?_ hdb)⟩
  refine PySem.W.callWith_K (h₀ := X.base) I.ok.mod.kin keep
    (thn (args.run pos pins s σ H _ I h) fun us s1 ⟨vs, H1, I1, r, q⟩ => ⟨I1.kIn, ?_⟩) he hpl
  have len : us.length = ps.length := by
    rw [← r.length]
    exact F.args _ _ _ _ q
  have b := binds s1 us I1.kIn (by rw [List.append_nil]; exact len)
  rw [List.append_nil] at b
  refine wpAny_call (codeAny_mono (F.goesTo room ng lets I1 b r q) fun res s' hq => ?_)
  match res, hq with
  | .error z, hq => exact hq
  | .ok (.ret u), hq => exact hq
  | .ok .next, hq => exact hq.elim
  | .ok .brk, hq => exact hq.elim
  | .ok .cont, hq => exact hq.elim
end
end HG
set_option maxHeartbeats 2000000
namespace HG
open PySem PySem.Spec PyProof.Rows L2

/-! ## a caught exception that is kept as a value -/
/-- an exception of the class cls, with the own dict d, stands at a -/
def Exn (cls : Value) (d : Option Addr) (a : Addr) : HO :=
  .ext fun h => ∃ (ob : Obj) (fs : Array Value), h.get? a = some ob ∧ Zc cls d ob ∧ ob.data = .fields fs

theorem exn_ok {P : Program} {w : World} {H : Hp} {h : Heap} {a : Addr} {cls : Value} {d : Option Addr} {ob : Obj}
    {fs : Array Value} (e : h.get? a = some ob) (z : Zc cls d ob) (f : ob.data = .fields fs) :
    ObjOk P w H h a (Exn cls d a) :=
  ⟨⟨ob, fs, e, z, f⟩, ⟨ob, e⟩, fun _ _ ⟨o, v, q, r⟩ keep => ⟨o, v, keep o q, r⟩⟩

section
variable {X : Cx} {pins : List (Addr × Obj)} {σ : L2.St} {H : Hp} {s : Shared}
theorem track {a : Addr} {ob : Obj} {fs : Array Value} {cls : Value} {d : Option Addr} (I : Inv X pins σ H s)
    (at_ : s.heap.get? a = some ob) (z : Zc cls d ob) (f : ob.data = .fields fs) (na : H a = none)
    (young : X.s_0.heap.get? a = none) (nL : a ≠ X.env.locals) (np : ∀ p ∈ X.pn ++ pins, p.1 ≠ a) :
    Inv X pins σ (upd H a (Exn cls d a)) s := by
  have other : ∀ b, b ≠ a → upd H a (Exn cls d a) b = H b := fun b nb => upd_ne nb
  have cellNe : ∀ y c, X.env.cells.lookup y = some c → c ≠ a := fun y c hc q => by
    obtain ⟨v, o, ho, hd⟩ := I.cell y c hc
    rw [q, at_] at ho
    cases ho
    rw [f] at hd
    cases hd
  refine { ok := I.ok, os := I.os, bare := I.bare, base := ?_, loc := I.loc, cell := I.cell, free := ?_,
           freeC := ?_, pin := ?_, hok := ?_, len := I.len }
  · refine { keep := I.base.keep, slot := I.base.slot, free := ?_, there := I.base.there, tups := ?_,
             frzs := ?_, tbls := ?_ }
    · intro b o hb hn hx
      rw [other b (fun q => by rw [q, young] at hb; cases hb)]
      exact I.base.free b o hb hn hx
    · intro b xs hb
      have q := I.base.tups b xs hb
      rw [other b (ne_of_none q na)]
      exact q
    · intro b o u hb
      have q := I.base.frzs b o u hb
      rw [other b (ne_of_none q na)]
      exact q
    · intro b ps hb
      obtain ⟨more, q⟩ := I.base.tbls b ps hb
      exact ⟨more, by rw [other b (ne_of_none q na)]; exact q⟩
  · rw [other _ (Ne.symm nL)]
    exact I.free
  · intro y c hc
    rw [other c (cellNe y c hc)]
    exact I.freeC y c hc
  · intro p hp
    obtain ⟨p1, p2, p3, p4, p5⟩ := I.pin p hp
    exact ⟨p1, by rw [other _ (np p hp)]; exact p2, p3, p4, p5⟩
  · exact I.hok.laidN (fun _ _ q => q) na (exn_ok at_ z f)

/-- isinstance(e, C), e a kept exception -/
def rIsX (K : PySem.W.Frag) : List V → Hp → VK → Prop := fun xs H Q =>
  ∃ (a D C : Addr) (b : Bool), xs = [.ref a, .ref C] ∧ H a = some (Exn (.ref D) none a) ∧ ExcC K D
    ∧ PySem.W.kitOne K (.ref D) (.ref C) = some b ∧ Q (.bl b) H
theorem call_isX {X : Cx} : CallR X (.builtin "isinstance") (rIsX X.K) := by
  intro pins s σ H xs us Q I r h
  obtain ⟨a, D, C, b, rfl, ha, cl, hk, q⟩ := h
  obtain ⟨u1, u2, rfl, r1, r2⟩ := vals2 r
  cases r1
  cases r2
  obtain ⟨⟨ob, fs, at_, ⟨z1, z2⟩, f⟩, _, _⟩ := I.hok a _ ha
  have J : PySem.W.InstAt s.heap a ob D none := by
    obtain ⟨oc, od, oda, osl⟩ := ob
    dsimp only at z1 z2 f
    subst z1 z2 f
    exact ⟨at_, rfl, rfl, trivial⟩
  refine PySem.W.kia_one (PySem.W.handS_kitx_exc cl.hg cl.hk cl.hs cl.hd cl.ha cl.hn cl.ht cl.hm) I.kIn J hk
    (fun z => nomatch z) fun tk => ?_
  exact ⟨.bl b, H, I.kept (t' := tk) (fun _ _ z => z), rfl, q⟩
end

section
variable {X : Cx} {x n : Str} {c : Value} {i : Nat} {body suite : List Stmt} {b₀ : Stmt} {np pos pos' : Pos}
  {tb : WX → TS} {ts : Addr → TS}
/-- every exception of the body is one of the clause's class; behind the suite it is kept -/
def wKeep (K : PySem.W.Frag) (len : Nat) (c : Value) (i : Nat) (ts : Addr → TS) (D : Ends) : WX := fun cls d σ H =>
  PySem.W.exmOne K cls c = some true ∧ (σ.length = len → ∀ a, H a = none →
    ts a { nx := fun σ' H' => D.nx (σ'.set i none) (upd H' a (Exn cls d a)), rt := fun _ _ => False }
      (σ.set i (some (.ref a))) H)
theorem ps_try_keep (stack : X.stack = X.env :: X.outer) (frame : X.env.frame = some X.env.locals) (ex0 : X.ex = [])
    (nd : X.N.Nodup) (at_ : X.N[i]? = some n) (loc : X.env.kindOf n = some .local) (names : Names X x c)
    (hb : ∀ (W : WX) (pn : List (Addr × Obj)) (xe : Value → Shared → Prop), Takes (X.tr pn xe) W →
      PassesOwn (model X.prog X.w) X.A X.env xe → PSs (X.tr pn xe) body (tb W))
    (hsu : ∀ (a : Addr) (pn : List (Addr × Obj)), PSs (X.suite a pn) (b₀ :: suite) (ts a)) :
    PS X (.Try body [.ExceptHandler (some (.Name x np)) (some n) (b₀ :: suite) pos'] [] [] pos)
      (fun D σ H => tb (wKeep X.K X.N.length c i ts D) D σ H) := by
  refine ⟨fun pins s σ H D I h => wpAny_Try_except ?_⟩
  have ok := I.ok
  have around : X.A.frames = some (X.env :: X.outer) := by
    rw [ok.frames, stack]
  have isLoc : Loc X.env.scope n := .inl loc
  let after : Value → Shared → Prop := fun e z₁ =>
    wpAny (model X.prog X.w) X.A (noteFrame e X.env) (fun _ z₂ =>
      wpAny (model X.prog X.w) X.A (setFlight e none) (fun _ z₃ =>
        wpAny (model X.prog X.w) X.A
          (handleBy e X.env [.ExceptHandler (some (.Name x np)) (some n) (b₀ :: suite) pos'])
          (SP X pins D) X.xe z₃) X.xe z₂) X.xe z₁
  have takes : Takes (X.tr (X.pn ++ pins) after) (wKeep X.K X.N.length c i ts D) := by
    intro u z air
    obtain ⟨a, B, sI, pins₁, σ₁, H₁, cls, d, rfl, J₁, ground, up, sky, na, os, ag, hit, then_⟩ := air
    have J : Inv X pins σ₁ H₁ sI := J₁.ofTry ok
    have sky₁ : Sky B (X.env :: X.outer) a (Zc cls d) X.env.locals z.heap := by
      rw [← stack]
      exact sky
    show wpAny (model X.prog X.w) X.A (noteFrame (.ref a) X.env) _ _ _
    refine Sky.land Zc.steady around frame sky₁ fun hA flA upA => ?_
    have JA : Inv X pins σ₁ H₁ { z with heap := hA } := J.landed ground flA.1 (up.trans upA) os ag
    obtain ⟨oA, vA, eA, zA, dA⟩ := flA.there
    have notFrame : a ∉ frs (X.env :: X.outer) := fun hm => by
      obtain ⟨_, o₂, e₂, nf⟩ := flA.2.2.1.mem hm
      rw [eA] at e₂
      cases e₂
      exact nf _ dA
    have nL : a ≠ X.env.locals := fun q =>
      notFrame (List.mem_filterMap.mpr ⟨X.env, List.mem_cons_self, by rw [frame, q]⟩)
    have nF : a ∉ X.fs := fun hm => by
      obtain ⟨e, he, q⟩ := List.mem_filterMap.mp hm
      exact notFrame (List.mem_filterMap.mpr ⟨e, List.mem_cons_of_mem _ he, q⟩)
    have notIn : ∀ o, sI.heap.get? a ≠ some o := fun o q => by
      have q₂ := ground a o q (by rw [stack]; exact notFrame)
      rw [flA.2.1] at q₂
      cases q₂
    have young : X.s_0.heap.get? a = none := by
      cases q : X.s_0.heap.get? a with
      | none => rfl
      | some o =>
        obtain ⟨o₂, q₂⟩ := J.base.there a o q (by rw [ex0]; exact fun z => nomatch z)
        exact (notIn o₂ q₂).elim
    have apart : ∀ p ∈ X.pn ++ pins, p.1 ≠ a := fun p hp q => by
      have q₂ := (J.pin p hp).1
      rw [q] at q₂
      exact notIn _ q₂
    have SA := JA.suite eA dA na nL nF
    refine wpAny_handleBy_cons (codeAny_handlers_test ?_) (by intro q; cases q)
    have isOf : PySem.W.Looks (model X.prog X.w) hA (typeOf (.ref a)) cls := fun A' Q' E' s' keep q =>
      wpAny_typeOf_ref (keep _ _ eA) (by rw [zA.1]; exact q)
    have fits := PySem.W.exm_one (M := model X.prog X.w) JA.kIn isOf hit
    have asks : ∀ {Q E : Value → Shared → Prop}, Q c { z with heap := hA } →
        wpAny (model X.prog X.w) (X.A.mark (some (.ref a))) (eval (.Name x np) X.env) Q E { z with heap := hA } := by
      intro Q E q
      obtain ⟨g, dbg, m | ⟨m, v, nn⟩⟩ := names
      · exact ld_glob (X := X.suite a ((a, oA) :: (X.pn ++ pins))) SA g m q dbg
      · exact ld_blt (X := X.suite a ((a, oA) :: (X.pn ++ pins))) SA g m v q nn dbg
    refine asks (fits.here (codeAny_handlers_suite_as ?_))
    refine HandSPX.lands_againZ flA fun hB flB upB => ?_
    have JB : Inv X pins σ₁ H₁ { z with heap := hB } :=
      J.landed ground flB.1 ((up.trans upA).trans upB) os ag
    obtain ⟨oB, vB, eB, zB, dB⟩ := flB.there
    have SB := JB.suite eB dB na nL nF
    refine store_ok (X := X.suite a ((a, oB) :: (X.pn ++ pins))) (v := .ref a) SB nd at_ isLoc rfl
      (fun sC SC => ?_) (.inr loc)
    refine wpAny_mono ((hsu a _).run [] sC _ H₁ _ SC (then_ J.len a na)) (fun f sD hD => ?_) (fun _ _ q => q.elim)
    match f, hD with
    | .next, hD =>
      obtain ⟨σD, HD, SD, qD⟩ := hD
      have own := SD.pin (a, oB) (List.mem_append_left _ List.mem_cons_self)
      have JD : Inv X ((a, oB) :: pins) σD HD sD := by
        have J0 := SD.unsuite ok
        refine { ok := J0.ok, os := J0.os, bare := J0.bare, base := J0.base, loc := J0.loc, cell := J0.cell,
                 free := J0.free, freeC := J0.freeC, pin := ?_, hok := J0.hok, len := J0.len }
        intro p hp
        rcases List.mem_append.mp hp with q | q
        · exact J0.pin p (List.mem_append_left _ q)
        · rcases List.mem_cons.mp q with q | q
          · rw [q]
            exact own
          · exact J0.pin p (List.mem_append_right _ q)
      refine gone_ok JD nd at_ loc fun sE JE => ?_
      have ownE := JE.pin (a, oB) (List.mem_append_right _ List.mem_cons_self)
      have JE' : Inv X pins (σD.set i none) HD sE := by
        refine { ok := JE.ok, os := JE.os, bare := JE.bare, base := JE.base, loc := JE.loc, cell := JE.cell,
                 free := JE.free, freeC := JE.freeC, pin := fun p hp => JE.pin p ?_, hok := JE.hok, len := JE.len }
        rcases List.mem_append.mp hp with q | q
        · exact List.mem_append_left _ q
        · exact List.mem_append_right _ (List.mem_cons_of_mem _ q)
      exact ⟨_, _, track JE' ownE.1 zB dB ownE.2.1 young nL apart, qD⟩
    | .brk, hD =>
      obtain ⟨_, _, _, qD⟩ := hD
      exact qD.elim
    | .cont, hD =>
      obtain ⟨_, _, _, qD⟩ := hD
      exact qD.elim
    | .ret u, hD =>
      obtain ⟨_, _, _, _, _, qD⟩ := hD
      exact qD.elim
  refine wpAny_mono ((hb (wKeep X.K X.N.length c i ts D) (X.pn ++ pins) after takes PassesOwn.looking).run [] s σ H D
    (I.toTry _) h) (fun f s1 hf => ?_) (fun _ _ he => he)
  match f, hf with
  | .next, hf =>
    obtain ⟨σ', H', J', q⟩ := hf
    exact wpAny_execs_nil ⟨σ', H', J'.ofTry ok, q⟩
  | .brk, hf =>
    obtain ⟨σ', H', J', q⟩ := hf
    exact ⟨σ', H', J'.ofTry ok, q⟩
  | .cont, hf =>
    obtain ⟨σ', H', J', q⟩ := hf
    exact ⟨σ', H', J'.ofTry ok, q⟩
  | .ret u, hf =>
    obtain ⟨v, σ', H', J', r, q⟩ := hf
    exact ⟨v, σ', H', J'.ofTry ok, r, q⟩
end
end HG
set_option maxHeartbeats 2000000
namespace HG
open PySem PySem.Spec PyProof.Rows L2 LamX

/-! ## the law's end: a promise that holds where no repr runs around; tables of code objects; the script's bits -/
section
variable {P : Program} {w : World} {K : PySem.W.Frag} {mg mb : Str → Option Value} {CX : CXT} {k : Nat}
  {fa a : Addr} {cs : List (Addr × Addr)} {fd : FuncData} {x : Str} {sp : Sp} {z : Shared} {vs : List Value} {ns : List Int}
abbrev emptyTab : Obj := { cls := .none, data := .fields #[] }
theorem end_call (KX : K.In z.heap) (nsG : z.heap.Ns mainGlobals mg) (nsB : z.heap.Ns builtinsNs mb)
    (boot : ∀ y : Str, y ≠ "__name__" → mb y = bootBuiltins y) (lim : z.heap.NoLimit) (gens : z.gens = #[])
    (tabs : ∀ p ∈ cs, z.heap.get? p.2 = some emptyTab) (notK : ∀ p ∈ cs, K.lookup p.2 = none)
    (code : ∀ p ∈ cs, PySem.W.CodeHd z.heap p.1 p.2)
    (bmod : ∃ (bm : Addr) (ob : Obj), mg "__builtins__" = some (.ref bm) ∧ bm ≠ builtinsNs ∧
      z.heap.get? bm = some ob ∧ ob.cls = .type "module" ∧ ob.dict = some builtinsNs ∧ ob.data = .plain)
    (isList : z.heap.get? a = some { cls := .type "list", data := .seq vs.toArray }) (areInts : IntsAre vs ns)
    (len : ns.length ≤ sizeLine) (room : Room k callerA)
    (F : ∀ base : Heap, K.In base → base.Ns mainGlobals mg → (∀ p ∈ cs, TabB base mg p.1 p.2) →
      FnP P w K mg base CX k fa fd [x] sp)
    (binds : ∀ (s : Shared) (u : Value), BindsTo s fd ⟨[u], []⟩ [(x, u)])
    (want : ∀ H : Hp, (∀ p ∈ cs, H p.2 = some (.tbl #[])) → SqL K H a (ns.map V.int) →
      sp [.ref a] H (fun v _ => v = .bl true) fun _ _ _ => False)
    (none_ : ∀ H e s', CX [] H z (fun _ _ _ => False) e s' → False) :
    codeAny (model P w) callerA (.call (.ref fa) ⟨[.ref a], []⟩)
      (fun r s' => r = .ok (.ret (.bool true)) ∧ OldK z.heap s'.heap ∧ s'.os = z.os ∧ AllBare s'.gens) z := by
  have rv := vals_ints areInts
  have lenV := areInts.length
  have tabAt : ∀ b : Addr, b ∈ cs.map (·.2) → z.heap.get? b = some emptyTab := by
    intro b hb
    obtain ⟨p, hp, rfl⟩ := List.mem_map.mp hb
    exact tabs p hp
  have aNot : a ∉ cs.map (·.2) := by
    intro hm
    have q := tabAt a hm
    rw [isList] at q
    cases q
  have inT : ∀ p ∈ cs, p.2 ∈ cs.map (·.2) := fun p hp => List.mem_map.mpr ⟨p, hp, rfl⟩
  have main : ∀ H : Hp, (∀ p ∈ cs, H p.2 = some (.tbl #[])) →
      (∀ b, H b = none ∨ b ∈ cs.map (·.2) ∨ ∃ o xs, H b = some (.frz o (.lst xs))) → SqL K H a (ns.map V.int) →
      HOk P w H z.heap → (∀ b, H b ≠ none → b = a ∨ b ∈ cs.map (·.2)) → (H a ≠ none → K.lookup a = none) →
      codeAny (model P w) callerA (.call (.ref fa) ⟨[.ref a], []⟩)
        (fun r s' => r = .ok (.ret (.bool true)) ∧ OldK z.heap s'.heap ∧ s'.os = z.os ∧ AllBare s'.gens) z := by
    intro H hT kinds script hok only freeK
    have keepB : ∀ {b : Addr} {o : Obj}, z.heap.get? b = some o → H b = none →
        (hidT z.heap H).get? b = some o := fun e n => hidT_get e n
    have untracked : ∀ {b : Addr} {o : Obj}, z.heap.get? b = some o → (∀ us n, o.data ≠ .seq us n) →
        o.data ≠ .fields #[] → H b = none := by
      intro b o e h1 h2
      cases q : H b with
      | none => rfl
      | some u =>
        rcases only b (by rw [q]; exact fun c => nomatch c) with e₁ | e₁
        · subst e₁
          rw [isList] at e
          cases e
          exact (h1 _ _ rfl).elim
        · rw [tabAt b e₁] at e
          cases e
          exact (h2 rfl).elim
    have noDict : ∀ {b : Addr} {o : Obj} {es : Array DictEntry} {ep : Nat}, z.heap.get? b = some o →
        o.data = .dict es ep → H b = none := by
      intro b o es ep e d
      refine untracked e (fun us n q => ?_) (fun q => ?_) <;> (rw [d] at q; cases q)
    have nsKeep : ∀ {b : Addr} {m : Str → Option Value}, z.heap.Ns b m → (hidT z.heap H).Ns b m :=
      fun {b m} ⟨o, es, ep, e, d, r⟩ => ⟨o, es, ep, keepB e (noDict e d), d, r⟩
    have Kb : K.In (hidT z.heap H) := by
      intro b o e
      refine keepB (KX b o e) ?_
      cases q : H b with
      | none => rfl
      | some u =>
        rcases only b (by rw [q]; exact fun c => nomatch c) with e₁ | e₁
        · subst e₁
          rw [freeK (by rw [q]; exact fun c => nomatch c)] at e
          cases e
        · obtain ⟨p, hp, rfl⟩ := List.mem_map.mp e₁
          rw [notK p hp] at e
          cases e
    have limits : (hidT z.heap H).NoLimit := by
      obtain ⟨mc, h1, h2⟩ := lim
      exact ⟨mc, nsKeep h1, h2⟩
    have M : L2.Mod K mg (hidT z.heap H) := ⟨Kb, nsKeep nsG, ⟨mb, nsKeep nsB, boot⟩, limits⟩
    have TB : ∀ p ∈ cs, TabB (hidT z.heap H) mg p.1 p.2 := by
      intro p hp
      have here := tabs p hp
      refine ⟨?_, ?_, fun q => ?_⟩
      · obtain ⟨o, us, file, tf, flags, tg, inF, text, tt, e₁, c₁, c₂, c₃, c₄, c₅, c₆, c₇, c₈, ne⟩ := code p hp
        refine ⟨o, us, file, tf, flags, tg, inF, text, tt, keepB e₁ (untracked e₁ (fun vs n q => ?_) fun q => ?_),
          c₁, c₂, c₃, c₄, c₅, c₆, c₇, c₈, ne⟩
        · rw [c₂] at q
          cases q
        · rw [c₂] at q
          cases q
          simp at c₃
      · obtain ⟨bm, ob, m₁, m₂, m₃, m₄, m₅, m₆⟩ := bmod
        refine ⟨bm, ob, m₁, m₂, fun q => ?_, fun q => ?_, keepB m₃ (untracked m₃ (fun vs n q => ?_) fun q => ?_),
          m₄, m₅, m₆⟩
        · obtain ⟨o, es, ep, e, hd, _⟩ := nsG
          rw [q, e] at m₃
          cases m₃
          rw [hd] at m₆
          cases m₆
        · rw [q, here] at m₃
          cases m₃
          cases m₆
        · rw [m₆] at q
          cases q
        · rw [m₆] at q
          cases q
      · obtain ⟨o, es, ep, e, hd, _⟩ := nsG
        rw [q, here] at e
        cases e
        cases hd
    have e0 : Env0 P w K mg (hidT z.heap H) callerA [] z H := by
      refine ⟨rfl, M, fun b o e => of_hidT e, Nat.le_of_eq (hidT_size _ _), trivial, fun b hb => ?_, hok, .of_eq gens⟩
      exact absurd (show b ∈ ([] : List Addr) from hb) (fun c => nomatch c)
    have run := (F _ Kb (nsKeep nsG) TB).goes callerA [] z H ⟨[.ref a], []⟩ [.ref a] [.ref a] _ _ room rfl e0
      (binds z (.ref a)) (.cons rfl .nil) (want H hT script)
    refine codeAny_mono run fun r s' h => ?_
    match r, h with
    | .error e, h => exact (none_ H e s' h).elim
    | .ok .next, h => exact h.elim
    | .ok .brk, h => exact h.elim
    | .ok .cont, h => exact h.elim
    | .ok (.ret u), h =>
      obtain ⟨v, H', os, bare, un, hok', rel, q⟩ := h
      have q₁ : v = .bl true := q
      subst q₁
      obtain rfl : u = Value.bool true := rel
      have same : ∀ b o, b ∉ cs.map (·.2) → z.heap.get? b = some o → s'.heap.get? b = some o := by
        intro b o nb e
        cases q : H b with
        | none =>
          exact un.keep b o e q (fun c => nomatch (show b ∈ ([] : List Addr) from c)) (fun c => nomatch c)
        | some u =>
          rcases kinds b with c | c | ⟨ob, xs, c⟩
          · rw [q] at c
            cases c
          · exact (nb c).elim
          · obtain ⟨e₁, _⟩ := hok b _ c
            obtain ⟨e₂, _⟩ := hok' b _ (un.frzs b ob _ c)
            rw [e] at e₁
            cases e₁
            exact e₂
      have grown : ∀ p ∈ cs, ∃ more : Array Value, s'.heap.get? p.2 = some { cls := .none, data := .fields more } := by
        intro p hp
        obtain ⟨more, c⟩ := un.tbls p.2 #[] (hT p hp)
        exact ⟨_, hok' p.2 _ c⟩
      refine ⟨rfl, ⟨fun b o e => ?_, fun b o e => ?_⟩, os, bare⟩
      · by_cases hb : b ∈ cs.map (·.2)
        · obtain ⟨p, hp, rfl⟩ := List.mem_map.mp hb
          obtain ⟨more, hm⟩ := grown p hp
          rw [tabs p hp] at e
          cases e
          refine .inr (.inl ⟨((code p hp).tab (tabs p hp)).isCodeTable, rfl, #[], more, rfl, ?_⟩)
          rw [Array.empty_append]
          exact hm
        · exact .inl (same b o hb e)
      · by_cases hb : b ∈ cs.map (·.2)
        · obtain ⟨p, hp, rfl⟩ := List.mem_map.mp hb
          obtain ⟨more, hm⟩ := grown p hp
          exact ⟨_, hm⟩
        · exact ⟨o, same b o hb e⟩
  let tabH : Hp := fun b => if b ∈ cs.map (·.2) then some (.tbl #[]) else none
  have tabYes : ∀ b, b ∈ cs.map (·.2) → tabH b = some (.tbl #[]) := fun b hb => if_pos hb
  have tabNo : ∀ b, b ∉ cs.map (·.2) → tabH b = none := fun b hb => if_neg hb
  cases hk : K.lookup a with
  | some o =>
    have e := KX a o hk
    rw [isList] at e
    cases e
    have sizeV : vs.toArray.size ≤ sizeLine := by
      rw [List.size_toArray, lenV]
      exact len
    have relV : Vals (ns.map V.int) vs.toArray.toList := by simpa using rv
    refine main tabH (fun p hp => tabYes _ (inT p hp)) (fun b => ?_)
      (.inr ⟨_, vs.toArray, _, hk, rfl, rfl, rfl, sizeV, relV⟩) (fun b u q => ?_) (fun b q => ?_)
      fun q => absurd (tabNo a aNot) q
    · by_cases hb : b ∈ cs.map (·.2)
      · exact .inr (.inl hb)
      · exact .inl (tabNo b hb)
    · by_cases hb : b ∈ cs.map (·.2)
      · rw [tabYes b hb] at q
        cases q
        exact tabAt b hb
      · rw [tabNo b hb] at q
        cases q
    · by_cases hb : b ∈ cs.map (·.2)
      · exact .inr hb
      · exact absurd (tabNo b hb) q
  | none =>
    let scr : HO := .frz { cls := .type "list", data := .seq vs.toArray } (.lst (ns.map V.int))
    have upA : upd tabH a scr a = some scr := upd_same
    have upN : ∀ b, b ≠ a → upd tabH a scr b = tabH b := fun b nb => upd_ne nb
    refine main (upd tabH a scr) (fun p hp => ?_) (fun b => ?_) (.inl (.inr ⟨_, upA⟩)) (fun b u q => ?_)
      (fun b q => ?_) fun _ => hk
    · rw [upN _ (fun q => aNot (by rw [← q]; exact inT p hp))]
      exact tabYes _ (inT p hp)
    · by_cases hb : b = a
      · subst hb
        exact .inr (.inr ⟨_, _, upA⟩)
      · rw [upN b hb]
        by_cases hb₂ : b ∈ cs.map (·.2)
        · exact .inr (.inl hb₂)
        · exact .inl (tabNo b hb₂)
    · by_cases hb : b = a
      · subst hb
        rw [upA] at q
        cases q
        refine ⟨isList, ?_, vs, _, rv, isList⟩
        rw [List.length_map]
        exact len
      · rw [upN b hb] at q
        by_cases hb₂ : b ∈ cs.map (·.2)
        · rw [tabYes b hb₂] at q
          cases q
          exact tabAt b hb₂
        · rw [tabNo b hb₂] at q
          cases q
    · by_cases hb : b = a
      · exact .inl hb
      · rw [upN b hb] at q
        by_cases hb₂ : b ∈ cs.map (·.2)
        · exact .inr hb₂
        · exact absurd (tabNo b hb₂) q
end

/-- what is to be known of the law's def at the head's heap h -/
def LawP (l : PySem.W.OpenLaw) (w : World) (K : PySem.W.Frag) (k n : Nat) (x : Str) (mg : Str → Option Value)
    (fa : Addr) (h : Heap) : Prop :=
  ∃ (fd : FuncData) (cs : List (Addr × Addr)) (sp : Sp), (∀ p ∈ cs, h.get? p.2 = some emptyTab) ∧
    (∀ p ∈ cs, K.lookup p.2 = none) ∧ (∀ p ∈ cs, PySem.W.CodeHd h p.1 p.2) ∧
    (∀ (s : Shared) (u : Value), BindsTo s fd ⟨[u], []⟩ [(x, u)]) ∧
    (∀ (H : Hp) (a : Addr) (ns : List Int), ns.length ≤ n → (∀ i ∈ ns, Builtin.Int.intBits i ≤ 1048576) →
      (∀ p ∈ cs, H p.2 = some (.tbl #[])) → SqL K H a (ns.map V.int) →
      sp [.ref a] H (fun v _ => v = .bl true) fun _ _ _ => False) ∧
    ∀ base : Heap, K.In base → base.Ns mainGlobals mg → (∀ p ∈ cs, TabB base mg p.1 p.2) →
      FnP l.prog w K mg base CX0 k fa fd [x] sp
theorem walk_ofP {l : PySem.W.OpenLaw} {n k : Nat} {q : Program} {loose : List Str}
    {XP : (Str → Option Value) → Heap → Prop} {YP : World → Heap → Prop} {d : DefRec} {K : Params → PySem.W.Frag}
    {x : Str} (most : l.most = some n) (small : n ≤ sizeLine) (plain : d.params.defaults = []) (room : Room k callerA)
    (inK : ∀ (w : World) (h : Heap), YP w h → (K w.params).In h)
    (F : ∀ (w : World) (mg : Str → Option Value) (fa : Addr) (h : Heap), YP w h → (K w.params).In h →
      h.Ns mainGlobals mg → mg d.name = some (.ref fa) → LawP l w (K w.params) k n x mg fa h) :
    PySem.W.WalkO q loose XP YP l.row.toRowW d [] (fun f vs => PySem.call f vs) := by
  refine Att.attach_callB most plain fun w s₀ z mg mb fa o pm cd doc a vs ns G Y ho hd hcd at_ list areInts many bits gens => ?_
  obtain ⟨fd, cs, sp, t1, t2, t3, b, want, fn⟩ := F w mg fa _ Y (inK w _ Y) G.T.g at_
  exact end_call (inK w _ Y) G.T.g G.T.b G.T.builtins G.T.nolimit gens t1 t2 t3 G.T.bmain list areInts
    (Nat.le_trans many small) room fn b (fun H h1 h2 => want H a ns many bits h1 h2) fun _ _ _ c => c.elim
end HG
set_option maxHeartbeats 2000000
namespace HG
open PySem PySem.Spec PyProof.Rows L2

/-! ## what stays -/
/-- but for the addresses ex, and for the tables of code objects -/
structure KeepW (ex : List Addr) (H H' : Hp) : Prop where
  all : ∀ a o, H a = some o → a ∉ ex → (∀ ps, o ≠ .tbl ps) → H' a = some o
  tup : ∀ a xs, H a = some (.tup xs) → H' a = some (.tup xs)
  frz : ∀ a o u, H a = some (.frz o u) → H' a = some (.frz o u)
  dom : ∀ a o, H a = some o → (∀ ps, o ≠ .tbl ps) → ∃ o', H' a = some o' ∧ ∀ ps, o' ≠ .tbl ps
/-- the tables too -/
structure Keep (ex : List Addr) (H H' : Hp) : Prop extends KeepW ex H H' where
  tbl : ∀ a ps, H a = some (.tbl ps) → H' a = some (.tbl ps)
instance {ex : List Addr} {H H' : Hp} : Coe (Keep ex H H') (KeepW ex H H') := ⟨fun k => k.toKeepW⟩
theorem KeepW.refl {ex : List Addr} {H : Hp} : KeepW ex H H := ⟨fun _ _ h _ _ => h, fun _ _ h => h, fun _ _ _ h => h, fun _ o h t => ⟨o, h, t⟩⟩
theorem Keep.refl {ex : List Addr} {H : Hp} : Keep ex H H := ⟨KeepW.refl, fun _ _ h => h⟩
theorem KeepW.trans {ex : List Addr} {H H1 H2 : Hp} (a : KeepW ex H H1) (b : KeepW ex H1 H2) : KeepW ex H H2 :=
  ⟨fun x o h n t => b.all x o (a.all x o h n t) n t, fun x o h => b.tup x o (a.tup x o h), fun x o u h => b.frz x o u (a.frz x o u h),
   fun x o h t => by
    obtain ⟨o', h', t'⟩ := a.dom x o h t
    exact b.dom x o' h' t'⟩
theorem Keep.trans {ex : List Addr} {H H1 H2 : Hp} (a : Keep ex H H1) (b : Keep ex H1 H2) : Keep ex H H2 :=
  ⟨a.toKeepW.trans b.toKeepW, fun x ps h => b.tbl x ps (a.tbl x ps h)⟩
theorem KeepW.more {ex ex' : List Addr} {H H' : Hp} (a : KeepW ex H H') (h : ∀ x ∈ ex, x ∈ ex') : KeepW ex' H H' :=
  ⟨fun x o e n t => a.all x o e (fun m => n (h x m)) t, a.tup, a.frz, a.dom⟩
theorem Keep.more {ex ex' : List Addr} {H H' : Hp} (a : Keep ex H H') (h : ∀ x ∈ ex, x ∈ ex') : Keep ex' H H' := ⟨a.toKeepW.more h, a.tbl⟩
theorem KeepW.nil {ex : List Addr} {H H' : Hp} (a : KeepW [] H H') : KeepW ex H H' := a.more fun _ h => nomatch h
theorem Keep.nil {ex : List Addr} {H H' : Hp} (a : Keep [] H H') : Keep ex H H' := a.more fun _ h => nomatch h
theorem KeepW.get {ex : List Addr} {H H' : Hp} {a : Addr} {o : HO} (k : KeepW ex H H') (e : H a = some o) (n : a ∉ ex)
    (t : ∀ ps, o ≠ .tbl ps := by (intro _ z; cases z)) : H' a = some o := k.all a o e n t
/-- an object that wasn't there at first may change -/
theorem KeepW.mut {ex : List Addr} {H H' : Hp} {p : Addr} {o : HO} (k : KeepW ex H H') (h : Fr0 H p) : KeepW ex H (upd H' p o) := by
  have ne : ∀ a u, H a = some u → (∀ ps, u ≠ .tbl ps) → a ≠ p := fun a u e t q => by
    subst q
    obtain ⟨ps, z⟩ := h u e
    exact t ps z
  refine ⟨fun a u e n t => ?_, fun a xs e => ?_, fun a ob u e => ?_, fun a u e t => ?_⟩
  · rw [upd_ne (ne a u e t)]
    exact k.all a u e n t
  · rw [upd_ne (ne a _ e (fun _ z => nomatch z))]
    exact k.tup a xs e
  · rw [upd_ne (ne a _ e (fun _ z => nomatch z))]
    exact k.frz a ob u e
  · rw [upd_ne (ne a u e t)]
    exact k.dom a u e t
theorem Keep.mut {ex : List Addr} {H H' : Hp} {p : Addr} {o : HO} (k : Keep ex H H') (h : H p = none) : Keep ex H (upd H' p o) := by
  refine ⟨k.toKeepW.mut (fr0_none h), fun a ps e => ?_⟩
  rw [upd_ne (ne_of_none e h)]
  exact k.tbl a ps e
theorem Keep.new {ex : List Addr} {H : Hp} {p : Addr} {o : HO} (h : H p = none) : Keep ex H (upd H p o) := Keep.refl.mut h
theorem Keep.ext {ex : List Addr} {H H' : Hp} (h : ∀ a o, H a = some o → H' a = some o) : Keep ex H H' :=
  ⟨⟨fun a o e _ _ => h a o e, fun a o e => h a _ e, fun a o u e => h a _ e, fun a o e t => ⟨o, h a o e, t⟩⟩, fun a ps e => h a _ e⟩
/-- the object at p, no tuple and no table, changes -/
theorem Keep.chg {ex : List Addr} {H : Hp} {p : Addr} {o u : HO} (h : H p = some u) (hp : p ∈ ex)
    (nt : ∀ xs, u ≠ .tup xs) (nf : ∀ o v, u ≠ .frz o v) (no : ∀ ps, o ≠ .tbl ps := by (intro _ z; cases z))
    (nu : ∀ ps, u ≠ .tbl ps := by (intro _ z; cases z)) : Keep ex H (upd H p o) := by
  refine ⟨⟨fun a v e n _ => ?_, fun a xs e => ?_, fun a ob v e => ?_, fun a v e t => ?_⟩, fun a ps e => ?_⟩
  · rw [upd_ne (fun q => n (by rw [q]; exact hp))]
    exact e
  · rw [upd_ne (fun q => nt xs (by rw [q, h] at e; exact Option.some.inj e))]
    exact e
  · rw [upd_ne (fun q => nf ob v (by rw [q, h] at e; exact Option.some.inj e))]
    exact e
  · by_cases q : a = p
    · rw [q, upd_same]
      exact ⟨_, rfl, no⟩
    · rw [upd_ne q]
      exact ⟨_, e, t⟩
  · rw [upd_ne (fun q => nu ps (by rw [q, h] at e; exact Option.some.inj e))]
    exact e
theorem KeepW.none {ex : List Addr} {H H' : Hp} {a : Addr} (k : KeepW ex H H') (h : H' a = none) : Fr0 H a := fun o e => by
  by_cases t : ∃ ps, o = .tbl ps
  · exact t
  · obtain ⟨o', e', _⟩ := k.dom a o e (fun ps z => t ⟨ps, z⟩)
    rw [h] at e'
    cases e'
theorem Keep.none {ex : List Addr} {H H' : Hp} {a : Addr} (k : Keep ex H H') (h : H' a = none) : H a = none := by
  cases q : H a with
  | none => rfl
  | some o =>
    obtain ⟨ps, rfl⟩ := k.toKeepW.none h o q
    rw [k.tbl a ps q] at h
    cases h
theorem sqT_keep {K : PySem.W.Frag} {ex : List Addr} {H H' : Hp} {a : Addr} {xs : List V} (k : KeepW ex H H') (h : SqT K H a xs) : SqT K H' a xs := by
  rcases h with (h | ⟨o, h⟩) | h
  · exact .inl (.inl (k.tup _ _ h))
  · exact .inl (.inr ⟨o, k.frz _ _ _ h⟩)
  · exact .inr h
theorem sqL_keep {K : PySem.W.Frag} {ex : List Addr} {H H' : Hp} {a : Addr} {xs : List V} (k : KeepW ex H H') (n : a ∉ ex) (h : SqL K H a xs) : SqL K H' a xs := by
  rcases h with (h | ⟨o, h⟩) | h
  · exact .inl (.inl (k.get h n))
  · exact .inl (.inr ⟨o, k.frz _ _ _ h⟩)
  · exact .inr h

/-! ## pairs of ints -/
def Pr (K : PySem.W.Frag) (H : Hp) (v : V) (a b : Int) : Prop := ∃ p, v = .ref p ∧ SqT K H p [.int a, .int b]
theorem Pr.keep {K : PySem.W.Frag} {ex : List Addr} {H H' : Hp} {v : V} {a b : Int} (k : KeepW ex H H') (h : Pr K H v a b) : Pr K H' v a b := by
  obtain ⟨p, e, q⟩ := h
  exact ⟨p, e, sqT_keep k q⟩
theorem Pr.new {K : PySem.W.Frag} {H : Hp} {p : Addr} {a b : Int} : Pr K (upd H p (.tup [.int a, .int b])) (.ref p) a b :=
  ⟨p, rfl, .inl (.inl upd_same)⟩

/-! ## defs that are called -/
structure Callee (P : Program) (w : World) (K : PySem.W.Frag) (mg : Str → Option Value) (base : Heap) (CX : CXT)
    (k : Nat) (x : Str) (ps : List Str) (sp : Sp) : Prop where
  ex : ∃ (f : Addr) (fd : FuncData), FnOk P w K mg base CX k f fd ps sp ∧ mg x = some (.ref f) ∧
    PySem.W.keepIn K (.ref f) = true ∧ Binds K fd ps [] ∧ ∃ oc od osl, K.lookup f = some ⟨oc, od, .func fd, osl⟩
structure CalleeP (P : Program) (w : World) (K : PySem.W.Frag) (mg : Str → Option Value) (base : Heap) (CX : CXT)
    (k : Nat) (x : Str) (ps : List Str) (sp : Sp) : Prop where
  ex : ∃ (f : Addr) (fd : FuncData), FnP P w K mg base CX k f fd ps sp ∧ mg x = some (.ref f) ∧
    PySem.W.keepIn K (.ref f) = true ∧ Binds K fd ps [] ∧ ∃ oc od osl, K.lookup f = some ⟨oc, od, .func fd, osl⟩
theorem fun_at {K : PySem.W.Frag} {x q : Str} {st : Stmt} {f : Addr} {fd : FuncData} (F : Fun K x q st f fd) :
    ∃ oc od osl, K.lookup f = some ⟨oc, od, .func fd, osl⟩ := by
  obtain ⟨oc, od, _, _, _, _, _, _, osl, _, lk, _⟩ := F.ex
  exact ⟨oc, od, osl, lk⟩
/-- a def of the text where the module's name x leads to it -/
structure Def (K : PySem.W.Frag) (mg : Str → Option Value) (x : Str) (st : Stmt) (ps : List Str) : Prop where
  ex : ∃ (f : Addr) (fd : FuncData), Fun K x x st f fd ∧ mg x = some (.ref f) ∧ Binds K fd ps []
def tCl (sp : Sp) (E : XK) (t : TA) : TE := fun σ H Q => t σ H fun vs H1 => sp vs H1 Q E
section
variable {X : Cx} {CX : CXT} {k n : Nat} {ps : List Str} {sp : Sp} {E : XK} {x : Str} {p pos : Pos} {e : Expr}
  {es : List Expr} {t : TA}
theorem pe_cE (C : Callee X.prog X.w X.K X.mg X.base CX k x ps sp) (room : Room n X.A) (lets : Passes CX X E)
    (args : PA X (e :: es) t) (hk : k ≤ n := by decide) (glob : Gl X x := by rfl)
    (hdb : (x == ("__debug__" : Str)) = false := by decide)
    (he : starEach (e :: es) X.env = (false, eval e X.env) :: starEach es X.env := by rfl)
    (hpl : (backTo pos (starEach es X.env)).any (·.1) = false := by rfl) :
    PE X (.Call (.Name x p) (e :: es) [] pos) (tCl sp E t) := by
  obtain ⟨f, fd, F, m, kp, b, _⟩ := C.ex
  have h := pe_call (p := p) (pos := pos) F (room.mono hk) glob m kp b .nil lets args hdb he hpl
  have q : tCall sp [] E t = tCl sp E t := by
    funext σ H Q
    show t σ H (fun vs H1 => sp (vs ++ []) H1 Q E) = t σ H fun vs H1 => sp vs H1 Q E
    congr 1
    funext vs H1
    rw [List.append_nil]
  rw [← q]
  exact h
theorem pe_c (C : Callee X.prog X.w X.K X.mg X.base CX0 k x ps sp) (room : Room n X.A) (args : PA X (e :: es) t)
    (hk : k ≤ n := by decide) (glob : Gl X x := by rfl)
    (hdb : (x == ("__debug__" : Str)) = false := by decide)
    (he : starEach (e :: es) X.env = (false, eval e X.env) :: starEach es X.env := by rfl)
    (hpl : (backTo pos (starEach es X.env)).any (·.1) = false := by rfl) :
    PE X (.Call (.Name x p) (e :: es) [] pos) (tCl sp E0 t) := pe_cE C room pass0 args hk glob hdb he hpl
/-- a def that may raise, called where it doesn't -/
theorem pe_cx (C : Callee X.prog X.w X.K X.mg X.base (L2.CX X.prog X.w) k x ps sp) (room : Room n X.A) (args : PA X (e :: es) t)
    (hk : k ≤ n := by decide) (glob : Gl X x := by rfl)
    (hdb : (x == ("__debug__" : Str)) = false := by decide)
    (he : starEach (e :: es) X.env = (false, eval e X.env) :: starEach es X.env := by rfl)
    (hpl : (backTo pos (starEach es X.env)).any (·.1) = false := by rfl) :
    PE X (.Call (.Name x p) (e :: es) [] pos) (tCl sp E0 t) := pe_cE C room passL args hk glob hdb he hpl
end
section
variable {P : Program} {w : World} {K : PySem.W.Frag} {mg : Str → Option Value} {base : Heap}
theorem Def.ok {x : Str} {st : Stmt} {N ps : List Str} {k : Nat} {sp : Sp} (D : Def K mg x st ps) (S : FnScope N ps (defScope st))
    (len : ∀ vs H Q E, sp vs H Q E → vs.length = ps.length)
    (body : ∀ (f : Addr) (cdv : Value) (A : Around) (outer : List Env) (s : Shared) (H : Hp) (vs : List V) (Q : VK) (E : XK),
      Room k (A.deeper (envOfC x (defScope st) s.heap.objs.size f cdv)) → sp vs H Q E →
      ∃ t, PSs (cxOf CX0 P w K mg base N x (defScope st) f cdv A outer s H E).nox (defBody st) t ∧
        t { nx := fun _ H' => Q .non H', rt := Q } (start N vs) H) :
    Callee P w K mg base CX0 (k + 1) x ps sp := by
  obtain ⟨f, fd, F, m, b⟩ := D.ex
  exact ⟨f, fd, F.ok S len fun cdv A outer s H vs Q E hr h => body f cdv A outer s H vs Q E hr h, m, F.kp, b, fun_at F⟩
theorem Def.okX {x : Str} {st : Stmt} {N ps : List Str} {k : Nat} {sp : Sp} (D : Def K mg x st ps) (S : FnScope N ps (defScope st))
    (len : ∀ vs H Q E, sp vs H Q E → vs.length = ps.length)
    (body : ∀ (f : Addr) (cdv : Value) (A : Around) (outer : List Env) (s : Shared) (H : Hp) (vs : List V) (Q : VK) (E : XK),
      Room k (A.deeper (envOfC x (defScope st) s.heap.objs.size f cdv)) → sp vs H Q E →
      ∃ t, PSs (cxOf (L2.CX P w) P w K mg base N x (defScope st) f cdv A outer s H E) (defBody st) t ∧
        t { nx := fun _ H' => Q .non H', rt := Q } (start N vs) H) :
    Callee P w K mg base (L2.CX P w) (k + 1) x ps sp := by
  obtain ⟨f, fd, F, m, b⟩ := D.ex
  exact ⟨f, fd, F.okX S len fun cdv A outer s H vs Q E hr h => body f cdv A outer s H vs Q E hr h, m, F.kp, b, fun_at F⟩
theorem Def.okP {x : Str} {st : Stmt} {N ps : List Str} {k : Nat} {sp : Sp} (D : Def K mg x st ps) (S : FnScope N ps (defScope st))
    (len : ∀ vs H Q E, sp vs H Q E → vs.length = ps.length)
    (body : ∀ (f : Addr) (cdv : Value) (A : Around) (outer : List Env) (s : Shared) (H : Hp) (vs : List V) (Q : VK) (E : XK),
      NoG (A.deeper (envOfC x (defScope st) s.heap.objs.size f cdv)) →
      Room k (A.deeper (envOfC x (defScope st) s.heap.objs.size f cdv)) → sp vs H Q E →
      ∃ t, PSs (cxOf CX0 P w K mg base N x (defScope st) f cdv A outer s H E).nox (defBody st) t ∧
        t { nx := fun _ H' => Q .non H', rt := Q } (start N vs) H) :
    CalleeP P w K mg base CX0 (k + 1) x ps sp := by
  obtain ⟨f, fd, F, m, b⟩ := D.ex
  exact ⟨f, fd, FnP.ofFun F S len fun cdv A outer s H vs Q E ng hr h => body f cdv A outer s H vs Q E ng hr h, m, F.kp, b, fun_at F⟩
end
end HG
set_option maxHeartbeats 2000000
namespace HG
open PySem PySem.Spec PyProof.Rows L2
/-- an own error class over ValueError, with no more than a text -/
structure ErrC (K : PySem.W.Frag) (mg : Str → Option Value) (x : Str) (C : Addr) : Prop where
  at_ : mg x = some (.ref C)
  exc : PySem.W.excIn K C [.type "ValueError", .type "Exception", .type "BaseException", .type "object"] "ValueError.__new__" = true
  keep : PySem.W.keepIn K (.ref C) = true
  sub : PySem.W.subIn K (.ref C) (.type "BaseException") = some true
  ty : PySem.W.typeIn K (.ref C) = some (.type "type")
theorem pmk_err {X : Cx} {x m : Str} {C : Addr} {j : Nat} {p p2 pos : Pos} (c : ErrC X.K X.mg x C) (hg : Gl X x := by rfl)
    (hdb : (x == ("__debug__" : Str)) = false := by decide) :
    PMk X (.Call (.Name x p) [.Constant (.str m) j p2] [] pos) (fun _ H Q => Q (.ref C) none H) :=
  pmk_own PySem.F.excBase_ValueError c.exc c.at_ c.keep (raises_own c.sub c.ty) hg hdb

theorem passE {P : Program} {w : World} {K : PySem.W.Frag} {mg : Str → Option Value} {base : Heap} {N : List Str} {qual : Str} {scope : Scope} {f : Addr} {cd : Value}
    {A : Around} {outer : List Env} {s : Shared} {H : Hp} {E : XK} : Passes (L2.CX P w) (cxOf (L2.CX P w) P w K mg base N qual scope f cd A outer s H E) E :=
  passes_call (W := fun cls d _ H => E cls d H) (takes_of rfl rfl rfl rfl) (fun _ _ _ _ h => h)
end HG
set_option maxHeartbeats 2000000
namespace HG
open PySem PySem.Spec PyProof.Rows L2

/-! ## an own exception whose __init__ calls super().__init__(text) and keeps one thing -/
/-- what stands of such a def: fI its address, C its class, q its full name -/
structure SupI (P : Program) (K : PySem.W.Frag) (q : Str) (body : List Stmt) (scope : Scope) (C fI : Addr) (fd : FuncData) : Prop where
  ex : ∃ (oc : Value) (od : Option Addr) (params : Arguments) (dV kV doc pm : Value) (an : Option Addr) (cda cc : Addr) (ct : Value) (osl : Array (Option Value))
      (c1 : Value) (d1 : Option Addr) (vs : Array Value) (s1 : Array (Option Value)) (file : Str) (tf : Tok) (c2 : Value) (d2 : Option Addr) (s2 : Array (Option Value)) (ar : Arg),
    fd = PySem.W.ksFn "__init__" q params body scope dV kV doc pm an (.ref cda) ct cc ∧ K.lookup fI = some ⟨oc, od, .func fd, osl⟩ ∧ PySem.W.codeIn K (.ref cda) q = true
    ∧ K.lookup cda = some ⟨c1, d1, .fields vs, s1⟩ ∧ vs[2]? = some (.str file tf) ∧ ((P.main.file : Str) == file) = true
    ∧ K.lookup cc = some ⟨c2, d2, .cell (some (.ref C)), s2⟩ ∧ (params.posonlyargs ++ params.args).head? = some ar ∧ ar.arg = "self"
  any : PySem.W.nsIn K cStatics "thirdparty.any" = some none
  top : (P.main.scope.names.lookup ("super" : Str)).isSome = false
  sup : PySem.W.ks_superIn K C C "__init__" = some (some (.builtin "ValueError.__init__"))
  is : PySem.W.mroIn K C (.ref C) = some true
  ve : PySem.W.subIn K (.ref C) (.type "ValueError") = some true

/-- the context of such a def -/
def cxS (CX : CXT) (P : Program) (w : World) (K : PySem.W.Frag) (mg : Str → Option Value) (base : Heap) (N : List Str) (qual : Str) (scope : Scope) (f : Addr) (cd : Value) (cc : Addr) (A : Around) (outer : List Env) (s : Shared) (H : Hp) (E : XK) : Cx where
  prog := P
  w := w
  K := K
  mg := mg
  base := base
  A := A.deeper (PySem.W.ksEnv qual scope s.heap.objs.size f cd cc)
  N := N
  s_0 := s
  H_0 := H
  env := PySem.W.ksEnv qual scope s.heap.objs.size f cd cc
  outer := outer
  stack := PySem.W.ksEnv qual scope s.heap.objs.size f cd cc :: outer
  ex := []
  calm := true
  fn := fun _ => false
  pn := []
  xe := fun e s' => wpAny (model P w) (A.deeper (PySem.W.ksEnv qual scope s.heap.objs.size f cd cc)) (leaving (PySem.W.ksEnv qual scope s.heap.objs.size f cd cc) e) (fun _ s'' => CX outer H s E e s'') (fun e' s'' => CX outer H s E e' s'') s'

section
variable {X : Cx} {pins : List (Addr × Obj)} {σ : L2.St} {H : Hp} {s : Shared} {E : Value → Shared → Prop}
/-- the built-in __init__ bound to the exception that is being made, called -/
theorem call_mw {a C u : Addr} {us : List Value} {Q : Value → Shared → Prop} (T : OexC X.K C) (I : Inv X pins σ H s) (e : H a = some (exo a C none))
    (hu : s.heap.get? u = some (PySem.W.kxs_mw "ValueError.__init__" a)) (hl : us.length ≤ sizeLine) (h : ∀ s', Inv X pins σ H s' → Q .none s') :
    wpAny (model X.prog X.w) X.A (call (.ref u) us) Q E s := by
  obtain ⟨nm, q, N, bs, bm, sn, sub, ab, col, dd, k0, k1, k2, k3, k5, hC, hbm⟩ := T.cls
  obtain ⟨t1, ho⟩ := exo_at I.hok e
  have hC' := I.kIn _ _ hC
  obtain ⟨hp, g, d, t, os⟩ := s
  refine wpAny_call (codeAny_of_tree ?_)
  show wpAny _ X.A.in1 (callAny (.ref u) ⟨us, []⟩) _ _ _
  simp only [callAny]
  refine wpAny_bind (wpAny_load hu ?_)
  simp only [PySem.W.kxs_mw, show (Value.type "method-wrapper" == Value.type "method" || Value.type "method-wrapper" == Value.type "builtin_function_or_method" || Value.type "method-wrapper" == Value.type "method-wrapper") = true by decide, if_true]
  refine PySem.W.KFB.if_so (by decide) ?_
  refine wpAny_bind (PySem.W.check_bound_init F.excBase_ValueError.toExcCallFacts hC' ho rfl ?_)
  refine wpAny_bind (wpAny_pure (wpAny_pure ?_))
  refine ⟨plainId_quiet F.excBase_ValueError.init.plain _, codeAny_builtin F.excBase_ValueError.initEntry ?_⟩
  refine PySem.W.exc_init_tree (cls := .ref C) (t0 := t1) (dv := none) (c2 := .none) (c3 := .none) (b4 := .bool false) ho hl fun h' k hx ht => ?_
  have J := I.write (t' := t) (x := a) (e := a) (o := exo a C none) (by rw [e]; exact True.intro) (.inl rfl) k ⟨_, hx⟩ (exo_ok hx)
  have eu : upd H a (exo a C none) = H := by
    funext b
    by_cases hb : b = a
    · rw [hb, upd_same, e]
    · rw [upd_ne hb]
  rw [eu] at J
  exact h _ J
end

section
variable {P : Program} {w : World} {K : PySem.W.Frag} {mg : Str → Option Value} {base : Heap}
/-- super().__init__(text) as a statement -/
theorem super_stmt {CX : CXT} {N : List Str} {q : Str} {scope : Scope} {fI cda cc a C : Addr} {A : Around} {outer : List Env} {s0 s : Shared} {H0 H : Hp} {E : XK} {σ : L2.St} {pins : List (Addr × Obj)} {body : List Stmt}
    {oc : Value} {od : Option Addr} {fd : FuncData} {osl : Array (Option Value)} {ar : Arg}
    {c1 : Value} {d1 : Option Addr} {vs : Array Value} {s1 : Array (Option Value)} {file : Str} {tf : Tok} {c2 : Value} {d2 : Option Addr} {s2 : Array (Option Value)} {txt : Str} {n3 : Nat} {p0 p1 p2 p3 p4 p5 : Pos}
    {X : Cx} (eX : X = cxS CX P w K mg base N q scope fI (.ref cda) cc A outer s0 H0 E)
    (T : OexC K C) (I : Inv X pins σ H s) (e : H a = some (exo a C none))
    (lk : K.lookup fI = some ⟨oc, od, .func fd, osl⟩) (lcd : K.lookup cda = some ⟨c1, d1, .fields vs, s1⟩) (hvs : vs[2]? = some (.str file tf)) (hfile : ((P.main.file : Str) == file) = true)
    (lcc : K.lookup cc = some ⟨c2, d2, .cell (some (.ref C)), s2⟩) (har : (fd.params.posonlyargs ++ fd.params.args).head? = some ar) (hself : ar.arg = "self")
    (any : PySem.W.nsIn K cStatics "thirdparty.any" = some none) (top : (P.main.scope.names.lookup ("super" : Str)).isSome = false)
    (sup : PySem.W.ks_superIn K C C "__init__" = some (some (.builtin "ValueError.__init__"))) (is : PySem.W.mroIn K C (.ref C) = some true) (ve : PySem.W.subIn K (.ref C) (.type "ValueError") = some true)
    (kind : scope.kind = .function) (hs : scope.names.lookup ("super" : Str) = some .globalImplicit) (hc : scope.names.lookup ("__class__" : Str) = some .free) (hl : scope.names.lookup ("self" : Str) = some .local)
    (mS : mg "super" = none) (n0 : N[0]? = some ("self" : Str)) (v0 : σ[0]? = some (some (.ref a)))
    (hsw : swapsWith (.Call (.Attribute (.Call (.Name "super" p0) [] [] p1) "__init__" p2) [.Constant (.str txt) n3 p3] [] p4) none p5.line X.env = pure false) (hi : interactive X.env = false) {pl : Sem Bool}
    (he : eval (.Call (.Attribute (.Call (.Name "super" p0) [] [] p1) "__init__" p2) [.Constant (.str txt) n3 p3] [] p4) X.env = (do
      let ov ← attributeBase (.Call (.Name "super" p0) [] [] p1) "__init__" X.env (eval (.Call (.Name "super" p0) [] [] p1) X.env)
      standAt p2.atName
      let (f, first) ← holding [ov] (getMethod ov "__init__" pl)
      callWith p4 f first (backTo p4 (starEach [.Constant (.str txt) n3 p3] X.env)) [])) :
    PySem.wpAt (model X.prog X.w) X.A (.func body X.env) (exec (.Expr (.Call (.Attribute (.Call (.Name "super" p0) [] [] p1) "__init__" p2) [.Constant (.str txt) n3 p3] [] p4) p5) X.env)
      (fun fl s' => fl = .next ∧ Inv X pins σ H s') X.xe s := by
  subst eX
  have KX := I.kIn
  obtain ⟨nm, qn, Nn, bs, bm, sn, sub, ab, col, dd, k0, k1, k2, k3, k5, hC, hbm⟩ := T.cls
  have hcl : PySem.W.clsIn K C = some { name := nm, bases := bs, mro := .ref C :: bm, ns := Nn, qualname := qn, hasDict := true, slotNames := sn, subclasses := sub, abstract := ab, collection := col, hasDel := false } := by unfold PySem.W.clsIn; rw [hC] <;> rfl
  obtain ⟨t1, ho⟩ := exo_at I.hok e
  refine ks_wpAt_Expr_any ?_ hi hsw
  refine ks_wpAt_MethodCall (pl := pl) ?_ he
  obtain ⟨m, hns, loc⟩ := I.loc
  obtain ⟨u0, r0, look⟩ := loc 0 "self" (.ref a) n0 v0 (.inl hl)
  obtain rfl : u0 = .ref a := r0
  have hm : m "self" = some (.ref a) := by
    rcases look with ⟨_, z⟩ | ⟨z, _⟩
    · exact z
    · rcases z with z | z
      · exact absurd (hl.symm.trans z) (by decide)
      · exact absurd (hl.symm.trans z) (by decide)
  have kf : (cxS CX P w K mg base N q scope fI (.ref cda) cc A outer s0 H0 E).env.scope.kind = .function := kind
  obtain ⟨mb, hb1, hb2⟩ := I.mod.blt
  refine ks_wpAt_super_base (env := PySem.W.ksEnv q scope s0.heap.objs.size fI (.ref cda) cc) hs hc (by decide) rfl (KX _ _ lk) rfl har rfl (KX _ _ lcd) rfl hvs hfile top ?_
  refine PySem.W.ks_loadName_global kind hs (Calls.loadGlobal_builtin (env := PySem.W.ksEnv q scope s0.heap.objs.size fI (.ref cda) cc) (I.mod.glob.keeps I.bk) mS (hb1.keeps I.bk) ((hb2 _ (by decide)).trans (PyProof.Rows.Boot.«super»)) ⟨rfl, ?_⟩)
  refine wpAny_loadName_free kind hc rfl ⟨_, KX _ _ lcc, rfl⟩ ?_
  rw [hself]
  refine wpAny_loadName_local kind hl hns hm ?_
  obtain ⟨hh, g, d, t, os⟩ := s
  refine ks_wpAny_isType_cls (KX _ _ hC) rfl ⟨rfl, ?_⟩
  refine ks_wpAny_call_super (KX _ _ hC) rfl ho rfl (fun c z => nomatch z) (PySem.W.looks_mroIn KX is) (fun h' es k => ?_)
  have I1 := I.kept (t' := t) (h' := h') k
  have ho1 := k _ _ ho
  have Ia : PySem.W.InstAt h' a { cls := .ref C, dict := none, data := .fields #[.ref t1, .none, .none, .none, .bool false, .none] } C none := ⟨ho1, rfl, rfl, trivial⟩
  have hn : PySem.W.Looks (model P w) h' (isInstance (.ref a) (.type "ValueError")) true := Ia.type.andThen (PySem.W.looks_subIn I1.kIn ve)
  have sup' := sup
  unfold PySem.W.ks_superIn at sup'
  rw [hcl] at sup'
  refine PySem.W.kxs_getMethod PySem.W.kxs_ValueError es (PySem.W.looks_opaque I1.kIn any) (l₀ := .ref C :: bm) ((PySem.W.looks_clsIn I1.kIn hcl).andThen .now) rfl I1.kIn sup' hn (PySem.W.ks_ne I1.kIn Ia hcl) (by decide) ?_
  have k2 : ∀ b u, h'.get? b = some u → (h'.push (PySem.W.kxs_mw "ValueError.__init__" a)).get? b = some u := fun b u z => Heap.get?_push_of_some _ z
  have I2 := I1.kept (t' := t + 1) (h' := h'.push (PySem.W.kxs_mw "ValueError.__init__" a)) k2
  have hu : (h'.push (PySem.W.kxs_mw "ValueError.__init__" a)).get? h'.objs.size = some (PySem.W.kxs_mw "ValueError.__init__" a) := Heap.get?_push_at rfl rfl
  refine PySem.W.kxs_callWith (i := "ValueError.__init__") (x := a) rfl ?_
  refine Calls.evalArgs_plain (x := eval (.Constant (.str txt) n3 p3) _) (rest := []) ?_
  refine Calls.spliced_cons (Calls.Constant_str (Calls.spliced_nil ⟨hu, ?_⟩))
  refine call_mw T (I2.tok _) e hu (by rw [sizeLine_eq]; simp) fun s' J => ⟨rfl, J⟩
/-- a def whose body is super().__init__(text), self.f = p -/
def spS (C : Addr) (f : Str) : Sp := fun vs H Q _ => ∃ (a : Addr) (v : V), vs = [.ref a, v] ∧ H a = some (exo a C none) ∧ ∀ dx, H dx = none → dx ≠ a → Q .non (upd (upd H dx (exd dx [(f, v)])) a (exo a C (some dx)))
/-- the look at the names of its scope -/
structure SupSc (scope : Scope) (p : Str) : Prop where
  kind : scope.kind = .function
  co : scope.isCoroutine = false
  gen : scope.isGenerator = false
  nocell : ∀ x ∈ scope.names, x.2 ≠ .cell
  free : ∀ x ∈ scope.names, x.2 = .free → x.1 = "__class__"
  hs : scope.names.lookup ("super" : Str) = some .globalImplicit
  hc : scope.names.lookup ("__class__" : Str) = some .free
  hl : scope.names.lookup ("self" : Str) = some .local
  hp : scope.names.lookup p = some .local
  ne : p ≠ ("self" : Str)
theorem fn_supS {CX : CXT} {q p f : Str} {body : List Stmt} {scope : Scope} {C fI : Addr} {fd : FuncData} {k : Nat} {txt : Str} {n3 : Nat} {p0 p1 p2 p3 p4 p5 p6 p7 p8 p9 : Pos}
    (D : SupI P K q body scope C fI fd) (T : OexC K C) (Sc : SupSc scope p) (mS : mg "super" = none) (hf : PySem.W.findIn K (.ref C) f = some none)
    (hb : body = [.Expr (.Call (.Attribute (.Call (.Name "super" p0) [] [] p1) "__init__" p2) [.Constant (.str txt) n3 p3] [] p4) p5, .Assign [.Attribute (.Name "self" p6) f p7] (.Name p p8) p9])
    (hd1 : (p == ("__debug__" : Str)) = false) (hd2 : (p == ("__classdict__" : Str)) = false)
    (hsw : ∀ cdv cc L, swapsWith (.Call (.Attribute (.Call (.Name "super" p0) [] [] p1) "__init__" p2) [.Constant (.str txt) n3 p3] [] p4) none p5.line (PySem.W.ksEnv q scope L fI cdv cc) = pure false)
    (hsw2 : ∀ cdv cc L, swapsWith (.Name p p8) (some (.Attribute (.Name "self" p6) f p7)) p9.line (PySem.W.ksEnv q scope L fI cdv cc) = pure false)
    (hi : ∀ cdv cc L, interactive (PySem.W.ksEnv q scope L fI cdv cc) = false)
    {pl : Sem Bool}
    (he : ∀ cdv cc L, eval (.Call (.Attribute (.Call (.Name "super" p0) [] [] p1) "__init__" p2) [.Constant (.str txt) n3 p3] [] p4) (PySem.W.ksEnv q scope L fI cdv cc) = (do
      let ov ← attributeBase (.Call (.Name "super" p0) [] [] p1) "__init__" (PySem.W.ksEnv q scope L fI cdv cc) (eval (.Call (.Name "super" p0) [] [] p1) (PySem.W.ksEnv q scope L fI cdv cc))
      standAt p2.atName
      let (f, first) ← holding [ov] (getMethod ov "__init__" pl)
      callWith p4 f first (backTo p4 (starEach [.Constant (.str txt) n3 p3] (PySem.W.ksEnv q scope L fI cdv cc))) [])) :
    FnOk P w K mg base CX (k + 1) fI fd ["self", p] (spS C f) := by
  obtain ⟨oc, od, params, dV, kV, doc, pm, an, cda, cc, ct, osl, c1, d1, vs, s1, file, tf, c2, d2, s2, ar, rfl, lk, hcd, lcd, hvs, hfile, lcc, har, hself⟩ := D.ex
  refine ⟨fun xs H Q E h => by obtain ⟨a, v, rfl, _⟩ := h; rfl, fun A outer s H args us xs Q E hr e0 hbi r hsp => ?_⟩
  obtain ⟨a, v, rfl, hpa, q1⟩ := hsp
  have KX : K.In s.heap := e0.mod.kin.keeps fun b o e => (e0.bs b o e).1
  have lim : s.heap.NoLimit := e0.mod.nolimit.keeps fun b o e => (e0.bs b o e).1
  obtain ⟨u0, u1, rfl, r0, r1⟩ := vals2 r
  obtain rfl : u0 = .ref a := r0
  refine ks_codeAny_call_defAt (binds := [("self", .ref a), (p, u1)]) hr.depth (KX _ _ lk) rfl lim (PySem.W.codeRec_of KX hcd) rfl hbi Sc.nocell (fun y hy => ?_) (fun h0 hns hk => ?_) Sc.co Sc.gen Sc.kind
  · rcases List.mem_cons.mp hy with rfl | hy
    · exact Sc.hl
    · rcases List.mem_cons.mp hy with rfl | hy
      · exact Sc.hp
      · cases hy
  · have I : L2.Inv (cxS CX P w K mg base ["self", p] q scope fI (.ref cda) cc A outer s H E) [] [some (.ref a), some v] H { s with heap := h0, toks := s.toks + 2 } := by
      have cb : base.get? cc = some ⟨c2, d2, .cell (some (.ref C)), s2⟩ := e0.mod.kin _ _ lcc
      have cl : ∀ x c, (cxS CX P w K mg base ["self", p] q scope fI (.ref cda) cc A outer s H E).env.cells.lookup x = some c → x = "__class__" ∧ c = cc := fun x c h => by
        have h' : List.lookup x [(("__class__" : Str), cc)] = some c := h
        by_cases hx : x = "__class__"
        · subst hx
          simp [List.lookup] at h'
          exact ⟨rfl, h'.symm⟩
        · have hx' : (x == ("__class__" : Str)) = false := by simpa using hx
          simp [List.lookup, hx'] at h'
      have nE : ∀ b : Addr, b ∉ (cxS CX P w K mg base ["self", p] q scope fI (.ref cda) cc A outer s H E).ex := fun b z => absurd (show b ∈ ([] : List Addr) from z) (by simp)
      refine ⟨⟨e0.mod, Sc.kind, rfl, rfl, Nat.le_refl _, fun y z c h1 h2 => ?_, fun y hy => ?_, fun y c hf _ => ?_, fun _ => hr.hd, Around.frames_deeper e0.frames, .inr ⟨rfl, rfl⟩, fun b z => absurd z (nE b), e0.bs, e0.bsz, fun b _ _ => nE b, fun b z => absurd z (nE b), e0.funs, e0.frf⟩,
        rfl, e0.bare, Un.kept hk, ⟨_, hns, fun i y v' h1 h2 h3 => ?_⟩, fun y c h => ?_, e0.hok.fresh (Nat.le_refl _), fun y c h => ?_, fun p hp => absurd (show p ∈ ([] : List (Addr × Obj)) from hp) (by simp), e0.hok.kept hk, rfl⟩
      · exact (cl _ _ h1).1.trans (cl _ _ h2).1.symm
      · have hy : scope.names.lookup y = some .cell ∨ scope.names.lookup y = some .free := hy
        rcases hy with hy | hy
        · exact absurd rfl (Sc.nocell _ (PySem.mem_of_lookup hy))
        · obtain rfl : y = "__class__" := Sc.free _ (PySem.mem_of_lookup hy) rfl
          exact ⟨cc, rfl⟩
      · exact absurd hf (by show ¬ (false = true); decide)
      · match i, h1, h2 with
        | 0, h1, h2 =>
          obtain rfl : ("self" : Str) = y := Option.some.inj h1
          obtain rfl : V.ref a = v' := Option.some.inj (Option.some.inj h2)
          refine ⟨.ref a, rfl, .inl ⟨Sc.hl, ?_⟩⟩
          show List.lookup ("self" : Str) [(p, u1), (("self" : Str), Value.ref a)] = _
          have : (("self" : Str) == p) = false := by simpa using Ne.symm Sc.ne
          simp [List.lookup, this]
        | 1, h1, h2 =>
          obtain rfl : p = y := Option.some.inj h1
          obtain rfl : v = v' := Option.some.inj (Option.some.inj h2)
          refine ⟨u1, r1, .inl ⟨Sc.hp, ?_⟩⟩
          show List.lookup p [(p, u1), (("self" : Str), Value.ref a)] = _
          simp [List.lookup]
        | _ + 2, h1, _ => cases h1
      · obtain ⟨rfl, rfl⟩ := cl _ _ h
        exact ⟨_, _, hk _ _ (KX _ _ lcc), rfl⟩
      · obtain ⟨rfl, rfl⟩ := cl _ _ h
        exact (e0.bs _ _ cb).2
    subst hb
    refine ks_wpAt_execs_cons (ks_wpAt_mono (super_stmt (X := cxS CX P w K mg base ["self", p] q scope fI (.ref cda) cc A outer s H E) rfl T I hpa lk lcd hvs hfile lcc har hself D.any D.top D.sup D.is D.ve Sc.kind Sc.hs Sc.hc Sc.hl mS rfl rfl (hsw _ _ _) (hi _ _ _) (pl := pl) (he _ _ _))
      (fun fl s' h => ?_) fun _ _ z => z)
    obtain ⟨rfl, J⟩ := h
    refine wpAt_of_wpAny ?_
    have ht : PSs (cxS CX P w K mg base ["self", p] q scope fI (.ref cda) cc A outer s H E) [.Assign [.Attribute (.Name "self" p6) f p7] (.Name p p8) p9] _ :=
      pss_one (ps_ost (pe_var (i := 0) rfl (.inl Sc.hl)) (pe_var (i := 1) rfl (.inl Sc.hp) hd1 hd2) (hsw2 _ _ _))
    refine wpAny_mono (ht.run [] s' [some (.ref a), some v] H { nx := fun _ H' => Q .non H', rt := Q } J ?_) (fun fl s' hs => ?_) fun e s' hs => hs
    · refine ⟨v, rfl, .ref a, rfl, a, C, rfl, T, hf, .inl ⟨hpa, fun dx n ne => q1 dx n ne⟩⟩
    cases fl with
    | ret u =>
      obtain ⟨v, σ', H', J, rv, q⟩ := hs
      exact ⟨v, H', J.os, J.bare, J.base, J.hok, rv, q⟩
    | next =>
      obtain ⟨σ', H', J, q⟩ := hs
      exact ⟨V.non, H', J.os, J.bare, J.base, J.hok, rfl, q⟩
    | brk =>
      obtain ⟨_, _, _, q⟩ := hs
      exact False.elim q
    | cont =>
      obtain ⟨_, _, _, q⟩ := hs
      exact False.elim q
end

/-- an own exception class that keeps one thing under the name fl -/
structure ErrS (P : Program) (w : World) (K : PySem.W.Frag) (mg : Str → Option Value) (base : Heap) (x p fl : Str) (C : Addr) : Prop where
  ex : ∃ (fI : Addr) (fd : FuncData), FnOk P w K mg base C8.CX0 1 fI fd ["self", p] (spS C fl) ∧ PySem.W.findIn K (.ref C) "__init__" = some (some (.ref fI))
    ∧ PySem.W.typeIn K (.ref fI) = some (.type "function") ∧ Binds K fd ["self", p] []
  own : OexC K C
  at_ : mg x = some (.ref C)
def tS (C : Addr) (fl : Str) (ta : TA) : L2.St → Hp → XK → Prop := fun σ H Q => ta σ H fun vs H1 => ∃ v, vs = [v] ∧ ∀ d H', Keep [] H1 H' → H' d = some (.xd [(fl, v)]) → Q (.ref C) (some d) H'
theorem pmk_s {X : Cx} {x p fl : Str} {C : Addr} {e : Expr} {ta : TA} {pp pos : Pos} (c : ErrS X.prog X.w X.K X.mg X.base x p fl C) (hr : Room 2 X.A) (hg : Gl X x) (ha : PA X [e] ta)
    (mono : ∀ σ H (K1 K2 : List V → Hp → Prop), (∀ vs H', K1 vs H' → K2 vs H') → ta σ H K1 → ta σ H K2)
    (hdb : (x == ("__debug__" : Str)) = false := by decide)
    (he : starEach [e] X.env = (false, eval e X.env) :: starEach [] X.env := by rfl) (hpl : (backTo pos (starEach [] X.env)).any (·.1) = false := by rfl) :
    PMk X (.Call (.Name x pp) [e] [] pos) (tS C fl ta) := by
  obtain ⟨fI, fd, F, iC, tI, b⟩ := c.ex
  intro pins s σ H Q I h
  refine pmk_oex (p := pp) (pos := pos) c.own iC tI F hr b .nil C8.pass0 hg c.at_ ha hdb he hpl pins s σ H Q I ?_
  refine mono _ _ _ _ (fun vs H1 hv => ?_) h
  obtain ⟨v, rfl, q⟩ := hv
  refine ⟨by simp, fun a na => ⟨a, v, rfl, upd_same, fun dx nd ne => ⟨rfl, dx, [(fl, v)], upd_same, ?_, ?_, ?_⟩⟩⟩
  · rw [upd_ne ne, upd_same]
  · rw [upd_ne ne] at nd
    exact nd
  · rw [upd_ne ne] at nd
    refine q dx _ (Keep.ext fun b o hb => ?_) upd_same
    have nb : b ≠ dx := fun z => by rw [z, nd] at hb; cases hb
    have na' : b ≠ a := fun z => by rw [z, na] at hb; cases hb
    rw [upd_ne nb, del_ne na', upd_ne na', upd_ne nb, upd_ne na']
    exact hb
end HG
set_option maxHeartbeats 2000000
namespace HG
open PySem PySem.Spec PyProof.Rows L2
/-- a kept exception of class C at a, with its dict or without -/
structure ExK (K : PySem.W.Frag) (H : Hp) (a C : Addr) (fs : List (Str × V)) : Prop where
  is : ExcC K C
  at_ : (H a = some (Exn (.ref C) none a) ∧ fs = []) ∨ ∃ d, H a = some (Exn (.ref C) (some d) a) ∧ H d = some (.xd fs)
theorem ExK.keep {K : PySem.W.Frag} {ex : List Addr} {H H' : Hp} {a C : Addr} {fs : List (Str × V)} (h : ExK K H a C fs) (k : KeepW ex H H') (n : ∀ b ∈ ex, ∃ o, H b = some o ∧ (∀ φ, o ≠ .ext φ) ∧ ∀ fs, o ≠ .xd fs) : ExK K H' a C fs := by
  have na : ∀ {o}, H a = some (.ext o) → a ∉ ex := fun {o} e m => by
    obtain ⟨u, hu, z, _⟩ := n a m
    rw [e] at hu
    exact z _ (Option.some.inj hu).symm
  refine ⟨h.is, ?_⟩
  rcases h.at_ with ⟨e, r⟩ | ⟨d, e, ed⟩
  · exact .inl ⟨k.get e (na e) (fun _ z => nomatch z), r⟩
  · refine .inr ⟨d, k.get e (na e) (fun _ z => nomatch z), k.get ed (fun m => ?_)⟩
    obtain ⟨u, hu, _, z⟩ := n d m
    rw [ed] at hu
    exact z _ (Option.some.inj hu).symm
section
variable {X : Cx} {pins : List (Addr × Obj)} {σ : L2.St} {H : Hp} {s : Shared}
theorem exk_inst {K : PySem.W.Frag} {a C : Addr} {fs : List (Str × V)} (hok : HOk X.prog X.w H s.heap) (h : ExK K H a C fs) :
    ∃ ob od, PySem.W.InstAt s.heap a ob C od ∧ ((od = none ∧ fs = []) ∨ ∃ o d mA, od = some o ∧ s.heap.Ns1 d mA ∧ s.heap.get? d = some o ∧ ∀ f, RelO (fs.lookup f) (mA f)) := by
  rcases h.at_ with ⟨e, rfl⟩ | ⟨d, e, ed⟩
  · obtain ⟨⟨ob, gs, at_, ⟨z1, z2⟩, f⟩, _, _⟩ := hok a _ e
    obtain ⟨oc, od, oda, osl⟩ := ob
    dsimp only at z1 z2 f
    subst z1 z2 f
    exact ⟨_, none, ⟨at_, rfl, rfl, trivial⟩, .inl ⟨rfl, rfl⟩⟩
  · obtain ⟨⟨ob, gs, at_, ⟨z1, z2⟩, f⟩, _, _⟩ := hok a _ e
    obtain ⟨oc, od, oda, osl⟩ := ob
    dsimp only at z1 z2 f
    subst z1 z2 f
    have hx : ObjOk X.prog X.w H s.heap d (.xd fs) := hok d _ ed
    obtain ⟨mA, hns, hr⟩ := hx
    obtain ⟨o, ho, _⟩ := lookIn_ns hns
    exact ⟨_, some o, ⟨at_, rfl, rfl, ho⟩, .inr ⟨o, d, mA, rfl, hns, ho, hr⟩⟩
/-- isinstance(e, C), e a kept exception -/
def rIsK2 (K : PySem.W.Frag) : List V → Hp → VK → Prop := fun xs H Q =>
  ∃ (a D C : Addr) (fs : List (Str × V)) (b : Bool), xs = [.ref a, .ref C] ∧ ExK K H a D fs ∧ PySem.W.kitOne K (.ref D) (.ref C) = some b ∧ Q (.bl b) H
theorem call_isK2 : CallR X (.builtin "isinstance") (rIsK2 X.K) := by
  intro pins s σ H xs us Q I r h
  obtain ⟨a, D, C, fs, b, rfl, ha, hk, q⟩ := h
  obtain ⟨u1, u2, rfl, r1, r2⟩ := vals2 r
  cases r1
  cases r2
  obtain ⟨ob, od, J, _⟩ := exk_inst I.hok ha
  have cl := ha.is
  refine PySem.W.kia_one (PySem.W.kitx_exc (by obtain ⟨cd, hc, _⟩ := PySem.W.any_some cl.hd; rw [hc]; rfl) cl.hg cl.hk cl.hs cl.ha cl.hn cl.ht cl.hm) I.kIn J hk
    (fun z => nomatch z) fun tk => ?_
  exact ⟨.bl b, H, I.kept (t' := tk) (fun _ _ z => z), rfl, q⟩
/-- e.f, e a kept exception -/
def tXk (K : PySem.W.Frag) (f : Str) (te : TE) : TE := fun σ H Q => te σ H fun x H1 => ∃ (a C : Addr) (fs : List (Str × V)) (v : V), x = .ref a ∧ ExK K H1 a C fs ∧ XfC K C ∧ PySem.W.findIn K (.ref C) f = some none ∧ fs.lookup f = some v ∧ Q v H1
theorem pe_xk {e : Expr} {te : TE} {pos : Pos} {n : Str} (he : PE X e te) (hb : attributeBase e n X.env (eval e X.env) = eval e X.env := by rfl) :
    PE X (.Attribute e n pos) (tXk X.K n te) := by
  refine ⟨fun pins s σ H Q I h => ?_⟩
  refine attr_of hb (thn (he.run pins s σ H _ I h) fun u s1 hh => ?_)
  obtain ⟨x, H1, I1, rx, a, C, fs, v, ex, hk, T, hno, l, q⟩ := hh
  subst ex
  obtain rfl : u = Value.ref a := rx
  obtain ⟨ob, od, J, hd⟩ := exk_inst I1.hok hk
  rcases hd with ⟨_, rfl⟩ | ⟨o, d, mA, rfl, hns, ho, hr⟩
  · cases l
  obtain ⟨od2, ho2, hl⟩ := lookIn_ns hns
  rw [ho] at ho2
  cases ho2
  obtain ⟨u, hu, ru⟩ := RelO.some_of (v := v) (o := mA n) (by rw [← l]; exact hr n)
  exact HandSPX.exc_get I1.kIn J T.ga T.gg T.exC (PySem.W.findObj_own T.hdC hno rfl (by rw [hl, hu])) (handed_of ru) ⟨v, H1, I1.tok _, ru, q⟩
end
end HG
set_option maxHeartbeats 2000000
namespace HG
open PySem PySem.Spec PyProof.Rows L2
/-! ## any values: numbers, pairs -/
def Out (ex : List Addr) (v : V) : Prop := ∀ a, v = .ref a → a ∉ ex
theorem Out.flat {ex : List Addr} {v : V} (h : ∀ a, v ≠ .ref a) : Out ex v := fun a e => absurd e (h a)
theorem Out.less {ex ex' : List Addr} {v : V} (o : Out ex v) (h : ∀ x ∈ ex', x ∈ ex) : Out ex' v := fun a e m => o a e (h a m)
theorem tyX_keep {K : PySem.W.Frag} {ex : List Addr} {H H' : Hp} {v : V} {t : Value} (k : KeepW ex H H') (o : Out ex v)
    (h : TyX K H v t) : TyX K H' v t := by
  cases h with
  | base h =>
    refine .base ?_
    cases h with
    | non => exact .non
    | bl x => exact .bl x
    | int i => exact .int i
    | str x => exact .str x
    | flt x => exact .flt x
    | lst e => exact .lst (k.get e (o _ rfl))
    | frz e => exact .frz (k.frz _ _ _ e)
    | tup e => exact .tup (k.tup _ _ e)
    | dK e => exact .dK (k.get e (o _ rfl))
    | dT e => exact .dT (k.get e (o _ rfl))
    | ins e cl ha hn htk hm => exact .ins (k.get e (o _ rfl)) cl ha hn htk hm
  | byt b => exact .byt b
  | set e => exact .set (k.get e (o _ rfl))
  | kList e c => exact .kList e c
  | kTuple e c => exact .kTuple e c
  | kDict e c => exact .kDict e c
  | fTuple e => exact .fTuple (k.frz _ _ _ e)
  | fDict e => exact .fDict (k.frz _ _ _ e)
theorem tyX_tup {K : PySem.W.Frag} {H : Hp} {a : Addr} {xs : List V} (h : SqT K H a xs) : TyX K H (.ref a) (.type "tuple") := by
  rcases h with (h | ⟨o, h⟩) | h
  · exact .base (.tup h)
  · exact .fTuple h
  · obtain ⟨o, vs, n, e, c, _⟩ := h
    exact .kTuple e c
structure NumB (ex : List Addr) (K : PySem.W.Frag) (H : Hp) (x : V) (b : Bool) : Prop where
  out : Out ex x
  ex : ∃ T b1 b2, TyX K H x (.type T) ∧ kitB T "int" = some b1 ∧ kitB T "bool" = some b2 ∧ b = (b1 && !b2)
theorem NumB.keep {ex ex' : List Addr} {K : PySem.W.Frag} {H H' : Hp} {x : V} {b : Bool} (k : KeepW ex H H') (h : NumB ex K H x b) : NumB ex K H' x b := by
  obtain ⟨o, T, b1, b2, t, e⟩ := h
  exact ⟨o, T, b1, b2, tyX_keep k o t, e⟩
theorem NumB.int {ex : List Addr} {K : PySem.W.Frag} {H : Hp} (i : Int) : NumB ex K H (.int i) true :=
  ⟨.flat (fun _ z => nomatch z), "int", true, false, .base (.int i), by decide +kernel, by decide +kernel, rfl⟩
theorem NumB.bl {ex : List Addr} {K : PySem.W.Frag} {H : Hp} (i : Bool) : NumB ex K H (.bl i) false :=
  ⟨.flat (fun _ z => nomatch z), "bool", true, true, .base (.bl i), by decide +kernel, by decide +kernel, rfl⟩
theorem NumB.non {ex : List Addr} {K : PySem.W.Frag} {H : Hp} : NumB ex K H .non false :=
  ⟨.flat (fun _ z => nomatch z), "NoneType", false, false, .base .non, by decide +kernel, by decide +kernel, rfl⟩
theorem NumB.str {ex : List Addr} {K : PySem.W.Frag} {H : Hp} (s : Str) : NumB ex K H (.str s) false :=
  ⟨.flat (fun _ z => nomatch z), "str", false, false, .base (.str s), by decide +kernel, by decide +kernel, rfl⟩
theorem NumB.tup {ex : List Addr} {K : PySem.W.Frag} {H : Hp} {a : Addr} {xs : List V} (h : SqT K H a xs) (o : a ∉ ex) : NumB ex K H (.ref a) false :=
  ⟨(fun b e => by cases e; exact o), "tuple", false, false, tyX_tup h, by decide +kernel, by decide +kernel, rfl⟩
theorem NumB.lst {ex : List Addr} {K : PySem.W.Frag} {H : Hp} {a : Addr} {xs : List V} (h : H a = some (.lst xs)) (o : a ∉ ex) : NumB ex K H (.ref a) false :=
  ⟨(fun b e => by cases e; exact o), "list", false, false, .base (.lst h), by decide +kernel, by decide +kernel, rfl⟩
theorem NumB.less {ex ex' : List Addr} {K : PySem.W.Frag} {H : Hp} {x : V} {b : Bool} (h : NumB ex K H x b) (i : ∀ x ∈ ex', x ∈ ex) : NumB ex' K H x b :=
  ⟨h.out.less i, h.ex⟩
/-- whether it is a tuple of two numbers -/
inductive PairB (ex : List Addr) (K : PySem.W.Frag) (H : Hp) : V → Bool → Prop where
  | no {v : V} {T : String} (o : Out ex v) (t : TyX K H v (.type T)) (h : kitB T "tuple" = some false) : PairB ex K H v false
  | len {a : Addr} {xs : List V} (h : SqT K H a xs) (n : xs.length ≠ 2) : PairB ex K H (.ref a) false
  | first {a : Addr} {x y : V} (h : SqT K H a [x, y]) (hx : NumB ex K H x false) : PairB ex K H (.ref a) false
  | second {a : Addr} {x y : V} (h : SqT K H a [x, y]) (hx : NumB ex K H x true) (hy : NumB ex K H y false) : PairB ex K H (.ref a) false
  | yes {a : Addr} {i j : Int} (h : SqT K H a [.int i, .int j]) : PairB ex K H (.ref a) true
theorem PairB.keep {ex : List Addr} {K : PySem.W.Frag} {H H' : Hp} {v : V} {b : Bool} (k : KeepW ex H H') (h : PairB ex K H v b) : PairB ex K H' v b := by
  cases h with
  | no o t h => exact .no o (tyX_keep k o t) h
  | len h n => exact .len (sqT_keep k h) n
  | first h hx => exact .first (sqT_keep k h) (hx.keep (ex' := ex) k)
  | second h hx hy => exact .second (sqT_keep k h) (hx.keep (ex' := ex) k) (hy.keep (ex' := ex) k)
  | yes h => exact .yes (sqT_keep k h)
theorem PairB.less {ex ex' : List Addr} {K : PySem.W.Frag} {H : Hp} {v : V} {b : Bool} (h : PairB ex K H v b) (i : ∀ x ∈ ex', x ∈ ex) : PairB ex' K H v b := by
  cases h with
  | no o t h => exact .no (o.less i) t h
  | len h n => exact .len h n
  | first h hx => exact .first h (hx.less i)
  | second h hx hy => exact .second h (hx.less i) (hy.less i)
  | yes h => exact .yes h
theorem Pr.pairB {ex : List Addr} {K : PySem.W.Frag} {H : Hp} {v : V} {a b : Int} (h : Pr K H v a b) : PairB ex K H v true := by
  obtain ⟨p, rfl, q⟩ := h
  exact .yes q
theorem kit_some {K : PySem.W.Frag} {T C : String} {b : Bool} (h : kitB T C = some b) : PySem.W.kitOne K (.type T) (.type C) = some b := kit_ty h
end HG
set_option maxHeartbeats 2000000
namespace HG
open PySem PySem.Spec PyProof.Rows L2
/-! ## slices and sums of tuples, any values by their types -/
theorem cutA {K : PySem.W.Frag} {H : Hp} {a : Addr} {xs : List V} {lo hi : Option Int} {Q : VK} (h : SqT K H a xs)
    (q : ∀ b H', Keep [] H H' → SqT K H' b (cutV xs lo hi) → Q (.ref b) H') : rSlA K (.ref a) lo hi H Q := by
  refine ⟨a, xs, rfl, h, fun ⟨e0, e1⟩ => ?_, fun _ p np => ?_⟩
  · have e : cutV xs lo hi = xs := by
      unfold cutV
      rw [e0, e1]
      simp
    exact q a H Keep.refl (by rw [e]; exact h)
  · exact q p _ (Keep.new np) (.inl (.inl upd_same))
theorem sumA {K : PySem.W.Frag} {H : Hp} {a b : Addr} {xs ys : List V} {Q : VK} (ha : SqT K H a xs) (hb : SqT K H b ys) (hz : xs.length + ys.length ≤ sizeLine)
    (q : ∀ c H', Keep [] H H' → SqT K H' c (xs ++ ys) → Q (.ref c) H') : rCatA K (.ref a) (.ref b) H Q := by
  refine ⟨a, b, xs, ys, rfl, rfl, ha, hb, hz, fun e => ?_, fun _ e => ?_, fun _ _ p np => ?_⟩
  · subst e
    exact q b H Keep.refl hb
  · subst e
    exact q a H Keep.refl (by rw [List.append_nil]; exact ha)
  · exact q p _ (Keep.new np) (.inl (.inl upd_same))
theorem cut_to {xs : List V} {k : Nat} (h : k ≤ xs.length) : cutV xs none (some (k : Int)) = xs.take k := by
  unfold cutV
  rw [HT.sIx_nat]
  show (xs.drop 0).take (min k xs.length - 0) = _
  rw [Nat.min_eq_left h]
  rfl
theorem cut_from {xs : List V} {k : Nat} (h : k ≤ xs.length) : cutV xs (some (k : Int)) none = xs.drop k := by
  unfold cutV
  rw [HT.sIx_nat]
  show (xs.drop (min k xs.length)).take (xs.length - min k xs.length) = _
  rw [Nat.min_eq_left h, List.take_of_length_le (by rw [List.length_drop]; exact Nat.le_refl _)]
/-- a value by its type -/
inductive Any (ex : List Addr) (K : PySem.W.Frag) (H : Hp) : V → String → Prop where
  | of {v : V} {T : String} (o : Out ex v) (t : TyX K H v (.type T)) : Any ex K H v T
  | tup {a : Addr} {xs : List V} (h : SqT K H a xs) : Any ex K H (.ref a) "tuple"
theorem Any.ty {ex : List Addr} {K : PySem.W.Frag} {H : Hp} {v : V} {T : String} (h : Any ex K H v T) : TyX K H v (.type T) := by
  cases h with
  | of o t => exact t
  | tup h => exact tyX_tup h
theorem Any.keep {ex : List Addr} {K : PySem.W.Frag} {H H' : Hp} {v : V} {T : String} (h : Any ex K H v T) (k : KeepW ex H H') : Any ex K H' v T := by
  cases h with
  | of o t => exact .of o (tyX_keep k o t)
  | tup h => exact .tup (sqT_keep k h)
theorem Any.non {ex : List Addr} {K : PySem.W.Frag} {H : Hp} : Any ex K H .non "NoneType" := .of (.flat (fun _ z => nomatch z)) (.base .non)
theorem Any.int {ex : List Addr} {K : PySem.W.Frag} {H : Hp} (i : Int) : Any ex K H (.int i) "int" := .of (.flat (fun _ z => nomatch z)) (.base (.int i))
theorem Any.str {ex : List Addr} {K : PySem.W.Frag} {H : Hp} (z : Str) : Any ex K H (.str z) "str" := .of (.flat (fun _ z => nomatch z)) (.base (.str z))
theorem Any.bl {ex : List Addr} {K : PySem.W.Frag} {H : Hp} (b : Bool) : Any ex K H (.bl b) "bool" := .of (.flat (fun _ z => nomatch z)) (.base (.bl b))
theorem Any.lst {ex : List Addr} {K : PySem.W.Frag} {H : Hp} {a : Addr} {xs : List V} (h : H a = some (.lst xs)) (o : a ∉ ex) : Any ex K H (.ref a) "list" := .of (fun b e => by cases e; exact o) (.base (.lst h))
theorem Any.num {ex : List Addr} {K : PySem.W.Frag} {H : Hp} {v : V} {T : String} (h : Any ex K H v T) {b1 b2 : Bool} (e1 : kitB T "int" = some b1) (e2 : kitB T "bool" = some b2) : NumB [] K H v (b1 && !b2) := ⟨(fun _ _ m => nomatch m), T, b1, b2, h.ty, e1, e2, rfl⟩
end HG
set_option maxHeartbeats 2000000
namespace HG
open PySem PySem.Spec PyProof.Rows L2
/-! ## calls whose arguments are all named -/
/-- how the def binds its named arguments -/
def KwB (x : Str) (st : Stmt) (ps ks : List Str) : Prop :=
  ∀ (kV doc pm : Value) (an : Option Addr) (cdv ct : Value) (ws : List Value), ws.length = ps.length →
    bindArgs (PySem.W.fnOf x x (defArgs st) (defBody st) (defScope st) .none kV doc pm an cdv ct) ⟨[], ks.zip ws⟩ = pure (ps.zip ws.reverse)
theorem kwb1 {x p : Str} {st : Stmt} (h : ∀ (kV doc pm : Value) (an : Option Addr) (cdv ct a : Value),
    bindArgs (PySem.W.fnOf x x (defArgs st) (defBody st) (defScope st) .none kV doc pm an cdv ct) ⟨[], [(p, a)]⟩ = pure [(p, a)]) : KwB x st [p] [p] := by
  intro kV doc pm an cdv ct ws l
  match ws, l with
  | [a], _ => exact h kV doc pm an cdv ct a
theorem kwb2 {x p q : Str} {st : Stmt} (h : ∀ (kV doc pm : Value) (an : Option Addr) (cdv ct a b : Value),
    bindArgs (PySem.W.fnOf x x (defArgs st) (defBody st) (defScope st) .none kV doc pm an cdv ct) ⟨[], [(q, b), (p, a)]⟩ = pure [(p, a), (q, b)]) : KwB x st [p, q] [q, p] := by
  intro kV doc pm an cdv ct ws l
  match ws, l with
  | [b, a], _ => exact h kV doc pm an cdv ct a b
theorem vals_rev : ∀ {vs : List V} {us : List Value}, Vals vs us → Vals vs.reverse us.reverse
  | _, _, .nil => .nil
  | _, _, .cons r t => by
    rw [List.reverse_cons, List.reverse_cons]
    exact (vals_rev t).append (.cons r .nil)
section
variable {X : Cx} {CX : CXT} {k n : Nat} {ps ks : List Str} {sp : Sp} {E : XK} {x : Str} {p pos : Pos} {kws : List Keyword} {tk : TA} {st : Stmt}
def tKw (sp : Sp) (E : XK) (tk : TA) : TE := fun σ H Q => tk σ H fun zs H1 => sp zs.reverse H1 Q E
theorem pe_kwE (C : Callee X.prog X.w X.K X.mg X.base CX k x ps sp) (D : Def X.K X.mg x st ps) (B : KwB x st ps ks) (room : Room n X.A) (lets : Passes CX X E)
    (named : PK X kws tk) (hk : k ≤ n := by decide) (glob : Gl X x := by rfl)
    (hall : (backToKw pos (keywordEach kws X.env)).all (·.1.isSome) = true := by rfl)
    (hks : (backToKw pos (keywordEach kws X.env)).filterMap (·.1) = ks := by rfl)
    (hdb : (x == ("__debug__" : Str)) = false := by decide)
    (hpl : ((backTo pos (starEach [] X.env)).any (·.1) || (backToKw pos (keywordEach kws X.env)).any (·.1.isNone)) = false := by rfl) :
    PE X (.Call (.Name x p) [] kws pos) (tKw sp E tk) := by
  obtain ⟨f, fd, F, m, kp, _, c1, d1, s1, at1⟩ := C.ex
  obtain ⟨f2, fd2, F2, m2, _⟩ := D.ex
  rw [m] at m2
  cases m2
  obtain ⟨c2, d2, kV, doc, pm, an, cdv, ct, s2, same, at2, _⟩ := F2.ex
  rw [at1] at at2
  cases at2
  refine ⟨fun pins s σ H Q I h => ?_⟩
  refine wpAny_Call_Name_kw (ld_glob I glob m ?_ hdb)
  refine PySem.W.callWith_KW0 (h₀ := X.base) I.ok.mod.kin kp hall (thn (named.run pos pins s σ H _ I h) fun ws z ⟨zs, H2, I2, rz, q2⟩ => ⟨I2.kIn, ?_⟩) hpl
  rw [hks]
  have rv := vals_rev rz
  have len : ws.length = ps.length := by
    rw [← rz.length, ← List.length_reverse]
    exact F.len _ _ _ _ q2
  have b : BindsTo z fd ⟨[], ks.zip ws⟩ (ps.zip ws.reverse) := by
    rw [same]
    exact .of_eq (B kV doc pm an cdv ct ws len)
  refine wpAny_call (codeAny_mono (F.run X.A X.stack z H2 ⟨[], ks.zip ws⟩ ws.reverse zs.reverse Q E (room.mono hk) I2.env0 b rv q2) fun r s' hq => ?_)
  match r, hq with
  | .error e, hq => exact lets pins σ H2 z e s' I2 hq
  | .ok (.ret u), hq => exact I2.after hq
  | .ok .next, hq => exact False.elim hq
  | .ok .brk, hq => exact False.elim hq
  | .ok .cont, hq => exact False.elim hq
end
end HG
set_option maxHeartbeats 2000000
namespace HN
open PySem PySem.Spec PyProof.Rows L2
open AutoSeq1 (wpAny_loadPart')
/-! ## enumerate of a tuple -/
def itTup (t : Addr) : Obj := { cls := .type "tuple_iterator", data := .fields #[.ref t, .int 0 0] }
def enNew (it : Addr) : Obj :=
  { cls := .type "enumerate", data := .fields #[.none, .bool false, .ref it, rawInt 0, .none, .none] }
theorem en_new (t : Addr) (xs : Array Value) (n : Nat) (dt : Option Addr) (sl : Array (Option Value)) :
    Meets (Builtin.«enumerate.__new__» ⟨[.type "enumerate", .ref t], []⟩) (fun _ R s =>
      s.heap.get? t = some { cls := .type "tuple", dict := dt, data := .seq xs n, slots := sl } ∧
        R (.ok (.ret (.ref (s.heap.push (itTup t)).objs.size)))
          { s with heap := (s.heap.push (itTup t)).push (enNew s.heap.objs.size) }) :=
  .of_wp fun prog w A R s h => by
    obtain ⟨h0, g0, d0, k0, os0⟩ := s
    obtain ⟨ht, h⟩ := h
    have sub := sub_enumerate
    have isT : Heap.IsTuple (Shared.heap ⟨h0, g0, d0, k0, os0⟩) t xs := ⟨_, ht, rfl, n, rfl⟩
    wp_walk using wpAny_loadPart' ht
    refine wpAny_stack_any fun _ => wpAny_pure ?_
    split
    · rename_i cl _ _ _ _ _
      cases (cl == Value.type "enumerate")
      · wp_walk using wpAny_loadPart' ht, wpAny_pyIter_tuple isT
        exact ⟨_, rfl, h⟩
      · wp_walk using wpAny_loadPart' ht, wpAny_pyIter_tuple isT
        exact ⟨_, rfl, h⟩
    · wp_walk using wpAny_loadPart' ht, wpAny_pyIter_tuple isT
      exact ⟨_, rfl, h⟩
section
variable {prog : Program} {w : World} {A : Around} {E : Value → Shared → Prop} {s : Shared}
theorem en_call {t : Addr} {xs : Array Value} {Q : Value → Shared → Prop} (isT : s.heap.IsTuple t xs)
    (h : ∀ h1, IsEnum h1 (s.heap.objs.size + 1) s.heap.objs.size 0 .none → h1.IsTupleIter s.heap.objs.size t 0 →
      h1.objs.size = s.heap.objs.size + 2 → (∀ b o, s.heap.get? b = some o → h1.get? b = some o) →
      Q (.ref (s.heap.objs.size + 1)) { s with heap := h1 }) :
    wpAny (model prog w) A (call (.type "enumerate") [.ref t]) Q E s := by
  obtain ⟨⟨c, dt, da, sl⟩, ht, hc, n, hd⟩ := isT
  have hc : c = .type "tuple" := hc
  have hd : da = .seq xs n := hd
  subst hc hd
  refine callType_new F.called_enumerate (by decide) (F.typeCall_enumerate_1 _) (F.newCall_enumerate_1 _)
    (fun o => F.args_object_init_2 o _) F.entry_enumerate_new (en_new t xs n dt sl) ⟨ht, ?_⟩
  have one : (s.heap.push (itTup t)).objs.size = s.heap.objs.size + 1 := Heap.size_push ..
  show _ ∧ _
  rw [one]
  have en : IsEnum ((s.heap.push (itTup t)).push (enNew s.heap.objs.size)) (s.heap.objs.size + 1) s.heap.objs.size 0 .none := by
    have q := Heap.get?_push_size (s.heap.push (itTup t)) (o := enNew s.heap.objs.size) rfl
    rw [one] at q
    exact q
  refine ⟨⟨_, en, rfl⟩, h _ en ?_ (by rw [Heap.size_push, one]) fun b o x =>
    Heap.get?_push_of_some _ (Heap.get?_push_of_some _ x)⟩
  exact ⟨_, Heap.get?_push_of_some _ (Heap.get?_push_size _ rfl), rfl, rfl⟩
/-- the next pair: the tuple's next item, the number raised, the pair handed out -/
theorem en_step {e it t : Addr} {i : Nat} {xs : Array Value} {x old : Value} {Q : Value → Shared → Prop}
    (en : IsEnum s.heap e it i old) (ti : s.heap.IsTupleIter it t i) (isT : s.heap.IsTuple t xs) (hx : xs[i]? = some x) (ne : e ≠ it)
    (h : ∀ h1, IsEnumOut h1 e it ((i : Int) + 1) x s.heap.objs.size → h1.IsTupleIter it t (i + 1) →
      h1.get? s.heap.objs.size = some { cls := .type "tuple", data := .seq #[.int i s.toks, x] } →
      h1.objs.size = s.heap.objs.size + 1 → (∀ b o, b ≠ e → b ≠ it → s.heap.get? b = some o → h1.get? b = some o) →
      Q (.ref s.heap.objs.size) { s with heap := h1, toks := s.toks + 1 }) :
    wpAny (model prog w) A (Builtin.«enumerate.__next__» ⟨[.ref e], []⟩)
      (fun r z => ∃ v, r = .done (.ret v) ∧ Q v z) E s := by
  obtain ⟨h0, g0, d0, k0, os0⟩ := s
  show wpAny _ _ (field (.ref e) 2 >>= _) _ _ _
  refine wpAny_bind (wpAny_field en rfl (x := .ref it) rfl (wpAny_bind (RZ.nextOf_tuple_item ti isT hx fun a1 ti1 b1 => ?_)))
  have b1 : Heap.SameBut it h0 a1 := b1
  have en1 : IsEnum a1 e it i old := (b1.2 e ne).trans en
  show wpAny _ _ (field (.ref e) 3 >>= _) _ _ ⟨a1, g0, d0, k0, os0⟩
  refine wpAny_bind (wpAny_field en1 rfl (x := rawInt i) rfl ?_)
  show wpAny _ _ (field (.ref e) 4 >>= _) _ _ ⟨a1, g0, d0, k0, os0⟩
  refine wpAny_bind (wpAny_field en1 rfl (x := .none) rfl ?_)
  show wpAny _ _ (mkInt i >>= _) _ _ ⟨a1, g0, d0, k0, os0⟩
  refine wpAny_bind (wpAny_mkInt ?_)
  show wpAny _ _ (setField (.ref e) 3 (rawInt ((i : Int) + 1)) >>= _) _ _ ⟨a1, g0, d0, k0 + 1, os0⟩
  refine wpAny_bind (wpAny_setField_rec en1 (by simp) fun a2 en2 b2 => ?_)
  have b2 : Heap.SameBut e a1 a2 := b2
  have en2 : IsEnum a2 e it ((i : Int) + 1) old := en2
  show wpAny _ _ (setField (.ref e) 4 .none >>= _) _ _ ⟨a2, g0, d0, k0 + 1, os0⟩
  refine wpAny_bind (wpAny_setField_rec en2 (by simp) fun a3 en3 b3 => ?_)
  have b3 : Heap.SameBut e a2 a3 := b3
  have en3 : IsEnum a3 e it ((i : Int) + 1) old := en3
  show wpAny _ _ (newTuple [.int i k0, x] >>= _) _ _ ⟨a3, g0, d0, k0 + 1, os0⟩
  refine wpAny_bind (wpAny_newTuple ?_)
  have size : a3.objs.size = h0.objs.size := by rw [b3.1, b2.1, b1.1]
  have lt : e < h0.objs.size := Heap.lt_size en
  have facts : ∃ a4, a3.push { cls := .type "tuple", data := .seq #[.int i k0, x] } = a4 ∧ IsEnum a4 e it ((i : Int) + 1) old ∧
      a4.get? h0.objs.size = some { cls := .type "tuple", data := .seq #[.int i k0, x] } ∧ a4.objs.size = h0.objs.size + 1 ∧
      (∀ b o, b ≠ e → b ≠ it → h0.get? b = some o → a4.get? b = some o) ∧ a4.IsTupleIter it t (i + 1) := by
    refine ⟨_, rfl, Heap.get?_push_of_some _ en3, ?_, by rw [Heap.size_push, size], fun b o h1 h2 hb => ?_, ?_⟩
    · rw [← size]
      exact Heap.get?_push_size _ rfl
    · exact Heap.get?_push_of_some _ (b3.extBut b o h1 (b2.extBut b o h1 (b1.extBut b o h2 hb)))
    · obtain ⟨o, ho, r⟩ := (ti1.extBut b2.extBut ne.symm).extBut b3.extBut ne.symm
      exact ⟨o, Heap.get?_push_of_some _ ho, r⟩
  obtain ⟨a4, q4, en4, new4, size4, keep4, ti4⟩ := facts
  rw [q4, size]
  clear q4 en3 b3 en2 b2 en1 b1 ti1 size
  show wpAny _ _ (Builtin.SmallTypes.ownedTupleIsFree (.ref e) >>= _) _ _ ⟨a4, g0, d0, k0 + 1, os0⟩
  refine wpAny_bind ?_
  unfold Builtin.SmallTypes.ownedTupleIsFree
  refine wpAny_bind (wpAny_field en4 rfl (x := .none) rfl (wpAny_pure ?_))
  simp only [if_true]
  refine wpAny_bind (wpAny_rule (wpAny_bind (wpAny_field en4 rfl (x := old) rfl ?_)))
  refine wpAny_bind (wpAny_setField_rec en4 (by simp) fun a5 en5 b5 => ?_)
  have b5 : Heap.SameBut e a4 a5 := b5
  have en5 : IsEnum a5 e it ((i : Int) + 1) x := en5
  show wpAny _ _ (Builtin.SmallTypes.ownedTupleHandOut (.ref e) (.ref h0.objs.size) >>= _) _ _ ⟨a5, g0, d0, k0 + 1, os0⟩
  refine wpAny_bind ?_
  unfold Builtin.SmallTypes.ownedTupleHandOut
  refine wpAny_bind (wpAny_setField_rec en5 (by simp) fun a6 en6 b6 => ?_)
  have b6 : Heap.SameBut e a5 a6 := b6
  have en6 : IsEnumOut a6 e it ((i : Int) + 1) x h0.objs.size := en6
  refine wpAny_setField_rec en6 (by simp) fun a7 en7 b7 => ?_
  have b7 : Heap.SameBut e a6 a7 := b7
  have en7 : IsEnumOut a7 e it ((i : Int) + 1) x h0.objs.size := en7
  have far : h0.objs.size ≠ e := Nat.ne_of_gt lt
  refine wpAny_bind (wpAny_letGo (wpAny_pure ⟨_, rfl, h a7 en7 ?_ ?_ ?_ fun b o h1 h2 hb => ?_⟩))
  · exact ((ti4.extBut b5.extBut ne.symm).extBut b6.extBut ne.symm).extBut b7.extBut ne.symm
  · exact b7.extBut _ _ far (b6.extBut _ _ far (b5.extBut _ _ far new4))
  · rw [b7.1, b6.1, b5.1, size4]
  · exact b7.extBut b o h1 (b6.extBut b o h1 (b5.extBut b o h1 (keep4 b o h1 h2 hb)))
theorem en_next {e it t : Addr} {i : Nat} {xs : Array Value} {x old : Value} {Q : Option Value → Shared → Prop}
    (en : IsEnum s.heap e it i old) (ti : s.heap.IsTupleIter it t i) (isT : s.heap.IsTuple t xs) (hx : xs[i]? = some x) (ne : e ≠ it)
    (h : ∀ h1, IsEnumOut h1 e it ((i : Int) + 1) x s.heap.objs.size → h1.IsTupleIter it t (i + 1) →
      h1.get? s.heap.objs.size = some { cls := .type "tuple", data := .seq #[.int i s.toks, x] } →
      h1.objs.size = s.heap.objs.size + 1 → (∀ b o, b ≠ e → b ≠ it → s.heap.get? b = some o → h1.get? b = some o) →
      Q (some (.ref s.heap.objs.size)) { s with heap := h1, toks := s.toks + 1 }) :
    wpAny (model prog w) A (pyNext (.ref e)) Q E s := by
  have ty : s.TypeIs (.ref e) "enumerate" := ⟨_, en, rfl⟩
  unfold pyNext
  refine wpAny_bind (wpAny_attempt (wpAny_callSpecial?_slot (name := Str.ofString "__next__") ty F.slot_enumerate_next ?_))
  refine wpAny_call_entry F.slot_enumerate_next ty F.entry_enumerate_next ?_ (F.args_enumerate_next_1 _)
  exact en_step en ti isT hx ne fun h1 a b c d k => wpAny_pure (h h1 a b c d k)
theorem en_end {e it t : Addr} {i : Nat} {xs : Array Value} {old : Value} {Q : Option Value → Shared → Prop} (hh : A.handled = none)
    (en : IsEnum s.heap e it i old) (ti : s.heap.IsTupleIter it t i) (isT : s.heap.IsTuple t xs) (hx : xs[i]? = none)
    (h : ∀ h1, Heap.ExtBut it s.heap h1 → Q none { s with heap := h1 }) : wpAny (model prog w) A (pyNext (.ref e)) Q E s := by
  have ty : s.TypeIs (.ref e) "enumerate" := ⟨_, en, rfl⟩
  unfold pyNext
  refine wpAny_bind (wpAny_attempt (wpAny_callSpecial?_slot (name := Str.ofString "__next__") ty F.slot_enumerate_next ?_))
  refine wpAny_call_entry F.slot_enumerate_next ty F.entry_enumerate_next ?_ (F.args_enumerate_next_1 _)
  show wpAny _ _ (field (.ref e) 2 >>= _) _ _ _
  refine wpAny_bind (wpAny_field en rfl (x := .ref it) rfl (wpAny_bind (RZ.nextOf_tuple_end hh ti isT hx fun h1 z k1 q => ?_)))
  obtain ⟨o, ho, hc⟩ := q
  exact wpAny_bind (wpAny_isInstance (T := "StopIteration") (b := true) ⟨o, ho, hc⟩ isSubtype_stop (wpAny_pure (h _ k1)))
end
/-- the tuple's items, each in a new pair behind its place -/
def Itet (K : PySem.W.Frag) (a : Addr) : It where
  go := fun i H => ∃ xs x, SqT K H a xs ∧ xs[i]? = some x
  yld := fun i H v H1 => ∃ p x, v = .ref p ∧ H p = none ∧ H1 = upd H p (.tup [.int (i : Nat), x]) ∧ ∀ xs, SqT K H a xs → xs[i]? = some x
  stop := fun i H => ∃ xs, SqT K H a xs ∧ xs.length ≤ i
/-- the state: the enumeration at e over the iterator at it -/
def Ent (a e it : Addr) (i : Nat) (h : Heap) : Prop := (∃ old, IsEnum h e it ((i : Nat) : Int) old) ∧ h.IsTupleIter it a i ∧ e ≠ it
theorem turn_ent {P : Program} {w : World} {K : PySem.W.Frag} {elts : List Expr} {kk : Nat} {tpos : Pos} (a e it : Addr) :
    Turn P w K (.Tuple elts kk tpos) (Itet K a) [e, it] e (Ent a e it) := by
  have two : ∀ b, b ∈ [e, it] → b = e ∨ b = it := fun b m => by
    rcases List.mem_cons.mp m with r | m
    · exact .inl r
    · rcases List.mem_cons.mp m with r | m
      · exact .inr r
      · cases m
  have me : e ∈ [e, it] := List.mem_cons_self
  have mi : it ∈ [e, it] := List.mem_cons_of_mem _ List.mem_cons_self
  refine ⟨me, fun i h st b m => ?_, fun i h h1 st k => ?_, ?_, ?_, fun A i s Q E st h => ?_⟩
  · obtain ⟨⟨old, en⟩, ⟨o, ho, _, hd⟩, _⟩ := st
    rcases two b m with rfl | rfl
    · exact ⟨_, en, fun v z => nomatch z⟩
    · refine ⟨o, ho, fun v z => ?_⟩
      rw [hd] at z
      cases z
  · obtain ⟨⟨old, en⟩, ti, ne⟩ := st
    exact ⟨⟨old, k e me _ en⟩, ti.at fun o q => k it mi o q, ne⟩
  · intro X eP ew eK calm i pins s σ H E I fp st hg
    subst eP ew eK
    obtain ⟨⟨old, en⟩, ti, ne⟩ := st
    obtain ⟨xs, x, hq, hx⟩ := hg
    obtain ⟨its, vals, isT, _⟩ := I.tuple hq
    obtain ⟨u, hu, ru⟩ := vals.get hx
    have le : e < s.heap.objs.size := Heap.lt_size en
    have li : it < s.heap.objs.size := by
      obtain ⟨_, q, _⟩ := ti
      exact Heap.lt_size q
    refine en_next en ti (show s.heap.IsTuple a its.toArray from isT) (x := u) (by simpa using hu) ne fun h1 out ti1 new sz keep => ?_
    refine ⟨_, rfl, wpAny_letOwnedTupleGo_enum (s := { s with heap := h1, toks := s.toks + 1 }) out fun h2 en2 same => ?_⟩
    have new2 := (same.2 _ (Nat.ne_of_gt le)).trans new
    have ok : ObjOk X.prog X.w (upd H s.heap.objs.size (.tup [.int (i : Nat), x])) h2 s.heap.objs.size (.tup [.int (i : Nat), x]) := by
      refine ⟨by show 2 ≤ sizeLine; decide, [.int i s.toks, u], .cons ⟨_, rfl⟩ (.cons ru .nil), ?_⟩
      exact ⟨_, new2, rfl, _, rfl⟩
    have J : Inv X pins σ (upd H s.heap.objs.size (.tup [.int (i : Nat), x])) { s with heap := h2, toks := s.toks + 1 } := by
      refine I.turnedNew (ch := [e, it]) (fun b o nb q => ?_) fp (Nat.le_refl _) ok
      have nbe : b ≠ e := fun z => nb (by rw [z]; exact me)
      have nbi : b ≠ it := fun z => nb (by rw [z]; exact mi)
      exact (same.2 b nbe).trans (keep b o nbe nbi q)
    refine ⟨.ref s.heap.objs.size, _, J, rfl, ⟨_, x, rfl, I.hok.fresh (Nat.le_refl _), rfl, fun ys hy => ?_⟩, ⟨⟨u, ?_⟩, ?_, ne⟩, fun b m => ?_⟩
    · rw [I.tuple_inj hy hq]
      exact hx
    · rw [show ((i + 1 : Nat) : Int) = (i : Int) + 1 by omega]
      exact en2
    · exact ti1.at fun o q => (same.2 it ne.symm).trans q
    · have lt : b < s.heap.objs.size := by
        rcases two b m with rfl | rfl
        · exact le
        · exact li
      rw [upd_ne (Nat.ne_of_lt lt)]
      exact (fp b m).1
  · intro X eP ew eK calm i pins s σ H E I fp st hg
    subst eP ew eK
    obtain ⟨⟨old, en⟩, ti, ne⟩ := st
    obtain ⟨xs, hq, hx⟩ := hg
    obtain ⟨its, vals, isT, _⟩ := I.tuple hq
    obtain ⟨q0, q1, q2, q3, q4, q5⟩ := fp it mi
    have len := vals.length
    refine en_end (I.ok.hd calm) en ti (show s.heap.IsTuple a its.toArray from isT) (by simp; omega) fun h1 ext => ⟨rfl, ?_⟩
    exact I.turned (t' := s.toks) (fun b o nb q => ext b o nb q) q0 q1 q3 q4 q5
  · obtain ⟨⟨_, en⟩, _⟩ := st
    exact wpAny_pyIter_enum en h
def iEnumT (K : PySem.W.Frag) (ta : TA) : TI := fun σ H R => ta σ H fun vs H1 => ∃ a xs, vs = [.ref a] ∧ SqT K H1 a xs ∧ R (Itet K a) H1
theorem pi_enumT {X : Cx} {e : Expr} {ta : TA} {p pos tpos : Pos} {elts : List Expr} {kk : Nat} (glob : Gl X "enumerate") (free : X.mg "enumerate" = none)
    (args : PA X [e] ta) (hs : starEach [e] X.env = [(false, eval e X.env)] := by rfl) :
    PI X (.Tuple elts kk tpos) (.Call (.Name "enumerate" p) [e] [] pos) (iEnumT X.K ta) := by
  refine ⟨fun pins s σ H R I h => ?_⟩
  refine Call_ (ld_blt I glob free boot_enumerate (PyProof.Rows.callWith_type1 (thn (args.run pos pins s σ H _ I h) fun us z ⟨vs, H1, J, rel, q⟩ => ?_) hs rfl))
  obtain ⟨a, xs, rfl, hq, q⟩ := q
  obtain ⟨u, rfl, ru⟩ := vals1 rel
  cases ru
  obtain ⟨its, _, isT, _⟩ := J.tuple hq
  refine en_call (show z.heap.IsTuple a its.toArray from isT) fun h1 en ti sz keep => wpAny_pyIter_enum en ?_
  have J2 : Inv X pins σ H1 { z with heap := h1 } := J.kept (t' := z.toks) keep
  refine ⟨z.heap.objs.size + 1, [z.heap.objs.size + 1, z.heap.objs.size], _, _, H1, rfl, J2, turn_ent a (z.heap.objs.size + 1) z.heap.objs.size, ⟨⟨.none, en⟩, ti, Nat.succ_ne_self _⟩, fun b m => ?_, q⟩
  have ge : z.heap.objs.size ≤ b := by
    rcases List.mem_cons.mp m with rfl | m
    · exact Nat.le_succ _
    · rcases List.mem_cons.mp m with rfl | m
      · exact Nat.le_refl _
      · cases m
  exact J.fpOk ge (J.hok.fresh ge)
theorem walk_ent {K : PySem.W.Frag} {a : Addr} {xs : List V} :
    Walk (Itet K a) xs.length (fun H => SqT K H a xs) (YPair (fun i => some (.int (i : Nat))) (fun i => xs[i]?)) := by
  refine ⟨fun i H lt q => ⟨xs, xs[i], q, by simp [lt]⟩, fun H q => ⟨xs, q, Nat.le_refl _⟩, fun i H v H1 _ q y => ?_⟩
  obtain ⟨p, x, e1, e2, e3, e4⟩ := y
  exact ⟨p, .int (i : Nat), x, e1, e2, e3, rfl, e4 xs q⟩
end HN
set_option maxHeartbeats 2000000
namespace HG
open PySem PySem.Spec PyProof.Rows L2 HN
/-! ## t += u for tuples; enumerate of a list or a tuple -/
theorem tup_noIadd : typeLookup (.type "tuple") (dunderI "add") = pure none := by rw [typeLookup_type, builtinLookup_eq_fast]; kernel_rfl
section
variable {prog : Program} {w : World} {A : Around} {E : Value → Shared → Prop} {s : Shared}
theorem tup_iadd {t b : Addr} {vs ws : List Value} {Q : Value → Shared → Prop} (ht : IsTup s.heap t vs.toArray) (hb : IsTup s.heap b ws.toArray)
    (h0 : vs = [] → Q (.ref b) s) (h1 : vs ≠ [] → ws = [] → Q (.ref t) s) (h2 : vs ≠ [] → ws ≠ [] → Q (.ref s.heap.objs.size) { s with heap := s.heap.push { cls := .type "tuple", data := .seq (vs ++ ws).toArray } })
    (hsz : vs.length + ws.length ≤ sizeLine) : wpAny (model prog w) A (inplaceOp .Add (.ref t) (.ref b)) Q E s := by
  obtain ⟨⟨cls, dd, data, sl⟩, ho, hc, n, hd⟩ := id ht
  obtain ⟨⟨cls2, dd2, data2, sl2⟩, ho2, hc2, n2, hd2⟩ := id hb
  simp only at hc hd hc2 hd2
  subst hc hd hc2 hd2
  have e : vs.toArray ++ ws.toArray = (vs ++ ws).toArray := by simp
  refine wpAny_inplaceOp_concat ⟨_, ho, rfl⟩ ⟨_, ho2, rfl⟩ tup_noIadd noFill_tuple_add seq_tuple_add ?_
  by_cases hv : vs = []
  · exact call_meets F.slot_tuple_add ⟨_, ho, rfl⟩ F.entry_tuple_add (F.args_tuple_add_2 _ _) (tuple_addW0 t b vs.toArray ws.toArray n n2 dd dd2 sl sl2 (by simp [hv])) ⟨ho, ho2, h0 hv⟩
  by_cases hw : ws = []
  · exact call_meets F.slot_tuple_add ⟨_, ho, rfl⟩ F.entry_tuple_add (F.args_tuple_add_2 _ _) (tuple_addW1 t b vs.toArray ws.toArray n n2 dd dd2 sl sl2 (by simpa using hv) (by simp [hw])) ⟨ho, ho2, h1 hv hw⟩
  · refine call_meets F.slot_tuple_add ⟨_, ho, rfl⟩ F.entry_tuple_add (F.args_tuple_add_2 _ _) (tuple_addW2 t b vs.toArray ws.toArray n n2 dd dd2 sl sl2 (by simpa using hv) (by simpa using hw) (by simpa using hsz)) ⟨ho, ho2, ?_⟩
    rw [e]
    exact h2 hv hw
end
theorem ip_catA {X : Cx} : PIp X .Add (rCatA X.K) := by
  intro pins s σ H x y v u Q I rx ry h
  obtain ⟨a, b, xs, ys, rfl, rfl, ha, hb, hz, q0, q1, q2⟩ := h
  cases rx
  cases ry
  obtain ⟨its, r1, p1, _⟩ := I.tuple ha
  obtain ⟨its2, r2, p2, _⟩ := I.tuple hb
  refine tup_iadd p1 p2 (fun z => ⟨.ref b, H, I, rfl, q0 (r1.nil_iff.mp z)⟩) (fun z y => ⟨.ref a, H, I, rfl, q1 (fun w => z (r1.nil_iff.mpr w)) (r2.nil_iff.mp y)⟩) (fun z y => ?_) (by rw [← r1.length, ← r2.length]; exact hz)
  refine ⟨.ref s.heap.objs.size, _, I.laid (t' := s.toks) (o := .tup (xs ++ ys)) (fun b ob q => Heap.get?_push_of_some _ q) (Nat.le_refl _) ?_, rfl, q2 (fun w => z (r1.nil_iff.mpr w)) (fun w => y (r2.nil_iff.mpr w)) _ (I.hok.fresh (Nat.le_refl _))⟩
  exact ⟨by rw [List.length_append]; exact hz, _, r1.append r2, IsTup.new _ _⟩
theorem walk_enl {K : PySem.W.Frag} {a : Addr} {xs : List V} : Walk (Ite K a) xs.length (fun H => SqL K H a xs) (YPair (fun i => some (.int (i : Nat))) (fun i => xs[i]?)) := by
  refine ⟨fun i H lt q => ⟨xs, xs[i], q, by simp [lt]⟩, fun H q => ⟨xs, q, Nat.le_refl _⟩, fun i H v H1 _ q y => ?_⟩
  obtain ⟨p, x, e1, e2, e3, e4⟩ := y
  exact ⟨p, .int (i : Nat), x, e1, e2, e3, rfl, e4 xs q⟩
def iOr (a b : TI) : TI := fun σ H R => a σ H R ∨ b σ H R
theorem pi_or {X : Cx} {tg iter : Expr} {a b : TI} (ha : PI X tg iter a) (hb : PI X tg iter b) : PI X tg iter (iOr a b) :=
  ⟨fun pins s σ H R I h => h.elim (ha.run pins s σ H R I) (hb.run pins s σ H R I)⟩
theorem pi_enumX {X : Cx} {e : Expr} {ta : TA} {p pos tpos : Pos} {elts : List Expr} {kk : Nat} (g : Gl X "enumerate") (m : X.mg "enumerate" = none) (h : PA X [e] ta) (hs : starEach [e] X.env = [(false, eval e X.env)] := by rfl) :
    PI X (.Tuple elts kk tpos) (.Call (.Name "enumerate" p) [e] [] pos) (iOr (iEnum X.K ta) (iEnumT X.K ta)) := pi_or (pi_enum g m h hs) (pi_enumT g m h hs)
/-- a row of things: a list or a tuple -/
def SqX (K : PySem.W.Frag) (H : Hp) (a : Addr) (xs : List V) : Prop := SqL K H a xs ∨ SqT K H a xs
theorem SqX.keep {K : PySem.W.Frag} {ex : List Addr} {H H' : Hp} {a : Addr} {xs : List V} (h : SqX K H a xs) (k : KeepW ex H H') (n : a ∉ ex) : SqX K H' a xs := h.elim (fun h => .inl (sqL_keep k n h)) fun h => .inr (sqT_keep k h)
def WI (J : It) (g : TG) (tb : TS) (D : Ends) (σ : L2.St) (H : Hp) : Prop :=
    ∃ W : Nat → Nat → L2.St → Hp → Prop, (∃ m, W 0 m σ H) ∧ ∀ i m σ H, W i m σ H →
      (J.stop i H ∧ D.nx σ H) ∨ (J.go i H ∧ ∃ N : L2.St → Hp → Prop, (∀ σ' H', N σ' H' → ∃ m', m' < m ∧ W (i + 1) m' σ' H') ∧ ∀ x H', J.yld i H x H' → g x σ H' fun σ2 H2 => tb { D with nx := N, ct := N, bk := D.nx } σ2 H2)
theorem for_itW {J : It} {n : Nat} {G : Hp → Prop} {Y : Nat → Hp → V → Hp → Prop} (w : Walk J n G Y) {g : TG} {tb : TS} {D : Ends} {σ : L2.St} {H : Hp} (Pv : Nat → L2.St → Hp → Prop) (h0 : Pv 0 σ H) (hG : ∀ i σ H, i ≤ n → Pv i σ H → G H)
    (hs : ∀ i x σ H H', i < n → Pv i σ H → Y i H x H' → g x σ H' fun σ2 H2 => tb { D with nx := Pv (i + 1), ct := Pv (i + 1), bk := D.nx } σ2 H2) (hd : ∀ σ H, Pv n σ H → D.nx σ H) : WI J g tb D σ H := for_it w Pv h0 hG hs hd
theorem for_enumV {K : PySem.W.Frag} {g : TG} {tb rest : TS} {D : Ends} {σ : L2.St} {H : Hp} {i : Nat} {a : Addr} {xs : List V} (hσ : σ[i]? = some (some (.ref a))) (h : SqX K H a xs)
    (body : ∀ (J : It) (G : Hp → Prop), Walk J xs.length G (YPair (fun i => some (.int (i : Nat))) (fun i => xs[i]?)) → (∀ ex H', KeepW ex H H' → a ∉ ex → G H') → WI J g tb { D with nx := rest D } σ H) :
    tSeq (tFor (iOr (iEnum K (tCons (tVar i) tNil)) (iEnumT K (tCons (tVar i) tNil))) g tb) rest D σ H := by
  rcases h with h | h
  · exact .inl ⟨_, hσ, a, xs, rfl, h, body _ _ walk_enl fun ex H' k n => sqL_keep k n h⟩
  · exact .inr ⟨_, hσ, a, xs, rfl, h, body _ _ walk_ent fun ex H' k n => sqT_keep k h⟩
theorem for_enumV2 {K : PySem.W.Frag} {g : TG} {tb rest : TS} {D : Ends} {σ : L2.St} {H0 H : Hp} {i : Nat} {a : Addr} {xs : List V} (hσ : σ[i]? = some (some (.ref a))) (h : SqX K H0 a xs) (k0 : KeepW [] H0 H)
    (body : ∀ (J : It) (G : Hp → Prop), Walk J xs.length G (YPair (fun i => some (.int (i : Nat))) (fun i => xs[i]?)) → (∀ H', KeepW [] H0 H' → G H') → WI J g tb { D with nx := rest D } σ H) :
    tSeq (tFor (iOr (iEnum K (tCons (tVar i) tNil)) (iEnumT K (tCons (tVar i) tNil))) g tb) rest D σ H := by
  rcases h with h | h
  · exact .inl ⟨_, hσ, a, xs, rfl, sqL_keep k0 (fun m => nomatch m) h, body _ _ walk_enl fun H' k => sqL_keep k (fun m => nomatch m) h⟩
  · exact .inr ⟨_, hσ, a, xs, rfl, sqT_keep k0 h, body _ _ walk_ent fun H' k => sqT_keep k h⟩
end HG
set_option maxHeartbeats 2000000
namespace HG
open PySem PySem.Spec PyProof.Rows L2
/-! ## dict(enumerate(a list)) -/
def ik {α : Type} : Nat → List α → List (Key × α)
  | _, [] => []
  | k, x :: r => (Sum.inl (k : Int), x) :: ik (k + 1) r
theorem ik_len {α : Type} : ∀ {l : List α} {k : Nat}, (ik k l).length = l.length
  | [], _ => rfl
  | _ :: r, k => congrArg (· + 1) (ik_len (l := r) (k := k + 1))
theorem ik_get {α : Type} : ∀ {l : List α} {k i : Nat}, (ik k l)[i]? = l[i]?.map fun v => ((Sum.inl (((k + i : Nat) : Int)) : Key), v)
  | [], _, _ => rfl
  | x :: r, k, 0 => rfl
  | x :: r, k, i + 1 => by
    show (ik (k + 1) r)[i]? = _
    rw [ik_get, show k + 1 + i = k + (i + 1) by omega]
    rfl
theorem ik_kv : ∀ {xs : List V} {us : List Value} {k : Nat}, Vals xs us → KV (ik k xs) (ik k us) := by
  intro xs us k r
  induction r generalizing k with
  | nil => exact .nil
  | cons h t ih => exact .cons ⟨rfl, h⟩ ih
def tDictEnum (K : PySem.W.Frag) (te : TE) : TE := fun σ H Q => te σ H fun v H1 => ∃ (a : Addr) (xs : List V), v = .ref a ∧ SqL K H1 a xs ∧ ∀ q kvs, H1 q = none → Q (.ref q) (upd H1 q (.dK kvs))
theorem pe_dictEnum {X : Cx} {e : Expr} {te : TE} {p p2 pos pos2 : Pos} (hc : X.calm = true) (hg : Gl X "dict") (hm : X.mg "dict" = none) (hg2 : Gl X "enumerate") (hm2 : X.mg "enumerate" = none) (he : PE X e te)
    (hs : starEach [e] X.env = (false, eval e X.env) :: starEach [] X.env := by rfl)
    (hs2 : starEach [.Call (.Name "enumerate" p2) [e] [] pos2] X.env = (false, eval (.Call (.Name "enumerate" p2) [e] [] pos2) X.env) :: starEach [] X.env := by rfl) :
    PE X (.Call (.Name "dict" p) [.Call (.Name "enumerate" p2) [e] [] pos2] [] pos) (tDictEnum X.K te) := by
  refine ⟨fun pins s σ H Q I h => ?_⟩
  refine Call_ (ld_blt I hg hm PyProof.Rows.boot_dict (PyProof.Rows.callWith_type1 (args_cons (Call_ (ld_blt I hg2 hm2 boot_enumerate (PyProof.Rows.callWith_type1 (args_cons (thn (he.run pins s σ H _ I h) fun u s1 ⟨v, H1, I1, r1, q1⟩ => args_nil ?_) hs) hs rfl))) hs2) hs2 rfl))
  obtain ⟨a, xs, ev, hq, q⟩ := q1
  subst ev
  obtain rfl : u = Value.ref a := r1
  obtain ⟨its, rv, p', hz⟩ := I1.list hq
  refine call_enumerate_list p'.isList fun h' hen hit hsz hk => args_nil ?_
  have I2 : Inv X pins σ H1 { s1 with heap := h' } := I1.kept (t' := s1.toks) hk
  have hf : ∀ b ∈ [s1.heap.objs.size + 1, s1.heap.objs.size], FpOk X pins H1 b := fun b hb => by
    have hle : s1.heap.objs.size ≤ b := by
      have e' : b = s1.heap.objs.size + 1 ∨ b = s1.heap.objs.size := by simpa using hb
      rcases e' with z | z
      · rw [z]; exact Nat.le_add_right _ _
      · rw [z]; exact Nat.le_refl _
    exact I1.fpOk hle (I1.hok.fresh hle)
  have hl := p'.isList
  obtain ⟨ol, hol, _⟩ := id hl
  have lt : a < s1.heap.objs.size := Heap.lt_size hol
  have hl2 : h'.IsList a its.toArray := hl.at fun o x => hk _ o x
  refine PySem.call_dict_pairs (knd := mixKind X.prog X.w) (kvs := ik 0 its) (s := { s1 with heap := h' }) (PairArg.enumerate (s1.heap.objs.size + 1) s1.heap.objs.size a (Nat.succ_ne_self _) (Nat.ne_of_lt (Nat.lt_succ_of_lt lt)) (Nat.ne_of_lt lt) its.toArray) (I1.ok.hd hc) ⟨⟨_, hen⟩, hit, hl2⟩ ⟨by rw [ik_len, List.size_toArray], fun i key v hr => ?_⟩ ?_ (fun h2 tk hd hk2 => ?_)
  · obtain ⟨⟨t, rfl⟩, hv⟩ := hr
    rw [List.getElem?_toArray] at hv
    refine ⟨Sum.inl ((i : Nat) : Int), by rw [ik_get, hv, Nat.zero_add]; rfl, ?_⟩
    exact keyIs_int (i : Int) t
  · rw [List.size_toArray, ← rv.length]
    exact hz
  · have hm' : (h'.objs.size == sysModules) = false := beq_eq_false_iff_ne.mpr (Nat.ne_of_gt I2.big)
    have hlen : (mergeK [] (ik 0 xs)).length ≤ sizeLine := by
      refine Nat.le_trans (length_mergeK _ []) ?_
      rw [List.length_nil, Nat.zero_add, ik_len]
      exact hz
    refine ⟨.ref h'.objs.size, upd H1 h'.objs.size (.dK (mergeK [] (ik 0 xs))), I2.turnedNew (t' := tk) (ch := [s1.heap.objs.size + 1, s1.heap.objs.size]) (fun b o hb e => hk2 b o hb e) hf (Nat.le_refl _) (show ObjOk X.prog X.w _ _ _ (.dK (mergeK [] (ik 0 xs))) from ⟨hlen, hm', merged [] (ik 0 its), KV.merge (ik_kv rv) .nil, hd⟩), rfl, q _ _ (I2.hok.fresh (Nat.le_refl _))⟩
end HG
set_option maxHeartbeats 2000000
namespace PU
open PySem PySem.Spec PyProof.Rows L2 HG

/-! ## data: values with what they hold, without the heap -/
inductive D where
  | non | bl (b : Bool) | int (i : Int) | str (x : Str) | ty (n : String)
  | ref (a : Addr)
  | lst (xs : List D) | tup (xs : List D)
  | dk (ks : List Key) (vs : List D)
  | ins (C : Addr) (ns : List Str) (vs : List D)
  /-- a kept exception -/
  | exc (C : Addr) (ns : List Str) (vs : List D)
/-- F: the frozen part of the heap -/
abbrev NTb (o : HO) : Prop := ∀ ps, o ≠ .tbl ps
abbrev Le (F F' : Hp) : Prop := ∀ a o, F a = some o → NTb o → F' a = some o
theorem Le.rfl {F : Hp} : Le F F := fun _ _ h _ => h
theorem Le.tr {F G H : Hp} (a : Le F G) (b : Le G H) : Le F H := fun x o h t => b x o (a x o h t) t
theorem Le.upd {F : Hp} {p : Addr} {o : HO} (h : Fr0 F p) : Le F (upd F p o) := fun a u e t => by
  rw [upd_ne (fun z => by subst z; obtain ⟨ps, w⟩ := h u e; exact t ps w)]
  exact e
theorem Le.fr {F H : Hp} {p : Addr} (l : Le F H) (np : Fr0 H p) : Fr0 F p := fun o e => by
  by_cases t : ∃ ps, o = .tbl ps
  · exact t
  · exact np o (l p o e fun ps z => t ⟨ps, z⟩)
/-- both are written -/
theorem Le.upd2 {F H : Hp} {p : Addr} {o : HO} (l : Le F H) (np : Fr0 H p) : Le (L2.upd F p o) (L2.upd H p o) := fun a u e t => by
  by_cases q : a = p
  · subst q
    rw [upd_same] at e ⊢
    exact e
  · rw [upd_ne q] at e ⊢
    exact l a u e t
/-- an object that is not frozen is written -/
theorem Le.updR {F H : Hp} {p : Addr} {o : HO} (l : Le F H) (np : Fr0 F p) : Le F (L2.upd H p o) := fun a u e t => by
  rw [upd_ne (fun z => by subst z; obtain ⟨ps, w⟩ := np u e; exact t ps w)]
  exact l a u e t
mutual
inductive Dd (K : PySem.W.Frag) (F : Hp) : V → D → Prop
  | non : Dd K F .non .non
  | bl (b : Bool) : Dd K F (.bl b) (.bl b)
  | int (i : Int) : Dd K F (.int i) (.int i)
  | str (x : Str) : Dd K F (.str x) (.str x)
  | ty (n : String) : Dd K F (.ty n) (.ty n)
  | ref (a : Addr) : Dd K F (.ref a) (.ref a)
  | lst {a : Addr} {xs : List V} {ds : List D} : SqL K F a xs → DdA K F xs ds → Dd K F (.ref a) (.lst ds)
  | tup {a : Addr} {xs : List V} {ds : List D} : SqT K F a xs → DdA K F xs ds → Dd K F (.ref a) (.tup ds)
  | dk {a : Addr} {kvs : List (Key × V)} {ds : List D} : Rd F a (.dK kvs) → DdA K F (kvs.map (·.2)) ds → Dd K F (.ref a) (.dk (kvs.map (·.1)) ds)
  | ins {a C dx : Addr} {fs : List (Str × V)} {ds : List D} : F a = some (.ins C dx fs) → DdA K F (fs.map (·.2)) ds → Dd K F (.ref a) (.ins C (fs.map (·.1)) ds)
  | exc {a C : Addr} {dx : Option Addr} {fs : List (Str × V)} {ds : List D} : F a = some (Exn (.ref C) dx a) → ((dx = none ∧ fs = []) ∨ ∃ d, dx = some d ∧ F d = some (.xd fs)) → DdA K F (fs.map (·.2)) ds → Dd K F (.ref a) (.exc C (fs.map (·.1)) ds)
inductive DdA (K : PySem.W.Frag) (F : Hp) : List V → List D → Prop
  | nil : DdA K F [] []
  | cons {v : V} {vs : List V} {d : D} {ds : List D} : Dd K F v d → DdA K F vs ds → DdA K F (v :: vs) (d :: ds)
end
section
variable {K : PySem.W.Frag} {F F' H : Hp}
theorem Rd.le {a : Addr} {u : HO} (h : Le F F') (r : Rd F a u) (t : NTb u := by exact fun _ z => nomatch z) : Rd F' a u := r.elim (fun e => .inl (h _ _ e t)) fun ⟨o, e⟩ => .inr ⟨o, h _ _ e fun _ z => nomatch z⟩
theorem SqL.le {a : Addr} {xs : List V} (h : Le F F') (r : SqL K F a xs) : SqL K F' a xs := r.elim (fun e => .inl (Rd.le h e)) .inr
theorem SqT.le {a : Addr} {xs : List V} (h : Le F F') (r : SqT K F a xs) : SqT K F' a xs := r.elim (fun e => .inl (Rd.le h e)) .inr
mutual
theorem Dd.le (h : Le F F') : ∀ {v : V} {d : D}, Dd K F v d → Dd K F' v d
  | _, _, .non => .non
  | _, _, .bl b => .bl b
  | _, _, .int i => .int i
  | _, _, .str x => .str x
  | _, _, .ty n => .ty n
  | _, _, .ref a => .ref a
  | _, _, .lst q r => .lst (SqL.le h q) (DdA.le h r)
  | _, _, .tup q r => .tup (SqT.le h q) (DdA.le h r)
  | _, _, .dk q r => .dk (Rd.le h q) (DdA.le h r)
  | _, _, .ins q r => .ins (h _ _ q fun _ z => nomatch z) (DdA.le h r)
  | _, _, .exc q e r => .exc (h _ _ q fun _ z => nomatch z) (e.imp (fun z => z) fun ⟨d, e1, e2⟩ => ⟨d, e1, h _ _ e2 fun _ z => nomatch z⟩) (DdA.le h r)
theorem DdA.le (h : Le F F') : ∀ {vs : List V} {ds : List D}, DdA K F vs ds → DdA K F' vs ds
  | _, _, .nil => .nil
  | _, _, .cons a b => .cons (Dd.le h a) (DdA.le h b)
end
theorem DdA.length : ∀ {vs : List V} {ds : List D}, DdA K F vs ds → vs.length = ds.length
  | _, _, .nil => rfl
  | _, _, .cons _ b => congrArg (· + 1) (DdA.length b)
theorem DdA.get : ∀ {vs : List V} {ds : List D} {i : Nat} {v : V}, DdA K F vs ds → vs[i]? = some v → ∃ d, ds[i]? = some d ∧ Dd K F v d
  | _, _, _, _, .nil, e => by simp at e
  | _, _, 0, _, .cons a _, e => by simp at e; subst e; exact ⟨_, rfl, a⟩
  | _, _, i + 1, _, .cons _ b, e => by simpa using DdA.get (i := i) b (by simpa using e)
theorem DdA.get' : ∀ {vs : List V} {ds : List D} {i : Nat} {d : D}, DdA K F vs ds → ds[i]? = some d → ∃ v, vs[i]? = some v ∧ Dd K F v d
  | _, _, _, _, .nil, e => by simp at e
  | _, _, 0, _, .cons a _, e => by simp at e; subst e; exact ⟨_, rfl, a⟩
  | _, _, i + 1, _, .cons _ b, e => by simpa using DdA.get' (i := i) b (by simpa using e)
theorem DdA.append : ∀ {vs ws : List V} {ds es : List D}, DdA K F vs ds → DdA K F ws es → DdA K F (vs ++ ws) (ds ++ es)
  | _, _, _, _, .nil, b => b
  | _, _, _, _, .cons a r, b => .cons a (DdA.append r b)
theorem DdA.take : ∀ {vs : List V} {ds : List D} (n : Nat), DdA K F vs ds → DdA K F (vs.take n) (ds.take n)
  | _, _, 0, _ => .nil
  | _, _, _ + 1, .nil => .nil
  | _, _, n + 1, .cons a b => .cons a (DdA.take n b)
theorem DdA.drop : ∀ {vs : List V} {ds : List D} (n : Nat), DdA K F vs ds → DdA K F (vs.drop n) (ds.drop n)
  | _, _, 0, r => r
  | _, _, _ + 1, .nil => .nil
  | _, _, n + 1, .cons _ b => DdA.drop n b
theorem DdA.set : ∀ {vs : List V} {ds : List D} (n : Nat) {v : V} {d : D}, DdA K F vs ds → Dd K F v d → DdA K F (vs.set n v) (ds.set n d)
  | _, _, _, _, _, .nil, _ => .nil
  | _, _, 0, _, _, .cons _ b, h => .cons h b
  | _, _, n + 1, _, _, .cons a b, h => .cons a (DdA.set n b h)
theorem DdA.nil_iff {vs : List V} {ds : List D} (h : DdA K F vs ds) : vs = [] ↔ ds = [] := by
  cases h <;> simp
end

/-! ## the ghost: what may change, what is kept of it -/
/-- what may be written; lam: tables of code objects may grow -/
structure Pol where
  ex : List Addr
  lam : Bool
def p0 : Pol := ⟨[], false⟩
structure Gh where
  pol : Pol
  dx : List Addr
  M : Nat → Hp → Prop
  kp : ∀ n H H', (∀ a o, H a = some o → a ∈ dx ∨ ((∀ xs, o ≠ .lst xs) ∧ ∀ kvs, o ≠ .dK kvs) → H' a = some o) → M n H → M n H'
  dm : ∀ n H, M n H → ∀ a ∈ dx, ∃ o, H a = some o ∧ NTb o
def gh0 : Gh := ⟨p0, [], fun _ _ => True, fun _ _ _ _ _ => trivial, fun _ _ _ a h => nomatch h⟩
/-- from (F, H) to (F', H') -/
structure Ex (p : Pol) (F H F' H' : Hp) : Prop where
  up : Le F F'
  le : Le F' H'
  new : ∀ a o, H a = some o → NTb o → F' a = F a
  keep : KeepW p.ex H H'
  tk : p.lam = false → ∀ a ps, H a = some (.tbl ps) → H' a = some (.tbl ps)
theorem Ex.rfl {p : Pol} {F H : Hp} (h : Le F H) : Ex p F H F H := ⟨Le.rfl, h, fun _ _ _ _ => Eq.refl _, KeepW.refl, fun _ _ _ h => h⟩
theorem Ex.tr {p : Pol} {F H F1 H1 F2 H2 : Hp} (a : Ex p F H F1 H1) (b : Ex p F1 H1 F2 H2) : Ex p F H F2 H2 := by
  refine ⟨a.up.tr b.up, b.le, fun x o h t => ?_, a.keep.trans b.keep, fun z x ps h => b.tk z x ps (a.tk z x ps h)⟩
  obtain ⟨o', h', t'⟩ := a.keep.dom x o h t
  rw [b.new x o' h' t', a.new x o h t]
theorem Ex.up0 {p : Pol} {F H F1 H1 : Hp} (a : Ex p0 F H F1 H1) : Ex p F H F1 H1 := ⟨a.up, a.le, a.new, a.keep.nil, fun _ => a.tk (Eq.refl _)⟩
/-- what stays of all that is tracked -/
theorem Ex.all0 {F H F1 H1 : Hp} (x : Ex p0 F H F1 H1) {a : Addr} {o : HO} (e : H a = some o) : H1 a = some o := by
  by_cases t : ∃ ps, o = .tbl ps
  · obtain ⟨ps, w⟩ := t
    subst w
    exact x.tk (Eq.refl _) a ps e
  · exact x.keep.all a o e (fun z => nomatch z) fun ps z => t ⟨ps, z⟩
/-- a new object that is frozen at once -/
theorem Ex.newF {p : Pol} {F H : Hp} {a : Addr} {o : HO} (h : Le F H) (np : H a = none) : Ex p F H (upd F a o) (upd H a o) := by
  have fr := fr0_none np
  refine ⟨Le.upd (h.fr fr), h.upd2 fr, fun b u e _ => by rw [upd_ne (ne_of_none e np)], KeepW.refl.mut fr, fun _ b ps e => ?_⟩
  rw [upd_ne (ne_of_none e np)]
  exact e
/-- a new object that is not frozen -/
theorem Ex.newO {p : Pol} {F H : Hp} {a : Addr} {o : HO} (h : Le F H) (np : H a = none) : Ex p F H F (upd H a o) := by
  have fr := fr0_none np
  refine ⟨Le.rfl, h.updR (h.fr fr), fun b u e _ => Eq.refl _, KeepW.refl.mut fr, fun _ b ps e => ?_⟩
  rw [upd_ne (ne_of_none e np)]
  exact e
/-- frozen, what is new and stands there -/
theorem Ex.frz {p : Pol} {F H F1 H1 : Hp} {a : Addr} {o : HO} (x : Ex p F H F1 H1) (n0 : Fr0 H a) (n1 : Fr0 F1 a) (e : H1 a = some o) : Ex p F H (upd F1 a o) H1 := by
  refine ⟨x.up.tr (Le.upd n1), fun b u q t => ?_, fun b u q t => ?_, x.keep, x.tk⟩
  · by_cases z : b = a
    · subst z
      rw [upd_same] at q
      rw [← q]
      exact e
    · rw [upd_ne z] at q
      exact x.le b u q t
  · rw [upd_ne (fun z => by subst z; obtain ⟨ps, w⟩ := n0 u q; exact t ps w)]
    exact x.new b u q t

/-! ## slots -/
inductive S where
  | u
  | d (x : D)
  /-- a list, a dict of one's own that nobody else knows -/
  | o (a : Addr) (xs : List D)
  | q (a : Addr) (ks : List Key) (vs : List D)
def gt : List S → Nat → S
  | [], _ => .u
  | s :: _, 0 => s
  | _ :: r, i + 1 => gt r i
def st : List S → Nat → S → List S
  | [], _, _ => []
  | _ :: r, 0, x => x :: r
  | s :: r, i + 1, x => s :: st r i x
def own1 : S → List Addr
  | .o a _ => [a]
  | .q a _ _ => [a]
  | _ => []
def owns : List S → List Addr
  | [] => []
  | s :: r => own1 s ++ owns r
theorem st_length : ∀ (l : List S) (i : Nat) (x : S), (st l i x).length = l.length
  | [], _, _ => rfl
  | _ :: _, 0, _ => rfl
  | _ :: r, i + 1, x => congrArg (· + 1) (st_length r i x)
theorem gt_st : ∀ (l : List S) (i j : Nat) (x : S), gt (st l i x) j = if j = i ∧ i < l.length then x else gt l j
  | [], i, j, x => by simp [st]
  | s :: r, 0, 0, x => by simp [st, gt]
  | s :: r, 0, j + 1, x => by simp [st, gt]
  | s :: r, i + 1, 0, x => by simp [st, gt]
  | s :: r, i + 1, j + 1, x => by
    show gt (st r i x) j = _
    rw [gt_st r i j x]
    simp [gt]
theorem owns_mem : ∀ {l : List S} {a : Addr}, a ∈ owns l ↔ ∃ i, a ∈ own1 (gt l i)
  | [], a => ⟨fun h => (nomatch h), fun ⟨i, h⟩ => (nomatch h)⟩
  | s :: r, a => by
    unfold owns
    rw [List.mem_append, owns_mem]
    constructor
    · rintro (h | ⟨i, h⟩)
      · exact ⟨0, h⟩
      · exact ⟨i + 1, h⟩
    · rintro ⟨_ | i, h⟩
      · exact .inl h
      · exact .inr ⟨i, h⟩
/-- own objects stand apart -/
def Apart (l : List S) : Prop := ∀ i j a, a ∈ own1 (gt l i) → a ∈ own1 (gt l j) → i = j
theorem Apart.st {l : List S} {i : Nat} {x : S} (h : Apart l) (hx : ∀ a, a ∈ own1 x → a ∈ own1 (gt l i) ∨ a ∉ owns l) : Apart (st l i x) := by
  intro j k a hj hk
  rw [gt_st] at hj hk
  by_cases qj : j = i ∧ i < l.length <;> by_cases qk : k = i ∧ i < l.length
  · rw [qj.1, qk.1]
  · rw [if_pos qj] at hj
    rw [if_neg qk] at hk
    rcases hx a hj with z | z
    · exact (qj.1.trans (h i k a z hk))
    · exact absurd (owns_mem.mpr ⟨k, hk⟩) z
  · rw [if_neg qj] at hj
    rw [if_pos qk] at hk
    rcases hx a hk with z | z
    · exact ((qk.1.trans (h i j a z hj))).symm
    · exact absurd (owns_mem.mpr ⟨j, hj⟩) z
  · rw [if_neg qj] at hj
    rw [if_neg qk] at hk
    exact h j k a hj hk
def Sl (K : PySem.W.Frag) (F H : Hp) : S → Option V → Prop
  | .u, _ => True
  | .d x, v => ∃ y, v = some y ∧ Dd K F y x
  | .o a xs, v => v = some (.ref a) ∧ ∃ vs, H a = some (.lst vs) ∧ DdA K F vs xs
  | .q a ks xs, v => v = some (.ref a) ∧ ∃ kvs : List (Key × V), H a = some (.dK kvs) ∧ kvs.map (·.1) = ks ∧ DdA K F (kvs.map (·.2)) xs
/-- the context: the heaps at the entry, the ghost -/
structure Cn extends Gh where
  F0 : Hp
  H0 : Hp
structure Rel (K : PySem.W.Frag) (C : Cn) (F : Hp) (ρ : List S) (n : Nat) (σ : L2.St) (H : Hp) : Prop where
  x : Ex C.pol C.F0 C.H0 F H
  m : C.M n H
  len : σ.length = ρ.length
  sl : ∀ i, Sl K F H (gt ρ i) (σ.getD i none)
  apart : Apart ρ
  own : ∀ a ∈ owns ρ, Fr0 F a ∧ a ∉ C.dx ∧ a ∉ C.pol.ex ∧ Fr0 C.H0 a
section
variable {K : PySem.W.Frag} {C : Cn} {F F' : Hp} {ρ : List S} {n : Nat} {σ : L2.St} {H H' : Hp}
theorem Rel.le (r : Rel K C F ρ n σ H) : Le F H := r.x.le
theorem Rel.ownAt (r : Rel K C F ρ n σ H) {a : Addr} (h : a ∈ owns ρ) : ∃ o, H a = some o ∧ NTb o := by
  obtain ⟨i, h⟩ := owns_mem.mp h
  have q := r.sl i
  cases e : gt ρ i with
  | u => rw [e] at h; cases h
  | d x => rw [e] at h; cases h
  | o b xs =>
    rw [e] at h q
    obtain ⟨_, vs, q, _⟩ := q
    rw [show a = b by simpa [own1] using h]
    exact ⟨_, q, fun _ z => nomatch z⟩
  | q b ks xs =>
    rw [e] at h q
    obtain ⟨_, vs, q, _⟩ := q
    rw [show a = b by simpa [own1] using h]
    exact ⟨_, q, fun _ z => nomatch z⟩
theorem Sl.step {s : S} {v : Option V} (h : Sl K F H s v) (up : Le F F') (kp : ∀ a ∈ own1 s, H' a = H a) : Sl K F' H' s v := by
  cases s with
  | u => trivial
  | d x =>
    obtain ⟨y, e, q⟩ := h
    exact ⟨y, e, q.le up⟩
  | o a xs =>
    obtain ⟨e, vs, h1, h2⟩ := h
    exact ⟨e, vs, by rw [kp a (by simp [own1])]; exact h1, h2.le up⟩
  | q a ks xs =>
    obtain ⟨e, kvs, h1, h2, h3⟩ := h
    exact ⟨e, kvs, by rw [kp a (by simp [own1])]; exact h1, h2, h3.le up⟩
/-- a step of the ghost -/
theorem Rel.stepG {n' : Nat} (r : Rel K C F ρ n σ H) (x : Ex C.pol F H F' H') (m : C.M n' H') : Rel K C F' ρ n' σ H' := by
  refine ⟨r.x.tr x, m, r.len, fun i => ?_, r.apart, fun a h => ?_⟩
  · refine (r.sl i).step x.up fun a h => ?_
    have mem := owns_mem.mpr ⟨i, h⟩
    obtain ⟨o, e, t⟩ := r.ownAt mem
    rw [e, x.keep.all a o e (r.own a mem).2.2.1 t]
  · obtain ⟨o, e, t⟩ := r.ownAt h
    obtain ⟨q1, q2⟩ := r.own a h
    exact ⟨fun u hu => q1 u (by rw [← x.new a o e t]; exact hu), q2⟩
theorem _root_.PU.Cn.stay (C : Cn) {n : Nat} (m : C.M n H) (x : Ex p0 F H F' H') : C.M n H' := C.kp n H H' (fun a o e _ => x.all0 e) m
/-- a step that leaves the ghost and the own objects as they are -/
theorem Rel.step (r : Rel K C F ρ n σ H) (x : Ex p0 F H F' H') : Rel K C F' ρ n σ H' := r.stepG x.up0 (C.stay r.m x)
theorem getD_set {σ : L2.St} {i j : Nat} {v : Option V} : (σ.set i v).getD j none = if j = i ∧ i < σ.length then v else σ.getD j none := by
  simp only [List.getD_eq_getElem?_getD]
  by_cases q : j = i
  · subst q
    by_cases l : j < σ.length
    · rw [List.getElem?_set_self l]
      simp [l]
    · rw [if_neg (fun z => l z.2), List.getElem?_eq_none (by simpa using l), List.getElem?_eq_none (by simpa using l)]
  · rw [List.getElem?_set_ne (Ne.symm q), if_neg (fun z => q z.1)]
/-- a slot is set -/
theorem Rel.set {i : Nat} {v : V} {s : S} (r : Rel K C F ρ n σ H) (h : Sl K F H s (some v))
    (hx : ∀ a, a ∈ own1 s → (a ∈ own1 (gt ρ i) ∨ a ∉ owns ρ) ∧ Fr0 F a ∧ a ∉ C.dx ∧ a ∉ C.pol.ex ∧ Fr0 C.H0 a) : Rel K C F (st ρ i s) n (σ.set i (some v)) H := by
  refine ⟨r.x, r.m, by rw [List.length_set, st_length]; exact r.len, fun j => ?_, r.apart.st fun a m => (hx a m).1, fun a m => ?_⟩
  · rw [gt_st, getD_set, r.len]
    by_cases q : j = i ∧ i < ρ.length
    · rw [if_pos q, if_pos q]
      exact h
    · rw [if_neg q, if_neg q]
      exact r.sl j
  · obtain ⟨j, m⟩ := owns_mem.mp m
    rw [gt_st] at m
    by_cases q : j = i ∧ i < ρ.length
    · rw [if_pos q] at m
      exact (hx a m).2
    · rw [if_neg q] at m
      exact r.own a (owns_mem.mpr ⟨j, m⟩)
theorem Rel.setD {i : Nat} {v : V} {x : D} (r : Rel K C F ρ n σ H) (h : Dd K F v x) : Rel K C F (st ρ i (.d x)) n (σ.set i (some v)) H :=
  r.set ⟨v, Eq.refl _, h⟩ fun a m => nomatch m
/-- a slot is forgotten -/
theorem Rel.drop {i : Nat} (r : Rel K C F ρ n σ H) : Rel K C F (st ρ i .u) n σ H := by
  refine ⟨r.x, r.m, by rw [st_length]; exact r.len, fun j => ?_, r.apart.st (fun a m => nomatch m), fun a m => ?_⟩
  · rw [gt_st]
    by_cases q : j = i ∧ i < ρ.length
    · rw [if_pos q]
      trivial
    · rw [if_neg q]
      exact r.sl j
  · obtain ⟨j, m⟩ := owns_mem.mp m
    rw [gt_st] at m
    by_cases q : j = i ∧ i < ρ.length
    · rw [if_pos q] at m
      cases m
    · rw [if_neg q] at m
      exact r.own a (owns_mem.mpr ⟨j, m⟩)
theorem getD_lt {ρ : List S} {i : Nat} {s : S} (h : gt ρ i = s) (n : s ≠ .u) : i < ρ.length := by
  induction ρ generalizing i with
  | nil => exact absurd h.symm n
  | cons a t ih =>
    cases i with
    | zero => exact Nat.succ_pos _
    | succ i => exact Nat.succ_lt_succ (ih h)
/-- an own list is frozen -/
theorem Rel.freeze {i : Nat} {a : Addr} {xs : List D} (r : Rel K C F ρ n σ H) (e : gt ρ i = .o a xs) :
    ∃ F', Le F F' ∧ Rel K C F' (st ρ i (.d (.lst xs))) n σ H ∧ Dd K F' (.ref a) (.lst xs) := by
  have q := r.sl i
  rw [e] at q
  obtain ⟨e1, vs, e2, e3⟩ := q
  have mem : a ∈ owns ρ := owns_mem.mpr ⟨i, by rw [e]; simp [own1]⟩
  obtain ⟨o1, o2, o3, o4⟩ := r.own a mem
  have up : Le F (upd F a (.lst vs)) := Le.upd o1
  have dd : Dd K (upd F a (.lst vs)) (.ref a) (.lst xs) := .lst (.inl (.inl upd_same)) (e3.le up)
  have hi := getD_lt e (fun z => nomatch z)
  refine ⟨_, up, ⟨r.x.frz o4 o1 e2, r.m, by rw [st_length]; exact r.len, fun j => ?_, r.apart.st (fun b m => nomatch m), fun b m => ?_⟩, dd⟩
  · rw [gt_st]
    by_cases z : j = i ∧ i < ρ.length
    · rw [if_pos z, z.1]
      exact ⟨_, e1, dd⟩
    · rw [if_neg z]
      exact (r.sl j).step up fun _ _ => Eq.refl _
  · obtain ⟨j, m⟩ := owns_mem.mp m
    rw [gt_st] at m
    by_cases z : j = i ∧ i < ρ.length
    · rw [if_pos z] at m
      cases m
    · rw [if_neg z] at m
      obtain ⟨p1, p2⟩ := r.own b (owns_mem.mpr ⟨j, m⟩)
      have ne : b ≠ a := fun w => by
        subst w
        exact z ⟨r.apart j i b m (by rw [e]; simp [own1]), hi⟩
      exact ⟨fun u hu => p1 u (by rw [upd_ne ne] at hu; exact hu), p2⟩
end
end PU
set_option maxHeartbeats 2000000
namespace PU
open PySem PySem.Spec PyProof.Rows L2 HG

/-! ## judgements over data -/
abbrev TD := List S → Nat → (D → Nat → Prop) → Prop
abbrev TDb := List S → Nat → (Bool → Nat → Prop) → Prop
abbrev TDa := List S → Nat → (List D → Nat → Prop) → Prop
def Mo {α : Type} (u : List S → Nat → (α → Nat → Prop) → Prop) : Prop := ∀ ρ n (P Q : α → Nat → Prop), (∀ d m, P d m → Q d m) → u ρ n P → u ρ n Q
def tE (K : PySem.W.Frag) (C : Cn) (u : TD) : TE := fun σ H Q => ∃ F ρ n, Rel K C F ρ n σ H ∧ u ρ n fun d m => ∀ v F' H', Ex C.pol F H F' H' → C.M m H' → Dd K F' v d → Q v H'
def tT (K : PySem.W.Frag) (C : Cn) (u : TDb) : TT := fun σ H Q => ∃ F ρ n, Rel K C F ρ n σ H ∧ u ρ n fun b m => ∀ F' H', Ex C.pol F H F' H' → C.M m H' → Q b H'
def tA (K : PySem.W.Frag) (C : Cn) (u : TDa) : TA := fun σ H Q => ∃ F ρ n, Rel K C F ρ n σ H ∧ u ρ n fun ds m => ∀ vs F' H', Ex C.pol F H F' H' → C.M m H' → DdA K F' vs ds → Q vs H'
structure UE (X : Cx) (C : Cn) (e : Expr) (u : TD) : Prop where
  run : PE X e (tE X.K C u)
  mo : Mo u
structure UT (X : Cx) (C : Cn) (e : Expr) (u : TDb) : Prop where
  run : PT X e (tT X.K C u)
  mo : Mo u
structure UW (X : Cx) (C : Cn) (e : Expr) (u : TDb) : Prop where
  run : PW X e (tT X.K C u)
  mo : Mo u
structure UA (X : Cx) (C : Cn) (es : List Expr) (u : TDa) : Prop where
  run : PA X es (tA X.K C u)
  mo : Mo u
theorem PEw {X : Cx} {e : Expr} {t t' : TE} (h : PE X e t) (w : ∀ σ H Q, t' σ H Q → t σ H Q) : PE X e t' := ⟨fun pins s σ H Q I q => h.run pins s σ H Q I (w _ _ _ q)⟩
theorem PTw {X : Cx} {e : Expr} {t t' : TT} (h : PT X e t) (w : ∀ σ H Q, t' σ H Q → t σ H Q) : PT X e t' := ⟨fun pins s σ H Q I q => h.run pins s σ H Q I (w _ _ _ q)⟩
theorem PWw {X : Cx} {e : Expr} {t t' : TT} (h : PW X e t) (w : ∀ σ H Q, t' σ H Q → t σ H Q) : PW X e t' := ⟨fun wh pins s σ H Q I q => h.run wh pins s σ H Q I (w _ _ _ q)⟩
theorem PAw {X : Cx} {e : List Expr} {t t' : TA} (h : PA X e t) (w : ∀ σ H Q, t' σ H Q → t σ H Q) : PA X e t' := ⟨fun pos pins s σ H Q I q => h.run pos pins s σ H Q I (w _ _ _ q)⟩
theorem UW.ut {X : Cx} {C : Cn} {e : Expr} {u : TDb} (h : UW X C e u) : UT X C e u := ⟨h.run.pt, h.mo⟩
/-- two expressions behind one another, heaps and all -/
theorem two {K : PySem.W.Frag} {C : Cn} {ua ub : TD} {σ : L2.St} {H : Hp} {R : V → V → Hp → Prop} {P : D → D → Nat → Prop} (mb : Mo ub) (ma : Mo ua)
    {F : Hp} {ρ : List S} {n : Nat} (rel : Rel K C F ρ n σ H) (h : ua ρ n fun d n1 => ub ρ n1 fun e n2 => P d e n2)
    (q : ∀ x y d e m F' H', Ex C.pol F H F' H' → C.M m H' → Dd K F' x d → Dd K F' y e → P d e m → R x y H') :
    tE K C ua σ H fun x H1 => tE K C ub σ H1 fun y H2 => R x y H2 :=
  ⟨F, ρ, n, rel, ma _ _ _ _ (fun d n1 hb x F1 H1 x1 m1 d1 => ⟨F1, ρ, n1, rel.stepG x1 m1, mb _ _ _ _ (fun e n2 p y F2 H2 x2 m2 d2 => q x y d e n2 F2 H2 (x1.tr x2) m2 (d1.le x2.up) d2 p) hb⟩) h⟩

section
variable {X : Cx} {C : Cn} {a b c : Expr} {ua ub uc : TD} {pos : Pos}
/-! ### names and constants -/
def uVar (i : Nat) : TD := fun ρ n Q => match gt ρ i with
  | .d x => Q x n
  | _ => False
theorem getD_some {σ : L2.St} {i : Nat} {v : V} (h : σ.getD i none = some v) : σ[i]? = some (some v) := by
  rw [List.getD_eq_getElem?_getD] at h
  cases e : σ[i]? with
  | none => rw [e] at h; cases h
  | some w => rw [e] at h; simpa using h
theorem ue_var {i : Nat} {x : Str} (hN : X.N[i]? = some x := by rfl) (hv : Vis X.env.scope x := by first | exact .inl rfl | exact .inr (.inl rfl) | exact .inr (.inr rfl)) (hd : (x == ("__debug__" : Str)) = false := by decide) (hcd : (x == ("__classdict__" : Str)) = false := by decide) :
    UE X C (.Name x pos) (uVar i) := by
  refine ⟨PEw (pe_var hN hv hd hcd) fun σ H Q ⟨F, ρ, n, rel, u⟩ => ?_, fun ρ n P Q h u => ?_⟩
  · unfold uVar at u
    have q := rel.sl i
    cases e : gt ρ i with
    | d x =>
      rw [e] at u q
      obtain ⟨y, e2, dd⟩ := q
      exact ⟨y, getD_some e2, u _ _ _ (Ex.rfl rel.le) rel.m dd⟩
    | _ => rw [e] at u; exact u.elim
  · unfold uVar at u ⊢
    cases e : gt ρ i <;> rw [e] at u <;> first | exact h _ _ u | exact u
def uC (d : D) : TD := fun _ n Q => Q d n
theorem mo_C {d : D} : Mo (uC d) := fun _ _ _ _ h u => h _ _ u
theorem ue_c {e : Expr} {v : V} {d : D} (h : PE X e (tC v)) (hd : ∀ F, Dd X.K F v d) : UE X C e (uC d) :=
  ⟨PEw h fun σ H Q ⟨F, ρ, n, rel, u⟩ => u _ _ _ (Ex.rfl rel.le) rel.m (hd F), mo_C⟩
theorem ue_int {i j} : UE X C (.Constant (.int i) j pos) (uC (.int i)) := ue_c pe_int fun _ => .int i
theorem ue_bl {b j} : UE X C (.Constant (.bool b) j pos) (uC (.bl b)) := ue_c pe_bl fun _ => .bl b
theorem ue_non {j} : UE X C (.Constant .none j pos) (uC .non) := ue_c pe_non fun _ => .non
theorem ue_str {x j} : UE X C (.Constant (.str x) j pos) (uC (.str x)) := ue_c pe_str fun _ => .str x
/-- a module's constant, a class -/
theorem ue_glob {x : Str} {v : V} {u : Value} {d : D} (hm : X.mg x = some u) (r : RelV v u) (hd : ∀ F, Dd X.K F v d) (hg : Gl X x := by rfl) (hdb : (x == ("__debug__" : Str)) = false := by decide) : UE X C (.Name x pos) (uC d) :=
  ue_c (pe_glob hg hm r hdb) hd

/-! ### operators -/
def MoR (r : D → D → (D → Prop) → Prop) : Prop := ∀ x y P Q, (∀ d, P d → Q d) → r x y P → r x y Q
structure OpD (X : Cx) (f : Value → Value → Sem Value) (r : D → D → (D → Prop) → Prop) : Prop where
  mo : MoR r
  run : OpR X f fun x y H Q => ∃ F dx dy, Le F H ∧ Dd X.K F x dx ∧ Dd X.K F y dy ∧ r dx dy fun d => ∀ v F' H', Ex p0 F H F' H' → Dd X.K F' v d → Q v H'
def uOp (r : D → D → (D → Prop) → Prop) (ua ub : TD) : TD := fun ρ n Q => ua ρ n fun d n1 => ub ρ n1 fun e n2 => r d e fun z => Q z n2
theorem mo_Op {r : D → D → (D → Prop) → Prop} (mr : MoR r) (ma : Mo ua) (mb : Mo ub) : Mo (uOp r ua ub) :=
  fun ρ n P Q h u => ma _ _ _ _ (fun d n1 => mb _ _ _ _ fun e n2 => mr _ _ _ _ fun z => h z n2) u
theorem tOp_of {f : Value → Value → Sem Value} {r : D → D → (D → Prop) → Prop} (ho : OpD X f r) (ha : UE X C a ua) (hb : UE X C b ub) {σ : L2.St} {H : Hp} {Q : VK}
    (h : tE X.K C (uOp r ua ub) σ H Q) : tOp (fun x y H Q => ∃ F dx dy, Le F H ∧ Dd X.K F x dx ∧ Dd X.K F y dy ∧ r dx dy fun d => ∀ v F' H', Ex p0 F H F' H' → Dd X.K F' v d → Q v H') (tE X.K C ua) (tE X.K C ub) σ H Q := by
  obtain ⟨F, ρ, n, rel, u⟩ := h
  exact two hb.mo ha.mo rel u fun x y d e m F' H' x1 m1 d1 d2 p => ⟨F', d, e, x1.le, d1, d2, ho.mo _ _ _ _ (fun z q v F2 H2 x2 dd => q v F2 H2 (x1.tr x2.up0) (C.stay m1 x2) dd) p⟩
theorem ue_op {op : Operator} {r : D → D → (D → Prop) → Prop} (ho : OpD X (binaryOp op) r) (ha : UE X C a ua) (hb : UE X C b ub) : UE X C (.BinOp a op b pos) (uOp r ua ub) :=
  ⟨PEw (pe_op ho.run ha.run hb.run) fun σ H Q h => tOp_of ho ha hb h, mo_Op ho.mo ha.mo hb.mo⟩
theorem ue_cmp {op : CmpOp} {r : D → D → (D → Prop) → Prop} (ho : OpD X (compareOp op) r) (ha : UE X C a ua) (hb : UE X C b ub) (hm : behindInMarks op b = false := by first | exact nomark _ | with_unfolding_all rfl) :
    UE X C (.Compare a [op] [b] pos) (uOp r ua ub) :=
  ⟨PEw (pe_cmpR ho.run ha.run hb.run hm) fun σ H Q h => tOp_of ho ha hb h, mo_Op ho.mo ha.mo hb.mo⟩
/-- a value as a test: it is a bool -/
def bOf : D → (Bool → Prop) → Prop
  | .bl b, Q => Q b
  | _, _ => False
theorem mo_bOf {d : D} {P Q : Bool → Prop} (h : ∀ b, P b → Q b) (u : bOf d P) : bOf d Q := by
  cases d <;> first | exact h _ u | exact u
def uB (u : TD) : TDb := fun ρ n Q => u ρ n fun d m => bOf d fun b => Q b m
theorem mo_B {u : TD} (h : Mo u) : Mo (uB u) := fun ρ n P Q i w => h _ _ _ _ (fun d m => mo_bOf fun b => i b m) w
theorem bOf_of {K : PySem.W.Frag} {F : Hp} {v : V} {d : D} (h : Dd K F v d) {Q : Bool → Prop} (q : bOf d Q) : ∃ b, v = .bl b ∧ Q b := by
  cases d with
  | bl b => cases h; exact ⟨b, rfl, q⟩
  | _ => exact q.elim
theorem ut_cmp {op : CmpOp} {r : D → D → (D → Prop) → Prop} (ho : OpD X (compareOp op) r) (ha : UE X C a ua) (hb : UE X C b ub) (hm : behindInMarks op b = false := by first | exact nomark _ | with_unfolding_all rfl) :
    UT X C (.Compare a [op] [b] pos) (uB (uOp r ua ub)) := by
  refine ⟨PTw (pt_cmpR ho.run ha.run hb.run hm) fun σ H Q h => ?_, mo_B (mo_Op ho.mo ha.mo hb.mo)⟩
  obtain ⟨F, ρ, n, rel, u⟩ := h
  refine tOp_of (Q := fun x H' => ∃ k, x = .bl k ∧ Q k H') ho ha hb ⟨F, ρ, n, rel, mo_Op ho.mo ha.mo hb.mo _ _ _ _ (fun d m q v F' H' x m' dd => ?_) u⟩
  obtain ⟨k, e, q⟩ := bOf_of dd q
  exact ⟨k, e, q F' H' x m'⟩
theorem ut_val {e : Expr} {u : TD} (h : UE X C e u) (he : ∀ whole, isTrue e X.env whole = (do let v ← whole; standAt e.pos; holding [v] (truthy v)) := by intro _; rfl) : UT X C e (uB u) := by
  refine ⟨PTw (pt_val h.run he) fun σ H Q q => ?_, mo_B h.mo⟩
  obtain ⟨F, ρ, n, rel, q⟩ := q
  refine ⟨F, ρ, n, rel, h.mo _ _ _ _ (fun d m q v F' H' x m' dd => ?_) q⟩
  obtain ⟨k, e, q⟩ := bOf_of dd q
  exact ⟨k, e, q F' H' x m'⟩
/-! ### and, or, not -/
variable {tA' tB' : TDb} {rest : List Expr}
def uAnd (t u : TDb) : TDb := fun ρ n Q => t ρ n fun c m => if c = true then u ρ m Q else Q false m
def uOr (t u : TDb) : TDb := fun ρ n Q => t ρ n fun c m => if c = true then Q true m else u ρ m Q
def uNot (t : TDb) : TDb := fun ρ n Q => t ρ n fun c m => Q (!c) m
theorem mo_And {t u : TDb} (ht : Mo t) (hu : Mo u) : Mo (uAnd t u) := fun ρ n P Q h w => ht _ _ _ _ (fun c m q => by
  by_cases e : c = true
  · rw [if_pos e] at q ⊢; exact hu _ _ _ _ h q
  · rw [if_neg e] at q ⊢; exact h _ _ q) w
theorem mo_Or {t u : TDb} (ht : Mo t) (hu : Mo u) : Mo (uOr t u) := fun ρ n P Q h w => ht _ _ _ _ (fun c m q => by
  by_cases e : c = true
  · rw [if_pos e] at q ⊢; exact h _ _ q
  · rw [if_neg e] at q ⊢; exact hu _ _ _ _ h q) w
theorem mo_Not {t : TDb} (ht : Mo t) : Mo (uNot t) := fun ρ n P Q h w => ht _ _ _ _ (fun c m => h _ m) w
theorem uw_and1 (ha : UT X C a tA') : UW X C (.BoolOp .And [a] pos) tA' := ⟨pw_and1 ha.run, ha.mo⟩
theorem uw_or1 (ha : UT X C a tA') : UW X C (.BoolOp .Or [a] pos) tA' := ⟨pw_or1 ha.run, ha.mo⟩
theorem uw_and (ha : UT X C a tA') (hb : UW X C (.BoolOp .And (b :: rest) pos) tB') : UW X C (.BoolOp .And (a :: b :: rest) pos) (uAnd tA' tB') := by
  refine ⟨PWw (pw_and ha.run hb.run) fun σ H Q h => ?_, mo_And ha.mo hb.mo⟩
  obtain ⟨F, ρ, n, rel, h⟩ := h
  refine ⟨F, ρ, n, rel, ha.mo _ _ _ _ (fun c m q F' H' x m' => ?_) h⟩
  by_cases e : c = true
  · rw [if_pos e] at q ⊢
    exact ⟨F', ρ, m, rel.stepG x m', hb.mo _ _ _ _ (fun b k q F2 H2 x2 m2 => q F2 H2 (x.tr x2) m2) q⟩
  · rw [if_neg e] at q ⊢
    exact q F' H' x m'
theorem uw_or (ha : UT X C a tA') (hb : UW X C (.BoolOp .Or (b :: rest) pos) tB') : UW X C (.BoolOp .Or (a :: b :: rest) pos) (uOr tA' tB') := by
  refine ⟨PWw (pw_or ha.run hb.run) fun σ H Q h => ?_, mo_Or ha.mo hb.mo⟩
  obtain ⟨F, ρ, n, rel, h⟩ := h
  refine ⟨F, ρ, n, rel, ha.mo _ _ _ _ (fun c m q F' H' x m' => ?_) h⟩
  by_cases e : c = true
  · rw [if_pos e] at q ⊢
    exact q F' H' x m'
  · rw [if_neg e] at q ⊢
    exact ⟨F', ρ, m, rel.stepG x m', hb.mo _ _ _ _ (fun b k q F2 H2 x2 m2 => q F2 H2 (x.tr x2) m2) q⟩
theorem ut_not (ha : UT X C a tA') : UT X C (.UnaryOp .Not a pos) (uNot tA') :=
  ⟨PTw (pt_not ha.run) fun σ H Q ⟨F, ρ, n, rel, h⟩ => ⟨F, ρ, n, rel, h⟩, mo_Not ha.mo⟩
/-- as values: bools -/
def uAndV (ua ub : TD) : TD := fun ρ n Q => ua ρ n fun d m => bOf d fun c => if c = true then ub ρ m Q else Q (.bl false) m
def uOrV (ua ub : TD) : TD := fun ρ n Q => ua ρ n fun d m => bOf d fun c => if c = true then Q (.bl true) m else ub ρ m Q
def uNotV (ua : TD) : TD := fun ρ n Q => ua ρ n fun d m => bOf d fun c => Q (.bl (!c)) m
theorem mo_AndV (ha : Mo ua) (hb : Mo ub) : Mo (uAndV ua ub) := fun ρ n P Q h w => ha _ _ _ _ (fun d m => mo_bOf fun c q => by
  by_cases e : c = true
  · rw [if_pos e] at q ⊢; exact hb _ _ _ _ h q
  · rw [if_neg e] at q ⊢; exact h _ _ q) w
theorem mo_OrV (ha : Mo ua) (hb : Mo ub) : Mo (uOrV ua ub) := fun ρ n P Q h w => ha _ _ _ _ (fun d m => mo_bOf fun c q => by
  by_cases e : c = true
  · rw [if_pos e] at q ⊢; exact h _ _ q
  · rw [if_neg e] at q ⊢; exact hb _ _ _ _ h q) w
theorem ue_one {op} (h : UE X C a ua) : UE X C (.BoolOp op [a] pos) ua := ⟨pe_one h.run, h.mo⟩
theorem ue_and (ha : UE X C a ua) (hb : UE X C (.BoolOp .And (b :: rest) pos) ub) : UE X C (.BoolOp .And (a :: b :: rest) pos) (uAndV ua ub) := by
  refine ⟨PEw (pe_and ha.run hb.run) fun σ H Q h => ?_, mo_AndV ha.mo hb.mo⟩
  obtain ⟨F, ρ, n, rel, h⟩ := h
  refine ⟨F, ρ, n, rel, ha.mo _ _ _ _ (fun d m q v F' H' x m' dd => ?_) h⟩
  obtain ⟨c, e, q⟩ := bOf_of dd q
  refine ⟨c, e, ?_⟩
  by_cases e : c = true
  · rw [if_pos e] at q ⊢
    exact ⟨F', ρ, m, rel.stepG x m', hb.mo _ _ _ _ (fun b k q v2 F2 H2 x2 m2 => q v2 F2 H2 (x.tr x2) m2) q⟩
  · rw [if_neg e] at q ⊢
    exact q _ F' H' x m' (.bl false)
theorem ue_or (ha : UE X C a ua) (hb : UE X C (.BoolOp .Or (b :: rest) pos) ub) : UE X C (.BoolOp .Or (a :: b :: rest) pos) (uOrV ua ub) := by
  refine ⟨PEw (pe_or ha.run hb.run) fun σ H Q h => ?_, mo_OrV ha.mo hb.mo⟩
  obtain ⟨F, ρ, n, rel, h⟩ := h
  refine ⟨F, ρ, n, rel, ha.mo _ _ _ _ (fun d m q v F' H' x m' dd => ?_) h⟩
  obtain ⟨c, e, q⟩ := bOf_of dd q
  refine ⟨c, e, ?_⟩
  by_cases e : c = true
  · rw [if_pos e] at q ⊢
    exact q _ F' H' x m' (.bl true)
  · rw [if_neg e] at q ⊢
    exact ⟨F', ρ, m, rel.stepG x m', hb.mo _ _ _ _ (fun b k q v2 F2 H2 x2 m2 => q v2 F2 H2 (x.tr x2) m2) q⟩
theorem ue_not (ha : UE X C a ua) : UE X C (.UnaryOp .Not a pos) (uNotV ua) := by
  refine ⟨PEw (pe_not ha.run) fun σ H Q h => ?_, fun ρ n P Q h w => ha.mo _ _ _ _ (fun d m => mo_bOf fun c => h _ m) w⟩
  obtain ⟨F, ρ, n, rel, h⟩ := h
  refine ⟨F, ρ, n, rel, ha.mo _ _ _ _ (fun d m q v F' H' x m' dd => ?_) h⟩
  obtain ⟨c, e, q⟩ := bOf_of dd q
  exact ⟨c, e, q _ F' H' x m' (.bl _)⟩
def uIf (t : TDb) (ua ub : TD) : TD := fun ρ n Q => t ρ n fun c m => if c = true then ua ρ m Q else ub ρ m Q
theorem ue_ifExp {t : TDb} (hc : UT X C c t) (ha : UE X C a ua) (hb : UE X C b ub) : UE X C (.IfExp c a b pos) (uIf t ua ub) := by
  refine ⟨PEw (pe_ifExp hc.run ha.run hb.run) fun σ H Q h => ?_, fun ρ n P Q h w => hc.mo _ _ _ _ (fun c m q => ?_) w⟩
  · obtain ⟨F, ρ, n, rel, h⟩ := h
    refine ⟨F, ρ, n, rel, hc.mo _ _ _ _ (fun c m q F' H' x m' => ?_) h⟩
    by_cases e : c = true
    · rw [if_pos e] at q ⊢
      exact ⟨F', ρ, m, rel.stepG x m', ha.mo _ _ _ _ (fun b k q v2 F2 H2 x2 m2 => q v2 F2 H2 (x.tr x2) m2) q⟩
    · rw [if_neg e] at q ⊢
      exact ⟨F', ρ, m, rel.stepG x m', hb.mo _ _ _ _ (fun b k q v2 F2 H2 x2 m2 => q v2 F2 H2 (x.tr x2) m2) q⟩
  · by_cases e : c = true
    · rw [if_pos e] at q ⊢; exact ha.mo _ _ _ _ h q
    · rw [if_neg e] at q ⊢; exact hb.mo _ _ _ _ h q
/-! ### argument lists, displays -/
def uNil : TDa := fun _ n Q => Q [] n
def uCons (ua : TD) (ur : TDa) : TDa := fun ρ n Q => ua ρ n fun d m => ur ρ m fun ds k => Q (d :: ds) k
variable {e : Expr} {es : List Expr} {u : TD} {us : TDa}
theorem mo_Cons (h : Mo u) (hs : Mo us) : Mo (uCons u us) := fun ρ n P Q i w => h _ _ _ _ (fun d m => hs _ _ _ _ fun ds k => i _ k) w
theorem ua_nil : UA X C [] uNil := ⟨PAw pa_nil fun σ H Q ⟨F, ρ, n, rel, h⟩ => h [] F H (Ex.rfl rel.le) rel.m .nil, fun _ _ _ _ h u => h _ _ u⟩
theorem ua_cons (ha : UE X C e u) (hr : UA X C es us) (hs : starEach (e :: es) X.env = (false, eval e X.env) :: starEach es X.env := by rfl) : UA X C (e :: es) (uCons u us) :=
  ⟨PAw (pa_cons ha.run hr.run hs) fun σ H Q ⟨F, ρ, n, rel, h⟩ => ⟨F, ρ, n, rel, ha.mo _ _ _ _ (fun d m q v F1 H1 x1 m1 d1 =>
    ⟨F1, ρ, m, rel.stepG x1 m1, hr.mo _ _ _ _ (fun ds k q vs F2 H2 x2 m2 d2 => q (v :: vs) F2 H2 (x1.tr x2) m2 (.cons (d1.le x2.up) d2)) q⟩) h⟩, mo_Cons ha.mo hr.mo⟩
def uTup (us : TDa) : TD := fun ρ n Q => us ρ n fun ds m => ds.length ≤ sizeLine ∧ Q (.tup ds) m
def uLst (us : TDa) : TD := fun ρ n Q => us ρ n fun ds m => ds.length ≤ sizeLine ∧ Q (.lst ds) m
theorem mo_Tup (h : Mo us) : Mo (uTup us) := fun ρ n P Q i w => h _ _ _ _ (fun d m q => ⟨q.1, i _ _ q.2⟩) w
theorem mo_Lst (h : Mo us) : Mo (uLst us) := fun ρ n P Q i w => h _ _ _ _ (fun d m q => ⟨q.1, i _ _ q.2⟩) w
theorem dd_tupN {K : PySem.W.Frag} {F : Hp} {p : Addr} {vs : List V} {ds : List D} (h : DdA K F vs ds) (np : Fr0 F p) : Dd K (upd F p (.tup vs)) (.ref p) (.tup ds) :=
  .tup (.inl (.inl upd_same)) (h.le (Le.upd np))
theorem dd_lstN {K : PySem.W.Frag} {F : Hp} {p : Addr} {vs : List V} {ds : List D} (h : DdA K F vs ds) (np : Fr0 F p) : Dd K (upd F p (.lst vs)) (.ref p) (.lst ds) :=
  .lst (.inl (.inl upd_same)) (h.le (Le.upd np))
theorem ue_tup {x1} (h : UA X C es us) : UE X C (.Tuple es x1 pos) (uTup us) :=
  ⟨PEw (pe_tup h.run) fun σ H Q ⟨F, ρ, n, rel, q⟩ => ⟨F, ρ, n, rel, h.mo _ _ _ _ (fun ds m q vs F1 H1 x1 m1 d1 => ⟨by rw [d1.length]; exact q.1, fun p np =>
    q.2 _ _ _ (x1.tr (Ex.newF x1.le np)) (C.stay m1 (Ex.newO x1.le np)) (dd_tupN d1 (x1.le.fr (fr0_none np)))⟩) q⟩, mo_Tup h.mo⟩
theorem ue_lst (h : UA X C es us) : UE X C (.List es pos) (uLst us) :=
  ⟨PEw (pe_lst h.run) fun σ H Q ⟨F, ρ, n, rel, q⟩ => ⟨F, ρ, n, rel, h.mo _ _ _ _ (fun ds m q vs F1 H1 x1 m1 d1 => ⟨by rw [d1.length]; exact q.1, fun p np =>
    q.2 _ _ _ (x1.tr (Ex.newF x1.le np)) (C.stay m1 (Ex.newO x1.le np)) (dd_lstN d1 (x1.le.fr (fr0_none np)))⟩) q⟩, mo_Lst h.mo⟩
/-! ### calls of built-ins -/
structure CallD (X : Cx) (f : Value) (r : List D → (D → Prop) → Prop) : Prop where
  mo : ∀ xs P Q, (∀ d, P d → Q d) → r xs P → r xs Q
  run : CallR X f fun xs H Q => ∃ F ds, Le F H ∧ DdA X.K F xs ds ∧ r ds fun d => ∀ v F' H', Ex p0 F H F' H' → Dd X.K F' v d → Q v H'
def uCall (r : List D → (D → Prop) → Prop) (us : TDa) : TD := fun ρ n Q => us ρ n fun ds m => r ds fun d => Q d m
theorem mo_Call {r : List D → (D → Prop) → Prop} (mr : ∀ xs P Q, (∀ d, P d → Q d) → r xs P → r xs Q) (h : Mo us) : Mo (uCall r us) := fun ρ n P Q i w => h _ _ _ _ (fun ds m => mr _ _ _ fun d => i d m) w
theorem ue_callB {id : String} {x : Str} {p : Pos} {r : List D → (D → Prop) → Prop} (hc : CallD X (.builtin id) r) (hm : X.mg x = none) (ha : UA X C (e :: es) us) (hv : bootBuiltins x = some (.builtin id) := by decide +kernel) (hg : Gl X x := by rfl) (hn : x ≠ "__name__" := by decide) (hdb : (x == ("__debug__" : Str)) = false := by decide)
    (he : starEach (e :: es) X.env = (false, eval e X.env) :: starEach es X.env := by rfl) (hpl : (backTo pos (starEach es X.env)).any (·.1) = false := by rfl) : UE X C (.Call (.Name x p) (e :: es) [] pos) (uCall r us) :=
  ⟨PEw (pe_callB hc.run hg hm hv ha.run hn hdb he hpl) fun σ H Q ⟨F, ρ, n, rel, h⟩ => ⟨F, ρ, n, rel, ha.mo _ _ _ _ (fun ds m q vs F1 H1 x1 m1 d1 =>
    ⟨F1, ds, x1.le, d1, hc.mo _ _ _ (fun d q v F2 H2 x2 dd => q v F2 H2 (x1.tr x2.up0) (C.stay m1 x2) dd) q⟩) h⟩, mo_Call hc.mo ha.mo⟩
theorem ue_callTy {T : String} {x : Str} {p : Pos} {r : List D → (D → Prop) → Prop} (hc : CallD X (.type T) r) (hm : X.mg x = none) (ha : UA X C (e :: es) us) (hv : bootBuiltins x = some (.type T) := by decide +kernel) (hg : Gl X x := by rfl) (hn : x ≠ "__name__" := by decide) (hdb : (x == ("__debug__" : Str)) = false := by decide)
    (he : starEach (e :: es) X.env = (false, eval e X.env) :: starEach es X.env := by rfl) (hpl : (backTo pos (starEach es X.env)).any (·.1) = false := by rfl) : UE X C (.Call (.Name x p) (e :: es) [] pos) (uCall r us) :=
  ⟨PEw (pe_callTy hc.run hg hm hv ha.run hn hdb he hpl) fun σ H Q ⟨F, ρ, n, rel, h⟩ => ⟨F, ρ, n, rel, ha.mo _ _ _ _ (fun ds m q vs F1 H1 x1 m1 d1 =>
    ⟨F1, ds, x1.le, d1, hc.mo _ _ _ (fun d q v F2 H2 x2 dd => q v F2 H2 (x1.tr x2.up0) (C.stay m1 x2) dd) q⟩) h⟩, mo_Call hc.mo ha.mo⟩
/-! ### own lists, read -/
def flat : D → Bool
  | .non => true
  | .bl _ => true
  | .int _ => true
  | .str _ => true
  | _ => false
theorem flat_dd {K : PySem.W.Frag} {F F' : Hp} {v : V} {d : D} (h : Dd K F v d) (f : flat d = true) : Dd K F' v d := by
  cases d with
  | non => cases h; exact .non
  | bl b => cases h; exact .bl _
  | int i => cases h; exact .int _
  | str s => cases h; exact .str _
  | _ => cases f
def uTmp (i : Nat) (u : TD) : TD := fun ρ n Q => match gt ρ i with
  | .o _ xs => u (st ρ i (.d (.lst xs))) n fun d m => flat d = true ∧ Q d m
  | _ => False
def uTmpB (i : Nat) (u : TDb) : TDb := fun ρ n Q => match gt ρ i with
  | .o _ xs => u (st ρ i (.d (.lst xs))) n Q
  | _ => False
theorem ue_tmp {i : Nat} (h : UE X C e u) : UE X C e (uTmp i u) := by
  refine ⟨PEw h.run fun σ H Q ⟨F, ρ, n, rel, q⟩ => ?_, fun ρ n P Q i w => ?_⟩
  · unfold uTmp at q
    cases e : gt ρ i with
    | o a xs =>
      rw [e] at q
      obtain ⟨F1, up, rel1, _⟩ := rel.freeze e
      refine ⟨F1, _, n, rel1, h.mo _ _ _ _ (fun d m q v F2 H2 x2 m2 d2 => q.2 v F H2 ⟨Le.rfl, (up.tr x2.up).tr x2.le, fun _ _ _ _ => Eq.refl _, x2.keep, x2.tk⟩ m2 (flat_dd d2 q.1)) q⟩
    | _ => rw [e] at q; exact q.elim
  · unfold uTmp at w ⊢
    split <;> rename_i e <;> simp only [e] at w
    · exact h.mo _ _ _ _ (fun d m q => ⟨q.1, i _ _ q.2⟩) w
theorem ut_tmp {i : Nat} {u : TDb} (h : UT X C e u) : UT X C e (uTmpB i u) := by
  refine ⟨PTw h.run fun σ H Q ⟨F, ρ, n, rel, q⟩ => ?_, fun ρ n P Q i w => ?_⟩
  · unfold uTmpB at q
    cases e : gt ρ i with
    | o a xs =>
      rw [e] at q
      obtain ⟨F1, up, rel1, _⟩ := rel.freeze e
      refine ⟨F1, _, n, rel1, h.mo _ _ _ _ (fun b m q F2 H2 x2 m2 => q F H2 ⟨Le.rfl, (up.tr x2.up).tr x2.le, fun _ _ _ _ => Eq.refl _, x2.keep, x2.tk⟩ m2) q⟩
    | _ => rw [e] at q; exact q.elim
  · unfold uTmpB at w ⊢
    split <;> rename_i e <;> simp only [e] at w
    · exact h.mo _ _ _ _ i w
end
end PU
set_option maxHeartbeats 2000000
namespace PU
open PySem PySem.Spec PyProof.Rows L2 HG

/-! ## statements over data -/
structure EndD where
  nx : List S → Nat → Prop
  rt : D → Nat → Prop
  bk : List S → Nat → Prop := fun _ _ => False
  ct : List S → Nat → Prop := fun _ _ => False
abbrev TDs := EndD → List S → Nat → Prop
structure EndOk (K : PySem.W.Frag) (C : Cn) (F : Hp) (E : EndD) (D : Ends) : Prop where
  nx : ∀ F' ρ n σ H, Le F F' → Rel K C F' ρ n σ H → E.nx ρ n → D.nx σ H
  rt : ∀ v d F' n H, Ex C.pol C.F0 C.H0 F' H → C.M n H → Dd K F' v d → E.rt d n → D.rt v H
  bk : ∀ F' ρ n σ H, Le F F' → Rel K C F' ρ n σ H → E.bk ρ n → D.bk σ H
  ct : ∀ F' ρ n σ H, Le F F' → Rel K C F' ρ n σ H → E.ct ρ n → D.ct σ H
theorem EndOk.le {K : PySem.W.Frag} {C : Cn} {F F' : Hp} {E : EndD} {D : Ends} (h : EndOk K C F E D) (l : Le F F') : EndOk K C F' E D :=
  ⟨fun G ρ n σ H m => h.nx G ρ n σ H (l.tr m), h.rt, fun G ρ n σ H m => h.bk G ρ n σ H (l.tr m), fun G ρ n σ H m => h.ct G ρ n σ H (l.tr m)⟩
def tS (K : PySem.W.Frag) (C : Cn) (w : TDs) : TS := fun D σ H => ∃ F ρ n E, Rel K C F ρ n σ H ∧ EndOk K C F E D ∧ w E ρ n
structure US (X : Cx) (C : Cn) (s : Stmt) (w : TDs) : Prop where
  run : PS X s (tS X.K C w)
structure USs (X : Cx) (C : Cn) (s : List Stmt) (w : TDs) : Prop where
  run : PSs X s (tS X.K C w)
theorem PSw {X : Cx} {e : Stmt} {t t' : TS} (h : PS X e t) (w : ∀ D σ H, t' D σ H → t D σ H) : PS X e t' := ⟨fun pins s σ H D I q => h.run pins s σ H D I (w _ _ _ q)⟩
theorem PSsw {X : Cx} {e : List Stmt} {t t' : TS} (h : PSs X e t) (w : ∀ D σ H, t' D σ H → t D σ H) : PSs X e t' := ⟨fun pins s σ H D I q => h.run pins s σ H D I (w _ _ _ q)⟩
section
variable {K : PySem.W.Frag} {C : Cn} {F : Hp} {ρ : List S} {n : Nat} {σ : L2.St} {H : Hp}
/-- an own list changes -/
theorem Rel.mutO {i : Nat} {a : Addr} {xs ys : List D} {vs : List V} (r : Rel K C F ρ n σ H) (e : gt ρ i = .o a xs) (h : DdA K F vs ys) : Rel K C F (st ρ i (.o a ys)) n σ (upd H a (.lst vs)) := by
  have mem : a ∈ owns ρ := owns_mem.mpr ⟨i, by rw [e]; simp [own1]⟩
  obtain ⟨o1, o2, o3, o4⟩ := r.own a mem
  have q := r.sl i
  rw [e] at q
  obtain ⟨e1, _⟩ := q
  have hi := getD_lt e (fun z => nomatch z)
  obtain ⟨_, ws, e2, _⟩ : (σ.getD i none = some (.ref a)) ∧ ∃ vs, H a = some (.lst vs) ∧ DdA K F vs xs := by
    have q := r.sl i
    rw [e] at q
    exact q
  refine ⟨⟨r.x.up, r.x.le.updR o1, r.x.new, r.x.keep.mut o4, fun lm b ps q => by rw [upd_ne (fun z => by have w := r.x.tk lm b ps q; rw [z, e2] at w; cases w)]; exact r.x.tk lm b ps q⟩,
    C.kp n H _ (fun b o e3 m => by rw [upd_ne (fun z => by subst z; rcases m with m | m; exact o2 m; rw [e2] at e3; cases e3; exact m.1 _ rfl)]; exact e3) r.m, by rw [st_length]; exact r.len, fun j => ?_, r.apart.st (fun b m => .inl (by rw [e]; exact m)), fun b m => ?_⟩
  · rw [gt_st]
    by_cases z : j = i ∧ i < ρ.length
    · rw [if_pos z, z.1]
      exact ⟨e1, vs, upd_same, h⟩
    · rw [if_neg z]
      refine (r.sl j).step Le.rfl fun b m => upd_ne fun w => z ⟨r.apart j i b m (by rw [e, w]; simp [own1]), hi⟩
  · obtain ⟨j, m⟩ := owns_mem.mp m
    rw [gt_st] at m
    by_cases z : j = i ∧ i < ρ.length
    · rw [if_pos z] at m
      rw [show b = a by simpa [own1] using m]
      exact ⟨o1, o2, o3, o4⟩
    · rw [if_neg z] at m
      exact r.own b (owns_mem.mpr ⟨j, m⟩)
/-- a new list of one's own in a slot; a: its address, not frozen -/
theorem Rel.setO {i : Nat} {a : Addr} {xs : List D} {vs : List V} (r : Rel K C F ρ n σ H) (sub : ∀ b ∈ C.pol.ex, b ∈ C.dx) {H1 : Hp} (old : Fr0 H1 a) (k1 : KeepW C.pol.ex C.H0 H1) (m1 : ∃ n, C.M n H1) (ow : ∀ b ∈ owns ρ, ∃ o, H1 b = some o ∧ NTb o)
    (nf : Fr0 F a) (at_ : H a = some (.lst vs)) (h : DdA K F vs xs) : Rel K C F (st ρ i (.o a xs)) n (σ.set i (some (.ref a))) H := by
  refine r.set ⟨Eq.refl _, vs, at_, h⟩ fun b m => ?_
  rw [show b = a by simpa [own1] using m]
  have no : ∀ b, (∃ o, H1 b = some o ∧ NTb o) → b ≠ a := fun b ⟨o, e, t⟩ z => by
    subst z
    obtain ⟨ps, w⟩ := old o e
    exact t ps w
  have nd : a ∉ C.dx := fun z => by
    obtain ⟨n1, m1⟩ := m1
    exact no a (C.dm n1 H1 m1 a z) rfl
  refine ⟨.inr fun z => no a (ow a z) rfl, nf, nd, fun z => nd (sub a z), fun o e => ?_⟩
  by_cases t : ∃ ps, o = .tbl ps
  · exact t
  · obtain ⟨o', e', t'⟩ := k1.dom a o e fun ps z => t ⟨ps, z⟩
    exact absurd rfl (no a ⟨o', e', t'⟩)
end
/-! ### new lists -/
abbrev TDl := List S → Nat → (List D → Nat → Prop) → Prop
def tL (K : PySem.W.Frag) (C : Cn) (u : TDl) : TE := fun σ H Q => ∃ F ρ n, Rel K C F ρ n σ H ∧ u ρ n fun ds m => ∀ a vs F' H', Ex C.pol F H F' H' → C.M m H' → Fr0 H a → Fr0 F' a → H' a = some (.lst vs) → DdA K F' vs ds → Q (.ref a) H'
structure UL (X : Cx) (C : Cn) (e : Expr) (u : TDl) : Prop where
  run : PE X e (tL X.K C u)
  mo : Mo u
/-- what is needed of the ghost -/
structure Cn.Ok (C : Cn) : Prop where
  sub : ∀ b ∈ C.pol.ex, b ∈ C.dx
  fx : ∀ b ∈ C.pol.ex, Fr0 C.F0 b
  tr : ∀ b ∈ C.pol.ex, ∃ o, C.H0 b = some o ∧ NTb o
theorem Cn.Ok.fr {C : Cn} (ok : C.Ok) {F H : Hp} (x : Ex C.pol C.F0 C.H0 F H) : ∀ b ∈ C.pol.ex, Fr0 F b := fun b m o e => by
  obtain ⟨u, hu, t⟩ := ok.tr b m
  rw [x.new b u hu t] at e
  exact ok.fx b m o e
section
variable {X : Cx} {C : Cn} {e : Expr} {es : List Expr} {u : TD} {us : TDa} {ul : TDl} {pos : Pos}
def uOfL (ul : TDl) : TD := fun ρ n Q => ul ρ n fun ds m => Q (.lst ds) m
theorem UL.ue (h : UL X C e ul) : UE X C e (uOfL ul) := by
  refine ⟨PEw h.run fun σ H Q ⟨F, ρ, n, rel, q⟩ => ⟨F, ρ, n, rel, h.mo _ _ _ _ (fun ds m q a vs F1 H1 x1 m1 o1 o2 o3 d1 => ?_) q⟩, fun ρ n P Q i w => h.mo _ _ _ _ (fun ds m => i _ m) w⟩
  exact q (.ref a) (upd F1 a (.lst vs)) H1 (x1.frz o1 o2 o3) m1 (dd_lstN d1 o2)
def uLstL (us : TDa) : TDl := fun ρ n Q => us ρ n fun ds m => ds.length ≤ sizeLine ∧ Q ds m
theorem ul_lst (h : UA X C es us) : UL X C (.List es pos) (uLstL us) :=
  ⟨PEw (pe_lst h.run) fun σ H Q ⟨F, ρ, n, rel, q⟩ => ⟨F, ρ, n, rel, h.mo _ _ _ _ (fun ds m q vs F1 H1 x1 m1 d1 => ⟨by rw [d1.length]; exact q.1, fun p np =>
    q.2 _ vs F1 _ (x1.tr (Ex.newO x1.le np)) (C.stay m1 (Ex.newO x1.le np)) (x1.keep.none np) (x1.le.fr (fr0_none np)) upd_same d1⟩) q⟩, fun ρ n P Q i w => h.mo _ _ _ _ (fun d m q => ⟨q.1, i _ _ q.2⟩) w⟩

/-! ### blocks -/
variable {s : Stmt} {rest ss ss' : List Stmt} {w w' : TDs}
def uNext : TDs := fun E ρ n => E.nx ρ n
def uSeq (w w' : TDs) : TDs := fun E ρ n => w { E with nx := fun ρ' n' => w' E ρ' n' } ρ n
theorem us_nil : USs X C [] uNext := ⟨PSsw pss_nil fun D σ H ⟨F, ρ, n, E, rel, ok, q⟩ => ok.nx F ρ n σ H Le.rfl rel q⟩
theorem us_one (h : US X C s w) : USs X C [s] w := ⟨pss_one h.run⟩
theorem us_cons (h : US X C s w) (h' : USs X C rest w') : USs X C (s :: rest) (uSeq w w') :=
  ⟨PSsw (pss_cons h.run h'.run) fun D σ H ⟨F, ρ, n, E, rel, ok, q⟩ => ⟨F, ρ, n, { E with nx := fun ρ' n' => w' E ρ' n' }, rel,
    ⟨fun F' ρ' n' σ' H' l r q => ⟨F', ρ', n', E, r, ok.le l, q⟩, ok.rt, ok.bk, ok.ct⟩, q⟩⟩
def uBreak : TDs := fun E ρ n => E.bk ρ n
def uCont : TDs := fun E ρ n => E.ct ρ n
theorem us_pass : US X C (.Pass pos) uNext := ⟨PSw ps_pass fun D σ H ⟨F, ρ, n, E, rel, ok, q⟩ => ok.nx F ρ n σ H Le.rfl rel q⟩
theorem us_break : US X C (.Break pos) uBreak := ⟨PSw ps_break fun D σ H ⟨F, ρ, n, E, rel, ok, q⟩ => ok.bk F ρ n σ H Le.rfl rel q⟩
theorem us_continue : US X C (.Continue pos) uCont := ⟨PSw ps_continue fun D σ H ⟨F, ρ, n, E, rel, ok, q⟩ => ok.ct F ρ n σ H Le.rfl rel q⟩
theorem us_doc {x j pos pos'} : US X C (.Expr (.Constant (.str x) j pos) pos') uNext := ⟨PSw ps_doc fun D σ H ⟨F, ρ, n, E, rel, ok, q⟩ => ok.nx F ρ n σ H Le.rfl rel q⟩
def uDrop (u : TD) : TDs := fun E ρ n => u ρ n fun _ m => E.nx ρ m
theorem us_expr (h : UE X C e u) (hs : swapsWith e none pos.line X.env = pure false := by rfl) : US X C (.Expr e pos) (uDrop u) :=
  ⟨PSw (ps_expr h.run hs) fun D σ H ⟨F, ρ, n, E, rel, ok, q⟩ => ⟨F, ρ, n, rel, h.mo _ _ _ _ (fun d m q v F1 H1 x1 m1 d1 => ok.nx F1 ρ m σ H1 x1.up (rel.stepG x1 m1) q) q⟩⟩
def uRet (u : TD) : TDs := fun E ρ n => u ρ n E.rt
theorem us_ret (h : UE X C e u) : US X C (.Return (some e) pos) (uRet u) :=
  ⟨PSw (ps_ret h.run) fun D σ H ⟨F, ρ, n, E, rel, ok, q⟩ => ⟨F, ρ, n, rel, h.mo _ _ _ _ (fun d m q v F1 H1 x1 m1 d1 => ok.rt v d F1 m H1 (rel.x.tr x1) m1 d1 q) q⟩⟩
def uRetN : TDs := fun E _ n => E.rt .non n
theorem us_retN : US X C (.Return none pos) uRetN := ⟨PSw ps_retN fun D σ H ⟨F, ρ, n, E, rel, ok, q⟩ => ok.rt .non .non F n H rel.x rel.m .non q⟩
def uIfS (t : TDb) (w w' : TDs) : TDs := fun E ρ n => t ρ n fun b m => if b = true then w E ρ m else w' E ρ m
theorem us_if {c : Expr} {t : TDb} (hc : UT X C c t) (ha : USs X C ss w) (hb : USs X C ss' w') : US X C (.If c ss ss' pos) (uIfS t w w') := by
  refine ⟨PSw (ps_if hc.run ha.run hb.run) fun D σ H ⟨F, ρ, n, E, rel, ok, q⟩ => ⟨F, ρ, n, rel, hc.mo _ _ _ _ (fun b m q F1 H1 x1 m1 => ?_) q⟩⟩
  by_cases z : b = true
  · rw [if_pos z] at q ⊢
    exact ⟨F1, ρ, m, E, rel.stepG x1 m1, ok.le x1.up, q⟩
  · rw [if_neg z] at q ⊢
    exact ⟨F1, ρ, m, E, rel.stepG x1 m1, ok.le x1.up, q⟩
def uNever : TDs := fun _ _ _ => False
theorem us_never : US X C s uNever := ⟨PSw ps_never fun D σ H ⟨F, ρ, n, E, rel, ok, q⟩ => q⟩
theorem uss_never : USs X C ss uNever := ⟨PSsw pss_never fun D σ H ⟨F, ρ, n, E, rel, ok, q⟩ => q⟩
/-- slot i, an own list, is frozen ahead of the statement -/
def uFrz (i : Nat) (w : TDs) : TDs := fun E ρ n => match gt ρ i with
  | .o _ xs => w E (st ρ i (.d (.lst xs))) n
  | _ => False
theorem us_frz (i : Nat) (h : US X C s w) : US X C s (uFrz i w) := by
  refine ⟨PSw h.run fun D σ H ⟨F, ρ, n, E, rel, ok, q⟩ => ?_⟩
  unfold uFrz at q
  cases e : gt ρ i with
  | o a xs =>
    rw [e] at q
    obtain ⟨F1, up, rel1, _⟩ := rel.freeze e
    exact ⟨F1, _, n, E, rel1, ok.le up, q⟩
  | _ => rw [e] at q; exact q.elim
/-- what is no longer of use is forgotten ahead of the statement -/
def uForget (i : Nat) (w : TDs) : TDs := fun E ρ n => w E (st ρ i .u) n
theorem us_forget (i : Nat) (h : US X C s w) : US X C s (uForget i w) :=
  ⟨PSw h.run fun D σ H ⟨F, ρ, n, E, rel, ok, q⟩ => ⟨F, _, n, E, rel.drop, ok, q⟩⟩
/-! ### assignments -/
def uSet (i : Nat) (u : TD) : TDs := fun E ρ n => u ρ n fun d m => E.nx (st ρ i (.d d)) m
theorem us_set {i : Nat} {x : Str} {pos' : Pos} (he : UE X C e u) (hN : X.N.Nodup) (hi : X.N[i]? = some x := by rfl) (hx : Loc X.env.scope x := by first | exact .inl rfl | exact .inr rfl) (hs : swapsWith e (some (.Name x pos')) pos.line X.env = pure false := by rfl)
    (hf : X.fn x = true ∨ X.env.scope.names.lookup x = some .local := by first | exact .inl rfl | exact .inr rfl) : US X C (.Assign [.Name x pos'] e pos) (uSet i u) :=
  ⟨PSw (ps_set hN hi hx he.run hs hf) fun D σ H ⟨F, ρ, n, E, rel, ok, q⟩ => ⟨F, ρ, n, rel, he.mo _ _ _ _ (fun d m q v F1 H1 x1 m1 d1 => ok.nx F1 _ m _ H1 x1.up ((rel.stepG x1 m1).setD d1) q) q⟩⟩
def uSetO (i : Nat) (u : TDl) : TDs := fun E ρ n => u ρ n fun ds m => ∀ a, E.nx (st ρ i (.o a ds)) m
theorem us_setO {i : Nat} {x : Str} {pos' : Pos} (hc : C.Ok) (he : UL X C e ul) (hN : X.N.Nodup) (hi : X.N[i]? = some x := by rfl) (hx : Loc X.env.scope x := by first | exact .inl rfl | exact .inr rfl) (hs : swapsWith e (some (.Name x pos')) pos.line X.env = pure false := by rfl)
    (hf : X.fn x = true ∨ X.env.scope.names.lookup x = some .local := by first | exact .inl rfl | exact .inr rfl) : US X C (.Assign [.Name x pos'] e pos) (uSetO i ul) :=
  ⟨PSw (ps_set hN hi hx he.run hs hf) fun D σ H ⟨F, ρ, n, E, rel, ok, q⟩ => ⟨F, ρ, n, rel, he.mo _ _ _ _ (fun ds m q a vs F1 H1 x1 m1 o1 o2 o3 d1 => ok.nx F1 _ m _ H1 x1.up
    ((rel.stepG x1 m1).setO hc.sub o1 rel.x.keep ⟨n, rel.m⟩ (fun b z => rel.ownAt z) o2 o3 d1) (q a)) q⟩⟩
abbrev TDg := D → List S → (List S → Prop) → Prop
abbrev TDgs := List D → List S → (List S → Prop) → Prop
/-- but for the slots ids the same -/
def But (ids : List Nat) (σ σ' : L2.St) : Prop := σ'.length = σ.length ∧ ∀ j, j ∉ ids → σ'[j]? = σ[j]?
theorem But.rfl {ids : List Nat} {σ : L2.St} : But ids σ σ := ⟨Eq.refl _, fun _ _ => Eq.refl _⟩
theorem But.tr {a b : List Nat} {σ σ' σ2 : L2.St} (h : But a σ σ') (h' : But b σ' σ2) : But (a ++ b) σ σ2 :=
  ⟨h'.1.trans h.1, fun j n => (h'.2 j fun z => n (List.mem_append_right _ z)).trans (h.2 j fun z => n (List.mem_append_left _ z))⟩
def tG (K : PySem.W.Frag) (C : Cn) (ids : List Nat) (g : TDg) : TG := fun v σ H Q => ∃ F ρ n d, Rel K C F ρ n σ H ∧ Dd K F v d ∧ g d ρ fun ρ' => ∀ σ', Rel K C F ρ' n σ' H → But ids σ σ' → Q σ' H
def tGs (K : PySem.W.Frag) (C : Cn) (ids : List Nat) (g : TDgs) : TGs := fun vs σ H Q => ∃ F ρ n ds, Rel K C F ρ n σ H ∧ DdA K F vs ds ∧ g ds ρ fun ρ' => ∀ σ', Rel K C F ρ' n σ' H → But ids σ σ' → Q σ' H
def MoG (g : TDg) : Prop := ∀ d ρ (P Q : List S → Prop), (∀ ρ', P ρ' → Q ρ') → g d ρ P → g d ρ Q
def MoGs (g : TDgs) : Prop := ∀ d ρ (P Q : List S → Prop), (∀ ρ', P ρ' → Q ρ') → g d ρ P → g d ρ Q
structure UG (X : Cx) (C : Cn) (tg : Expr) (ids : List Nat) (g : TDg) : Prop where
  run : PG X tg (tG X.K C ids g)
  mo : MoG g
structure UGs (X : Cx) (C : Cn) (tg : List Expr) (ids : List Nat) (g : TDgs) : Prop where
  run : PGs X tg (tGs X.K C ids g)
  mo : MoGs g
theorem PGw {X : Cx} {e : Expr} {t t' : TG} (h : PG X e t) (w : ∀ v σ H Q, t' v σ H Q → t v σ H Q) : PG X e t' := ⟨fun pins s σ H v u Q I r q => h.run pins s σ H v u Q I r (w _ _ _ _ q)⟩
theorem PGsw {X : Cx} {e : List Expr} {t t' : TGs} (h : PGs X e t) (w : ∀ v σ H Q, t' v σ H Q → t v σ H Q) : PGs X e t' := ⟨fun pins s σ H v u Q I r q => h.run pins s σ H v u Q I r (w _ _ _ _ q)⟩
def uGn (i : Nat) : TDg := fun d ρ Q => Q (st ρ i (.d d))
theorem ug_name {i : Nat} {x : Str} (hN : X.N.Nodup) (hi : X.N[i]? = some x := by rfl) (hx : Loc X.env.scope x := by first | exact .inl rfl | exact .inr rfl) (hf : X.fn x = true ∨ X.env.scope.names.lookup x = some .local := by first | exact .inl rfl | exact .inr rfl) : UG X C (.Name x pos) [i] (uGn i) :=
  ⟨PGw (pg_name hN hi hx hf) fun v σ H Q ⟨F, ρ, n, d, rel, dd, q⟩ => q _ (rel.setD dd) ⟨by simp, fun j nj => by rw [List.getElem?_set_ne]; exact fun z => nj (by simp [z])⟩, fun d ρ P Q h => h _⟩
def uG0 : TDgs := fun ds ρ Q => match ds with
  | [] => Q ρ
  | _ => False
def uG1 (g : TDg) (gs : TDgs) : TDgs := fun ds ρ Q => match ds with
  | d :: r => g d ρ fun ρ' => gs r ρ' Q
  | [] => False
theorem ug_nil : UGs X C [] [] uG0 := by
  refine ⟨PGsw pgs_nil fun v σ H Q ⟨F, ρ, n, d, rel, dd, q⟩ => ?_, fun d ρ P Q h => by cases d <;> first | exact h _ | exact fun z => z⟩
  cases dd with
  | nil => exact ⟨rfl, q _ rel But.rfl⟩
  | cons _ _ => exact q.elim
theorem ug_cons {es : List Expr} {g : TDg} {gs : TDgs} {i1 i2 : List Nat} (h1 : UG X C e i1 g) (h2 : UGs X C es i2 gs) (hs : (assignEach (e :: es) X.env).map (·.2) = assign e X.env :: (assignEach es X.env).map (·.2) := by rfl) : UGs X C (e :: es) (i1 ++ i2) (uG1 g gs) := by
  refine ⟨PGsw (pgs_cons h1.run h2.run hs) fun v σ H Q ⟨F, ρ, n, d, rel, dd, q⟩ => ?_, fun d ρ P Q h => ?_⟩
  · cases dd with
    | nil => exact q.elim
    | cons a b => exact ⟨_, _, rfl, F, ρ, n, _, rel, a, h1.mo _ _ _ _ (fun ρ' q σ' r' b1 => ⟨F, ρ', n, _, r', b, h2.mo _ _ _ _ (fun ρ2 q σ2 r2 b2 => q σ2 r2 (b1.tr b2)) q⟩) q⟩
  · cases d with
    | nil => exact fun z => z
    | cons a b => exact h1.mo _ _ _ _ fun ρ' => h2.mo _ _ _ _ h
def uGt (k : Nat) (gs : TDgs) : TDg := fun d ρ Q => match d with
  | .tup ds => ds.length = k ∧ gs ds ρ Q
  | _ => False
theorem ug_tup {es : List Expr} {j k : Nat} {gs : TDgs} {ids : List Nat} (h : UGs X C es ids gs) (hc : X.calm = true := by rfl) (hn : (assignEach es X.env).length = k := by rfl) (hst : (assignEach es X.env).findIdx? (·.1) = none := by rfl) : UG X C (.Tuple es j pos) ids (uGt k gs) := by
  refine ⟨PGw (pg_tup hc h.run hn hst) fun v σ H Q ⟨F, ρ, n, d, rel, dd, q⟩ => ?_, fun d ρ P Q i => ?_⟩
  · cases dd with
    | tup hq ha => exact ⟨_, _, rfl, SqT.le rel.le hq, by rw [ha.length]; exact q.1, F, ρ, n, _, rel, ha, q.2⟩
    | _ => exact q.elim
  · cases d <;> first | exact fun z => z | exact fun z => ⟨z.1, h.mo _ _ _ _ i z.2⟩
def uAsg (u : TD) (g : TDg) : TDs := fun E ρ n => u ρ n fun d m => g d ρ fun ρ' => E.nx ρ' m
theorem us_asg {tg : Expr} {g : TDg} {ids : List Nat} (he : UE X C e u) (hg : UG X C tg ids g) (hs : swapsWithSole [tg] e pos.line X.env = pure false := by rfl) (hw : swappedStores [tg] e X.env = pure none := by rfl)
    (h1 : (assignEach [tg] X.env).map (·.2) = [assign tg X.env] := by rfl) : US X C (.Assign [tg] e pos) (uAsg u g) :=
  ⟨PSw (ps_asg he.run hg.run hs hw h1) fun D σ H ⟨F, ρ, n, E, rel, ok, q⟩ => ⟨F, ρ, n, rel, he.mo _ _ _ _ (fun d m q v F1 H1 x1 m1 d1 => ⟨F1, ρ, m, d, rel.stepG x1 m1, d1, hg.mo _ _ _ _ (fun ρ' q σ' r' _ => ok.nx F1 ρ' m σ' H1 x1.up r' q) q⟩) q⟩⟩
def uPar (i j : Nat) (us : TDa) : TDs := fun E ρ n => us ρ n fun ds m => match ds with
  | [a, b] => E.nx (st (st ρ i (.d a)) j (.d b)) m
  | _ => False
theorem us_par {i j : Nat} {x y : Str} {a b : Expr} {px py pt : Pos} {kt k2 pt2} (ha : UA X C [a, b] us) (hN : X.N.Nodup) (hc : X.calm = true := by rfl) (hi : X.N[i]? = some x := by rfl) (hj : X.N[j]? = some y := by rfl) (hij : i ≠ j := by decide)
    (hx : X.env.scope.names.lookup x = some .local := by rfl) (hy : X.env.scope.names.lookup y = some .local := by rfl)
    (hw : swappedStores [.Tuple [.Name x px, .Name y py] kt pt] (.Tuple [a, b] k2 pt2) X.env = pure (some [x, y]) := by rfl)
    (hs : swapsWithSole [.Tuple [.Name x px, .Name y py] kt pt] (.Tuple [a, b] k2 pt2) pos.line X.env = pure false := by rfl) :
    US X C (.Assign [.Tuple [.Name x px, .Name y py] kt pt] (.Tuple [a, b] k2 pt2) pos) (uPar i j us) := by
  refine ⟨PSw (ps_par hc hN hi hj hij hx hy ha.run hw hs) fun D σ H ⟨F, ρ, n, E, rel, ok, q⟩ => ⟨F, ρ, n, rel, ha.mo _ _ _ _ (fun ds m q vs F1 H1 x1 m1 d1 => ?_) q⟩⟩
  match ds, d1, q with
  | [d, d'], .cons a1 (.cons a2 .nil), q => exact ⟨_, _, rfl, ok.nx F1 _ m _ H1 x1.up (((rel.stepG x1 m1).setD a1).setD a2) q⟩
def uPar3 (i j l : Nat) (us : TDa) : TDs := fun E ρ n => us ρ n fun ds m => match ds with
  | [a, b, c] => E.nx (st (st (st ρ i (.d a)) j (.d b)) l (.d c)) m
  | _ => False
def uAug (i : Nat) (r : D → D → (D → Prop) → Prop) (u : TD) : TDs := fun E ρ n => match gt ρ i with
  | .d x => u ρ n fun d m => r x d fun z => E.nx (st ρ i (.d z)) m
  | _ => False
structure IpD (X : Cx) (op : Operator) (r : D → D → (D → Prop) → Prop) : Prop where
  mo : MoR r
  run : PIp X op fun x y H Q => ∃ F dx dy, Le F H ∧ Dd X.K F x dx ∧ Dd X.K F y dy ∧ r dx dy fun d => ∀ v F' H', Ex p0 F H F' H' → Dd X.K F' v d → Q v H'
theorem us_aug {i : Nat} {x : Str} {op : Operator} {r : D → D → (D → Prop) → Prop} {pos' : Pos} (ho : IpD X op r) (he : UE X C e u) (hN : X.N.Nodup) (hi : X.N[i]? = some x := by rfl) (hx : Loc X.env.scope x := by first | exact .inl rfl | exact .inr rfl)
    (hf : X.fn x = true ∨ X.env.scope.names.lookup x = some .local := by first | exact .inl rfl | exact .inr rfl) : US X C (.AugAssign (.Name x pos') op e pos) (uAug i r u) := by
  refine ⟨PSw (ps_aug hN hi hx he.run ho.run hf) fun D σ H ⟨F, ρ, n, E, rel, ok, q⟩ => ?_⟩
  unfold uAug at q
  have s := rel.sl i
  cases e : gt ρ i with
  | d x =>
    rw [e] at q s
    obtain ⟨y, e2, dd⟩ := s
    exact ⟨y, getD_some e2, F, ρ, n, rel, he.mo _ _ _ _ (fun d m q v F1 H1 x1 m1 d1 => ⟨F1, x, d, x1.le, dd.le x1.up, d1, ho.mo _ _ _ _ (fun z q w F2 H2 x2 d2 => ok.nx F2 _ m _ H2 (x1.up.tr x2.up) (((rel.stepG x1 m1).step x2).setD d2) q) q⟩) q⟩
  | _ => rw [e] at q; exact q.elim
/-! ### append to an own list -/
def uApp (i : Nat) (u : TD) : TDs := fun E ρ n => match gt ρ i with
  | .o a xs => u ρ n fun d m => xs.length < sizeLine ∧ E.nx (st ρ i (.o a (xs ++ [d]))) m
  | _ => False
theorem us_app {i : Nat} {x : Str} {px ax cx : Pos} (he : UE X C e u) (hN : X.N[i]? = some x := by rfl) (hv : Vis X.env.scope x := by first | exact .inl rfl | exact .inr (.inl rfl) | exact .inr (.inr rfl)) (hd : (x == ("__debug__" : Str)) = false := by decide) (hcd : (x == ("__classdict__" : Str)) = false := by decide)
    (hbase : attributeBase (.Name x px) "append" X.env (eval (.Name x px) X.env) = eval (.Name x px) X.env := by rfl)
    (hfew : ((backTo cx (starEach [e] X.env)).all (fun x => !x.1) && (backToKw cx (keywordEach [] X.env)).all (fun x => x.1.isSome)
      && decide ([e].length + ([] : List Keyword).length + (if ([] : List Keyword).isEmpty then 0 else 1) < 30)) = true := by rfl)
    (hline : (ax.endLine == cx.line) = true := by rfl) (h1 : starEach [e] X.env = (false, eval e X.env) :: starEach [] X.env := by rfl) (hplain : (backTo cx (starEach [] X.env)).any (·.1) = false := by rfl)
    (hs : swapsWith (.Call (.Attribute (.Name x px) "append" ax) [e] [] cx) none pos.line X.env = pure false := by rfl) : US X C (.Expr (.Call (.Attribute (.Name x px) "append" ax) [e] [] cx) pos) (uApp i u) := by
  refine ⟨PSw (ps_expr (pe_bm PySem.F.plainAttrs_list PySem.F.slot_list_append PySem.F.type_list_append mt_append (pe_var (i := i) hN hv hd hcd) (pa_cons he.run pa_nil h1) hbase hfew hline h1 hplain) hs) fun D σ H ⟨F, ρ, n, E, rel, ok, q⟩ => ?_⟩
  unfold uApp at q
  have s := rel.sl i
  cases e : gt ρ i with
  | o a xs =>
    rw [e] at q s
    obtain ⟨e2, vs, e3, e4⟩ := s
    refine ⟨.ref a, getD_some e2, .inl ⟨rfl, _, SqL.of e3⟩, F, ρ, n, rel, he.mo _ _ _ _ (fun d m q v F1 H1 x1 m1 d1 => ?_) q⟩
    have r1 := rel.stepG x1 m1
    have s1 := r1.sl i
    rw [e] at s1
    obtain ⟨_, vs1, e5, e6⟩ := s1
    refine ⟨a, vs1, v, rfl, rfl, e5, by rw [e6.length]; exact q.1, ok.nx F1 _ m _ _ x1.up ?_ q.2⟩
    exact r1.mutO e (e6.append (.cons d1 .nil))
  | _ => rw [e] at q; exact q.elim
/-- x = xs.pop(), xs.pop(): the last one of an own list -/
def uPopS (i j : Nat) : TDs := fun E ρ n => match gt ρ i with
  | .o a xs => ∃ ys y, xs = ys ++ [y] ∧ E.nx (st (st ρ i (.o a ys)) j (.d y)) n
  | _ => False
theorem dda_snoc {K : PySem.W.Frag} {F : Hp} {ys : List D} {y : D} {vs : List V} (h : DdA K F vs (ys ++ [y])) : ∃ ws w, vs = ws ++ [w] ∧ DdA K F ws ys ∧ Dd K F w y := by
  induction ys generalizing vs with
  | nil =>
    cases h with
    | cons a b => cases b; exact ⟨[], _, rfl, .nil, a⟩
  | cons z r ih =>
    cases h with
    | cons a b =>
      obtain ⟨ws, w, rfl, h1, h2⟩ := ih b
      exact ⟨_ :: ws, w, rfl, .cons a h1, h2⟩
theorem us_pop {i j : Nat} {x y : Str} {px ax cx py : Pos} (hN : X.N.Nodup) (hi : X.N[i]? = some x := by rfl) (hj : X.N[j]? = some y := by rfl) (hv : Vis X.env.scope x := by first | exact .inl rfl | exact .inr (.inl rfl) | exact .inr (.inr rfl)) (hd : (x == ("__debug__" : Str)) = false := by decide) (hcd : (x == ("__classdict__" : Str)) = false := by decide)
    (hy : Loc X.env.scope y := by first | exact .inl rfl | exact .inr rfl) (hbase : attributeBase (.Name x px) "pop" X.env (eval (.Name x px) X.env) = eval (.Name x px) X.env := by rfl) (hline : (ax.endLine == cx.line) = true := by rfl)
    (hs : swapsWith (.Call (.Attribute (.Name x px) "pop" ax) [] [] cx) (some (.Name y py)) pos.line X.env = pure false := by rfl) (hf : X.fn y = true ∨ X.env.scope.names.lookup y = some .local := by first | exact .inl rfl | exact .inr rfl) :
    US X C (.Assign [.Name y py] (.Call (.Attribute (.Name x px) "pop" ax) [] [] cx) pos) (uPopS i j) := by
  refine ⟨PSw (ps_set hN hj hy (pe_bm0 PySem.F.plainAttrs_list PySem.F.slot_list_pop PySem.F.type_list_pop mt_pop (pe_var (i := i) hi hv hd hcd) hbase hline) hs hf) fun D σ H ⟨F, ρ, n, E, rel, ok, q⟩ => ?_⟩
  unfold uPopS at q
  have s := rel.sl i
  cases e : gt ρ i with
  | o a xs =>
    rw [e] at q s
    obtain ⟨e2, vs, e3, e4⟩ := s
    obtain ⟨ys, y, rfl, q⟩ := q
    obtain ⟨ws, w, rfl, h1, h2⟩ := dda_snoc e4
    refine ⟨.ref a, getD_some e2, .inl ⟨rfl, _, SqL.of e3⟩, a, _, w, rfl, rfl, e3, by simp, ?_⟩
    rw [List.dropLast_concat]
    exact ok.nx F _ n _ _ Le.rfl ((rel.mutO e h1).setD h2) q
  | _ => rw [e] at q; exact q.elim
/-- xs[k] of an own list -/
def uIxO (i : Nat) (u : TD) : TD := fun ρ n Q => match gt ρ i with
  | .o _ xs => u ρ n fun d m => match d with
    | .int k => match atI xs k with
      | some y => Q y m
      | none => False
    | _ => False
  | _ => False
theorem DdA.atI {K : PySem.W.Frag} {F : Hp} {vs : List V} {ds : List D} {k : Int} {d : D} (h : DdA K F vs ds) (e : atI ds k = some d) : ∃ v, L2.atI vs k = some v ∧ Dd K F v d := by
  unfold L2.atI at e ⊢
  rw [← h.length] at e
  cases q : ixN vs.length k with
  | none => rw [q] at e; cases e
  | some j =>
    rw [q] at e
    exact h.get' e
theorem ue_ixO {i : Nat} {x : Str} {px : Pos} (he : UE X C e u) (hN : X.N[i]? = some x := by rfl) (hv : Vis X.env.scope x := by first | exact .inl rfl | exact .inr (.inl rfl) | exact .inr (.inr rfl)) (hd : (x == ("__debug__" : Str)) = false := by decide) (hcd : (x == ("__classdict__" : Str)) = false := by decide)
    (hp : PlainIx e := by exact fun _ _ => rfl) : UE X C (.Subscript (.Name x px) e pos) (uIxO i u) := by
  refine ⟨PEw (pe_ix ix_list (pe_var (i := i) hN hv hd hcd) he.run hp) fun σ H Q ⟨F, ρ, n, rel, q⟩ => ?_, fun ρ n P Q i w => ?_⟩
  · unfold uIxO at q
    have s := rel.sl i
    cases e : gt ρ i with
    | o a xs =>
      rw [e] at q s
      obtain ⟨e2, vs, e3, e4⟩ := s
      refine ⟨.ref a, getD_some e2, F, ρ, n, rel, he.mo _ _ _ _ (fun d m q v F1 H1 x1 m1 d1 => ?_) q⟩
      have r1 := rel.stepG x1 m1
      have s1 := r1.sl i
      rw [e] at s1
      obtain ⟨_, vs1, e5, e6⟩ := s1
      cases d with
      | int k =>
        cases d1
        dsimp only at q
        cases z : atI xs k with
        | none => rw [z] at q; exact q.elim
        | some y =>
          rw [z] at q
          obtain ⟨w, h1, h2⟩ := e6.atI z
          exact ⟨a, vs1, k, w, rfl, rfl, SqL.of e5, h1, q w F1 H1 x1 m1 h2⟩
      | _ => exact q.elim
    | _ => rw [e] at q; exact q.elim
  · unfold uIxO at w ⊢
    split <;> rename_i e <;> simp only [e] at w
    · refine he.mo _ _ _ _ (fun d m q => ?_) w
      cases d with
      | int k =>
        dsimp only at q ⊢
        split <;> rename_i z <;> simp only [z] at q
        · exact i _ _ q
      | _ => exact q
/-! ### for, while -/
abbrev TDi := List S → Nat → (List D → Nat → Prop) → Prop
/-- the iterator J gives the things ds -/
def WalkD (K : PySem.W.Frag) (J : It) (F : Hp) (ds : List D) : Prop := ∃ (G : Hp → Prop) (Y : Nat → Hp → V → Hp → Prop), Walk J ds.length G Y ∧ (∀ H, Le F H → G H) ∧
  ∀ i H x H' F1, Le F F1 → Le F1 H → Y i H x H' → ∃ F2 d, ds[i]? = some d ∧ Ex p0 F1 H F2 H' ∧ Dd K F2 x d
def tI (K : PySem.W.Frag) (C : Cn) (u : TDi) : TI := fun σ H R => ∃ F ρ n, Rel K C F ρ n σ H ∧ u ρ n fun ds m => ∀ J F' H', Ex C.pol F H F' H' → C.M m H' → WalkD K J F' ds → R J H'
structure UI (X : Cx) (C : Cn) (tg it : Expr) (u : TDi) : Prop where
  run : PI X tg it (tI X.K C u)
  mo : Mo u
theorem PIw {X : Cx} {tg e : Expr} {t t' : TI} (h : PI X tg e t) (w : ∀ σ H Q, t' σ H Q → t σ H Q) : PI X tg e t' := ⟨fun pins s σ H R I q => h.run pins s σ H R I (w _ _ _ q)⟩
def uFor (ui : TDi) (g : TDg) (wb : TDs) : TDs := fun E ρ n => ui ρ n fun ds m => ∃ P : Nat → List S → Nat → Prop, P 0 ρ m ∧
  (∀ i x ρ' k, ds[i]? = some x → P i ρ' k → g x ρ' fun ρ2 => wb { E with nx := P (i + 1), ct := P (i + 1), bk := E.nx } ρ2 k) ∧ ∀ ρ' k, P ds.length ρ' k → E.nx ρ' k
theorem us_for {iter tg : Expr} {ui : TDi} {g : TDg} {wb : TDs} {ids : List Nat} (hi : UI X C tg iter ui) (hg : UG X C tg ids g) (hb : USs X C ss wb) (hp : PassesOwn (model X.prog X.w) X.A X.env X.xe := by exact PassesOwn.never) (hc : X.calm = true := by rfl) (hs : ∀ x, foldedSetIterable iter X.env x = pure x := by intro _; rfl) :
    US X C (.For tg iter ss [] pos) (uFor ui g wb) := by
  refine ⟨PSw (ps_for hp hc hi.run hg.run hb.run hs) fun D σ H ⟨F, ρ, n, E, rel, ok, q⟩ => ⟨F, ρ, n, rel, hi.mo _ _ _ _ (fun ds m q J F1 H1 x1 m1 wd => ?_) q⟩⟩
  obtain ⟨P, p0, ps, pd⟩ := q
  obtain ⟨G, Y, w, wg, wy⟩ := wd
  refine for_it w (fun i σ' H' => ∃ F' ρ' k, Le F1 F' ∧ Rel X.K C F' ρ' k σ' H' ∧ P i ρ' k) ⟨F1, ρ, m, Le.rfl, rel.stepG x1 m1, p0⟩ (fun i σ' H' _ ⟨F', ρ', k, l, r, _⟩ => wg H' (l.tr r.le)) (fun i x σ' H' H2 hi2 ⟨F', ρ', k, l, r, p⟩ y => ?_) (fun σ' H' ⟨F', ρ', k, l, r, p⟩ => ?_)
  · obtain ⟨F2, d, hd, x2, dd⟩ := wy i H' x H2 F' l r.le y
    refine ⟨F2, ρ', k, d, r.step x2, dd, hg.mo _ _ _ _ (fun ρ2 q σ2 r2 _ => ?_) (ps i d ρ' k hd p)⟩
    refine ⟨F2, ρ2, k, { E with nx := P (i + 1), ct := P (i + 1), bk := E.nx }, r2, ⟨?_, ok.rt, ?_, ?_⟩, q⟩
    · exact fun F3 ρ3 k3 σ3 H3 l3 r3 p3 => ⟨F3, ρ3, k3, (l.tr x2.up).tr l3, r3, p3⟩
    · exact fun F3 ρ3 k3 σ3 H3 l3 r3 p3 => ok.nx F3 ρ3 k3 σ3 H3 (((x1.up.tr l).tr x2.up).tr l3) r3 p3
    · exact fun F3 ρ3 k3 σ3 H3 l3 r3 p3 => ⟨F3, ρ3, k3, (l.tr x2.up).tr l3, r3, p3⟩
  · exact ok.nx F' ρ' k σ' H' (x1.up.tr l) r (pd ρ' k p)
def uWhile (t : TDb) (wb : TDs) : TDs := fun E ρ n => ∃ W : Nat → List S → Nat → Prop, (∃ m, W m ρ n) ∧ ∀ m ρ n, W m ρ n →
  t ρ n fun b k => if b = true then wb { E with nx := fun ρ' n' => ∃ m', m' < m ∧ W m' ρ' n', ct := fun ρ' n' => ∃ m', m' < m ∧ W m' ρ' n', bk := E.nx } ρ k else E.nx ρ k
theorem us_while {c : Expr} {t : TDb} {wb : TDs} (hc : UT X C c t) (hb : USs X C ss wb) (hp : PassesOwn (model X.prog X.w) X.A X.env X.xe := by exact PassesOwn.never) : US X C (.While c ss [] pos) (uWhile t wb) := by
  refine ⟨PSw (ps_while hp hc.run hb.run) fun D σ H ⟨F, ρ, n, E, rel, ok, q⟩ => ?_⟩
  obtain ⟨W, ⟨m0, w0⟩, turn⟩ := q
  refine ⟨fun m σ' H' => ∃ F' ρ' k, Le F F' ∧ Rel X.K C F' ρ' k σ' H' ∧ W m ρ' k, ⟨m0, F, ρ, n, Le.rfl, rel, w0⟩, fun m σ' H' ⟨F', ρ', k, l, r, wk⟩ => ?_⟩
  refine ⟨F', ρ', k, r, hc.mo _ _ _ _ (fun b k2 q F2 H2 x2 m2 => ?_) (turn m ρ' k wk)⟩
  by_cases z : b = true
  · rw [if_pos z] at q ⊢
    refine ⟨fun σ3 H3 => ∃ m', m' < m ∧ ∃ F3 ρ3 k3, Le F F3 ∧ Rel X.K C F3 ρ3 k3 σ3 H3 ∧ W m' ρ3 k3, fun σ3 H3 ⟨m', hm, z⟩ => ⟨m', hm, z⟩, F2, ρ', k2, { E with nx := fun ρ' n' => ∃ m', m' < m ∧ W m' ρ' n', ct := fun ρ' n' => ∃ m', m' < m ∧ W m' ρ' n', bk := E.nx }, r.stepG x2 m2, ⟨?_, ok.rt, ?_, ?_⟩, q⟩
    · exact fun F3 ρ3 k3 σ3 H3 l3 r3 ⟨m', hm, p3⟩ => ⟨m', hm, F3, ρ3, k3, (l.tr x2.up).tr l3, r3, p3⟩
    · exact fun F3 ρ3 k3 σ3 H3 l3 r3 p3 => ok.nx F3 ρ3 k3 σ3 H3 ((l.tr x2.up).tr l3) r3 p3
    · exact fun F3 ρ3 k3 σ3 H3 l3 r3 ⟨m', hm, p3⟩ => ⟨m', hm, F3, ρ3, k3, (l.tr x2.up).tr l3, r3, p3⟩
  · rw [if_neg z] at q ⊢
    exact ok.nx F2 ρ' k2 σ' H2 (l.tr x2.up) (r.stepG x2 m2) q
/-! ### iterables -/
theorem walkD_seq {K : PySem.W.Frag} {J : It} {F : Hp} {ds : List D} {vs : List V} {G : Hp → Prop} (w : Walk J vs.length G (YAt vs)) (g : ∀ H, Le F H → G H) (h : DdA K F vs ds) : WalkD K J F ds := by
  refine ⟨G, YAt vs, by rw [← h.length]; exact w, g, fun i H x H' F1 l l1 y => ?_⟩
  obtain ⟨rfl, y⟩ := y
  obtain ⟨d, e, dd⟩ := h.get y
  exact ⟨F1, d, e, Ex.rfl l1, dd.le l⟩
def uSeqI (u : TD) : TDi := fun ρ n Q => u ρ n fun d m => match d with
  | .lst ds => Q ds m
  | .tup ds => Q ds m
  | _ => False
theorem mo_SeqI (h : Mo u) : Mo (uSeqI u) := fun ρ n P Q i w => h _ _ _ _ (fun d m q => by cases d <;> first | exact i _ _ q | exact q) w
def uLI (u : TD) : TDi := fun ρ n Q => u ρ n fun d m => match d with
  | .lst ds => Q ds m
  | _ => False
def uTI (u : TD) : TDi := fun ρ n Q => u ρ n fun d m => match d with
  | .tup ds => Q ds m
  | _ => False
theorem mo_LI (h : Mo u) : Mo (uLI u) := fun ρ n P Q i w => h _ _ _ _ (fun d m q => by cases d <;> first | exact i _ _ q | exact q) w
theorem mo_TI (h : Mo u) : Mo (uTI u) := fun ρ n P Q i w => h _ _ _ _ (fun d m q => by cases d <;> first | exact i _ _ q | exact q) w
theorem ui_list {tg : Expr} (h : UE X C e u) : UI X C tg e (uLI u) := by
  refine ⟨PIw (pi_list h.run) fun σ H R ⟨F, ρ, n, rel, q⟩ => ⟨F, ρ, n, rel, h.mo _ _ _ _ (fun d m q v F1 H1 x1 m1 d1 => ?_) q⟩, mo_LI h.mo⟩
  cases d1 with
  | lst hq ha => exact ⟨_, rfl, ⟨_, SqL.le x1.le hq⟩, q _ F1 H1 x1 m1 (walkD_seq walk_list (fun H' l => SqL.le l hq) ha)⟩
  | _ => exact q.elim
theorem ui_tup {tg : Expr} (h : UE X C e u) : UI X C tg e (uTI u) := by
  refine ⟨PIw (pi_tup h.run) fun σ H R ⟨F, ρ, n, rel, q⟩ => ⟨F, ρ, n, rel, h.mo _ _ _ _ (fun d m q v F1 H1 x1 m1 d1 => ?_) q⟩, mo_TI h.mo⟩
  cases d1 with
  | tup hq ha => exact ⟨_, rfl, ⟨_, SqT.le x1.le hq⟩, q _ F1 H1 x1 m1 (walkD_seq walk_tup (fun H' l => SqT.le l hq) ha)⟩
  | _ => exact q.elim
/-- a row, a list or a tuple -/
theorem pi_row {tg : Expr} {t : TE} (h : PE X e t) : PI X tg e (fun σ H R => t σ H fun x H1 => ∃ a, x = .ref a ∧ (((∃ xs, SqL X.K H1 a xs) ∧ R (Itl X.K a) H1) ∨ ((∃ xs, SqT X.K H1 a xs) ∧ R (Itt X.K a) H1))) := by
  refine ⟨fun pins s0 σ H R inv0 hh => thn (h.run pins s0 σ H _ inv0 hh) fun w st ⟨y, Hy, inv, rel, b, eb, alt⟩ => ?_⟩
  subst eb
  obtain rfl : w = Value.ref b := rel
  have new : ∀ c ∈ [st.heap.objs.size], FpOk X pins Hy c := fun c hc => by
    obtain rfl : c = st.heap.objs.size := by simpa using hc
    exact inv.fpOk (Nat.le_refl _) (inv.hok.fresh (Nat.le_refl _))
  rcases alt with ⟨⟨xs, hx⟩, k⟩ | ⟨⟨xs, hx⟩, k⟩
  · obtain ⟨its, _, pl, _⟩ := inv.list hx
    exact wpAny_pyIter_list pl.isList ⟨_, _, _, _, Hy, rfl, inv.kept (t' := st.toks) fun _ _ old => Heap.get?_push_of_some _ old, turn_list b _, ⟨_, Heap.get?_push_size _ rfl, rfl, rfl⟩, new, k⟩
  · obtain ⟨its, _, pl, _⟩ := inv.tuple hx
    exact wpAny_pyIter_tuple (show st.heap.IsTuple b its.toArray from pl) ⟨_, _, _, _, Hy, rfl, inv.kept (t' := st.toks) fun _ _ old => Heap.get?_push_of_some _ old, turn_tuple b _, ⟨_, Heap.get?_push_size _ rfl, rfl, rfl⟩, new, k⟩
theorem ui_row {tg : Expr} (h : UE X C e u) : UI X C tg e (uSeqI u) := by
  refine ⟨PIw (pi_row h.run) fun σ H R ⟨F, ρ, n, rel, q⟩ => ⟨F, ρ, n, rel, h.mo _ _ _ _ (fun d m q v F1 H1 x1 m1 d1 => ?_) q⟩, mo_SeqI h.mo⟩
  cases d1 with
  | tup hq ha => exact ⟨_, rfl, .inr ⟨⟨_, SqT.le x1.le hq⟩, q _ F1 H1 x1 m1 (walkD_seq walk_tup (fun H' l => SqT.le l hq) ha)⟩⟩
  | lst hq ha => exact ⟨_, rfl, .inl ⟨⟨_, SqL.le x1.le hq⟩, q _ F1 H1 x1 m1 (walkD_seq walk_list (fun H' l => SqL.le l hq) ha)⟩⟩
  | _ => exact q.elim
/-- the ints from lo on, n of them -/
def rgD (lo : Int) (n : Nat) : List D := (List.range n).map fun (i : Nat) => .int (lo + i)
theorem walkD_range {K : PySem.W.Frag} {F : Hp} {lo : Int} {n : Nat} : WalkD K (Itr lo n) F (rgD lo n) := by
  refine ⟨fun _ => True, fun i H x H' => (H' = H ∧ x = .int (lo + i)) ∧ i < n, by
    unfold rgD; rw [List.length_map, List.length_range]
    exact ⟨fun _ _ hi _ => hi, fun _ _ => Nat.le_refl _, fun _ _ _ _ hi _ y => ⟨y, hi⟩⟩, fun _ _ => trivial, fun i H x H' F1 l l1 y => ?_⟩
  obtain ⟨⟨rfl, rfl⟩, hi⟩ := y
  exact ⟨F1, .int (lo + i), by unfold rgD; simp [hi], Ex.rfl l1, .int _⟩
def int1 (ds : List D) (Q : Int → Prop) : Prop := match ds with
  | [.int j] => Q j
  | _ => False
def int2 (ds : List D) (Q : Int → Int → Prop) : Prop := match ds with
  | [.int i, .int j] => Q i j
  | _ => False
theorem int1_of {ds : List D} {Q : Int → Prop} (h : int1 ds Q) : ∃ j, ds = [.int j] ∧ Q j := by
  unfold int1 at h
  split at h
  · exact ⟨_, rfl, h⟩
  · exact h.elim
theorem int2_of {ds : List D} {Q : Int → Int → Prop} (h : int2 ds Q) : ∃ i j, ds = [.int i, .int j] ∧ Q i j := by
  unfold int2 at h
  split at h
  · exact ⟨_, _, rfl, h⟩
  · exact h.elim
def uRng1 (us : TDa) : TDi := fun ρ n Q => us ρ n fun ds m => int1 ds fun j => (-(2 ^ 62) ≤ j ∧ j < 2 ^ 62) ∧ Q (rgD 0 j.toNat) m
def uRng2 (us : TDa) : TDi := fun ρ n Q => us ρ n fun ds m => int2 ds fun i j => (-(2 ^ 62) ≤ i ∧ i < 2 ^ 62 ∧ -(2 ^ 62) ≤ j ∧ j < 2 ^ 62) ∧ Q (rgD i (j - i).toNat) m
theorem dda1 {K : PySem.W.Frag} {F : Hp} {vs : List V} {d : D} (h : DdA K F vs [d]) : ∃ v, vs = [v] ∧ Dd K F v d := by
  cases h with
  | cons a b => cases b; exact ⟨_, rfl, a⟩
theorem dda2 {K : PySem.W.Frag} {F : Hp} {vs : List V} {d e : D} (h : DdA K F vs [d, e]) : ∃ v w, vs = [v, w] ∧ Dd K F v d ∧ Dd K F w e := by
  cases h with
  | cons a b => obtain ⟨w, rfl, c⟩ := dda1 b; exact ⟨_, _, rfl, a, c⟩
theorem ui_range1 {tg a : Expr} {p : Pos} (h : UA X C [a] us) (hm : X.mg "range" = none) (hg : Gl X "range" := by rfl) (hs : starEach [a] X.env = [(false, eval a X.env)] := by rfl) : UI X C tg (.Call (.Name "range" p) [a] [] pos) (uRng1 us) := by
  refine ⟨PIw (pi_range1 hg hm h.run hs) fun σ H R ⟨F, ρ, n, rel, q⟩ => ⟨F, ρ, n, rel, h.mo _ _ _ _ (fun ds m q vs F1 H1 x1 m1 d1 => ?_) q⟩, fun ρ n P Q i w => h.mo _ _ _ _ (fun ds m q => ?_) w⟩
  · obtain ⟨j, rfl, q⟩ := int1_of q
    obtain ⟨v, rfl, dd⟩ := dda1 d1
    obtain rfl : v = V.int j := by cases dd; rfl
    exact ⟨j, rfl, q.1.1, q.1.2, q.2 _ F1 H1 x1 m1 walkD_range⟩
  · obtain ⟨j, rfl, q⟩ := int1_of q
    exact ⟨q.1, i _ _ q.2⟩
theorem ui_range2 {tg a b : Expr} {p : Pos} (h : UA X C [a, b] us) (hm : X.mg "range" = none) (hg : Gl X "range" := by rfl) (hs : starEach [a, b] X.env = [(false, eval a X.env), (false, eval b X.env)] := by rfl) (hs2 : starEach [b] X.env = [(false, eval b X.env)] := by rfl) : UI X C tg (.Call (.Name "range" p) [a, b] [] pos) (uRng2 us) := by
  refine ⟨PIw (pi_range2 hg hm h.run hs hs2) fun σ H R ⟨F, ρ, n, rel, q⟩ => ⟨F, ρ, n, rel, h.mo _ _ _ _ (fun ds m q vs F1 H1 x1 m1 d1 => ?_) q⟩, fun ρ n P Q i w => h.mo _ _ _ _ (fun ds m q => ?_) w⟩
  · obtain ⟨j, k, rfl, q⟩ := int2_of q
    obtain ⟨v, w, rfl, c1, c2⟩ := dda2 d1
    obtain rfl : v = V.int j := by cases c1; rfl
    obtain rfl : w = V.int k := by cases c2; rfl
    exact ⟨j, k, rfl, q.1, q.2 _ F1 H1 x1 m1 walkD_range⟩
  · obtain ⟨j, k, rfl, q⟩ := int2_of q
    exact ⟨q.1, i _ _ q.2⟩
/-- pairs of two walks' things -/
theorem walkD_pair {K : PySem.W.Frag} {J : It} {F : Hp} {n : Nat} {xs ys : Nat → Option V} {as bs : Nat → Option D} {ds : List D} {G : Hp → Prop} (w : Walk J n G (YPair xs ys)) (g : ∀ H, Le F H → G H) (hl : ds.length = n)
    (ha : ∀ i x, xs i = some x → ∃ d, as i = some d ∧ Dd K F x d) (hb : ∀ i x, ys i = some x → ∃ d, bs i = some d ∧ Dd K F x d) (hd : ∀ i a b, as i = some a → bs i = some b → i < n → ds[i]? = some (.tup [a, b])) : WalkD K J F ds := by
  refine ⟨G, fun i H x H' => YPair xs ys i H x H' ∧ i < n, by rw [hl]; exact w.mono (fun _ h => h) (fun i H x H' hi _ y => ⟨y, hi⟩), g, fun i H x H' F1 l l1 y => ?_⟩
  obtain ⟨⟨T, v, z, rfl, np, rfl, e1, e2⟩, hi⟩ := y
  obtain ⟨a, ea, da⟩ := ha i v e1
  obtain ⟨b, eb, db⟩ := hb i z e2
  exact ⟨_, _, hd i a b ea eb hi, Ex.newF l1 np, dd_tupN (.cons (da.le l) (.cons (db.le l) .nil)) (l1.fr (fr0_none np))⟩
def enumD (ds : List D) : List D := (List.range ds.length).map fun (i : Nat) => .tup [.int i, ds.getD i .non]
theorem enumD_length (ds : List D) : (enumD ds).length = ds.length := by
  unfold enumD
  simp
theorem enumD_get (ds : List D) (i : Nat) : (enumD ds)[i]? = ds[i]?.map fun d => .tup [.int (i : Nat), d] := by
  unfold enumD
  rw [List.getElem?_map]
  by_cases h : i < ds.length
  · simp [h]
  · simp [h]
theorem DdA.fn {K : PySem.W.Frag} {F : Hp} {vs : List V} {ds : List D} (h : DdA K F vs ds) : ∀ (i : Nat) (x : V), vs[i]? = some x → ∃ d, ds[i]? = some d ∧ Dd K F x d := fun i x e => h.get e
theorem enum_walk {K : PySem.W.Frag} {J : It} {F : Hp} {vs : List V} {ds : List D} {G : Hp → Prop} (w : Walk J vs.length G (YPair (fun i => some (.int (i : Nat))) (fun i => vs[i]?))) (g : ∀ H, Le F H → G H) (h : DdA K F vs ds) : WalkD K J F (enumD ds) :=
  walkD_pair (as := fun i => some (.int (i : Nat))) (bs := fun i => ds[i]?) w g (by rw [enumD_length, h.length]) (fun i x e => by cases e; exact ⟨_, rfl, .int _⟩) h.fn fun i a b ha hb _ => by
    cases ha
    have hb : ds[i]? = some b := hb
    rw [enumD_get, hb]
    rfl
def seq1 (ds : List D) (Q : Bool → List D → Prop) : Prop := match ds with
  | [.lst xs] => Q true xs
  | [.tup xs] => Q false xs
  | _ => False
theorem seq1_of {ds : List D} {Q : Bool → List D → Prop} (h : seq1 ds Q) : (∃ xs, ds = [.lst xs] ∧ Q true xs) ∨ ∃ xs, ds = [.tup xs] ∧ Q false xs := by
  unfold seq1 at h
  split at h
  · exact .inl ⟨_, rfl, h⟩
  · exact .inr ⟨_, rfl, h⟩
  · exact h.elim
theorem seq1_mo {ds : List D} {Q Q' : Bool → List D → Prop} (i : ∀ b xs, Q b xs → Q' b xs) (h : seq1 ds Q) : seq1 ds Q' := by
  rcases seq1_of h with ⟨xs, rfl, q⟩ | ⟨xs, rfl, q⟩
  · exact i _ _ q
  · exact i _ _ q
/-- k: over a list (else over a tuple) -/
def uEnum (k : Bool) (us : TDa) : TDi := fun ρ n Q => us ρ n fun ds m => seq1 ds fun b xs => b = k ∧ Q (enumD xs) m
theorem mo_Enum {k : Bool} (h : Mo us) : Mo (uEnum k us) := fun ρ n P Q i w => h _ _ _ _ (fun ds m => seq1_mo fun b xs q => ⟨q.1, i _ _ q.2⟩) w
theorem ui_enumL {a : Expr} {p tpos : Pos} {elts : List Expr} {kk : Nat} (h : UA X C [a] us) (hm : X.mg "enumerate" = none) (hg : Gl X "enumerate" := by rfl) (hs : starEach [a] X.env = [(false, eval a X.env)] := by rfl) :
    UI X C (.Tuple elts kk tpos) (.Call (.Name "enumerate" p) [a] [] pos) (uEnum true us) := by
  refine ⟨PIw (pi_enum hg hm h.run hs) fun σ H R ⟨F, ρ, n, rel, q⟩ => ⟨F, ρ, n, rel, h.mo _ _ _ _ (fun ds m q vs F1 H1 x1 m1 d1 => ?_) q⟩, mo_Enum h.mo⟩
  rcases seq1_of q with ⟨xs, rfl, e, q⟩ | ⟨xs, rfl, e, q⟩
  · obtain ⟨v, rfl, dd⟩ := dda1 d1
    match v, dd with
    | _, .lst hq ha => exact ⟨_, _, rfl, SqL.le x1.le hq, q _ F1 H1 x1 m1 (enum_walk walk_enum (fun H' l => SqL.le l hq) ha)⟩
  · cases e
theorem ui_enumT {a : Expr} {p tpos : Pos} {elts : List Expr} {kk : Nat} (h : UA X C [a] us) (hm : X.mg "enumerate" = none) (hg : Gl X "enumerate" := by rfl) (hs : starEach [a] X.env = [(false, eval a X.env)] := by rfl) :
    UI X C (.Tuple elts kk tpos) (.Call (.Name "enumerate" p) [a] [] pos) (uEnum false us) := by
  refine ⟨PIw (HN.pi_enumT hg hm h.run hs) fun σ H R ⟨F, ρ, n, rel, q⟩ => ⟨F, ρ, n, rel, h.mo _ _ _ _ (fun ds m q vs F1 H1 x1 m1 d1 => ?_) q⟩, mo_Enum h.mo⟩
  rcases seq1_of q with ⟨xs, rfl, e, q⟩ | ⟨xs, rfl, e, q⟩
  · cases e
  · obtain ⟨v, rfl, dd⟩ := dda1 d1
    match v, dd with
    | _, .tup hq ha => exact ⟨_, _, rfl, SqT.le x1.le hq, q _ F1 H1 x1 m1 (enum_walk HN.walk_ent (fun H' l => SqT.le l hq) ha)⟩
end
end PU
set_option maxHeartbeats 2000000
namespace PU
open PySem PySem.Spec PyProof.Rows L2 HG

/-! ## comprehensions -/
def wipeD (ρ : List S) : List Nat → List S
  | [] => ρ
  | v :: vs => st (wipeD ρ vs) v .u
section
variable {K : PySem.W.Frag} {C : Cn} {F : Hp} {ρ : List S} {n : Nat} {σ : L2.St} {H : Hp}
theorem Rel.none {i : Nat} (r : Rel K C F ρ n σ H) : Rel K C F (st ρ i .u) n (σ.set i Option.none) H := by
  have r' := r.drop (i := i)
  refine ⟨r'.x, r'.m, by rw [List.length_set]; exact r'.len, fun j => ?_, r'.apart, r'.own⟩
  rw [getD_set]
  by_cases q : j = i ∧ i < σ.length
  · rw [gt_st, ← r.len, if_pos q]
    trivial
  · rw [if_neg q]
    exact r'.sl j
theorem Rel.wipe (r : Rel K C F ρ n σ H) : ∀ vs : List Nat, Rel K C F (wipeD ρ vs) n (wipe σ vs) H
  | [] => r
  | v :: vs => (r.wipe vs).none
theorem wipe_in {σ : L2.St} {i : Nat} : ∀ {vs : List Nat}, i ∈ vs → i < σ.length → (L2.wipe σ vs)[i]? = some Option.none
  | v :: vs, h, l => by
    have e : (L2.wipe σ (v :: vs)) = (L2.wipe σ vs).set v Option.none := rfl
    rw [e]
    by_cases z : i = v
    · subst z
      exact List.getElem?_set_self (by rw [wipe_length]; exact l)
    · rw [List.getElem?_set_ne (Ne.symm z)]
      exact wipe_in (by rcases List.mem_cons.mp h with q | q; exact absurd q z; exact q) l
theorem wipe_but {σ σ' : L2.St} {ids vs : List Nat} (b : But ids σ σ') (h : ∀ j ∈ ids, j ∈ vs) : L2.wipe σ' vs = L2.wipe σ vs := by
  refine List.ext_getElem? fun j => ?_
  by_cases m : j ∈ vs
  · by_cases l : j < σ.length
    · rw [wipe_in m l, wipe_in m (by rw [b.1]; exact l)]
    · rw [List.getElem?_eq_none (by rw [wipe_length, b.1]; omega), List.getElem?_eq_none (by rw [wipe_length]; omega)]
  · rw [wipe_out m, wipe_out m]
    exact b.2 j fun z => m (h j z)
theorem wipe_wipe {σ : L2.St} (vs : List Nat) : L2.wipe (L2.wipe σ vs) vs = L2.wipe σ vs := by
  refine List.ext_getElem? fun j => ?_
  by_cases m : j ∈ vs
  · by_cases l : j < σ.length
    · rw [wipe_in m l, wipe_in m (by rw [wipe_length]; exact l)]
    · rw [List.getElem?_eq_none (by rw [wipe_length, wipe_length]; omega), List.getElem?_eq_none (by rw [wipe_length]; omega)]
  · rw [wipe_out m]
end
structure UTs (X : Cx) (C : Cn) (e : List Expr) (u : TDb) : Prop where
  run : PTs X e (tT X.K C u)
  mo : Mo u
def uYes : TDb := fun _ n Q => Q true n
section
variable {X : Cx} {C : Cn} {e : Expr} {pos : Pos}
theorem uts_nil : UTs X C [] uYes := by
  refine ⟨⟨fun pins s σ H Q I h => pts_nil.run pins s σ H Q I ?_⟩, fun ρ n P Q i w => i _ _ w⟩
  obtain ⟨F, ρ, n, rel, q⟩ := h
  exact q F H (Ex.rfl rel.le) rel.m
theorem uts_one {t : TDb} (h : UT X C e t) : UTs X C [e] t := ⟨pts_one h.run, h.mo⟩
def uLc (ui : TDi) (g : TDg) (t : TDb) (ue : TD) (vs : List Nat) : TDl := fun ρ n Q => ui ρ n fun ds m => ∃ P : Nat → List D → Nat → Prop, P 0 [] m ∧
  (∀ i x acc k, ds[i]? = some x → P i acc k → g x (wipeD ρ vs) fun ρ2 => t ρ2 k fun b k2 => if b = true then ue ρ2 k2 fun d k3 => acc.length < sizeLine ∧ P (i + 1) (acc ++ [d]) k3 else P (i + 1) acc k2) ∧
  ∀ acc k, P ds.length acc k → Q acc k
theorem mo_Lc {ui : TDi} {g : TDg} {t : TDb} {ue : TD} {vs : List Nat} (h : Mo ui) : Mo (uLc ui g t ue vs) := fun ρ n P Q i w => h _ _ _ _ (fun ds m ⟨W, w0, w1, w2⟩ => ⟨W, w0, w1, fun acc k p => i _ _ (w2 acc k p)⟩) w
theorem lc_read {ui : TDi} {g : TDg} {t : TDb} {ue : TD} {vs ids : List Nat} (sub : ∀ b ∈ C.pol.ex, b ∈ C.dx) (mi : Mo ui) (mg : MoG g) (mt : Mo t) (me : Mo ue) (hids : ∀ j ∈ ids, j ∈ vs) {σ : L2.St} {H : Hp} {Q : VK}
    (h : tL X.K C (uLc ui g t ue vs) σ H Q) : tLc (tI X.K C ui) (tG X.K C ids g) (tT X.K C t) (tE X.K C ue) vs σ H Q := by
  obtain ⟨F, ρ, n, rel, q⟩ := h
  refine ⟨F, ρ, n, rel, mi _ _ _ _ (fun ds m ⟨P, p0, p1, p2⟩ J F1 H1 x1 m1 wd A na => ?_) q⟩
  obtain ⟨G, Y, w, wg, wy⟩ := wd
  have rel1 := rel.stepG x1 m1
  have fA : Fr0 H1 A := fr0_none na
  have nF : Fr0 F1 A := x1.le.fr fA
  have no : ∀ b, (∃ o, H1 b = some o) → b ≠ A := fun b ⟨o, e⟩ z => by
    subst z
    rw [na] at e
    cases e
  have nd : A ∉ C.dx := fun z => no A (by obtain ⟨o, e, _⟩ := C.dm m H1 m1 A z; exact ⟨o, e⟩) rfl
  have ne : A ∉ C.pol.ex := fun z => nd (sub A z)
  have put : ∀ F' H' (vs' : List V), Ex C.pol F1 H1 F' H' → Fr0 F' A → Ex C.pol F1 H1 F' (upd H' A (.lst vs')) := fun F' H' vs' x nf =>
    ⟨x.up, x.le.updR nf, x.new, x.keep.mut fA, fun lm b ps e => by rw [upd_ne (no b ⟨_, e⟩)]; exact x.tk lm b ps e⟩
  have putM : ∀ k H' (vs' : List V) ws', C.M k H' → H' A = some (.lst ws') → C.M k (upd H' A (.lst vs')) := fun k H' vs' ws' m' at_ => C.kp k H' _ (fun b o e h => by
    rw [upd_ne (fun z => ?_)]
    · exact e
    · subst z
      rcases h with h | h
      · exact nd h
      · rw [at_] at e
        cases e
        exact h.1 _ rfl) m'
  have putM0 : C.M m (upd H1 A (.lst [])) := C.kp m H1 _ (fun b o e h => by rw [upd_ne (no b ⟨o, e⟩)]; exact e) m1
  refine lc_it w (fun i H' => ∃ F' acc ws k, Ex C.pol F1 H1 F' H' ∧ C.M k H' ∧ Fr0 F' A ∧ H' A = some (.lst ws) ∧ DdA X.K F' ws acc ∧ P i acc k) ?_ ?_ ?_ ?_
  · exact ⟨F1, [], [], m, put F1 H1 [] (Ex.rfl x1.le) nF, putM0, nF, upd_same, .nil, p0⟩
  · intro i H' _ ⟨F', acc, ws, k, x, m', _⟩
    exact wg H' (x.up.tr x.le)
  · intro i x H' H2 hi ⟨F', acc, ws, k, x', m', nf, at_, dd, p⟩ y
    have r' : Rel X.K C F' (wipeD ρ vs) k (L2.wipe σ vs) H' := (rel1.stepG x' m').wipe vs
    obtain ⟨F2, d, hd, x2, ddx⟩ := wy i H' x H2 F' x'.up x'.le y
    have r2 := r'.step x2
    refine ⟨F2, _, k, d, r2, ddx, mg _ _ _ _ (fun ρ2 q σ2 rσ b => ⟨by rw [wipe_but b hids, wipe_wipe], F2, ρ2, k, rσ, mt _ _ _ _ (fun b k2 q F3 H3 x3 m3 => ?_) q⟩) (p1 i d acc k hd p)⟩
    have x13 : Ex C.pol F1 H1 F3 H3 := (x'.tr x2.up0).tr x3
    have x'3 : Ex C.pol F' H' F3 H3 := x2.up0.tr x3
    have at3 : H3 A = some (.lst ws) := x'3.keep.all A _ at_ ne (fun _ z => nomatch z)
    have nf3 : Fr0 F3 A := fun u hu => nf u (by rw [← x'3.new A _ at_ (fun _ z => nomatch z)]; exact hu)
    dsimp only at q ⊢
    by_cases z : b = true
    · rw [if_pos z] at q ⊢
      refine ⟨F3, ρ2, k2, rσ.stepG x3 m3, me _ _ _ _ (fun d' k3 q v F4 H4 x4 m4 d4 => ?_) q⟩
      have at4 : H4 A = some (.lst ws) := x4.keep.all A _ at3 ne (fun _ z => nomatch z)
      have nf4 : Fr0 F4 A := fun u hu => nf3 u (by rw [← x4.new A _ at3 (fun _ z => nomatch z)]; exact hu)
      refine ⟨ws, at4, by rw [dd.length]; exact q.1, F4, acc ++ [d'], ws ++ [v], k3, put F4 H4 _ (x13.tr x4) nf4, putM k3 H4 _ _ m4 at4, nf4, upd_same, ?_, q.2⟩
      exact (dd.le (x'3.up.tr x4.up)).append (.cons d4 .nil)
    · rw [if_neg z] at q ⊢
      exact ⟨F3, acc, ws, k2, x13, m3, nf3, at3, dd.le x'3.up, q⟩
  · intro H' ⟨F', acc, ws, k, x', m', nf, at_, dd, p⟩
    exact p2 acc k p A ws F' H' (x1.tr x') m' (x1.keep.none na) nf at_ dd
theorem ul_lc {elt tg iter : Expr} {ifs : List Expr} {scope : Scope} {own : List (Str × Nat)} {ui : TDi} {g : TDg} {t : TDb} {ue : TD} {ids : List Nat} (hC : C.Ok) (hN : X.N.Nodup) (hi : UI X C tg iter ui) (ok : BlkOk X.N X.env.scope scope own)
    (hg : ∀ (s : Shared) (H : Hp) (A : Addr) (cl : List (Str × Addr)) (fp : List Addr), UG (X.blk s H scope (compEnvC scope cl A X.env) fp) C tg ids g) (ht : ∀ (s : Shared) (H : Hp) (A : Addr) (cl : List (Str × Addr)) (fp : List Addr), UTs (X.blk s H scope (compEnvC scope cl A X.env) fp) C ifs t)
    (he : ∀ (s : Shared) (H : Hp) (A : Addr) (cl : List (Str × Addr)) (fp : List Addr), UE (X.blk s H scope (compEnvC scope cl A X.env) fp) C elt ue) (hids : ∀ j ∈ ids, j ∈ own.map (·.2) := by decide) (hc : X.calm = true := by rfl) (hs : ∀ x, foldedSetIterable iter X.env x = pure x := by intro _; rfl) :
    UL X C (.ListComp elt [⟨tg, iter, ifs, 0⟩] scope pos) (uLc ui g t ue (own.map (·.2))) := by
  let s0 : Shared := (PySem.start X.prog).1
  exact ⟨PEw (pe_lc hc hN hi.run ok (fun s H A cl fp => (hg s H A cl fp).run) (fun s H A cl fp => (ht s H A cl fp).run) (fun s H A cl fp => (he s H A cl fp).run) hs) fun σ H Q h =>
    lc_read hC.sub hi.mo (hg s0 (fun _ => none) 0 [] []).mo (ht s0 (fun _ => none) 0 [] []).mo (he s0 (fun _ => none) 0 [] []).mo hids h, mo_Lc hi.mo⟩
end
end PU
set_option maxHeartbeats 2000000
namespace PU
open PySem PySem.Spec PyProof.Rows L2 HG

/-! ## y = [..] on one line -/
section
variable {X : Cx} {C : Cn} {e : Expr} {pos : Pos}
theorem us_setLc {i : Nat} {y : Str} {py spos : Pos} {elt tg iter : Expr} {ifs : List Expr} {scope : Scope} {own : List (Str × Nat)} {ui : TDi} {g : TDg} {t : TDb} {ue : TD} {ids : List Nat} (hC : C.Ok) (hN : X.N.Nodup) (hi : UI X C tg iter ui) (ok : BlkOk X.N X.env.scope scope own)
    (hg : ∀ (s : Shared) (H : Hp) (A : Addr) (cl : List (Str × Addr)) (fp : List Addr), UG (X.blk s H scope (compEnvC scope cl A X.env) fp) C tg ids g) (ht : ∀ (s : Shared) (H : Hp) (A : Addr) (cl : List (Str × Addr)) (fp : List Addr), UTs (X.blk s H scope (compEnvC scope cl A X.env) fp) C ifs t)
    (he : ∀ (s : Shared) (H : Hp) (A : Addr) (cl : List (Str × Addr)) (fp : List Addr), UE (X.blk s H scope (compEnvC scope cl A X.env) fp) C elt ue)
    (hsw : swapsWith (.ListComp elt [⟨tg, iter, ifs, 0⟩] scope pos) (some (.Name y py)) spos.line X.env = pure true := by exact sw_true rfl rfl rfl (by decide +kernel)) (hy : X.N[i]? = some y := by rfl) (hyl : X.env.scope.names.lookup y = some .local := by rfl) (hids : ∀ j ∈ ids, j ∈ own.map (·.2) := by decide) (hc : X.calm = true := by rfl) (hs : ∀ x, foldedSetIterable iter X.env x = pure x := by intro _; rfl) :
    US X C (.Assign [.Name y py] (.ListComp elt [⟨tg, iter, ifs, 0⟩] scope pos) spos) (uSet i (uOfL (uLc ui g t ue (own.map (·.2))))) := by
  let s0 : Shared := (PySem.start X.prog).1
  refine ⟨PSw (ps_setLc (wi := tI X.K C ui) (g := tG X.K C ids g) (tt := tT X.K C t) (te := tE X.K C ue) hc hN hy hyl hsw hi.run ok (fun s H A cl fp => (hg s H A cl fp).run) (fun s H A cl fp => (ht s H A cl fp).run) (fun s H A cl fp => (he s H A cl fp).run) hs) fun D σ H ⟨F, ρ, n, E, rel, ok', q⟩ => ?_⟩
  refine lc_read (Q := fun x H1 => D.nx (σ.set i (some x)) H1) hC.sub hi.mo (hg s0 (fun _ => none) 0 [] []).mo (ht s0 (fun _ => none) 0 [] []).mo (he s0 (fun _ => none) 0 [] []).mo hids ⟨F, ρ, n, rel, mo_Lc hi.mo _ _ _ _ (fun ds m q a vs F1 H1 x1 m1 o1 o2 o3 d1 => ?_) q⟩
  have x2 : Ex C.pol F H (upd F1 a (.lst vs)) H1 := x1.frz o1 o2 o3
  exact ok'.nx _ _ m _ H1 x2.up ((rel.stepG x2 m1).setD (dd_lstN d1 o2)) q
theorem us_setLcO {i : Nat} {y : Str} {py spos : Pos} {elt tg iter : Expr} {ifs : List Expr} {scope : Scope} {own : List (Str × Nat)} {ui : TDi} {g : TDg} {t : TDb} {ue : TD} {ids : List Nat} (hC : C.Ok) (hN : X.N.Nodup) (hi : UI X C tg iter ui) (ok : BlkOk X.N X.env.scope scope own)
    (hg : ∀ (s : Shared) (H : Hp) (A : Addr) (cl : List (Str × Addr)) (fp : List Addr), UG (X.blk s H scope (compEnvC scope cl A X.env) fp) C tg ids g) (ht : ∀ (s : Shared) (H : Hp) (A : Addr) (cl : List (Str × Addr)) (fp : List Addr), UTs (X.blk s H scope (compEnvC scope cl A X.env) fp) C ifs t)
    (he : ∀ (s : Shared) (H : Hp) (A : Addr) (cl : List (Str × Addr)) (fp : List Addr), UE (X.blk s H scope (compEnvC scope cl A X.env) fp) C elt ue)
    (hsw : swapsWith (.ListComp elt [⟨tg, iter, ifs, 0⟩] scope pos) (some (.Name y py)) spos.line X.env = pure true := by exact sw_true rfl rfl rfl (by decide +kernel)) (hy : X.N[i]? = some y := by rfl) (hyl : X.env.scope.names.lookup y = some .local := by rfl) (hids : ∀ j ∈ ids, j ∈ own.map (·.2) := by decide) (hc : X.calm = true := by rfl) (hs : ∀ x, foldedSetIterable iter X.env x = pure x := by intro _; rfl) :
    US X C (.Assign [.Name y py] (.ListComp elt [⟨tg, iter, ifs, 0⟩] scope pos) spos) (uSetO i (uLc ui g t ue (own.map (·.2)))) := by
  let s0 : Shared := (PySem.start X.prog).1
  refine ⟨PSw (ps_setLc (wi := tI X.K C ui) (g := tG X.K C ids g) (tt := tT X.K C t) (te := tE X.K C ue) hc hN hy hyl hsw hi.run ok (fun s H A cl fp => (hg s H A cl fp).run) (fun s H A cl fp => (ht s H A cl fp).run) (fun s H A cl fp => (he s H A cl fp).run) hs) fun D σ H ⟨F, ρ, n, E, rel, ok', q⟩ => ?_⟩
  refine lc_read (Q := fun x H1 => D.nx (σ.set i (some x)) H1) hC.sub hi.mo (hg s0 (fun _ => none) 0 [] []).mo (ht s0 (fun _ => none) 0 [] []).mo (he s0 (fun _ => none) 0 [] []).mo hids ⟨F, ρ, n, rel, mo_Lc hi.mo _ _ _ _ (fun ds m q a vs F1 H1 x1 m1 o1 o2 o3 d1 => ?_) q⟩
  exact ok'.nx F1 _ m _ H1 x1.up ((rel.stepG x1 m1).setO hC.sub o1 rel.x.keep ⟨n, rel.m⟩ (fun b z => rel.ownAt z) o2 o3 d1) (q a)
end
/-! ## data as PyData -/
mutual
def D.py : D → Option PyData
  | .non => some .none
  | .bl b => some (.bool b)
  | .int i => some (.int i)
  | .str x => some (.str x)
  | .lst ds => (pyA ds).map .list
  | .tup ds => (pyA ds).map .tuple
  | _ => none
def pyA : List D → Option (List PyData)
  | [] => some []
  | d :: ds => match d.py, pyA ds with
    | some p, some ps => some (p :: ps)
    | _, _ => none
end
mutual
theorem dd_py {K : PySem.W.Frag} {F H : Hp} (l : Le F H) : ∀ (d : D) {v : V} {p : PyData}, Dd K F v d → d.py = some p → Dp K H v p
  | .non, _, _, h, e => by cases h; simp only [D.py] at e; cases e; exact .non
  | .bl _, _, _, h, e => by cases h; simp only [D.py] at e; cases e; exact .bl _
  | .int _, _, _, h, e => by cases h; simp only [D.py] at e; cases e; exact .int _
  | .str _, _, _, h, e => by cases h; simp only [D.py] at e; cases e; exact .str _
  | .ty _, _, _, _, e => by simp only [D.py] at e; cases e
  | .ref _, _, _, _, e => by simp only [D.py] at e; cases e
  | .dk _ _, _, _, _, e => by simp only [D.py] at e; cases e
  | .ins _ _ _, _, _, _, e => by simp only [D.py] at e; cases e
  | .exc _ _ _, _, _, _, e => by simp only [D.py] at e; cases e
  | .lst ds, _, _, h, e => by
    cases h with
    | lst hq ha =>
      simp only [D.py] at e
      cases z : pyA ds with
      | none => rw [z] at e; cases e
      | some ps =>
        rw [z] at e
        cases e
        exact .lst (SqL.le l hq) (dda_py l ds ha z)
  | .tup ds, _, _, h, e => by
    cases h with
    | tup hq ha =>
      simp only [D.py] at e
      cases z : pyA ds with
      | none => rw [z] at e; cases e
      | some ps =>
        rw [z] at e
        cases e
        exact .tup (SqT.le l hq) (dda_py l ds ha z)
theorem dda_py {K : PySem.W.Frag} {F H : Hp} (l : Le F H) : ∀ (ds : List D) {vs : List V} {ps : List PyData}, DdA K F vs ds → pyA ds = some ps → DpAll K H vs ps
  | [], _, _, h, e => by cases h; simp only [pyA] at e; cases e; exact .nil
  | d :: ds, _, _, h, e => by
    cases h with
    | cons a b =>
      simp only [pyA] at e
      cases z1 : d.py with
      | none => rw [z1] at e; cases e
      | some p =>
        cases z2 : pyA ds with
        | none => rw [z1, z2] at e; cases e
        | some ps =>
          rw [z1, z2] at e
          cases e
          exact .cons (dd_py l d a z1) (dda_py l ds b z2)
end
/-! ## operators -/
section
variable {X : Cx}
def rAdd : D → D → (D → Prop) → Prop
  | .int a, .int b, Q => Q (.int (a + b))
  | .str a, .str b, Q => a.length + b.length ≤ sizeLine ∧ Q (.str (a ++ b))
  | .tup a, .tup b, Q => a.length + b.length ≤ sizeLine ∧ Q (.tup (a ++ b))
  | _, _, _ => False
def rInt (f : Int → Int → D) (P : Int → Int → Prop) : D → D → (D → Prop) → Prop
  | .int a, .int b, Q => P a b ∧ Q (f a b)
  | _, _, _ => False
def rInt0 (f : Int → Int → D) : D → D → (D → Prop) → Prop
  | .int a, .int b, Q => Q (f a b)
  | _, _, _ => False
theorem mo_int {f : Int → Int → D} {P : Int → Int → Prop} : MoR (rInt f P) := fun x y P Q i h => by
  cases x <;> cases y <;> first | exact h | exact ⟨h.1, i _ h.2⟩
theorem mo_int0 {f : Int → Int → D} : MoR (rInt0 f) := fun x y P Q i h => by
  cases x <;> cases y <;> first | exact h | exact i _ h
theorem mo_add : MoR rAdd := fun x y P Q i h => by
  cases x <;> cases y <;> first | exact h | exact i _ h | exact ⟨h.1, i _ h.2⟩
theorem catD {K : PySem.W.Frag} {F H : Hp} {v w : V} {a b : List D} {Q : VK} (l : Le F H) (h1 : Dd K F v (.tup a)) (h2 : Dd K F w (.tup b)) (hz : a.length + b.length ≤ sizeLine)
    (q : ∀ v F' H', Ex p0 F H F' H' → Dd K F' v (.tup (a ++ b)) → Q v H') : rCatA K v w H Q := by
  cases h1 with
  | tup q1 a1 =>
    cases h2 with
    | tup q2 a2 =>
      refine ⟨_, _, _, _, rfl, rfl, SqT.le l q1, SqT.le l q2, by rw [a1.length, a2.length]; exact hz, fun e => ?_, fun _ e => ?_, fun _ _ p np => ?_⟩
      · subst e
        cases a1
        exact q _ F H (Ex.rfl l) (.tup q2 a2)
      · subst e
        cases a2
        exact q _ F H (Ex.rfl l) (by rw [List.append_nil]; exact .tup q1 a1)
      · exact q _ _ _ (Ex.newF l np) (dd_tupN (a1.append a2) (l.fr (fr0_none np)))
theorem opd_add : OpD X (binaryOp .Add) rAdd := by
  refine ⟨mo_add, fun pins s σ H x y v u Q I rx ry ⟨F, dx, dy, l, h1, h2, q⟩ => ?_⟩
  match dx, dy, h1, h2, q with
  | .int a, .int b, .int _, .int _, q => exact op_add pins s σ H _ _ v u Q I rx ry ⟨a, b, rfl, rfl, q _ F H (Ex.rfl l) (.int _)⟩
  | .str a, .str b, .str _, .str _, q => exact op_add_str pins s σ H _ _ v u Q I rx ry ⟨a, b, rfl, rfl, q.1, q.2 _ F H (Ex.rfl l) (.str _)⟩
  | .tup a, .tup b, h1, h2, q => exact op_catA pins s σ H _ _ v u Q I rx ry (catD l h1 h2 q.1 q.2)
def rAddI : D → D → (D → Prop) → Prop
  | .int a, .int b, Q => Q (.int (a + b))
  | .tup a, .tup b, Q => a.length + b.length ≤ sizeLine ∧ Q (.tup (a ++ b))
  | _, _, _ => False
theorem mo_addI : MoR rAddI := fun x y P Q i h => by
  cases x <;> cases y <;> first | exact h | exact i _ h | exact ⟨h.1, i _ h.2⟩
theorem ipd_add : IpD X .Add rAddI := by
  refine ⟨mo_addI, fun pins s σ H x y v u Q I rx ry ⟨F, dx, dy, l, h1, h2, q⟩ => ?_⟩
  match dx, dy, h1, h2, q with
  | .int a, .int b, .int _, .int _, q => exact ip_add pins s σ H _ _ v u Q I rx ry ⟨a, b, rfl, rfl, q _ F H (Ex.rfl l) (.int _)⟩
  | .tup a, .tup b, h1, h2, q => exact ip_catA pins s σ H _ _ v u Q I rx ry (catD l h1 h2 q.1 q.2)
end
end PU
set_option maxHeartbeats 2000000
namespace PU
open PySem PySem.Spec PyProof.Rows L2 HG
section
variable {X : Cx}
theorem opd_int0 {f : Value → Value → Sem Value} {g : Int → Int → D} {gv : Int → Int → V} (h : OpR X f (rI0 gv)) (hd : ∀ F i j, Dd X.K F (gv i j) (g i j)) : OpD X f (rInt0 g) := by
  refine ⟨mo_int0, fun pins s σ H x y v u Q I rx ry ⟨F, dx, dy, l, h1, h2, q⟩ => ?_⟩
  match dx, dy, h1, h2, q with
  | .int a, .int b, .int _, .int _, q => exact h pins s σ H _ _ v u Q I rx ry ⟨a, b, rfl, rfl, q _ F H (Ex.rfl l) (hd F a b)⟩
theorem opd_int {f : Value → Value → Sem Value} {g : Int → Int → D} {gv : Int → Int → V} {P : Int → Int → Prop} (h : OpR X f (rI P gv)) (hd : ∀ F i j, Dd X.K F (gv i j) (g i j)) : OpD X f (rInt g P) := by
  refine ⟨mo_int, fun pins s σ H x y v u Q I rx ry ⟨F, dx, dy, l, h1, h2, q⟩ => ?_⟩
  match dx, dy, h1, h2, q with
  | .int a, .int b, .int _, .int _, q => exact h pins s σ H _ _ v u Q I rx ry ⟨a, b, rfl, rfl, q.1, q.2 _ F H (Ex.rfl l) (hd F a b)⟩
theorem opd_sub : OpD X (binaryOp .Sub) (rInt0 fun i j => .int (i - j)) := opd_int0 op_sub fun _ _ _ => .int _
theorem opd_mul : OpD X (binaryOp .Mult) (rInt (fun i j => .int (i * j)) CMul) := opd_int op_mul fun _ _ _ => .int _
theorem opd_mulW : OpD X (binaryOp .Mult) (rInt (fun i j => .int (i * j)) CMulW) := opd_int op_mulW fun _ _ _ => .int _
theorem opd_fdiv : OpD X (binaryOp .FloorDiv) (rInt (fun i j => .int (i / j)) CDiv) := opd_int op_fdiv fun _ _ _ => .int _
theorem opd_fdivW : OpD X (binaryOp .FloorDiv) (rInt (fun i j => .int (i / j)) CDivW) := opd_int op_fdivW fun _ _ _ => .int _
theorem opd_mod : OpD X (binaryOp .Mod) (rInt (fun i j => .int (i % j)) fun _ j => 0 < j) := opd_int op_mod fun _ _ _ => .int _
theorem opd_pow : OpD X (binaryOp .Pow) (rInt (fun i j => .int (i ^ j.toNat)) CPow) := opd_int op_pow fun _ _ _ => .int _
theorem ipd_sub : IpD X .Sub (rInt0 fun i j => .int (i - j)) := by
  refine ⟨mo_int0, fun pins s σ H x y v u Q I rx ry ⟨F, dx, dy, l, h1, h2, q⟩ => ?_⟩
  match dx, dy, h1, h2, q with
  | .int a, .int b, .int _, .int _, q => exact ip_sub pins s σ H _ _ v u Q I rx ry ⟨a, b, rfl, rfl, q _ F H (Ex.rfl l) (.int _)⟩
/-! ### comparisons -/
/-- ints and texts -/
def rOrd (f : Int → Int → Bool) (g : List Nat → List Nat → Bool) : D → D → (D → Prop) → Prop
  | .int a, .int b, Q => Q (.bl (f a b))
  | .str a, .str b, Q => Q (.bl (g a.cps.toList b.cps.toList))
  | _, _, _ => False
theorem mo_ord {f : Int → Int → Bool} {g : List Nat → List Nat → Bool} : MoR (rOrd f g) := fun x y P Q i h => by
  cases x <;> cases y <;> first | exact h | exact i _ h
theorem opd_lt : OpD X (compareOp .Lt) (rOrd (fun i j => decide (i < j)) fun a b => decide (a < b)) := by
  refine ⟨mo_ord, fun pins s σ H x y v u Q I rx ry ⟨F, dx, dy, l, h1, h2, q⟩ => ?_⟩
  match dx, dy, h1, h2, q with
  | .int a, .int b, .int _, .int _, q => exact op_lt pins s σ H _ _ v u Q I rx ry ⟨a, b, rfl, rfl, q _ F H (Ex.rfl l) (.bl _)⟩
  | .str a, .str b, .str _, .str _, q => exact op_lt_str pins s σ H _ _ v u Q I rx ry ⟨a, b, rfl, rfl, q _ F H (Ex.rfl l) (.bl _)⟩
theorem opd_le : OpD X (compareOp .LtE) (rOrd (fun i j => decide (i ≤ j)) fun a b => !decide (b < a)) := by
  refine ⟨mo_ord, fun pins s σ H x y v u Q I rx ry ⟨F, dx, dy, l, h1, h2, q⟩ => ?_⟩
  match dx, dy, h1, h2, q with
  | .int a, .int b, .int _, .int _, q => exact op_le pins s σ H _ _ v u Q I rx ry ⟨a, b, rfl, rfl, q _ F H (Ex.rfl l) (.bl _)⟩
  | .str a, .str b, .str _, .str _, q => exact op_le_str pins s σ H _ _ v u Q I rx ry ⟨a, b, rfl, rfl, q _ F H (Ex.rfl l) (.bl _)⟩
theorem opd_gt : OpD X (compareOp .Gt) (rOrd (fun i j => decide (j < i)) fun a b => decide (b < a)) := by
  refine ⟨mo_ord, fun pins s σ H x y v u Q I rx ry ⟨F, dx, dy, l, h1, h2, q⟩ => ?_⟩
  match dx, dy, h1, h2, q with
  | .int a, .int b, .int _, .int _, q => exact op_gt pins s σ H _ _ v u Q I rx ry ⟨a, b, rfl, rfl, q _ F H (Ex.rfl l) (.bl _)⟩
  | .str a, .str b, .str _, .str _, q => exact op_gt_str pins s σ H _ _ v u Q I rx ry ⟨a, b, rfl, rfl, q _ F H (Ex.rfl l) (.bl _)⟩
theorem opd_ge : OpD X (compareOp .GtE) (rOrd (fun i j => decide (j ≤ i)) fun a b => !decide (a < b)) := by
  refine ⟨mo_ord, fun pins s σ H x y v u Q I rx ry ⟨F, dx, dy, l, h1, h2, q⟩ => ?_⟩
  match dx, dy, h1, h2, q with
  | .int a, .int b, .int _, .int _, q => exact op_ge pins s σ H _ _ v u Q I rx ry ⟨a, b, rfl, rfl, q _ F H (Ex.rfl l) (.bl _)⟩
  | .str a, .str b, .str _, .str _, q => exact op_ge_str pins s σ H _ _ v u Q I rx ry ⟨a, b, rfl, rfl, q _ F H (Ex.rfl l) (.bl _)⟩
/-- scalars -/
def eqS : D → D → Option Bool
  | .int a, .int b => some (decide (a = b))
  | .str a, .str b => some (decide (a = b))
  | .bl a, .bl b => some (decide (a = b))
  | .non, .non => some true
  | .non, .int _ => some false | .int _, .non => some false | .non, .bl _ => some false | .bl _, .non => some false | .non, .str _ => some false | .str _, .non => some false
  | .int _, .str _ => some false | .str _, .int _ => some false | .bl _, .str _ => some false | .str _, .bl _ => some false
  | _, _ => none
def rEqS (f : Bool → Bool) (x y : D) (Q : D → Prop) : Prop := match eqS x y with
  | some b => Q (.bl (f b))
  | none => False
theorem mo_eqS {f : Bool → Bool} : MoR (rEqS f) := fun x y P Q i h => by
  unfold rEqS at h ⊢
  split <;> rename_i e <;> simp only [e] at h
  exact i _ h
theorem eqS_val {K : PySem.W.Frag} {F : Hp} {x y : V} {dx dy : D} {b : Bool} (h1 : Dd K F x dx) (h2 : Dd K F y dy) (e : eqS dx dy = some b) : scal x y = true ∧ decide (x = y) = b := by
  cases h1 <;> cases h2 <;> simp_all [eqS, scal]
theorem opd_eq : OpD X (compareOp .Eq) (rEqS id) := by
  refine ⟨mo_eqS, fun pins s σ H x y v u Q I rx ry ⟨F, dx, dy, l, h1, h2, q⟩ => ?_⟩
  unfold rEqS at q
  cases e : eqS dx dy with
  | none => rw [e] at q; exact q.elim
  | some b =>
    rw [e] at q
    obtain ⟨a1, a2⟩ := eqS_val h1 h2 e
    exact op_eq pins s σ H x y v u Q I rx ry ⟨a1, by rw [a2]; exact q _ F H (Ex.rfl l) (.bl _)⟩
theorem opd_ne : OpD X (compareOp .NotEq) (rEqS not) := by
  refine ⟨mo_eqS, fun pins s σ H x y v u Q I rx ry ⟨F, dx, dy, l, h1, h2, q⟩ => ?_⟩
  unfold rEqS at q
  cases e : eqS dx dy with
  | none => rw [e] at q; exact q.elim
  | some b =>
    rw [e] at q
    obtain ⟨a1, a2⟩ := eqS_val h1 h2 e
    exact op_ne pins s σ H x y v u Q I rx ry ⟨a1, by rw [a2]; exact q _ F H (Ex.rfl l) (.bl _)⟩
/-- data of any depth -/
def rEqD (f : Bool → Bool) (x y : D) (Q : D → Prop) : Prop := match x.py, y.py with
  | some p, some q => SeqAt.shaped p = true ∧ SeqAt.shaped q = true ∧ Q (.bl (f (PyData.eqv p q)))
  | _, _ => False
theorem mo_eqD {f : Bool → Bool} : MoR (rEqD f) := fun x y P Q i h => by
  unfold rEqD at h ⊢
  cases e1 : x.py <;> cases e2 : y.py <;> rw [e1, e2] at h <;> first | exact h | exact ⟨h.1, h.2.1, i _ h.2.2⟩
theorem opd_eqD (hu : X.A.units + 64 < cLine) : OpD X (compareOp .Eq) (rEqD id) := by
  refine ⟨mo_eqD, fun pins s σ H x y v u Q I rx ry ⟨F, dx, dy, l, h1, h2, q⟩ => ?_⟩
  unfold rEqD at q
  cases e1 : dx.py <;> cases e2 : dy.py <;> rw [e1, e2] at q <;> try exact q.elim
  exact op_eqD hu pins s σ H x y v u Q I rx ry ⟨_, _, dd_py l dx h1 e1, dd_py l dy h2 e2, q.1, q.2.1, q.2.2 _ F H (Ex.rfl l) (.bl _)⟩
theorem opd_neD (hu : X.A.units + 64 < cLine) : OpD X (compareOp .NotEq) (rEqD not) := by
  refine ⟨mo_eqD, fun pins s σ H x y v u Q I rx ry ⟨F, dx, dy, l, h1, h2, q⟩ => ?_⟩
  unfold rEqD at q
  cases e1 : dx.py <;> cases e2 : dy.py <;> rw [e1, e2] at q <;> try exact q.elim
  exact op_neD hu pins s σ H x y v u Q I rx ry ⟨_, _, dd_py l dx h1 e1, dd_py l dy h2 e2, q.1, q.2.1, q.2.2 _ F H (Ex.rfl l) (.bl _)⟩
def isNon : D → Bool
  | .non => true
  | _ => false
def rIsN (f : Bool → Bool) (x y : D) (Q : D → Prop) : Prop := y = .non ∧ Q (.bl (f (isNon x)))
theorem mo_isN {f : Bool → Bool} : MoR (rIsN f) := fun x y P Q i h => ⟨h.1, i _ h.2⟩
theorem isNon_val {K : PySem.W.Frag} {F : Hp} {x : V} {dx : D} (h1 : Dd K F x dx) : decide (x = .non) = isNon dx := by
  cases h1 <;> simp [isNon]
theorem opd_isN : OpD X (compareOp .Is) (rIsN id) := by
  refine ⟨mo_isN, fun pins s σ H x y v u Q I rx ry ⟨F, dx, dy, l, h1, h2, q⟩ => ?_⟩
  obtain ⟨rfl, q⟩ := q
  exact op_isN pins s σ H x y v u Q I rx ry ⟨by cases h2; rfl, by rw [isNon_val h1]; exact q _ F H (Ex.rfl l) (.bl _)⟩
theorem opd_notN : OpD X (compareOp .IsNot) (rIsN not) := by
  refine ⟨mo_isN, fun pins s σ H x y v u Q I rx ry ⟨F, dx, dy, l, h1, h2, q⟩ => ?_⟩
  obtain ⟨rfl, q⟩ := q
  exact op_notN pins s σ H x y v u Q I rx ry ⟨by cases h2; rfl, by rw [isNon_val h1]; exact q _ F H (Ex.rfl l) (.bl _)⟩
/-! ### in -/
/-- == of flat things -/
def eqF : D → D → Bool
  | .non, .non => true
  | .bl a, .bl b => a == b
  | .bl a, .int b => (if a then 1 else 0) == b
  | .int a, .bl b => a == (if b then 1 else 0)
  | .int a, .int b => a == b
  | .str a, .str b => a == b
  | _, _ => false
def inF (x : D) (xs : List D) : Bool := xs.any fun y => eqF y x
def rIn (f : Bool → Bool) (x y : D) (Q : D → Prop) : Prop := match y with
  | .lst xs => flat x = true ∧ xs.all flat = true ∧ Q (.bl (f (inF x xs)))
  | .tup xs => flat x = true ∧ xs.all flat = true ∧ Q (.bl (f (inF x xs)))
  | .str z => match x with
    | .str c => Q (.bl (f (!(Builtin.Str.occurrences z c 0 z.length 1).isEmpty)))
    | _ => False
  | _ => False
theorem mo_in {f : Bool → Bool} : MoR (rIn f) := fun x y P Q i h => by
  cases y with
  | str z => cases x <;> first | exact h | exact i _ h
  | lst xs => exact ⟨h.1, h.2.1, i _ h.2.2⟩
  | tup xs => exact ⟨h.1, h.2.1, i _ h.2.2⟩
  | _ => exact h
theorem flat_val {K : PySem.W.Frag} {F : Hp} {x : V} {d : D} (h : Dd K F x d) (f : flat d = true) : flatV x = true := by
  cases h <;> first | rfl | cases f
theorem flat_all {K : PySem.W.Frag} {F : Hp} : ∀ {ds : List D} {vs : List V}, DdA K F vs ds → ds.all flat = true → vs.all flatV = true
  | _, _, .nil, _ => rfl
  | _, _, .cons a b, f => by
    rw [List.all_cons, Bool.and_eq_true] at f ⊢
    exact ⟨flat_val a f.1, flat_all b f.2⟩
theorem eqF_val {K : PySem.W.Frag} {F : Hp} {x y : V} {d e : D} (h : Dd K F x d) (h' : Dd K F y e) : eqV x y = eqF d e := by
  cases h <;> cases h' <;> rfl
theorem inF_val {K : PySem.W.Frag} {F : Hp} {x : V} {d : D} (h : Dd K F x d) : ∀ {ds : List D} {vs : List V}, DdA K F vs ds → inV x vs = inF d ds
  | _, _, .nil => rfl
  | _, _, .cons a b => by
    have := inF_val h b
    unfold inV inF at this ⊢
    rw [List.any_cons, List.any_cons, this, eqF_val a h]
theorem opd_in : OpD X (compareOp .In) (rIn id) := by
  refine ⟨mo_in, fun pins s σ H x y v u Q I rx ry ⟨F, dx, dy, l, h1, h2, q⟩ => ?_⟩
  cases h2 with
  | lst hq ha => exact op_in_seq pins s σ H x _ v u Q I rx ry ⟨_, _, rfl, .inl (SqL.le l hq), flat_val h1 q.1, flat_all ha q.2.1, by rw [if_neg Bool.false_ne_true, inF_val h1 ha]; exact q.2.2 _ F H (Ex.rfl l) (.bl _)⟩
  | tup hq ha => exact op_in_seq pins s σ H x _ v u Q I rx ry ⟨_, _, rfl, .inr (SqT.le l hq), flat_val h1 q.1, flat_all ha q.2.1, by rw [if_neg Bool.false_ne_true, inF_val h1 ha]; exact q.2.2 _ F H (Ex.rfl l) (.bl _)⟩
  | str z => cases h1 <;> first | exact q.elim | exact op_in_str pins s σ H _ _ v u Q I rx ry ⟨_, _, rfl, rfl, q _ F H (Ex.rfl l) (.bl _)⟩
  | _ => exact q.elim
theorem opd_notIn : OpD X (compareOp .NotIn) (rIn not) := by
  refine ⟨mo_in, fun pins s σ H x y v u Q I rx ry ⟨F, dx, dy, l, h1, h2, q⟩ => ?_⟩
  cases h2 with
  | lst hq ha => exact op_notIn_seq pins s σ H x _ v u Q I rx ry ⟨_, _, rfl, .inl (SqL.le l hq), flat_val h1 q.1, flat_all ha q.2.1, by rw [if_pos rfl, inF_val h1 ha]; exact q.2.2 _ F H (Ex.rfl l) (.bl _)⟩
  | tup hq ha => exact op_notIn_seq pins s σ H x _ v u Q I rx ry ⟨_, _, rfl, .inr (SqT.le l hq), flat_val h1 q.1, flat_all ha q.2.1, by rw [if_pos rfl, inF_val h1 ha]; exact q.2.2 _ F H (Ex.rfl l) (.bl _)⟩
  | str z => cases h1 <;> first | exact q.elim | exact op_notin_str pins s σ H _ _ v u Q I rx ry ⟨_, _, rfl, rfl, q _ F H (Ex.rfl l) (.bl _)⟩
  | _ => exact q.elim
/-! ### subscripts, slices -/
@[irreducible] def rIx (x y : D) (Q : D → Prop) : Prop := match x, y with
  | .lst xs, .int k => match atI xs k with
    | some d => Q d
    | none => False
  | .tup xs, .int k => match atI xs k with
    | some d => Q d
    | none => False
  | .str z, .int k => z.length ≤ sizeLine ∧ match atI z.cps.toList k with
    | some c => Q (.str ⟨#[c]⟩)
    | none => False
  | _, _ => False
theorem mo_ix : MoR rIx := fun x y P Q i h => by
  cases x with
  | lst xs =>
    cases y with
    | int k =>
      unfold rIx at h ⊢
      dsimp only at h ⊢
      split <;> rename_i e <;> simp only [e] at h
      exact i _ h
    | _ => unfold rIx at h; exact h.elim
  | tup xs =>
    cases y with
    | int k =>
      unfold rIx at h ⊢
      dsimp only at h ⊢
      split <;> rename_i e <;> simp only [e] at h
      exact i _ h
    | _ => unfold rIx at h; exact h.elim
  | str xs =>
    cases y with
    | int k =>
      unfold rIx at h ⊢
      dsimp only at h ⊢
      refine ⟨h.1, ?_⟩
      have h := h.2
      split <;> rename_i e <;> simp only [e] at h
      exact i _ h
    | _ => unfold rIx at h; exact h.elim
  | _ => unfold rIx at h; exact h.elim
variable {C : Cn} {a b e : Expr} {ua ub u : TD} {pos p2 : Pos} {lo hi : Option Expr}
theorem ue_ix (ha : UE X C a ua) (hb : UE X C b ub) (hs : PlainIx b := by exact fun _ _ => rfl) : UE X C (.Subscript a b pos) (uOp rIx ua ub) := by
  refine ⟨PEw (pe_ix (r := fun x y H Q => ∃ F dx dy, Le F H ∧ Dd X.K F x dx ∧ Dd X.K F y dy ∧ rIx dx dy fun d => ∀ v F' H', Ex p0 F H F' H' → Dd X.K F' v d → Q v H') (fun value slice pins s σ H x y v u Q I rx ry ⟨F, dx, dy, l, h1, h2, q⟩ hs => ?_) ha.run hb.run hs) fun σ H Q ⟨F, ρ, n, rel, u⟩ => ?_, mo_Op mo_ix ha.mo hb.mo⟩
  · unfold rIx at q
    match dx, dy, h1, h2, q with
    | .lst xs, .int k, .lst hq hA, .int _, q =>
      dsimp only at q
      cases e : atI xs k with
      | none => rw [e] at q; exact q.elim
      | some d =>
        rw [e] at q
        obtain ⟨w, e1, dd⟩ := hA.atI e
        exact ix_list value slice pins s σ H _ _ v u Q I rx ry ⟨_, _, k, w, rfl, rfl, SqL.le l hq, e1, q _ F H (Ex.rfl l) dd⟩ hs
    | .tup xs, .int k, .tup hq hA, .int _, q =>
      dsimp only at q
      cases e : atI xs k with
      | none => rw [e] at q; exact q.elim
      | some d =>
        rw [e] at q
        obtain ⟨w, e1, dd⟩ := hA.atI e
        exact ix_tup value slice pins s σ H _ _ v u Q I rx ry ⟨_, _, k, w, rfl, rfl, SqT.le l hq, e1, q _ F H (Ex.rfl l) dd⟩ hs
    | .str z, .int k, .str _, .int _, q =>
      dsimp only at q
      obtain ⟨hz, q⟩ := q
      cases e : atI z.cps.toList k with
      | none => rw [e] at q; exact q.elim
      | some c =>
        rw [e] at q
        exact ix_str value slice pins s σ H _ _ v u Q I rx ry ⟨z, k, c, rfl, rfl, hz, e, q _ F H (Ex.rfl l) (.str _)⟩ hs
  · exact two hb.mo ha.mo rel u fun x y d e m F' H' x1 m1 d1 d2 p => ⟨F', d, e, x1.le, d1, d2, mo_ix _ _ _ _ (fun z q v F2 H2 x2 dd => q v F2 H2 (x1.tr x2.up0) (C.stay m1 x2) dd) p⟩
abbrev TDo := List S → Nat → (Option Int → Nat → Prop) → Prop
def tO (K : PySem.W.Frag) (C : Cn) (u : TDo) : TO := fun σ H Q => ∃ F ρ n, Rel K C F ρ n σ H ∧ u ρ n fun b m => ∀ F' H', Ex C.pol F H F' H' → C.M m H' → Q b H'
structure UO (X : Cx) (C : Cn) (e : Option Expr) (u : TDo) : Prop where
  run : PO X e (tO X.K C u)
  mo : Mo u
def uONo : TDo := fun _ n Q => Q none n
def iOf : D → (Int → Prop) → Prop
  | .int k, Q => Q k
  | _, _ => False
theorem iOf_of {K : PySem.W.Frag} {F : Hp} {v : V} {d : D} (h : Dd K F v d) {Q : Int → Prop} (q : iOf d Q) : ∃ k, v = .int k ∧ Q k := by
  cases h <;> first | exact q.elim | exact ⟨_, rfl, q⟩
theorem mo_iOf {d : D} {P Q : Int → Prop} (h : ∀ b, P b → Q b) (u : iOf d P) : iOf d Q := by
  cases d <;> first | exact h _ u | exact u
def uOSo (u : TD) : TDo := fun ρ n Q => u ρ n fun d m => iOf d fun k => Q (some k) m
theorem POw {X : Cx} {e : Option Expr} {t t' : TO} (h : PO X e t) (w : ∀ σ H Q, t' σ H Q → t σ H Q) : PO X e t' := ⟨fun pins s σ H Q I q => h.run pins s σ H Q I (w _ _ _ q)⟩
theorem uo_none : UO X C none uONo := ⟨POw po_none fun σ H Q ⟨F, ρ, n, rel, q⟩ => q F H (Ex.rfl rel.le) rel.m, fun ρ n P Q i w => i _ _ w⟩
theorem uo_some (h : UE X C e u) : UO X C (some e) (uOSo u) := by
  refine ⟨POw (po_some h.run) fun σ H Q ⟨F, ρ, n, rel, q⟩ => ⟨F, ρ, n, rel, h.mo _ _ _ _ (fun d m q v F1 H1 x1 m1 d1 => ?_) q⟩, fun ρ n P Q i w => h.mo _ _ _ _ (fun d m => mo_iOf fun k => i _ m) w⟩
  obtain ⟨k, e, q⟩ := iOf_of d1 q
  exact ⟨k, e, q F1 H1 x1 m1⟩
def cutD (xs : List D) (lo hi : Option Int) : List D := (xs.drop (HT.sIx xs.length 0 lo)).take (HT.sIx xs.length xs.length hi - HT.sIx xs.length 0 lo)
theorem DdA.cut {K : PySem.W.Frag} {F : Hp} {vs : List V} {ds : List D} (h : DdA K F vs ds) (lo hi : Option Int) : DdA K F (cutV vs lo hi) (cutD ds lo hi) := by
  unfold cutV cutD
  rw [h.length]
  exact (h.drop _).take _
def rSl (x : D) (lo hi : Option Int) (Q : D → Prop) : Prop := match x with
  | .lst xs => Q (.lst (cutD xs lo hi))
  | .tup xs => Q (.tup (cutD xs lo hi))
  | .str z => z.length ≤ sizeLine ∧ Q (.str (cutS z lo hi))
  | _ => False
theorem mo_sl {x : D} {lo hi : Option Int} {P Q : D → Prop} (i : ∀ d, P d → Q d) (h : rSl x lo hi P) : rSl x lo hi Q := by
  cases x <;> first | exact i _ h | exact ⟨h.1, i _ h.2⟩ | exact h
def uSl (ua : TD) (ul uh : TDo) : TD := fun ρ n Q => ua ρ n fun d m => ul ρ m fun l k => uh ρ k fun h j => rSl d l h fun z => Q z j
theorem ue_slice {ul uh : TDo} (ha : UE X C a ua) (hl : UO X C lo ul) (hh : UO X C hi uh) : UE X C (.Subscript a (.Slice lo hi none p2) pos) (uSl ua ul uh) := by
  refine ⟨PEw (pe_slice (r := fun x lo hi H Q => ∃ F d, Le F H ∧ Dd X.K F x d ∧ rSl d lo hi fun d => ∀ v F' H', Ex p0 F H F' H' → Dd X.K F' v d → Q v H') (fun pins s σ H x v vl vu lo hi sl Q I rx hs pl pu ⟨F, d, l, h1, q⟩ => ?_) ha.run hl.run hh.run) fun σ H Q ⟨F, ρ, n, rel, u⟩ => ?_,
    fun ρ n P Q i w => ha.mo _ _ _ _ (fun d m => hl.mo _ _ _ _ fun l k => hh.mo _ _ _ _ fun h j => mo_sl fun z => i z j) w⟩
  · cases h1 with
    | lst hq hA => exact sl_list pins s σ H _ v vl vu lo hi sl Q I rx hs pl pu ⟨_, _, rfl, SqL.le l hq, fun p np => q _ _ _ (Ex.newF l np) (dd_lstN (hA.cut lo hi) (l.fr (fr0_none np)))⟩
    | tup hq hA =>
      refine sl_tupA pins s σ H _ v vl vu lo hi sl Q I rx hs pl pu ⟨_, _, rfl, SqT.le l hq, fun e => ?_, fun _ p np => q _ _ _ (Ex.newF l np) (dd_tupN (hA.cut lo hi) (l.fr (fr0_none np)))⟩
      refine q _ F H (Ex.rfl l) (.tup hq ?_)
      have c := hA.cut lo hi
      unfold cutV at c
      rw [e.1, e.2] at c
      simpa using c
    | str z => exact sl_str pins s σ H _ v vl vu lo hi sl Q I rx hs pl pu ⟨z, rfl, q.1, q.2 _ F H (Ex.rfl l) (.str _)⟩
    | _ => exact q.elim
  · exact ⟨F, ρ, n, rel, ha.mo _ _ _ _ (fun d m q v F1 H1 x1 m1 d1 => ⟨F1, ρ, m, rel.stepG x1 m1, hl.mo _ _ _ _ (fun lo k q F2 H2 x2 m2 => ⟨F2, ρ, k, (rel.stepG x1 m1).stepG x2 m2, hh.mo _ _ _ _ (fun hi j q F3 H3 x3 m3 =>
      ⟨F3, d, x3.le, (d1.le x2.up).le x3.up, mo_sl (fun z q v F4 H4 x4 dd => q v F4 H4 (((x1.tr x2).tr x3).tr x4.up0) (C.stay m3 x4) dd) q⟩) q⟩) q⟩) u⟩
/-! ### -x, chains, truth -/
def uNeg (u : TD) : TD := fun ρ n Q => u ρ n fun d m => iOf d fun k => Q (.int (-k)) m
theorem ue_neg (h : UE X C e u) : UE X C (.UnaryOp .USub e pos) (uNeg u) := by
  refine ⟨PEw (pe_un un_neg h.run) fun σ H Q ⟨F, ρ, n, rel, q⟩ => ⟨F, ρ, n, rel, h.mo _ _ _ _ (fun d m q v F1 H1 x1 m1 d1 => ?_) q⟩, fun ρ n P Q i w => h.mo _ _ _ _ (fun d m => mo_iOf fun k => i _ m) w⟩
  obtain ⟨k, e, q⟩ := iOf_of d1 q
  exact ⟨k, e, q _ F1 H1 x1 m1 (.int _)⟩
variable {c : Expr} {uc : TD}
def uChain (r r' : D → D → (D → Prop) → Prop) (ua ub uc : TD) : TD := fun ρ n Q => ua ρ n fun x n1 => ub ρ n1 fun y n2 => r x y fun z => bOf z fun k => if k = true then uc ρ n2 fun w n3 => r' y w fun z => Q z n3 else Q (.bl false) n2
theorem mo_Chain {r r' : D → D → (D → Prop) → Prop} (mr : MoR r) (mr' : MoR r') (ha : Mo ua) (hb : Mo ub) (hc : Mo uc) : Mo (uChain r r' ua ub uc) := fun ρ n P Q i w => ha _ _ _ _ (fun x n1 => hb _ _ _ _ fun y n2 => mr _ _ _ _ fun z => mo_bOf fun k q => by
  by_cases e : k = true
  · rw [if_pos e] at q ⊢; exact hc _ _ _ _ (fun w n3 => mr' _ _ _ _ fun z => i z n3) q
  · rw [if_neg e] at q ⊢; exact i _ _ q) w
abbrev liftR (X : Cx) (r : D → D → (D → Prop) → Prop) : R2 := fun x y H Q => ∃ F dx dy, Le F H ∧ Dd X.K F x dx ∧ Dd X.K F y dy ∧ r dx dy fun d => ∀ v F' H', Ex p0 F H F' H' → Dd X.K F' v d → Q v H'
theorem chain_read {r r' : D → D → (D → Prop) → Prop} (mr : MoR r) (mr' : MoR r') (ha : Mo ua) (hb : Mo ub) (hc : Mo uc) {σ : L2.St} {H : Hp} {Q : VK} (h : tE X.K C (uChain r r' ua ub uc) σ H Q) : tChain (liftR X r) (liftR X r') (tE X.K C ua) (tE X.K C ub) (tE X.K C uc) σ H Q := by
  obtain ⟨F, ρ, n, rel, u⟩ := h
  refine two hb ha rel u fun x y d e m F' H' x1 m1 d1 d2 p => ⟨F', d, e, x1.le, d1, d2, mr _ _ _ _ (fun z q v F2 H2 x2 dd => ?_) p⟩
  obtain ⟨k, e1, q⟩ := bOf_of dd q
  refine ⟨k, e1, ?_⟩
  have x3 := x1.tr x2.up0
  by_cases e : k = true
  · rw [if_pos e] at q ⊢
    exact ⟨F2, ρ, m, rel.stepG x3 (C.stay m1 x2), hc _ _ _ _ (fun w n3 q v4 F4 H4 x4 m4 d4 => ⟨F4, _, w, x4.le, (d2.le x2.up).le x4.up, d4, mr' _ _ _ _ (fun z q v5 F5 H5 x5 d5 => q v5 F5 H5 ((x3.tr x4).tr x5.up0) (C.stay m4 x5) d5) q⟩) q⟩
  · rw [if_neg e] at q ⊢
    exact q _ F2 H2 x3 (C.stay m1 x2) (.bl _)
theorem ue_chain {op op' : CmpOp} {r r' : D → D → (D → Prop) → Prop} (ho : OpD X (compareOp op) r) (ho' : OpD X (compareOp op') r') (ha : UE X C a ua) (hb : UE X C b ub) (hc : UE X C c uc)
    (hm : lastMarks [op, op'] [b, c] = false := by with_unfolding_all rfl) : UE X C (.Compare a [op, op'] [b, c] pos) (uChain r r' ua ub uc) :=
  ⟨PEw (pe_chain ho.run ho'.run ha.run hb.run hc.run hm) fun σ H Q h => chain_read ho.mo ho'.mo ha.mo hb.mo hc.mo h, mo_Chain ho.mo ho'.mo ha.mo hb.mo hc.mo⟩
theorem ut_chain {op op' : CmpOp} {r r' : D → D → (D → Prop) → Prop} (ho : OpD X (compareOp op) r) (ho' : OpD X (compareOp op') r') (ha : UE X C a ua) (hb : UE X C b ub) (hc : UE X C c uc)
    (hm : lastMarks [op, op'] [b, c] = false := by with_unfolding_all rfl) : UT X C (.Compare a [op, op'] [b, c] pos) (uB (uChain r r' ua ub uc)) := by
  have mo := mo_Chain ho.mo ho'.mo ha.mo hb.mo hc.mo
  refine ⟨PTw (pt_chain ho.run ho'.run ha.run hb.run hc.run hm) fun σ H Q h => ?_, mo_B mo⟩
  obtain ⟨F, ρ, n, rel, u⟩ := h
  refine chain_read (Q := fun x H' => ∃ k, x = .bl k ∧ Q k H') ho.mo ho'.mo ha.mo hb.mo hc.mo ⟨F, ρ, n, rel, mo _ _ _ _ (fun d m q v F' H' x m' dd => ?_) u⟩
  obtain ⟨k, e, q⟩ := bOf_of dd q
  exact ⟨k, e, q F' H' x m'⟩
/-- truth of any value -/
def truD : D → Option Bool
  | .non => some false
  | .bl b => some b
  | .int i => some (i != 0)
  | .lst xs => some (!xs.isEmpty)
  | .tup xs => some (!xs.isEmpty)
  | .dk ks _ => some (!ks.isEmpty)
  | _ => none
def uTru (u : TD) : TDb := fun ρ n Q => u ρ n fun d m => match truD d with
  | some b => Q b m
  | none => False
theorem isEmpty_dd {K : PySem.W.Frag} {F : Hp} {vs : List V} {ds : List D} (h : DdA K F vs ds) : vs.isEmpty = ds.isEmpty := by cases h <;> rfl
theorem truV_of {K : PySem.W.Frag} {F H : Hp} {v : V} {d : D} {b : Bool} (l : Le F H) (h : Dd K F v d) (e : truD d = some b) : (∃ a kvs o, v = .ref a ∧ H a = some (.frz o (.dK kvs))) ∨ TruV K v H b := by
  cases h with
  | non => cases e; exact .inr rfl
  | bl _ => cases e; exact .inr rfl
  | int _ => cases e; exact .inr rfl
  | lst hq ha => cases e; exact .inr (.inl ⟨_, SqL.le l hq, by rw [isEmpty_dd ha]⟩)
  | tup hq ha => cases e; exact .inr (.inr (.inl ⟨_, SqT.le l hq, by rw [isEmpty_dd ha]⟩))
  | dk hq ha =>
    cases e
    rcases hq with hq | ⟨o, hq⟩
    · exact .inr (.inr (.inr ⟨_, l _ _ hq (fun _ z => nomatch z), by simp⟩))
    · exact .inl ⟨_, _, o, rfl, l _ _ hq (fun _ z => nomatch z)⟩
  | _ => cases e
end
end PU
set_option maxHeartbeats 2000000
namespace PU
open PySem PySem.Spec PyProof.Rows L2 HG
section
variable {X : Cx} {C : Cn} {a b e : Expr} {es : List Expr} {ua ub u : TD} {us : TDa} {pos : Pos}
/-- a dict that is walked isn't frozen in K's sense: no locked dicts among what is asked for its truth -/
theorem ut_truth (h : UE X C e u) (he : ∀ whole, isTrue e X.env whole = (do let v ← whole; standAt e.pos; holding [v] (truthy v)) := by intro _; rfl) : UT X C e (uTru (fun ρ n Q => u ρ n fun d m => (match d with | .dk _ _ => False | _ => True) ∧ Q d m)) := by
  refine ⟨PTw (pt_truth h.run he) fun σ H Q ⟨F, ρ, n, rel, q⟩ => ⟨F, ρ, n, rel, h.mo _ _ _ _ (fun d m q v F1 H1 x1 m1 d1 => ?_) q⟩, fun ρ n P Q i w => h.mo _ _ _ _ (fun d m q => ⟨q.1, ?_⟩) w⟩
  · obtain ⟨nd, q⟩ := q
    cases e : truD d with
    | none => rw [e] at q; exact q.elim
    | some b =>
      rw [e] at q
      refine ⟨b, ?_, q F1 H1 x1 m1⟩
      rcases truV_of x1.le d1 e with ⟨a, kvs, o, rfl, e2⟩ | z
      · cases d1 with
        | dk hq ha => exact nd.elim
        | lst hq ha =>
          rcases SqL.le x1.le hq with (z | ⟨_, z⟩) | z
          · rw [e2] at z; cases z
          · rw [e2] at z; cases z
          · cases e; exact .inl ⟨_, .inr z, by rw [isEmpty_dd ha]⟩
        | tup hq ha =>
          rcases SqT.le x1.le hq with (z | ⟨_, z⟩) | z
          · rw [e2] at z; cases z
          · rw [e2] at z; cases z
          · cases e; exact .inr (.inl ⟨_, .inr z, by rw [isEmpty_dd ha]⟩)
        | _ => cases e
      · exact z
  · have q := q.2
    dsimp only at q ⊢
    cases e : truD d with
    | none => rw [e] at q; exact q.elim
    | some b => rw [e] at q; exact i _ _ q
/-! ### built-ins -/
def d1 (ds : List D) (Q : D → Prop) : Prop := match ds with
  | [d] => Q d
  | _ => False
def d2 (ds : List D) (Q : D → D → Prop) : Prop := match ds with
  | [d, e] => Q d e
  | _ => False
theorem d1_of {ds : List D} {Q : D → Prop} (h : d1 ds Q) : ∃ d, ds = [d] ∧ Q d := by
  unfold d1 at h
  split at h
  · exact ⟨_, rfl, h⟩
  · exact h.elim
theorem d2_of {ds : List D} {Q : D → D → Prop} (h : d2 ds Q) : ∃ d e, ds = [d, e] ∧ Q d e := by
  unfold d2 at h
  split at h
  · exact ⟨_, _, rfl, h⟩
  · exact h.elim
theorem d1_mo {ds : List D} {P Q : D → Prop} (i : ∀ d, P d → Q d) (h : d1 ds P) : d1 ds Q := by
  obtain ⟨d, rfl, h⟩ := d1_of h
  exact i _ h
theorem d2_mo {ds : List D} {P Q : D → D → Prop} (i : ∀ d e, P d e → Q d e) (h : d2 ds P) : d2 ds Q := by
  obtain ⟨d, e, rfl, h⟩ := d2_of h
  exact i _ _ h
def rLen (ds : List D) (Q : D → Prop) : Prop := d1 ds fun d => match d with
  | .lst xs => Q (.int xs.length)
  | .tup xs => Q (.int xs.length)
  | .str z => z.length ≤ sizeLine ∧ Q (.int z.length)
  | _ => False
theorem cd_len : CallD X (.builtin "len") rLen := by
  refine ⟨fun xs P Q i h => d1_mo (fun d h => by cases d <;> first | exact i _ h | exact ⟨h.1, i _ h.2⟩ | exact h) h, fun pins s σ H xs us Q I r ⟨F, ds, l, h, q⟩ => ?_⟩
  obtain ⟨d, rfl, q⟩ := d1_of q
  obtain ⟨v, rfl, k1⟩ := dda1 h
  cases k1 with
  | lst hq ha => exact call_len_seq pins s σ H _ us Q I r ⟨_, _, rfl, .inl (SqL.le l hq), by rw [ha.length]; exact q _ F H (Ex.rfl l) (.int _)⟩
  | tup hq ha => exact call_len_seq pins s σ H _ us Q I r ⟨_, _, rfl, .inr (SqT.le l hq), by rw [ha.length]; exact q _ F H (Ex.rfl l) (.int _)⟩
  | str z => exact call_len_str pins s σ H _ us Q I r ⟨_, rfl, q.1, q.2 _ F H (Ex.rfl l) (.int _)⟩
  | _ => exact q.elim
def rAbs (ds : List D) (Q : D → Prop) : Prop := d1 ds fun d => iOf d fun i => Q (.int (if i < 0 then -i else i))
theorem cd_abs : CallD X (.builtin "abs") rAbs := by
  refine ⟨fun xs P Q i h => d1_mo (fun d h => mo_iOf (fun k => i _) h) h, fun pins s σ H xs us Q I r ⟨F, ds, l, h, q⟩ => ?_⟩
  obtain ⟨d, rfl, q⟩ := d1_of q
  obtain ⟨v, rfl, k1⟩ := dda1 h
  obtain ⟨k, rfl, q⟩ := iOf_of k1 q
  exact call_abs pins s σ H _ us Q I r ⟨k, rfl, q _ F H (Ex.rfl l) (.int _)⟩
def rInt1 (ds : List D) (Q : D → Prop) : Prop := d1 ds fun d => iOf d fun i => Q (.int i)
theorem cd_int : CallD X (.type "int") rInt1 := by
  refine ⟨fun xs P Q i h => d1_mo (fun d h => mo_iOf (fun k => i _) h) h, fun pins s σ H xs us Q I r ⟨F, ds, l, h, q⟩ => ?_⟩
  obtain ⟨d, rfl, q⟩ := d1_of q
  obtain ⟨v, rfl, k1⟩ := dda1 h
  obtain ⟨k, rfl, q⟩ := iOf_of k1 q
  exact call_int1 pins s σ H _ us Q I r (.inl ⟨k, rfl, q _ F H (Ex.rfl l) (.int _)⟩)
def rMin2 (f : Int → Int → Int) (ds : List D) (Q : D → Prop) : Prop := d2 ds fun d e => iOf d fun i => iOf e fun j => Q (.int (f i j))
theorem mo_Min2 {f : Int → Int → Int} : ∀ xs P Q, (∀ d, P d → Q d) → rMin2 f xs P → rMin2 f xs Q := fun xs P Q i h => d2_mo (fun d e h => mo_iOf (fun k => mo_iOf fun j => i _) h) h
theorem cd_max2 (hc : X.calm = true := by rfl) : CallD X (.builtin "max") (rMin2 fun i j => if j > i then j else i) := by
  refine ⟨mo_Min2, fun pins s σ H xs us Q I r ⟨F, ds, l, h, q⟩ => ?_⟩
  obtain ⟨d, e, rfl, q⟩ := d2_of q
  obtain ⟨v, w, rfl, h1, h2⟩ := dda2 h
  obtain ⟨k, rfl, q⟩ := iOf_of h1 q
  obtain ⟨j, rfl, q⟩ := iOf_of h2 q
  exact call_max2 hc pins s σ H _ us Q I r ⟨k, j, rfl, q _ F H (Ex.rfl l) (.int _)⟩
theorem cd_min2 (hc : X.calm = true := by rfl) : CallD X (.builtin "min") (rMin2 fun i j => if j < i then j else i) := by
  refine ⟨mo_Min2, fun pins s σ H xs us Q I r ⟨F, ds, l, h, q⟩ => ?_⟩
  obtain ⟨d, e, rfl, q⟩ := d2_of q
  obtain ⟨v, w, rfl, h1, h2⟩ := dda2 h
  obtain ⟨k, rfl, q⟩ := iOf_of h1 q
  obtain ⟨j, rfl, q⟩ := iOf_of h2 q
  exact call_min2 hc pins s σ H _ us Q I r ⟨k, j, rfl, q _ F H (Ex.rfl l) (.int _)⟩
/-- a list of ints -/
def isInts (d : D) (ns : List Int) : Prop := d = .lst (ns.map .int)
theorem vals_ints {K : PySem.W.Frag} {F : Hp} : ∀ {ns : List Int} {vs : List V}, DdA K F vs (ns.map .int) → vs = ns.map V.int
  | [], _, h => by cases h; rfl
  | n :: r, _, h => by
    cases h with
    | cons a b => cases a; rw [List.map_cons, vals_ints b]
theorem dda_ints {K : PySem.W.Frag} {F : Hp} : ∀ ns : List Int, DdA K F (ns.map V.int) (ns.map .int)
  | [] => .nil
  | n :: r => .cons (.int n) (dda_ints r)
theorem vals_strs {K : PySem.W.Frag} {F : Hp} : ∀ {ns : List Str} {vs : List V}, DdA K F vs (ns.map .str) → vs = ns.map V.str
  | [], _, h => by cases h; rfl
  | n :: r, _, h => by
    cases h with
    | cons a b => cases a; rw [List.map_cons, vals_strs b]
theorem dda_strs {K : PySem.W.Frag} {F : Hp} : ∀ ns : List Str, DdA K F (ns.map V.str) (ns.map .str)
  | [] => .nil
  | n :: r => .cons (.str n) (dda_strs r)
def rSumI (ds : List D) (Q : D → Prop) : Prop := d1 ds fun d => ∃ ns : List Int, d = .lst (ns.map .int) ∧ Q (.int ns.sum)
theorem cd_sum (hc : X.calm = true := by rfl) : CallD X (.builtin "sum") rSumI := by
  refine ⟨fun xs P Q i h => d1_mo (fun d ⟨ns, e, h⟩ => ⟨ns, e, i _ h⟩) h, fun pins s σ H xs us Q I r ⟨F, ds, l, h, q⟩ => ?_⟩
  obtain ⟨d, rfl, ns, rfl, q2⟩ := d1_of q
  obtain ⟨v, rfl, k1⟩ := dda1 h
  cases k1 with
  | lst hq ha =>
    obtain rfl := vals_ints ha
    exact cr_sum hc pins s σ H _ us Q I r ⟨_, ns, rfl, SqL.le l hq, q2 _ F H (Ex.rfl l) (.int _)⟩
def rMaxI (ds : List D) (Q : D → Prop) : Prop := d1 ds fun d => ∃ ns : List Int, d = .lst (ns.map .int) ∧ 0 < ns.length ∧ ∀ m, m ∈ ns → (∀ y, y ∈ ns → y ≤ m) → Q (.int m)
theorem cd_max (hc : X.calm = true := by rfl) : CallD X (.builtin "max") rMaxI := by
  refine ⟨fun xs P Q i h => d1_mo (fun d ⟨ns, e, z, h⟩ => ⟨ns, e, z, fun m a b => i _ (h m a b)⟩) h, fun pins s σ H xs us Q I r ⟨F, ds, l, h, q⟩ => ?_⟩
  obtain ⟨d, rfl, ns, rfl, z, q⟩ := d1_of q
  obtain ⟨v, rfl, k1⟩ := dda1 h
  cases k1 with
  | lst hq ha =>
    obtain rfl := vals_ints ha
    exact cr_max hc pins s σ H _ us Q I r ⟨_, ns, rfl, SqL.le l hq, z, fun m a b => q m a b _ F H (Ex.rfl l) (.int _)⟩
def rMinI (ds : List D) (Q : D → Prop) : Prop := d1 ds fun d => ∃ ns : List Int, d = .lst (ns.map .int) ∧ 0 < ns.length ∧ ∀ m, m ∈ ns → (∀ y, y ∈ ns → m ≤ y) → Q (.int m)
theorem cd_min (hc : X.calm = true := by rfl) : CallD X (.builtin "min") rMinI := by
  refine ⟨fun xs P Q i h => d1_mo (fun d ⟨ns, e, z, h⟩ => ⟨ns, e, z, fun m a b => i _ (h m a b)⟩) h, fun pins s σ H xs us Q I r ⟨F, ds, l, h, q⟩ => ?_⟩
  obtain ⟨d, rfl, ns, rfl, z, q⟩ := d1_of q
  obtain ⟨v, rfl, k1⟩ := dda1 h
  cases k1 with
  | lst hq ha =>
    obtain rfl := vals_ints ha
    exact cr_min hc pins s σ H _ us Q I r ⟨_, ns, rfl, SqL.le l hq, z, fun m a b => q m a b _ F H (Ex.rfl l) (.int _)⟩
def rTupOf (ds : List D) (Q : D → Prop) : Prop := d1 ds fun d => match d with
  | .lst xs => Q (.tup xs)
  | .tup xs => Q (.tup xs)
  | _ => False
theorem cd_tuple : CallD X (.type "tuple") rTupOf := by
  refine ⟨fun xs P Q i h => d1_mo (fun d h => by cases d <;> first | exact i _ h | exact h) h, fun pins s σ H xs us Q I r ⟨F, ds, l, h, q⟩ => ?_⟩
  obtain ⟨d, rfl, q⟩ := d1_of q
  obtain ⟨v, rfl, k1⟩ := dda1 h
  cases k1 with
  | lst hq ha => exact call_tuple_of pins s σ H _ us Q I r ⟨_, _, rfl, .inl ⟨SqL.le l hq, fun p np => q _ _ _ (Ex.newF l np) (dd_tupN ha (l.fr (fr0_none np)))⟩⟩
  | tup hq ha => exact call_tuple_of pins s σ H _ us Q I r ⟨_, _, rfl, .inr ⟨SqT.le l hq, q _ F H (Ex.rfl l) (.tup hq ha)⟩⟩
  | _ => exact q.elim
/-- built-ins that give a new list -/
structure CallL (X : Cx) (f : Value) (r : List D → (List D → Prop) → Prop) : Prop where
  mo : ∀ xs P Q, (∀ d, P d → Q d) → r xs P → r xs Q
  run : CallR X f fun xs H Q => ∃ F ds, Le F H ∧ DdA X.K F xs ds ∧ r ds fun d => ∀ p vs, H p = none → DdA X.K F vs d → Q (.ref p) (upd H p (.lst vs))
def uCallL (r : List D → (List D → Prop) → Prop) (us : TDa) : TDl := fun ρ n Q => us ρ n fun ds m => r ds fun d => Q d m
theorem ul_callB {id : String} {x : Str} {p : Pos} {r : List D → (List D → Prop) → Prop} (hc : CallL X (.builtin id) r) (hm : X.mg x = none) (ha : UA X C (e :: es) us) (hv : bootBuiltins x = some (.builtin id) := by decide +kernel) (hg : Gl X x := by rfl) (hn : x ≠ "__name__" := by decide) (hdb : (x == ("__debug__" : Str)) = false := by decide)
    (he : starEach (e :: es) X.env = (false, eval e X.env) :: starEach es X.env := by rfl) (hpl : (backTo pos (starEach es X.env)).any (·.1) = false := by rfl) : UL X C (.Call (.Name x p) (e :: es) [] pos) (uCallL r us) :=
  ⟨PEw (pe_callB hc.run hg hm hv ha.run hn hdb he hpl) fun σ H Q ⟨F, ρ, n, rel, h⟩ => ⟨F, ρ, n, rel, ha.mo _ _ _ _ (fun ds m q vs F1 H1 x1 m1 d1 =>
    ⟨F1, ds, x1.le, d1, hc.mo _ _ _ (fun d q p ws np dd => q p ws F1 _ (x1.tr (Ex.newO x1.le np)) (C.stay m1 (Ex.newO x1.le np)) (x1.keep.none np) (x1.le.fr (fr0_none np)) upd_same dd) q⟩) h⟩, fun ρ n P Q i w => ha.mo _ _ _ _ (fun ds m => hc.mo _ _ _ fun d => i d m) w⟩
theorem ul_callTy {T : String} {x : Str} {p : Pos} {r : List D → (List D → Prop) → Prop} (hc : CallL X (.type T) r) (hm : X.mg x = none) (ha : UA X C (e :: es) us) (hv : bootBuiltins x = some (.type T) := by decide +kernel) (hg : Gl X x := by rfl) (hn : x ≠ "__name__" := by decide) (hdb : (x == ("__debug__" : Str)) = false := by decide)
    (he : starEach (e :: es) X.env = (false, eval e X.env) :: starEach es X.env := by rfl) (hpl : (backTo pos (starEach es X.env)).any (·.1) = false := by rfl) : UL X C (.Call (.Name x p) (e :: es) [] pos) (uCallL r us) :=
  ⟨PEw (pe_callTy hc.run hg hm hv ha.run hn hdb he hpl) fun σ H Q ⟨F, ρ, n, rel, h⟩ => ⟨F, ρ, n, rel, ha.mo _ _ _ _ (fun ds m q vs F1 H1 x1 m1 d1 =>
    ⟨F1, ds, x1.le, d1, hc.mo _ _ _ (fun d q p ws np dd => q p ws F1 _ (x1.tr (Ex.newO x1.le np)) (C.stay m1 (Ex.newO x1.le np)) (x1.keep.none np) (x1.le.fr (fr0_none np)) upd_same dd) q⟩) h⟩, fun ρ n P Q i w => ha.mo _ _ _ _ (fun ds m => hc.mo _ _ _ fun d => i d m) w⟩
def rLstOf (ds : List D) (Q : List D → Prop) : Prop := d1 ds fun d => match d with
  | .lst xs => Q xs
  | .tup xs => Q xs
  | _ => False
theorem cl_list : CallL X (.type "list") rLstOf := by
  refine ⟨fun xs P Q i h => d1_mo (fun d h => by cases d <;> first | exact i _ h | exact h) h, fun pins s σ H xs us Q I r ⟨F, ds, l, h, q⟩ => ?_⟩
  obtain ⟨d, rfl, q⟩ := d1_of q
  obtain ⟨v, rfl, k1⟩ := dda1 h
  cases k1 with
  | lst hq ha => exact call_list_of pins s σ H _ us Q I r ⟨_, _, rfl, .inl (SqL.le l hq), fun p np => q p _ np ha⟩
  | tup hq ha => exact call_list_of pins s σ H _ us Q I r ⟨_, _, rfl, .inr (SqT.le l hq), fun p np => q p _ np ha⟩
  | _ => exact q.elim
def rSortI (ds : List D) (Q : List D → Prop) : Prop := d1 ds fun d => ∃ ns : List Int, d = .lst (ns.map .int) ∧ ns.length < 64 ∧ ∀ ns' : List Int, ns'.Perm ns → ns'.Pairwise (· ≤ ·) → Q (ns'.map .int)
theorem cl_sortedI : CallL X (.builtin "sorted") rSortI := by
  refine ⟨fun xs P Q i h => d1_mo (fun d ⟨ns, e, z, h⟩ => ⟨ns, e, z, fun m a b => i _ (h m a b)⟩) h, fun pins s σ H xs us Q I r ⟨F, ds, l, h, q⟩ => ?_⟩
  obtain ⟨d, rfl, ns, rfl, z, q⟩ := d1_of q
  obtain ⟨v, rfl, k1⟩ := dda1 h
  cases k1 with
  | lst hq ha =>
    obtain rfl := vals_ints ha
    exact cr_sorted pins s σ H _ us Q I r ⟨_, ns, rfl, SqL.le l hq, z, fun ns' p h1 h2 np => q ns' h1 h2 p _ np (dda_ints ns')⟩
def rSortS (ds : List D) (Q : List D → Prop) : Prop := d1 ds fun d => ∃ ns : List Str, d = .lst (ns.map .str) ∧ ns.length < 64 ∧ ∀ ns' : List Str, ns'.Perm ns → sortedS ns' = true → Q (ns'.map .str)
theorem cl_sortedS : CallL X (.builtin "sorted") rSortS := by
  refine ⟨fun xs P Q i h => d1_mo (fun d ⟨ns, e, z, h⟩ => ⟨ns, e, z, fun m a b => i _ (h m a b)⟩) h, fun pins s σ H xs us Q I r ⟨F, ds, l, h, q⟩ => ?_⟩
  obtain ⟨d, rfl, ns, rfl, z, q⟩ := d1_of q
  obtain ⟨v, rfl, k1⟩ := dda1 h
  cases k1 with
  | lst hq ha =>
    obtain rfl := vals_strs ha
    exact cr_sortedS pins s σ H _ us Q I r ⟨_, ns, rfl, SqL.le l hq, z, fun ns' p h1 h2 np => q ns' h1 h2 p _ np (dda_strs ns')⟩
/-! ### isinstance -/
inductive BT where
  | int | str | bool | tuple | list | dict
def BT.nm : BT → String
  | .int => "int" | .str => "str" | .bool => "bool" | .tuple => "tuple" | .list => "list" | .dict => "dict"
def BT.id : BT → Str
  | .int => "int" | .str => "str" | .bool => "bool" | .tuple => "tuple" | .list => "list" | .dict => "dict"
def tyN : D → String
  | .non => "NoneType" | .bl _ => "bool" | .int _ => "int" | .str _ => "str" | .lst _ => "list" | .tup _ => "tuple" | .dk _ _ => "dict" | _ => ""
def isT : BT → D → Option Bool
  | _, .ty _ => none
  | _, .ref _ => none
  | _, .ins _ _ _ => none
  | _, .exc _ _ _ => none
  | .int, .int _ => some true
  | .int, .bl _ => some true
  | .str, .str _ => some true
  | .bool, .bl _ => some true
  | .tuple, .tup _ => some true
  | .list, .lst _ => some true
  | .dict, .dk _ _ => some true
  | _, _ => some false
theorem isT_kit {t : BT} {d : D} {b : Bool} (h : isT t d = some b) : kitB (tyN d) t.nm = some b := by
  cases t <;> cases d <;> simp only [isT, Option.some.injEq, reduceCtorEq] at h <;> subst h <;> simp only [tyN, BT.nm] <;> decide +kernel
theorem dd_ty {K : PySem.W.Frag} {F H : Hp} {v : V} {d : D} (l : Le F H) (h : Dd K F v d) {t : BT} {b : Bool} (e : isT t d = some b) : TyX K H v (.type (tyN d)) := by
  cases h with
  | non => exact .base .non
  | bl _ => exact .base (.bl _)
  | int _ => exact .base (.int _)
  | str _ => exact .base (.str _)
  | ty _ => cases t <;> cases e
  | ref _ => cases t <;> cases e
  | ins _ _ => cases t <;> cases e
  | exc _ _ _ => cases t <;> cases e
  | lst hq ha =>
    rcases SqL.le l hq with (q | ⟨o, q⟩) | ⟨o, its, n, q, c, _⟩
    · exact .base (.lst q)
    · exact .base (.frz q)
    · exact .kList q c
  | tup hq ha =>
    rcases SqT.le l hq with (q | ⟨o, q⟩) | ⟨o, its, n, q, c, _⟩
    · exact .base (.tup q)
    · exact .fTuple q
    · exact .kTuple q c
  | dk hq ha =>
    rcases Rd.le l hq with q | ⟨o, q⟩
    · exact .base (.dK q)
    · exact .fDict q
def uIsi (t : BT) (u : TD) : TD := fun ρ n Q => u ρ n fun d m => match isT t d with
  | some b => Q (.bl b) m
  | none => False
theorem ue_isi (t : BT) {p p2 : Pos} (h : UE X C a u) (hm : X.mg "isinstance" = none) (hm2 : X.mg t.id = none) (hg : Gl X "isinstance" := by rfl) (hg2 : Gl X t.id := by rfl) (hv : bootBuiltins t.id = some (.type t.nm) := by decide +kernel) (hn : t.id ≠ "__name__" := by decide +kernel) (hd : (t.id == ("__debug__" : Str)) = false := by decide +kernel)
    (h1 : starEach [a, .Name t.id p2] X.env = (false, eval a X.env) :: starEach [.Name t.id p2] X.env := by rfl) (h2 : starEach [.Name t.id p2] X.env = (false, eval (.Name t.id p2) X.env) :: starEach [] X.env := by rfl) (hpl : (backTo pos (starEach [.Name t.id p2] X.env)).any (·.1) = false := by rfl) :
    UE X C (.Call (.Name "isinstance" p) [a, .Name t.id p2] [] pos) (uIsi t u) := by
  refine ⟨PEw (pe_callB call_isi hg hm (by decide +kernel) (pa_cons h.run (pa_cons (pe_bltn (v := .ty t.nm) hg2 hm2 hv rfl hn hd) pa_nil h2) h1) (by decide) (by decide) h1 hpl) fun σ H Q ⟨F, ρ, n, rel, q⟩ => ⟨F, ρ, n, rel, h.mo _ _ _ _ (fun d m q v F1 H1 x1 m1 d1 => ?_) q⟩, fun ρ n P Q i w => h.mo _ _ _ _ (fun d m q => ?_) w⟩
  · cases e : isT t d with
    | none => rw [e] at q; exact q.elim
    | some b =>
      rw [e] at q
      exact ⟨v, _, _, _, b, rfl, .ty _, dd_ty x1.le d1 e, kit_ty (isT_kit e), q _ F1 H1 x1 m1 (.bl b)⟩
  · cases e : isT t d with
    | none => rw [e] at q; exact q.elim
    | some b => rw [e] at q; exact i _ _ q
end
end PU
set_option maxHeartbeats 2000000
namespace PU
open PySem PySem.Spec PyProof.Rows L2 HG
/-! ## defs over data -/
/-- an exception: its class, its attributes, the ghost -/
abbrev XD := Addr → List Str → List D → Nat → Prop
abbrev SpD := List D → Nat → (D → Nat → Prop) → XD → Prop
def ExcA (K : PySem.W.Frag) (F H : Hp) (dx : Option Addr) (ns : List Str) (xs : List D) : Prop :=
  (dx = none ∧ ns = [] ∧ xs = []) ∨ ∃ d fs, dx = some d ∧ F d = some (.xd fs) ∧ fs.map (·.1) = ns ∧ DdA K F (fs.map (·.2)) xs
def spG (K : PySem.W.Frag) (G : Gh) (a : SpD) : Sp := fun vs H Q E => ∃ F ds n, Le F H ∧ (∀ b ∈ G.pol.ex, Fr0 F b) ∧ DdA K F vs ds ∧ G.M n H ∧
  a ds n (fun d m => ∀ v F' H', Ex G.pol F H F' H' → G.M m H' → Dd K F' v d → Q v H') fun c ns xs m => ∀ dx F' H', Ex G.pol F H F' H' → G.M m H' → ExcA K F' H' dx ns xs → E (.ref c) dx H'
def MoSp (a : SpD) : Prop := ∀ ds n (Q Q' : D → Nat → Prop) (E E' : XD), (∀ d m, Q d m → Q' d m) → (∀ c ns xs m, E c ns xs m → E' c ns xs m) → a ds n Q E → a ds n Q' E'
structure CalG (P : Program) (w : World) (K : PySem.W.Frag) (mg : Str → Option Value) (base : Heap) (CX : CXT) (k : Nat) (x : Str) (ps : List Str) {ι : Type} (G : ι → Gh) (a : ι → SpD) : Prop where
  ca : Callee P w K mg base CX k x ps fun vs H Q E => ∃ i, spG K (G i) (a i) vs H Q E
  mo : ∀ i, MoSp (a i)
def startD (N : List Str) (ds : List D) : List S := ds.map .d ++ List.replicate (N.length - ds.length) .u
abbrev cnOf (G : Gh) (F H : Hp) : Cn := { toGh := G, F0 := F, H0 := H }
theorem gt_d : ∀ (ds : List D) (r : List S) (i : Nat), (∀ j, gt r j = .u) → (gt (ds.map .d ++ r) i = .u ∧ ds[i]? = none) ∨ ∃ d, ds[i]? = some d ∧ gt (ds.map .d ++ r) i = .d d
  | [], r, i, h => .inl ⟨h i, by simp⟩
  | d :: ds, r, 0, h => .inr ⟨d, rfl, rfl⟩
  | d :: ds, r, i + 1, h => by
    rcases gt_d ds r i h with q | ⟨e, q1, q2⟩
    · exact .inl (by simpa [gt] using q)
    · exact .inr ⟨e, by simpa using q1, q2⟩
theorem gt_rep : ∀ (n j : Nat), gt (List.replicate n .u) j = .u
  | 0, _ => rfl
  | n + 1, 0 => rfl
  | n + 1, j + 1 => gt_rep n j
theorem rel_start {K : PySem.W.Frag} {G : Gh} {F H : Hp} {N : List Str} {vs : List V} {ds : List D} {n : Nat} (l : Le F H) (h : DdA K F vs ds) (m : G.M n H) (hl : ds.length ≤ N.length) : Rel K (cnOf G F H) F (startD N ds) n (L2.start N vs) H := by
  have own0 : ∀ a, a ∉ owns (startD N ds) := fun a z => by
    obtain ⟨i, z⟩ := owns_mem.mp z
    rcases gt_d ds _ i (gt_rep (N.length - ds.length)) with ⟨q, _⟩ | ⟨e, _, q⟩
    · unfold startD at z; rw [q] at z; cases z
    · unfold startD at z; rw [q] at z; cases z
  refine ⟨Ex.rfl l, m, ?_, fun i => ?_, fun i j a z => absurd (owns_mem.mpr ⟨i, z⟩) (own0 a), fun a z => absurd z (own0 a)⟩
  · unfold L2.start startD
    simp [h.length]
  · rcases gt_d ds _ i (gt_rep (N.length - ds.length)) with ⟨q, _⟩ | ⟨e, q1, q⟩
    · unfold startD; rw [q]; trivial
    · unfold startD
      rw [q]
      obtain ⟨v, hv, dd⟩ := h.get' q1
      refine ⟨v, ?_, dd⟩
      unfold L2.start
      have hi : i < vs.length := (List.getElem?_eq_some_iff.mp hv).1
      rw [List.getD_eq_getElem?_getD, List.getElem?_append_left (by simpa using hi), List.getElem?_map, hv]
      rfl
theorem Callee.weak {P : Program} {w : World} {K : PySem.W.Frag} {mg : Str → Option Value} {base : Heap} {CX : CXT} {k : Nat} {x : Str} {ps : List Str} {sp sp' : Sp} (c : Callee P w K mg base CX k x ps sp) (h : ∀ vs H Q E, sp' vs H Q E → sp vs H Q E) : Callee P w K mg base CX k x ps sp' := by
  obtain ⟨f, fd, F, m, kp, b, at_⟩ := c.ex
  exact ⟨f, fd, ⟨fun vs H Q E z => F.len vs H Q E (h _ _ _ _ z), fun A fr s H g us vs Q E r e0 hb hv z => F.run A fr s H g us vs Q E r e0 hb hv (h _ _ _ _ z)⟩, m, kp, b, at_⟩
structure GhOk (G : Gh) : Prop where
  sub : ∀ b ∈ G.pol.ex, b ∈ G.dx
theorem gh0_ok : GhOk gh0 := ⟨fun _ h => nomatch h⟩
section
variable {P : Program} {w : World} {K : PySem.W.Frag} {mg : Str → Option Value} {base : Heap} {ι : Type} {G : ι → Gh} {a : ι → SpD}
/-- a def from which no exception leaves -/
theorem _root_.HG.Def.uk {x : Str} {st : Stmt} {N ps : List Str} {k : Nat} (Df : Def K mg x st ps) (S : FnScope N ps (defScope st)) (ok : ∀ i, GhOk (G i)) (mo : ∀ i, MoSp (a i)) (len : ∀ i ds n Q E, a i ds n Q E → ds.length = ps.length)
    (body : ∀ (i : ι) (f : Addr) (cdv : Value) (A : Around) (outer : List Env) (s : Shared) (F H : Hp) (Ev : XK) (ds : List D) (n : Nat) (Q : D → Nat → Prop) (E : XD),
      (cnOf (G i) F H).Ok → Room k (A.deeper (envOfC x (defScope st) s.heap.objs.size f cdv)) → a i ds n Q E →
      ∃ w', USs (cxOf CX0 P w K mg base N x (defScope st) f cdv A outer s H Ev).nox (cnOf (G i) F H) (defBody st) w' ∧ w' { nx := fun _ m => Q .non m, rt := Q } (startD N ds) n) :
    CalG P w K mg base CX0 (k + 1) x ps G a := by
  refine ⟨Df.ok S (fun vs H Q E h => ?_) (fun f cdv A outer s H vs Q E hr h => ?_), mo⟩
  · obtain ⟨i, F, ds, n, l, fx, dd, m, h⟩ := h
    rw [dd.length]
    exact len i ds n _ _ h
  · obtain ⟨i, F, ds, n, l, fx, dd, m, h⟩ := h
    have hl : ds.length ≤ N.length := by
      rw [len i ds n _ _ h]
      have := congrArg List.length S.pre
      rw [List.length_take] at this
      omega
    obtain ⟨w', u, q⟩ := body i f cdv A outer s F H E ds n _ _ ⟨(ok i).sub, fx, fun b z => (G i).dm n H m b ((ok i).sub b z)⟩ hr h
    refine ⟨_, u.run, F, startD N ds, n, _, rel_start l dd m hl, ⟨?_, ?_, ?_, ?_⟩, q⟩
    · exact fun F' ρ n σ H' _ r q => q .non F' H' r.x r.m .non
    · exact fun v d F' n H' x m dd q => q v F' H' x m dd
    · exact fun F' ρ n σ H' _ r q => q.elim
    · exact fun F' ρ n σ H' _ r q => q.elim
/-- a def from which exceptions may leave -/
theorem _root_.HG.Def.ukX {x : Str} {st : Stmt} {N ps : List Str} {k : Nat} (Df : Def K mg x st ps) (S : FnScope N ps (defScope st)) (ok : ∀ i, GhOk (G i)) (mo : ∀ i, MoSp (a i)) (len : ∀ i ds n Q E, a i ds n Q E → ds.length = ps.length)
    (body : ∀ (i : ι) (f : Addr) (cdv : Value) (A : Around) (outer : List Env) (s : Shared) (F H : Hp) (Ev : XK) (ds : List D) (n : Nat) (Q : D → Nat → Prop) (E : XD),
      (cnOf (G i) F H).Ok → Room k (A.deeper (envOfC x (defScope st) s.heap.objs.size f cdv)) → a i ds n Q E →
      (∀ c ns xs m dx F' H', E c ns xs m → Ex (G i).pol F H F' H' → (G i).M m H' → ExcA K F' H' dx ns xs → Ev (.ref c) dx H') →
      ∃ w', USs (cxOf (L2.CX P w) P w K mg base N x (defScope st) f cdv A outer s H Ev) (cnOf (G i) F H) (defBody st) w' ∧ w' { nx := fun _ m => Q .non m, rt := Q } (startD N ds) n) :
    CalG P w K mg base (L2.CX P w) (k + 1) x ps G a := by
  refine ⟨Df.okX S (fun vs H Q E h => ?_) (fun f cdv A outer s H vs Q E hr h => ?_), mo⟩
  · obtain ⟨i, F, ds, n, l, fx, dd, m, h⟩ := h
    rw [dd.length]
    exact len i ds n _ _ h
  · obtain ⟨i, F, ds, n, l, fx, dd, m, h⟩ := h
    have hl : ds.length ≤ N.length := by
      rw [len i ds n _ _ h]
      have := congrArg List.length S.pre
      rw [List.length_take] at this
      omega
    obtain ⟨w', u, q⟩ := body i f cdv A outer s F H E ds n _ (fun c ns xs m => ∀ dx F' H', Ex (G i).pol F H F' H' → (G i).M m H' → ExcA K F' H' dx ns xs → E (.ref c) dx H') ⟨(ok i).sub, fx, fun b z => (G i).dm n H m b ((ok i).sub b z)⟩ hr h fun c ns xs m dx F' H' q x m' e => q dx F' H' x m' e
    refine ⟨_, u.run, F, startD N ds, n, _, rel_start l dd m hl, ⟨?_, ?_, ?_, ?_⟩, q⟩
    · exact fun F' ρ n σ H' _ r q => q .non F' H' r.x r.m .non
    · exact fun v d F' n H' x m dd q => q v F' H' x m dd
    · exact fun F' ρ n σ H' _ r q => q.elim
    · exact fun F' ρ n σ H' _ r q => q.elim
end
section
variable {X : Cx} {C : Cn} {CX : CXT} {k n : Nat} {ps : List Str} {x : Str} {p pos : Pos} {e : Expr} {es : List Expr} {us : TDa} {ι : Type} {G : ι → Gh} {a : ι → SpD}
/-- a call of a def that minds no ghost -/
def uCp (a : SpD) (us : TDa) : TD := fun ρ n Q => us ρ n fun ds m => a ds 0 (fun d _ => Q d m) fun _ _ _ _ => False
/-- .. of one with the same ghost -/
def uCg (a : SpD) (us : TDa) : TD := fun ρ n Q => us ρ n fun ds m => a ds m Q fun _ _ _ _ => False
theorem mo_Cp {a : SpD} (m : MoSp a) (h : Mo us) : Mo (uCp a us) := fun ρ n P Q i w => h _ _ _ _ (fun ds k => m _ _ _ _ _ _ (fun d _ => i d k) fun _ _ _ _ z => z) w
theorem mo_Cg {a : SpD} (m : MoSp a) (h : Mo us) : Mo (uCg a us) := fun ρ n P Q i w => h _ _ _ _ (fun ds k => m _ _ _ _ _ _ i fun _ _ _ _ z => z) w
theorem uc_p {a : SpD} (c : CalG X.prog X.w X.K X.mg X.base CX k x ps (fun _ : Unit => gh0) fun _ => a) (room : Room n X.A) (lets : Passes CX X E0) (args : UA X C (e :: es) us) (hk : k ≤ n := by decide) (glob : Gl X x := by rfl)
    (hdb : (x == ("__debug__" : Str)) = false := by decide) (he : starEach (e :: es) X.env = (false, eval e X.env) :: starEach es X.env := by rfl) (hpl : (backTo pos (starEach es X.env)).any (·.1) = false := by rfl) :
    UE X C (.Call (.Name x p) (e :: es) [] pos) (uCp a us) :=
  ⟨PEw (pe_cE c.ca room lets args.run hk glob hdb he hpl) fun σ H Q ⟨F, ρ, n, rel, q⟩ => ⟨F, ρ, n, rel, args.mo _ _ _ _ (fun ds m q vs F1 H1 x1 m1 d1 =>
    ⟨(), F1, ds, 0, x1.le, (fun _ z => nomatch z), d1, trivial, c.mo () _ _ _ _ _ _ (fun d _ q v F2 H2 x2 _ dd => q v F2 H2 (x1.tr x2.up0) (C.stay m1 x2) dd) (fun _ _ _ _ z => z.elim) q⟩) q⟩, mo_Cp (c.mo ()) args.mo⟩
theorem uc_g (i : ι) (ok : C.Ok) (c : CalG X.prog X.w X.K X.mg X.base CX k x ps G a) (room : Room n X.A) (lets : Passes CX X E0) (args : UA X C (e :: es) us) (hG : G i = C.toGh := by rfl) (hk : k ≤ n := by decide) (glob : Gl X x := by rfl)
    (hdb : (x == ("__debug__" : Str)) = false := by decide) (he : starEach (e :: es) X.env = (false, eval e X.env) :: starEach es X.env := by rfl) (hpl : (backTo pos (starEach es X.env)).any (·.1) = false := by rfl) :
    UE X C (.Call (.Name x p) (e :: es) [] pos) (uCg (a i) us) :=
  ⟨PEw (pe_cE c.ca room lets args.run hk glob hdb he hpl) fun σ H Q ⟨F, ρ, n, rel, q⟩ => ⟨F, ρ, n, rel, args.mo _ _ _ _ (fun ds m q vs F1 H1 x1 m1 d1 =>
    ⟨i, F1, ds, m, x1.le, (by rw [hG]; exact ok.fr (rel.x.tr x1)), d1, by rw [hG]; exact m1, c.mo i _ _ _ _ _ _ (fun d m q v F2 H2 x2 m2 dd => q v F2 H2 (x1.tr (by rw [hG] at x2; exact x2)) (by rw [hG] at m2; exact m2) dd) (fun _ _ _ _ z => z.elim) q⟩) q⟩, mo_Cg (c.mo i) args.mo⟩
/-- a def that may raise, where it may -/
def uCpX (a : SpD) (E : XD) (us : TDa) : TD := fun ρ n Q => us ρ n fun ds m => a ds 0 (fun d _ => Q d m) fun c ns xs _ => E c ns xs m
def uCgX (a : SpD) (E : XD) (us : TDa) : TD := fun ρ n Q => us ρ n fun ds m => a ds m Q E
def XOk (K : PySem.W.Frag) (C : Cn) (E : XD) (Ev : XK) : Prop := ∀ c ns xs m dx F' H', E c ns xs m → Ex C.pol C.F0 C.H0 F' H' → C.M m H' → ExcA K F' H' dx ns xs → Ev (.ref c) dx H'
theorem uc_pX {a : SpD} {E : XD} {Ev : XK} (xo : XOk X.K C E Ev) (c : CalG X.prog X.w X.K X.mg X.base CX k x ps (fun _ : Unit => gh0) fun _ => a) (room : Room n X.A) (lets : Passes CX X Ev) (args : UA X C (e :: es) us) (hk : k ≤ n := by decide) (glob : Gl X x := by rfl)
    (hdb : (x == ("__debug__" : Str)) = false := by decide) (he : starEach (e :: es) X.env = (false, eval e X.env) :: starEach es X.env := by rfl) (hpl : (backTo pos (starEach es X.env)).any (·.1) = false := by rfl) :
    UE X C (.Call (.Name x p) (e :: es) [] pos) (uCpX a E us) :=
  ⟨PEw (pe_cE c.ca room lets args.run hk glob hdb he hpl) fun σ H Q ⟨F, ρ, n, rel, q⟩ => ⟨F, ρ, n, rel, args.mo _ _ _ _ (fun ds m q vs F1 H1 x1 m1 d1 =>
    ⟨(), F1, ds, 0, x1.le, (fun _ z => nomatch z), d1, trivial, c.mo () _ _ _ _ _ _ (fun d _ q v F2 H2 x2 _ dd => q v F2 H2 (x1.tr x2.up0) (C.stay m1 x2) dd)
      (fun c ns xs _ q dx F2 H2 x2 _ ea => xo c ns xs m dx F2 H2 q ((rel.x.tr x1).tr x2.up0) (C.stay m1 x2) ea) q⟩) q⟩,
    fun ρ n P Q i w => args.mo _ _ _ _ (fun ds k => c.mo () _ _ _ _ _ _ (fun d _ => i d k) fun _ _ _ _ z => z) w⟩
theorem uc_gX {E : XD} {Ev : XK} (i : ι) (ok : C.Ok) (xo : XOk X.K C E Ev) (c : CalG X.prog X.w X.K X.mg X.base CX k x ps G a) (room : Room n X.A) (lets : Passes CX X Ev) (args : UA X C (e :: es) us) (hG : G i = C.toGh := by rfl) (hk : k ≤ n := by decide) (glob : Gl X x := by rfl)
    (hdb : (x == ("__debug__" : Str)) = false := by decide) (he : starEach (e :: es) X.env = (false, eval e X.env) :: starEach es X.env := by rfl) (hpl : (backTo pos (starEach es X.env)).any (·.1) = false := by rfl) :
    UE X C (.Call (.Name x p) (e :: es) [] pos) (uCgX (a i) E us) :=
  ⟨PEw (pe_cE c.ca room lets args.run hk glob hdb he hpl) fun σ H Q ⟨F, ρ, n, rel, q⟩ => ⟨F, ρ, n, rel, args.mo _ _ _ _ (fun ds m q vs F1 H1 x1 m1 d1 =>
    ⟨i, F1, ds, m, x1.le, (by rw [hG]; exact ok.fr (rel.x.tr x1)), d1, by rw [hG]; exact m1, c.mo i _ _ _ _ _ _ (fun d m q v F2 H2 x2 m2 dd => q v F2 H2 (x1.tr (by rw [hG] at x2; exact x2)) (by rw [hG] at m2; exact m2) dd)
      (fun c ns xs m q dx F2 H2 x2 m2 ea => xo c ns xs m dx F2 H2 q ((rel.x.tr x1).tr (by rw [hG] at x2; exact x2)) (by rw [hG] at m2; exact m2) ea) q⟩) q⟩,
    fun ρ n P Q j w => args.mo _ _ _ _ (fun ds k => c.mo i _ _ _ _ _ _ j fun _ _ _ _ z => z) w⟩
end
end PU
set_option maxHeartbeats 2000000
namespace PU
open PySem PySem.Spec PyProof.Rows L2 HG
section
variable {X : Cx}
/-- == of scalars, or else of data -/
def rEqA (f : Bool → Bool) (x y : D) (Q : D → Prop) : Prop := match eqS x y with
  | some b => Q (.bl (f b))
  | none => rEqD f x y Q
theorem mo_eqA {f : Bool → Bool} : MoR (rEqA f) := fun x y P Q i h => by
  unfold rEqA at h ⊢
  split <;> rename_i e <;> simp only [e] at h
  · exact i _ h
  · exact mo_eqD _ _ _ _ i h
theorem opd_eqA (hu : X.A.units + 64 < cLine) : OpD X (compareOp .Eq) (rEqA id) := by
  refine ⟨mo_eqA, fun pins s σ H x y v u Q I rx ry ⟨F, dx, dy, l, h1, h2, q⟩ => ?_⟩
  unfold rEqA at q
  cases e : eqS dx dy with
  | none => rw [e] at q; exact (opd_eqD hu).run pins s σ H x y v u Q I rx ry ⟨F, dx, dy, l, h1, h2, q⟩
  | some b => rw [e] at q; exact opd_eq.run pins s σ H x y v u Q I rx ry ⟨F, dx, dy, l, h1, h2, by unfold rEqS; rw [e]; exact q⟩
theorem opd_neA (hu : X.A.units + 64 < cLine) : OpD X (compareOp .NotEq) (rEqA not) := by
  refine ⟨mo_eqA, fun pins s σ H x y v u Q I rx ry ⟨F, dx, dy, l, h1, h2, q⟩ => ?_⟩
  unfold rEqA at q
  cases e : eqS dx dy with
  | none => rw [e] at q; exact (opd_neD hu).run pins s σ H x y v u Q I rx ry ⟨F, dx, dy, l, h1, h2, q⟩
  | some b => rw [e] at q; exact opd_ne.run pins s σ H x y v u Q I rx ry ⟨F, dx, dy, l, h1, h2, by unfold rEqS; rw [e]; exact q⟩
variable {C : Cn} {e : Expr} {u : TD} {pos : Pos}
/-! ### attributes of one's own instances -/
def lkD : List Str → List D → Str → Option D
  | n :: ns, d :: ds, f => if f == n then some d else lkD ns ds f
  | _, _, _ => none
def uFld (CA : Addr) (f : Str) (u : TD) : TD := fun ρ n Q => u ρ n fun d m => match d with
  | .ins c ns ds => c = CA ∧ match lkD ns ds f with
    | some y => Q y m
    | none => False
  | _ => False
theorem lk_of {K : PySem.W.Frag} {F : Hp} {f : Str} {y : D} : ∀ {fs : List (Str × V)} {ds : List D}, DdA K F (fs.map (·.2)) ds → lkD (fs.map (·.1)) ds f = some y → ∃ v, fs.lookup f = some v ∧ Dd K F v y
  | [], _, h, e => by cases h; cases e
  | (n, v) :: r, _, h, e => by
    cases h with
    | cons a b =>
      simp only [List.map_cons, lkD] at e
      simp only [List.lookup_cons]
      by_cases z : (f == n) = true
      · rw [if_pos z] at e
        cases e
        rw [z]
        exact ⟨v, rfl, a⟩
      · rw [if_neg z] at e
        have z2 : (f == n) = false := by simpa using z
        rw [z2]
        exact lk_of b e
theorem ue_fld {CA : Addr} {f : Str} (cl : Cls X.K CA) (na : NoAttr X.K CA f) (h : UE X C e u) (hb : attributeBase e f X.env (eval e X.env) = eval e X.env := by rfl) : UE X C (.Attribute e f pos) (uFld CA f u) := by
  refine ⟨PEw (pe_fld h.run hb) fun σ H Q ⟨F, ρ, n, rel, q⟩ => ⟨F, ρ, n, rel, h.mo _ _ _ _ (fun d m q v F1 H1 x1 m1 d1 => ?_) q⟩, fun ρ n P Q i w => h.mo _ _ _ _ (fun d m q => ?_) w⟩
  · cases d1 with
    | ins hq ha =>
      obtain ⟨rfl, q2⟩ := q
      split at q2
      · rename_i y z
        obtain ⟨v, e1, dd⟩ := lk_of ha z
        exact ⟨_, _, _, _, v, rfl, x1.le _ _ hq (fun _ z => nomatch z), cl, na, e1, q2 v F1 H1 x1 m1 dd⟩
      · exact q2.elim
    | _ => exact q.elim
  · cases d with
    | ins c ns ds =>
      refine ⟨q.1, ?_⟩
      have q := q.2
      cases z : lkD ns ds f with
      | none => rw [z] at q; exact q.elim
      | some y => rw [z] at q; exact i _ _ q
    | _ => exact q
/-! ### raise -/
def tSf (C : Addr) (fl : Str) (ta : TA) : L2.St → Hp → XK → Prop := fun σ H Q => ta σ H fun vs H1 => ∃ v, vs = [v] ∧ ∀ d H', H1 d = none → Keep [] H1 H' → H' d = some (.xd [(fl, v)]) → Q (.ref C) (some d) H'
theorem pmk_sf {X : Cx} {x p fl : Str} {C : Addr} {e : Expr} {ta : TA} {pp pos : Pos} (c : ErrS X.prog X.w X.K X.mg X.base x p fl C) (hr : Room 2 X.A) (hg : Gl X x) (ha : PA X [e] ta)
    (mono : ∀ σ H (K1 K2 : List V → Hp → Prop), (∀ vs H', K1 vs H' → K2 vs H') → ta σ H K1 → ta σ H K2)
    (hdb : (x == ("__debug__" : Str)) = false := by decide)
    (he : starEach [e] X.env = (false, eval e X.env) :: starEach [] X.env := by rfl) (hpl : (backTo pos (starEach [] X.env)).any (·.1) = false := by rfl) :
    PMk X (.Call (.Name x pp) [e] [] pos) (tSf C fl ta) := by
  obtain ⟨fI, fd, F, iC, tI, b⟩ := c.ex
  intro pins s σ H Q I h
  refine pmk_oex (p := pp) (pos := pos) c.own iC tI F hr b .nil C8.pass0 hg c.at_ ha hdb he hpl pins s σ H Q I ?_
  refine mono _ _ _ _ (fun vs H1 hv => ?_) h
  obtain ⟨v, rfl, q⟩ := hv
  refine ⟨by simp, fun a na => ⟨a, v, rfl, upd_same, fun dx nd ne => ⟨rfl, dx, [(fl, v)], upd_same, ?_, ?_, ?_⟩⟩⟩
  · rw [upd_ne ne, upd_same]
  · rw [upd_ne ne] at nd
    exact nd
  · rw [upd_ne ne] at nd
    refine q dx _ nd (Keep.ext fun b o hb => ?_) upd_same
    have nb : b ≠ dx := fun z => by rw [z, nd] at hb; cases hb
    have na' : b ≠ a := fun z => by rw [z, na] at hb; cases hb
    rw [upd_ne nb, del_ne na', upd_ne na', upd_ne nb, upd_ne na']
    exact hb
def uRaise0 (CA : Addr) (E : XD) : TDs := fun _ _ n => E CA [] [] n
def uRaiseS (CA : Addr) (fl : Str) (E : XD) (u : TD) : TDs := fun _ ρ n => u ρ n fun d m => E CA [fl] [d] m
theorem us_raise0 {E : XD} {Ev : XK} {x m : Str} {CA : Addr} {j : Nat} {p p2 pos2 : Pos} (xo : XOk X.K C E Ev) (tk : Takes X fun cls d _ H => Ev cls d H) (c : ErrC X.K X.mg x CA) (hc : X.calm = true := by rfl) (hg : Gl X x := by rfl) (hdb : (x == ("__debug__" : Str)) = false := by decide) :
    US X C (.Raise (some (.Call (.Name x p) [.Constant (.str m) j p2] [] pos)) none pos2) (uRaise0 CA E) :=
  ⟨PSw (ps_raise hc tk (pmk_err c hg hdb)) fun D σ H ⟨F, ρ, n, E', rel, ok, q⟩ => xo CA [] [] n none F H q rel.x rel.m (.inl ⟨rfl, rfl, rfl⟩)⟩
theorem us_raiseS {E : XD} {Ev : XK} {x y fl : Str} {CA : Addr} {p pos2 : Pos} (xo : XOk X.K C E Ev) (tk : Takes X fun cls d _ H => Ev cls d H) (c : ErrS X.prog X.w X.K X.mg X.base x y fl CA) (hr : Room 2 X.A) (h : UE X C e u) (hc : X.calm = true := by rfl) (hg : Gl X x := by rfl) (hdb : (x == ("__debug__" : Str)) = false := by decide)
    (he : starEach [e] X.env = (false, eval e X.env) :: starEach [] X.env := by rfl) (hpl : (backTo pos (starEach [] X.env)).any (·.1) = false := by rfl) :
    US X C (.Raise (some (.Call (.Name x p) [e] [] pos)) none pos2) (uRaiseS CA fl E u) := by
  refine ⟨PSw (ps_raise hc tk (pmk_sf c hr hg (pa_cons h.run pa_nil he) (fun σ H K1 K2 i w => ?_) hdb he hpl)) fun D σ H ⟨F, ρ, n, E', rel, ok, q⟩ => ?_⟩
  · obtain ⟨F, ρ, n, rel, w⟩ := w
    exact ⟨F, ρ, n, rel, h.mo _ _ _ _ (fun d m q v F' H' x m' dd => i _ _ (q v F' H' x m' dd)) w⟩
  · refine ⟨F, ρ, n, rel, h.mo _ _ _ _ (fun d m q v F1 H1 x1 m1 d1 => ⟨v, rfl, fun dx H2 nd k hd => ?_⟩) q⟩
    have xk : Ex p0 F1 H1 F1 H2 := ⟨Le.rfl, fun a o e t => k.toKeepW.all a o (x1.le a o e t) (fun z => nomatch z) t, fun _ _ _ _ => Eq.refl _, k.toKeepW.nil, fun _ a ps e => k.tbl a ps e⟩
    have fd := x1.le.fr (fr0_none nd)
    have xf := xk.frz (fr0_none nd) fd hd
    refine xo CA [fl] [d] m (some dx) (upd F1 dx (.xd [(fl, v)])) H2 q ((rel.x.tr x1).tr xf.up0) (C.stay m1 xf) ?_
    exact .inr ⟨dx, [(fl, v)], rfl, upd_same, rfl, .cons (d1.le (Le.upd fd)) .nil⟩
/-! ### kept exceptions -/
/-- isinstance(e, C), e a kept exception -/
def uIsx (K : PySem.W.Frag) (CA : Addr) (u : TD) : TD := fun ρ n Q => u ρ n fun d m => match d with
  | .exc c _ _ => ∃ b, ExcC K c ∧ PySem.W.kitOne K (.ref c) (.ref CA) = some b ∧ Q (.bl b) m
  | _ => False
theorem exk_of {K : PySem.W.Frag} {F H : Hp} {v : V} {c : Addr} {ns : List Str} {xs : List D} (l : Le F H) (h : Dd K F v (.exc c ns xs)) (is : ExcC K c) : ∃ a fs, v = .ref a ∧ ExK K H a c fs ∧ fs.map (·.1) = ns ∧ DdA K F (fs.map (·.2)) xs := by
  cases h with
  | @exc a _ dx fs _ q e r =>
    refine ⟨a, fs, rfl, ⟨is, ?_⟩, rfl, r⟩
    rcases e with ⟨e1, e2⟩ | ⟨d, e1, e2⟩
    · subst e1
      exact .inl ⟨l _ _ q (fun _ z => nomatch z), e2⟩
    · subst e1
      exact .inr ⟨d, l _ _ q (fun _ z => nomatch z), l _ _ e2 (fun _ z => nomatch z)⟩
theorem ue_isx {x : Str} {CA : Addr} {p p2 : Pos} (h : UE X C e u) (hm : X.mg "isinstance" = none) (hm2 : X.mg x = some (.ref CA)) (hg : Gl X "isinstance" := by rfl) (hg2 : Gl X x := by rfl) (hd : (x == ("__debug__" : Str)) = false := by decide)
    (h1 : starEach [e, .Name x p2] X.env = (false, eval e X.env) :: starEach [.Name x p2] X.env := by rfl) (h2 : starEach [.Name x p2] X.env = (false, eval (.Name x p2) X.env) :: starEach [] X.env := by rfl) (hpl : (backTo pos (starEach [.Name x p2] X.env)).any (·.1) = false := by rfl) :
    UE X C (.Call (.Name "isinstance" p) [e, .Name x p2] [] pos) (uIsx X.K CA u) := by
  refine ⟨PEw (pe_callB call_isK2 hg hm (by decide +kernel) (pa_cons h.run (pa_cons (pe_glob (v := .ref CA) hg2 hm2 rfl hd) pa_nil h2) h1) (by decide) (by decide) h1 hpl) fun σ H Q ⟨F, ρ, n, rel, q⟩ => ⟨F, ρ, n, rel, h.mo _ _ _ _ (fun d m q v F1 H1 x1 m1 d1 => ?_) q⟩, fun ρ n P Q i w => h.mo _ _ _ _ (fun d m q => ?_) w⟩
  · cases d with
    | exc c ns xs =>
      obtain ⟨b, is, k, q⟩ := q
      obtain ⟨a, fs, rfl, ek, _, _⟩ := exk_of x1.le d1 is
      exact ⟨a, c, CA, fs, b, rfl, ek, k, q _ F1 H1 x1 m1 (.bl b)⟩
    | _ => exact q.elim
  · cases d with
    | exc c ns xs =>
      obtain ⟨b, is, k, q⟩ := q
      exact ⟨b, is, k, i _ _ q⟩
    | _ => exact q.elim
def uXat (K : PySem.W.Frag) (f : Str) (u : TD) : TD := fun ρ n Q => u ρ n fun d m => match d with
  | .exc c ns xs => ExcC K c ∧ XfC K c ∧ PySem.W.findIn K (.ref c) f = some none ∧ ∃ y, lkD ns xs f = some y ∧ Q y m
  | _ => False
theorem ue_xat {f : Str} (h : UE X C e u) (hb : attributeBase e f X.env (eval e X.env) = eval e X.env := by rfl) : UE X C (.Attribute e f pos) (uXat X.K f u) := by
  refine ⟨PEw (pe_xk h.run hb) fun σ H Q ⟨F, ρ, n, rel, q⟩ => ⟨F, ρ, n, rel, h.mo _ _ _ _ (fun d m q v F1 H1 x1 m1 d1 => ?_) q⟩, fun ρ n P Q i w => h.mo _ _ _ _ (fun d m q => ?_) w⟩
  · cases d with
    | exc c ns xs =>
      obtain ⟨is, xf, fn, y, lk, q⟩ := q
      obtain ⟨a, fs, rfl, ek, e1, e2⟩ := exk_of x1.le d1 is
      subst e1
      obtain ⟨v, hv, dd⟩ := lk_of e2 lk
      exact ⟨a, c, fs, v, rfl, ek, xf, fn, hv, q v F1 H1 x1 m1 dd⟩
    | _ => exact q.elim
  · cases d with
    | exc c ns xs =>
      obtain ⟨is, xf, fn, y, lk, q⟩ := q
      exact ⟨is, xf, fn, y, lk, i _ _ q⟩
    | _ => exact q.elim
end
/-! ## forms of promises -/
/-- a function of its arguments -/
def spF {α : Type} (args : α → List D) (pre : α → Prop) (res : α → D) : SpD := fun ds n Q _ => ∃ x, ds = args x ∧ pre x ∧ Q (res x) n
theorem mo_F {α : Type} {args : α → List D} {pre : α → Prop} {res : α → D} : MoSp (spF args pre res) := fun ds n Q Q' E E' i _ ⟨x, h1, h2, h3⟩ => ⟨x, h1, h2, i _ _ h3⟩
/-- one of several things, the ghost goes on -/
def spN {α : Type} (args : α → List D) (pre : α → Nat → Prop) (R : α → Nat → D → Nat → Prop) : SpD := fun ds n Q _ => ∃ x, ds = args x ∧ pre x n ∧ ∀ d m, R x n d m → Q d m
theorem mo_N {α : Type} {args : α → List D} {pre : α → Nat → Prop} {R : α → Nat → D → Nat → Prop} : MoSp (spN args pre R) := fun ds n Q Q' E E' i _ ⟨x, h1, h2, h3⟩ => ⟨x, h1, h2, fun d m r => i _ _ (h3 d m r)⟩
/-- it returns or raises -/
inductive Res where
  | ok (d : D)
  | er (c : Addr) (ns : List Str) (xs : List D)
def Res.put (r : Res) (n : Nat) (Q : D → Nat → Prop) (E : XD) : Prop := match r with
  | .ok d => Q d n
  | .er c ns xs => E c ns xs n
def spX {α : Type} (args : α → List D) (pre : α → Prop) (res : α → Res) : SpD := fun ds n Q E => ∃ x, ds = args x ∧ pre x ∧ (res x).put n Q E
theorem mo_X {α : Type} {args : α → List D} {pre : α → Prop} {res : α → Res} : MoSp (spX args pre res) := fun ds n Q Q' E E' i j ⟨x, h1, h2, h3⟩ => ⟨x, h1, h2, by
  unfold Res.put at h3 ⊢
  split <;> rename_i e <;> simp only [e] at h3
  · exact i _ _ h3
  · exact j _ _ _ _ h3⟩
end PU
set_option maxHeartbeats 2000000
namespace PU
open PySem PySem.Spec PyProof.Rows L2 HG LamX
/-! ## lambdas -/
/-- own lists are not known within a lambda -/
def fro : List S → List S
  | [] => []
  | .d x :: r => .d x :: fro r
  | _ :: r => .u :: fro r
theorem fro_length : ∀ ρ : List S, (fro ρ).length = ρ.length
  | [] => rfl
  | .d _ :: r => congrArg (· + 1) (fro_length r)
  | .u :: r => congrArg (· + 1) (fro_length r)
  | .o _ _ :: r => congrArg (· + 1) (fro_length r)
  | .q _ _ _ :: r => congrArg (· + 1) (fro_length r)
theorem gt_fro : ∀ (ρ : List S) (i : Nat), (∃ x, gt ρ i = .d x ∧ gt (fro ρ) i = .d x) ∨ gt (fro ρ) i = .u
  | [], _ => .inr rfl
  | .d x :: r, 0 => .inl ⟨x, rfl, rfl⟩
  | .u :: r, 0 => .inr rfl
  | .o _ _ :: r, 0 => .inr rfl
  | .q _ _ _ :: r, 0 => .inr rfl
  | .d _ :: r, i + 1 => gt_fro r i
  | .u :: r, i + 1 => gt_fro r i
  | .o _ _ :: r, i + 1 => gt_fro r i
  | .q _ _ _ :: r, i + 1 => gt_fro r i
/-- the ghost of a def that makes lambdas -/
structure LamOk (C : Cn) (T : List (Addr × Str)) : Prop where
  lam : C.pol.lam = true
  tabs : ∀ n H, C.M n H → Tabs T H
  re : ∀ n H H1, C.M n H → ExtN H H1 → Tabs T H1 → C.M n H1
theorem extN_keepW {ex : List Addr} {H H' : Hp} (e : ExtN H H') : KeepW ex H H' :=
  ⟨fun a o h _ t => e a o h t, fun a xs h => e a _ h (fun _ z => nomatch z), fun a o u h => e a _ h (fun _ z => nomatch z), fun a o h t => ⟨o, e a o h t, t⟩⟩
section
variable {K : PySem.W.Frag} {C : Cn} {F : Hp} {ρ : List S} {n : Nat} {σ : L2.St} {H H1 : Hp} {T : List (Addr × Str)}
theorem ex_lam (L : LamOk C T) (l : Le F H) (e : ExtN H H1) : Ex C.pol F H F H1 :=
  ⟨Le.rfl, fun a o h t => e a o (l a o h t) t, fun _ _ _ _ => rfl, extN_keepW e, fun z => by rw [L.lam] at z; cases z⟩
/-- the slots within the lambda -/
theorem Rel.fro (r : Rel K C F ρ n σ H) : Rel K (cnOf C.toGh F H) F (fro ρ) n σ H := by
  have no : ∀ a, a ∉ owns (PU.fro ρ) := fun a m => by
    obtain ⟨i, m⟩ := owns_mem.mp m
    rcases gt_fro ρ i with ⟨x, _, e⟩ | e
    · rw [e] at m; cases m
    · rw [e] at m; cases m
  refine ⟨Ex.rfl r.le, r.m, by rw [fro_length]; exact r.len, fun i => ?_, fun i j a m => absurd (owns_mem.mpr ⟨i, m⟩) (no a), fun a m => absurd m (no a)⟩
  rcases gt_fro ρ i with ⟨x, e1, e⟩ | e
  · have q := r.sl i
    rw [e1] at q
    rw [e]
    exact q
  · rw [e]
    trivial
end
/-- caught: what the task's exception becomes -/
def TTk (K : PySem.W.Frag) (CE : Addr) : (XK → Hp → VK → Prop) → Hp → VK → Prop := fun tl H Q =>
  tl (fun cls d H' => PySem.W.exmOne K cls (.ref CE) = some true ∧ ∀ a, H' a = none → Q (.ref a) (upd H' a (Exn cls d a))) H
    fun _ H' => ∃ v, (some (some V.non) : Option (Option V)) = some (some v) ∧ Q v H'
def uCaught (K : PySem.W.Frag) (CE : Addr) (xu : XD → TD) : TD := fun ρ n Q =>
  xu (fun c ns xs m => PySem.W.exmOne K (.ref c) (.ref CE) = some true ∧ Q (.exc c ns xs) m) (fro ρ) n fun _ m => Q .non m
/-- the reading of a lambda's body -/
def tX (K : PySem.W.Frag) (G : Gh) (xu : XD → TD) (E : XK) : TE := fun σ H Q => ∃ (F0 H0 : Hp) (Ed : XD), (cnOf G F0 H0).Ok ∧ XOk K (cnOf G F0 H0) Ed E ∧ tE K (cnOf G F0 H0) (xu Ed) σ H Q
theorem caught_read {K : PySem.W.Frag} {C : Cn} {CE : Addr} {T : List (Addr × Str)} {xu : XD → TD} (ok : C.Ok) (L : LamOk C T) (mo : ∀ Ed, Mo (xu Ed)) {σ : L2.St} {H : Hp} {Q : VK} (h : tE K C (uCaught K CE xu) σ H Q) :
    tLam T (TTk K CE) (tX K C.toGh xu) σ H Q := by
  obtain ⟨F, ρ, n, rel, q⟩ := h
  refine ⟨L.tabs n H rel.m, fun H1 eN T1 => ?_⟩
  have x1 := ex_lam L rel.le eN
  have rel1 := rel.stepG x1 (L.re n H H1 rel.m eN T1)
  refine ⟨F, H1, _, ⟨ok.sub, ok.fr rel1.x, fun b m => C.dm n H1 rel1.m b (ok.sub b m)⟩, ?_, F, fro ρ, n, rel1.fro, mo _ _ _ _ _ (fun d m q v F2 H2 x2 m2 _ => ?_) q⟩
  · intro c ns xs m dx F2 H2 ⟨hit, q⟩ x2 m2 ea
    refine ⟨hit, fun a na => ?_⟩
    have x3 : Ex p0 F2 H2 (upd F2 a (Exn (.ref c) dx a)) (upd H2 a (Exn (.ref c) dx a)) := Ex.newF x2.le na
    refine q _ (upd F2 a (Exn (.ref c) dx a)) _ ((x1.tr x2).tr x3.up0) (C.stay m2 x3) ?_
    rcases ea with ⟨e1, e2, e3⟩ | ⟨d, fs, e1, e2, e3, e4⟩
    · subst e1 e2 e3
      exact .exc (fs := []) upd_same (.inl ⟨rfl, rfl⟩) .nil
    · subst e1 e3
      exact .exc upd_same (.inr ⟨d, rfl, x3.up _ _ e2 (fun _ z => nomatch z)⟩) (e4.le x3.up)
  · exact ⟨.non, rfl, q _ F2 H2 (x1.tr x2) m2 .non⟩
theorem mo_caught {K : PySem.W.Frag} {CE : Addr} {xu : XD → TD} (mo : ∀ Ed, Mo (xu Ed)) (mx : ∀ E E' ρ n Q, (∀ c ns xs m, E c ns xs m → E' c ns xs m) → xu E ρ n Q → xu E' ρ n Q) : Mo (uCaught K CE xu) := fun ρ n P Q i w =>
  mx _ _ _ _ _ (fun c ns xs m z => ⟨z.1, i _ _ z.2⟩) (mo _ _ _ _ _ (fun d m => i _ m) w)
section
variable {X : Cx} {C : Cn}
/-- x(lambda: body), x catching -/
theorem ue_lamcall {CE c P : Addr} {T : List (Addr × Str)} {k : Nat} {x a : Str} {params : Arguments} {body : Expr} {scope : Scope} {xu : XD → TD} {p lpos pos : Pos} (ok : C.Ok) (L : LamOk C T)
    (pe : ∀ t : XK → TE, (∀ (A : Around) (outer : List Env) (s : Shared) (H : Hp) (E : XK) (f c' : Addr), Room k (A.deeper (lamEnv X scope s.heap.objs.size f c')) → PE (lamCx X A outer s H E scope f c') body (t E)) →
      PE X (.Call (.Name x p) [.Lambda params body scope lpos] [] pos) (tLam T (TTk X.K CE) t))
    (mo : ∀ Ed, Mo (xu Ed)) (mx : ∀ E E' ρ n Q, (∀ c ns xs m, E c ns xs m → E' c ns xs m) → xu E ρ n Q → xu E' ρ n Q)
    (hbody : ∀ (A : Around) (outer : List Env) (s : Shared) (H : Hp) (Ev : XK) (f c' : Addr) (F0 H0 : Hp) (E : XD), Room k (A.deeper (lamEnv X scope s.heap.objs.size f c')) → (cnOf C.toGh F0 H0).Ok → XOk X.K (cnOf C.toGh F0 H0) E Ev →
      UE (lamCx X A outer s H Ev scope f c') (cnOf C.toGh F0 H0) body (xu E)) :
    UE X C (.Call (.Name x p) [.Lambda params body scope lpos] [] pos) (uCaught X.K CE xu) :=
  ⟨PEw (pe (tX X.K C.toGh xu) fun A outer s H E f c' hr => ⟨fun pins s1 σ H1 Q I ⟨F0, H0, Ed, ok', xo, q⟩ => (hbody A outer s H E f c' F0 H0 Ed hr ok' xo).run.run pins s1 σ H1 Q I q⟩) fun σ H Q h => caught_read ok L mo h, mo_caught mo mx⟩
end
end PU
set_option maxHeartbeats 2000000
namespace HG
open PySem PySem.Spec PyProof.Rows L2 LamX
/-- a def that makes lambdas: its code object stands at c -/
structure DefC (K : PySem.W.Frag) (mg : Str → Option Value) (x : Str) (st : Stmt) (ps : List Str) (c : Addr) : Prop where
  ex : ∃ (f : Addr) (oc : Value) (od : Option Addr) (kV doc pm : Value) (an : Option Addr) (ct : Value) (osl : Array (Option Value)),
    K.lookup f = some ⟨oc, od, .func (PySem.W.fnOf x x (defArgs st) (defBody st) (defScope st) .none kV doc pm an (.ref c) ct), osl⟩ ∧
    PySem.W.codeIn K (.ref c) x = true ∧ PySem.W.keepIn K (.ref f) = true ∧ mg x = some (.ref f) ∧
    Binds K (PySem.W.fnOf x x (defArgs st) (defBody st) (defScope st) .none kV doc pm an (.ref c) ct) ps []
section
variable {P : Program} {w : World} {K : PySem.W.Frag} {mg : Str → Option Value} {base : Heap}
theorem DefC.ok {x : Str} {st : Stmt} {N ps : List Str} {k : Nat} {sp : Sp} {c : Addr} (D : DefC K mg x st ps c) (S : FnScope N ps (defScope st))
    (len : ∀ vs H Q E, sp vs H Q E → vs.length = ps.length)
    (body : ∀ (f : Addr) (A : Around) (outer : List Env) (s : Shared) (H : Hp) (vs : List V) (Q : VK) (E : XK),
      Room k (A.deeper (envOfC x (defScope st) s.heap.objs.size f (.ref c))) → sp vs H Q E →
      ∃ t, PSs (cxOf CX0 P w K mg base N x (defScope st) f (.ref c) A outer s H E).nox (defBody st) t ∧
        t { nx := fun _ H' => Q .non H', rt := Q } (start N vs) H) :
    Callee P w K mg base CX0 (k + 1) x ps sp := by
  obtain ⟨f, oc, od, kV, doc, pm, an, ct, osl, lk, cd, kp, m, b⟩ := D.ex
  refine ⟨f, _, fn_of lk cd S len fun A outer s H vs Q E hr h => ?_, m, kp, b, ⟨_, _, _, lk⟩⟩
  obtain ⟨t, ht, q⟩ := body f A outer s H vs Q E hr h
  exact ⟨t, ht.nox, q⟩
theorem DefC.okP {x : Str} {st : Stmt} {N ps : List Str} {k : Nat} {sp : Sp} {c : Addr} (D : DefC K mg x st ps c) (S : FnScope N ps (defScope st))
    (len : ∀ vs H Q E, sp vs H Q E → vs.length = ps.length)
    (body : ∀ (f : Addr) (A : Around) (outer : List Env) (s : Shared) (H : Hp) (vs : List V) (Q : VK) (E : XK),
      NoG (A.deeper (envOfC x (defScope st) s.heap.objs.size f (.ref c))) →
      Room k (A.deeper (envOfC x (defScope st) s.heap.objs.size f (.ref c))) → sp vs H Q E →
      ∃ t, PSs (cxOf CX0 P w K mg base N x (defScope st) f (.ref c) A outer s H E).nox (defBody st) t ∧
        t { nx := fun _ H' => Q .non H', rt := Q } (start N vs) H) :
    CalleeP P w K mg base CX0 (k + 1) x ps sp := by
  obtain ⟨f, oc, od, kV, doc, pm, an, ct, osl, lk, cd, kp, m, b⟩ := D.ex
  refine ⟨f, _, ⟨len, fun A frames s H given us vs Q E room ng e0 hb hv hs => ?_⟩, m, kp, b, ⟨_, _, _, lk⟩⟩
  refine LamX.run_ofS lk cd S room e0 hb hv (len _ _ _ _ hs) fun room' => ?_
  obtain ⟨t, h, q⟩ := body f A frames s H vs Q E ng room' hs
  exact ⟨t, h.nox, q⟩
end
theorem passL2 {X : Cx} {A : Around} {outer : List Env} {s : Shared} {H : Hp} {E : XK} {scope : Scope} {f c' : Addr} :
    Passes (L2.CX X.prog X.w) (lamCx X A outer s H E scope f c') E :=
  passes_call (W := fun cls d _ H => E cls d H) (takes_of rfl rfl rfl rfl) (fun _ _ _ _ h => h)
end HG
set_option maxHeartbeats 2000000
namespace HG
open PySem PySem.Spec PyProof.Rows L2
theorem te_join {t : TE} {σ : L2.St} {H : Hp} {Q : VK} (R : V → Hp → Prop) (a : ∀ NX : VK, (∀ v H', R v H' → NX v H') → t σ H NX) (b : ∀ v H', R v H' → Q v H') : t σ H Q := a Q b
theorem kwb3 {x p q r : Str} {st : Stmt} (h : ∀ (kV doc pm : Value) (an : Option Addr) (cdv ct a b c : Value),
    bindArgs (PySem.W.fnOf x x (defArgs st) (defBody st) (defScope st) .none kV doc pm an cdv ct) ⟨[], [(r, c), (q, b), (p, a)]⟩ = pure [(p, a), (q, b), (r, c)]) : KwB x st [p, q, r] [r, q, p] := by
  intro kV doc pm an cdv ct ws l
  match ws, l with
  | [c, b, a], _ => exact h kV doc pm an cdv ct a b c
/-- the last two of three exchanged -/
def sw {α : Type} : List α → List α
  | [a, b, c] => [a, c, b]
  | l => l
theorem sw_len {α : Type} : ∀ l : List α, (sw l).length = l.length
  | [] => rfl
  | [_] => rfl
  | [_, _] => rfl
  | [_, _, _] => rfl
  | _ :: _ :: _ :: _ :: _ => rfl
theorem vals_sw : ∀ {vs : List V} {us : List Value}, Vals vs us → Vals (sw vs) (sw us)
  | _, _, .nil => .nil
  | _, _, .cons a .nil => .cons a .nil
  | _, _, .cons a (.cons b .nil) => .cons a (.cons b .nil)
  | _, _, .cons a (.cons b (.cons c .nil)) => .cons a (.cons c (.cons b .nil))
  | _, _, .cons a (.cons b (.cons c (.cons d t))) => .cons a (.cons b (.cons c (.cons d t)))
def KwS (x : Str) (st : Stmt) (ps ks : List Str) : Prop :=
  ∀ (kV doc pm : Value) (an : Option Addr) (cdv ct : Value) (ws : List Value), ws.length = ps.length →
    bindArgs (PySem.W.fnOf x x (defArgs st) (defBody st) (defScope st) .none kV doc pm an cdv ct) ⟨[], ks.zip ws⟩ = pure (ps.zip (sw ws))
theorem kws3 {x p q r : Str} {st : Stmt} (h : ∀ (kV doc pm : Value) (an : Option Addr) (cdv ct a b c : Value),
    bindArgs (PySem.W.fnOf x x (defArgs st) (defBody st) (defScope st) .none kV doc pm an cdv ct) ⟨[], [(p, a), (r, c), (q, b)]⟩ = pure [(p, a), (q, b), (r, c)]) : KwS x st [p, q, r] [p, r, q] := by
  intro kV doc pm an cdv ct ws l
  match ws, l with
  | [a, c, b], _ => exact h kV doc pm an cdv ct a b c
section
variable {X : Cx} {CX : CXT} {k n : Nat} {ps ks : List Str} {sp : Sp} {E : XK} {x : Str} {p pos : Pos} {kws : List Keyword} {tk : TA} {st : Stmt}
def tKwS (sp : Sp) (E : XK) (tk : TA) : TE := fun σ H Q => tk σ H fun zs H1 => sp (sw zs) H1 Q E
theorem pe_kwS (C : Callee X.prog X.w X.K X.mg X.base CX k x ps sp) (D : Def X.K X.mg x st ps) (B : KwS x st ps ks) (room : Room n X.A) (lets : Passes CX X E)
    (named : PK X kws tk) (hk : k ≤ n := by decide) (glob : Gl X x := by rfl)
    (hall : (backToKw pos (keywordEach kws X.env)).all (·.1.isSome) = true := by rfl)
    (hks : (backToKw pos (keywordEach kws X.env)).filterMap (·.1) = ks := by rfl)
    (hdb : (x == ("__debug__" : Str)) = false := by decide)
    (hpl : ((backTo pos (starEach [] X.env)).any (·.1) || (backToKw pos (keywordEach kws X.env)).any (·.1.isNone)) = false := by rfl) :
    PE X (.Call (.Name x p) [] kws pos) (tKwS sp E tk) := by
  obtain ⟨f, fd, F, m, kp, _, c1, d1, s1, at1⟩ := C.ex
  obtain ⟨f2, fd2, F2, m2, _⟩ := D.ex
  rw [m] at m2
  cases m2
  obtain ⟨c2, d2, kV, doc, pm, an, cdv, ct, s2, same, at2, _⟩ := F2.ex
  rw [at1] at at2
  cases at2
  refine ⟨fun pins s σ H Q I h => ?_⟩
  refine wpAny_Call_Name_kw (ld_glob I glob m ?_ hdb)
  refine PySem.W.callWith_KW0 (h₀ := X.base) I.ok.mod.kin kp hall (thn (named.run pos pins s σ H _ I h) fun ws z ⟨zs, H2, I2, rz, q2⟩ => ⟨I2.kIn, ?_⟩) hpl
  rw [hks]
  have rv := vals_sw rz
  have len : ws.length = ps.length := by
    rw [← rz.length, ← sw_len]
    exact F.len _ _ _ _ q2
  have b : BindsTo z fd ⟨[], ks.zip ws⟩ (ps.zip (sw ws)) := by
    rw [same]
    exact .of_eq (B kV doc pm an cdv ct ws len)
  refine wpAny_call (codeAny_mono (F.run X.A X.stack z H2 ⟨[], ks.zip ws⟩ (sw ws) (sw zs) Q E (room.mono hk) I2.env0 b rv q2) fun r s' hq => ?_)
  match r, hq with
  | .error e, hq => exact lets pins σ H2 z e s' I2 hq
  | .ok (.ret u), hq => exact I2.after hq
  | .ok .next, hq => exact False.elim hq
  | .ok .brk, hq => exact False.elim hq
  | .ok .cont, hq => exact False.elim hq
end
end HG
set_option maxHeartbeats 2000000
namespace HG
open PySem PySem.Spec PyProof.Rows L2
/-! ## data whose texts are short -/
theorem int_short {a : Int} (h : a.natAbs < 2 ^ 100) : (Str.ofString (toString a)).length ≤ 102 := by
  have e := int_text_length_le (a := a) (k := 100) (by decide) (by
    by_cases z : a.natAbs = 0
    · rw [z]
      decide
    · exact (Nat.log2_lt z).mpr h)
  rw [PySem.ofString_length]
  omega
theorem int_log {a : Int} (h : a.natAbs < 2 ^ 100) : a.natAbs.log2 < 1920 := by
  by_cases z : a.natAbs = 0
  · rw [z]
    decide
  · exact Nat.lt_of_lt_of_le ((Nat.log2_lt z).mpr h) (by decide)
/-- a datum of depth at most k whose text has at most n signs -/
structure Sh (k n : Nat) (d : PyData) : Prop where
  showable : d.showable = true
  noDict : d.hasDict = false
  depth : d.depth ≤ k
  len : d.shown.length ≤ n
theorem sh_int {a : Int} (h : a.natAbs < 2 ^ 100) : Sh 0 102 (.int a) := by
  refine ⟨by simp only [PyData.showable]; exact decide_eq_true (int_log h), by simp only [PyData.hasDict], by simp only [PyData.depth]; omega, ?_⟩
  simp only [PyData.shown]
  exact int_short h
theorem sh_all {k n : Nat} : ∀ {ds : List PyData}, (∀ d ∈ ds, Sh k n d) → PyData.showableAll ds = true ∧ PyData.hasDictAll ds = false ∧ PyData.depthAll ds ≤ k ∧ ((PyData.shownAll ds).map (·.length)).sum ≤ n * ds.length ∧ (PyData.shownAll ds).length = ds.length
  | [], _ => by simp [PyData.showableAll, PyData.hasDictAll, PyData.depthAll, PyData.shownAll]
  | d :: r, h => by
    obtain ⟨a1, a2, a3, a4, a5⟩ := sh_all (ds := r) fun x m => h x (List.mem_cons_of_mem _ m)
    have hd := h d List.mem_cons_self
    have b3 := hd.depth
    have b4 := hd.len
    refine ⟨by simp only [PyData.showableAll, hd.showable, a1, Bool.and_self], by simp only [PyData.hasDictAll, hd.noDict, a2, Bool.or_self], by simp only [PyData.depthAll]; omega, ?_, by simp only [PyData.shownAll, List.length_cons, a5]⟩
    simp only [PyData.shownAll, List.map_cons, List.sum_cons, List.length_cons]
    rw [Nat.mul_succ]
    omega
theorem sh_tup {k n : Nat} {ds : List PyData} (h : ∀ d ∈ ds, Sh k n d) : Sh (k + 1) (n * ds.length + 2 * ds.length + 3) (.tuple ds) := by
  obtain ⟨a1, a2, a3, a4, a5⟩ := sh_all h
  refine ⟨by simp only [PyData.showable, a1], by simp only [PyData.hasDict, a2], by simp only [PyData.depth]; omega, ?_⟩
  simp only [PyData.shown]
  have l := tupleText_len_le (PyData.shownAll ds)
  rw [a5] at l
  omega
theorem Sh.more {k n k' n' : Nat} {d : PyData} (h : Sh k n d) (hk : k ≤ k') (hn : n ≤ n') : Sh k' n' d := ⟨h.showable, h.noDict, Nat.le_trans h.depth hk, Nat.le_trans h.len hn⟩
end HG
set_option maxHeartbeats 2000000
namespace PU
open PySem PySem.Spec PyProof.Rows L2 HG LamX
section
variable {X : Cx} {C : Cn} {e a : Expr} {es : List Expr} {u ua : TD} {us : TDa} {pos : Pos}
/-! ## xs + ys, lists that are read -/
theorem cat_raw {P : Program} {w : World} {A : Around} {s : Shared} {E Q : Value → Shared → Prop} {p q : Addr} {xs ys : List Value} (hp : s.heap.IsList p xs.toArray) (hq : s.heap.IsList q ys.toArray) (small : xs.length + ys.length ≤ sizeLine)
    (fin : Q (.ref s.heap.objs.size) { s with heap := s.heap.push { cls := .type "list", data := .seq (xs ++ ys).toArray } }) : wpAny (model P w) A (binaryOp .Add (.ref p) (.ref q)) Q E s := by
  obtain ⟨⟨c1, d1, da1, s1⟩, at1, k1, n1, z1⟩ := hp
  obtain ⟨⟨c2, d2, da2, s2⟩, at2, k2, n2, z2⟩ := hq
  dsimp only at k1 z1 k2 z2
  subst k1 z1 k2 z2
  have both : xs.toArray ++ ys.toArray = (xs ++ ys).toArray := List.append_toArray ..
  refine concat_meets ⟨_, at1, rfl⟩ ⟨_, at2, rfl⟩ noFill_list_add seq_list_add PySem.F.slot_list_add PySem.F.entry_list_add (PySem.F.args_list_add_2 _ _) (list_addW p q xs.toArray ys.toArray n1 n2 d1 d2 s1 s2 ?_) ⟨at1, at2, ?_⟩
  · simpa using small
  · rw [both]
    exact fin
theorem op_catL : OpR X (binaryOp .Add) fun x y H Q => ∃ p q xs ys, x = .ref p ∧ y = .ref q ∧ SqL X.K H p xs ∧ SqL X.K H q ys ∧ xs.length + ys.length ≤ sizeLine ∧ ∀ r, H r = none → Q (.ref r) (upd H r (.lst (xs ++ ys))) := by
  intro pins s σ H x y v w Q I rx ry ⟨p, q, xs, ys, e1, e2, h1, h2, z, k⟩
  subst e1 e2
  obtain rfl : v = .ref p := rx
  obtain rfl : w = .ref q := ry
  obtain ⟨t1, r1, l1, _⟩ := I.list h1
  obtain ⟨t2, r2, l2, _⟩ := I.list h2
  refine cat_raw l1.isList l2.isList (by rw [← r1.length, ← r2.length]; exact z) ⟨.ref s.heap.objs.size, _, I.lnew (t' := s.toks) (r1.append r2) (by rw [List.length_append]; exact z), rfl, k _ I.fresh⟩
/-- + of ints, texts, tuples, lists -/
def rPlus : D → D → (D → Prop) → Prop
  | .int a, .int b, Q => Q (.int (a + b))
  | .str a, .str b, Q => a.length + b.length ≤ sizeLine ∧ Q (.str (a ++ b))
  | .tup a, .tup b, Q => a.length + b.length ≤ sizeLine ∧ Q (.tup (a ++ b))
  | .lst a, .lst b, Q => a.length + b.length ≤ sizeLine ∧ Q (.lst (a ++ b))
  | _, _, _ => False
theorem mo_plus : MoR rPlus := fun x y P Q i h => by
  cases x <;> cases y <;> first | exact h | exact i _ h | exact ⟨h.1, i _ h.2⟩
theorem opd_plus : OpD X (binaryOp .Add) rPlus := by
  refine ⟨mo_plus, fun pins s σ H x y v w Q I rx ry ⟨F, dx, dy, l, h1, h2, q⟩ => ?_⟩
  match dx, dy, h1, h2, q with
  | .lst a, .lst b, .lst q1 a1, .lst q2 a2, q =>
    exact op_catL pins s σ H _ _ v w Q I rx ry ⟨_, _, _, _, rfl, rfl, SqL.le l q1, SqL.le l q2, by rw [a1.length, a2.length]; exact q.1, fun p np => q.2 _ _ _ (Ex.newF l np) (dd_lstN (a1.append a2) (l.fr (fr0_none np)))⟩
  | .int a, .int b, h1, h2, q => exact opd_add.run pins s σ H x y v w Q I rx ry ⟨F, _, _, l, h1, h2, q⟩
  | .str a, .str b, h1, h2, q => exact opd_add.run pins s σ H x y v w Q I rx ry ⟨F, _, _, l, h1, h2, q⟩
  | .tup a, .tup b, h1, h2, q => exact opd_add.run pins s σ H x y v w Q I rx ry ⟨F, _, _, l, h1, h2, q⟩
/-! ## texts -/
/-- the signs of a text -/
def sgs (z : Str) : List D := z.cps.toList.map fun c => .str ⟨#[c]⟩
def uStrI (u : TD) : TDi := fun ρ n Q => u ρ n fun d m => match d with
  | .str z => Q (sgs z) m
  | _ => False
theorem ui_str {tg : Expr} (h : UE X C e u) : UI X C tg e (uStrI u) := by
  refine ⟨PIw (pi_str h.run) fun σ H R ⟨F, ρ, n, rel, q⟩ => ⟨F, ρ, n, rel, h.mo _ _ _ _ (fun d m q v F1 H1 x1 m1 d1 => ?_) q⟩, fun ρ n P Q i w => h.mo _ _ _ _ (fun d m q => by cases d <;> first | exact i _ _ q | exact q) w⟩
  cases d1 with
  | str z =>
    refine ⟨z, rfl, q (Its z) F1 H1 x1 m1 ⟨fun _ => True, fun i H x H' => H' = H ∧ ∃ c, z.cps[i]? = some c ∧ x = .str ⟨#[c]⟩, ?_, fun _ _ => trivial, fun i H x H' F1 l l1 y => ?_⟩⟩
    · have e : (sgs z).length = z.cps.size := by unfold sgs; simp
      rw [e]
      exact walk_str
    · obtain ⟨rfl, c, hc, rfl⟩ := y
      refine ⟨F1, .str ⟨#[c]⟩, ?_, Ex.rfl l1, .str _⟩
      unfold sgs
      rw [List.getElem?_map]
      have : z.cps.toList[i]? = some c := by simpa using hc
      rw [this]
      rfl
  | _ => exact q.elim
/-- sep.join(rows of texts) -/
def uJoin (u ua : TD) : TD := fun ρ n Q => u ρ n fun d m => match d with
  | .str a => ua ρ m fun e k => ∃ ys : List Str, (e = .lst (ys.map .str) ∨ e = .tup (ys.map .str)) ∧ (ys.map (·.length)).sum + ys.length * a.length ≤ 16777216 ∧ Q (.str (Txt.join a ys)) k
  | _ => False
theorem ue_join {ap : Pos} (h : UE X C e u) (ha : UE X C a ua) (hs : starEach [a] X.env = [(false, eval a X.env)] := by rfl) (hb : attributeBase e "join" X.env (eval e X.env) = eval e X.env := by rfl) (hl : (ap.endLine == pos.line) = true := by rfl) :
    UE X C (.Call (.Attribute e "join" ap) [a] [] pos) (uJoin u ua) := by
  refine ⟨PEw (pe_join h.run ha.run hs hb hl) fun σ H Q ⟨F, ρ, n, rel, q⟩ => ⟨F, ρ, n, rel, h.mo _ _ _ _ (fun d m q v F1 H1 x1 m1 d1 => ?_) q⟩, fun ρ n P Q i w => h.mo _ _ _ _ (fun d m q => ?_) w⟩
  · cases d1 with
    | str z =>
      refine ⟨⟨z, rfl⟩, F1, ρ, m, rel.stepG x1 m1, ha.mo _ _ _ _ (fun e k q v F2 H2 x2 m2 d2 => ?_) q⟩
      obtain ⟨ys, h1, h2, h3⟩ := q
      rcases h1 with rfl | rfl
      · cases d2 with
        | lst hq hA =>
          obtain rfl := vals_strs hA
          exact ⟨z, _, ys, rfl, rfl, .inl (SqL.le x2.le hq), h2, h3 _ F2 H2 (x1.tr x2) m2 (.str _)⟩
      · cases d2 with
        | tup hq hA =>
          obtain rfl := vals_strs hA
          exact ⟨z, _, ys, rfl, rfl, .inr (SqT.le x2.le hq), h2, h3 _ F2 H2 (x1.tr x2) m2 (.str _)⟩
    | _ => exact q.elim
  · cases d with
    | str z => exact ha.mo _ _ _ _ (fun e k ⟨ys, a1, a2, a3⟩ => ⟨ys, a1, a2, i _ _ a3⟩) q
    | _ => exact q
/-- text.split(text) -/
def uSplit (u ua : TD) : TDl := fun ρ n Q => u ρ n fun d m => match d with
  | .str a => ua ρ m fun e k => match e with
    | .str b => (b.length == 0) = false ∧ a.length + 2 ≤ sizeLine ∧ Q ((Txt.split a b).map .str) k
    | _ => False
  | _ => False
theorem ul_split {ap : Pos} (h : UE X C e u) (ha : UE X C a ua) (hs : starEach [a] X.env = [(false, eval a X.env)] := by rfl) (hb : attributeBase e "split" X.env (eval e X.env) = eval e X.env := by rfl) (hl : (ap.endLine == pos.line) = true := by rfl) :
    UL X C (.Call (.Attribute e "split" ap) [a] [] pos) (uSplit u ua) := by
  refine ⟨PEw (pe_split h.run ha.run hs hb hl) fun σ H Q ⟨F, ρ, n, rel, q⟩ => ⟨F, ρ, n, rel, h.mo _ _ _ _ (fun d m q v F1 H1 x1 m1 d1 => ?_) q⟩, fun ρ n P Q i w => h.mo _ _ _ _ (fun d m q => ?_) w⟩
  · cases d1 with
    | str z =>
      refine ⟨⟨z, rfl⟩, F1, ρ, m, rel.stepG x1 m1, ha.mo _ _ _ _ (fun e k q v F2 H2 x2 m2 d2 => ?_) q⟩
      cases d2 with
      | str y => exact ⟨z, y, rfl, rfl, q.1, q.2.1, fun p np => q.2.2 p _ F2 _ ((x1.tr x2).tr (Ex.newO x2.le np)) (C.stay m2 (Ex.newO x2.le np)) ((x1.tr x2).keep.none np) (x2.le.fr (fr0_none np)) upd_same (dda_strs _)⟩
      | _ => exact q.elim
    | _ => exact q.elim
  · cases d with
    | str z =>
      refine ha.mo _ _ _ _ (fun e k q => ?_) q
      cases e with
      | str y => exact ⟨q.1, q.2.1, i _ _ q.2.2⟩
      | _ => exact q
    | _ => exact q
/-! ## repr -/
def rReprD (ds : List D) (Q : D → Prop) : Prop := d1 ds fun d => ∃ p k n, d.py = some p ∧ Sh k n p ∧ k ≤ 64 ∧ n ≤ sizeLine ∧ Q (.str p.shown)
theorem cd_repr (ng : NoG X.A) (hu : X.A.units + 66 < cLine) : CallD X (.builtin "repr") rReprD := by
  refine ⟨fun xs P Q i h => d1_mo (fun d ⟨p, k, n, a1, a2, a3, a4, h⟩ => ⟨p, k, n, a1, a2, a3, a4, i _ h⟩) h, fun pins s σ H xs us Q I r ⟨F, ds, l, h, q⟩ => ?_⟩
  obtain ⟨d, rfl, p, k, n, a1, a2, a3, a4, q⟩ := d1_of q
  obtain ⟨v, rfl, k1⟩ := dda1 h
  exact call_reprD ng hu pins s σ H _ us Q I r ⟨v, p, rfl, dd_py l d k1 a1, a2.showable, a2.noDict, Nat.le_trans a2.depth a3, Nat.le_trans a2.len a4, q _ F H (Ex.rfl l) (.str _)⟩
/-! ## isinstance(x, (list, tuple)) -/
def uIsi2 (t1 t2 : BT) (u : TD) : TD := fun ρ n Q => u ρ n fun d m => match isT t1 d, isT t2 d with
  | some a, some b => Q (.bl (a || b)) m
  | _, _ => False
theorem ue_isi2 (t1 t2 : BT) {p p1 p2 p3 : Pos} {kk : Nat} (h : UE X C a u) (hm : X.mg "isinstance" = none) (z1 : X.mg t1.id = none) (z2 : X.mg t2.id = none) (hg : Gl X "isinstance" := by rfl) (g1 : Gl X t1.id := by rfl) (g2 : Gl X t2.id := by rfl)
    (v1 : bootBuiltins t1.id = some (.type t1.nm) := by decide +kernel) (v2 : bootBuiltins t2.id = some (.type t2.nm) := by decide +kernel) (n1 : t1.id ≠ "__name__" := by decide +kernel) (n2 : t2.id ≠ "__name__" := by decide +kernel) (e1 : (t1.id == ("__debug__" : Str)) = false := by decide +kernel) (e2 : (t2.id == ("__debug__" : Str)) = false := by decide +kernel)
    (s1 : starEach [.Name t1.id p1, .Name t2.id p2] X.env = (false, eval (.Name t1.id p1) X.env) :: starEach [.Name t2.id p2] X.env := by rfl) (s2 : starEach [.Name t2.id p2] X.env = (false, eval (.Name t2.id p2) X.env) :: starEach [] X.env := by rfl)
    (h1 : starEach [a, .Tuple [.Name t1.id p1, .Name t2.id p2] kk p3] X.env = (false, eval a X.env) :: starEach [.Tuple [.Name t1.id p1, .Name t2.id p2] kk p3] X.env := by rfl) (h2 : starEach [.Tuple [.Name t1.id p1, .Name t2.id p2] kk p3] X.env = (false, eval (.Tuple [.Name t1.id p1, .Name t2.id p2] kk p3) X.env) :: starEach [] X.env := by rfl)
    (hpl : (backTo pos (starEach [.Tuple [.Name t1.id p1, .Name t2.id p2] kk p3] X.env)).any (·.1) = false := by rfl) :
    UE X C (.Call (.Name "isinstance" p) [a, .Tuple [.Name t1.id p1, .Name t2.id p2] kk p3] [] pos) (uIsi2 t1 t2 u) := by
  refine ⟨PEw (pe_callB call_isiT hg hm (by decide +kernel) (pa_cons h.run (pa_cons (pe_tup (pa_cons (pe_bltn (v := .ty t1.nm) g1 z1 v1 rfl n1 e1) (pa_cons (pe_bltn (v := .ty t2.nm) g2 z2 v2 rfl n2 e2) pa_nil s2) s1)) pa_nil h2) h1) (by decide) (by decide) h1 hpl) fun σ H Q ⟨F, ρ, n, rel, q⟩ => ⟨F, ρ, n, rel, h.mo _ _ _ _ (fun d m q v F1 H1 x1 m1 d1 => ?_) q⟩, fun ρ n P Q i w => h.mo _ _ _ _ (fun d m q => ?_) w⟩
  · refine ⟨by show 2 ≤ sizeLine; decide, fun tp np => ?_⟩
    cases k1 : isT t1 d with
    | none => rw [k1] at q; exact q.elim
    | some b1 =>
      cases k2 : isT t2 d with
      | none => rw [k1, k2] at q; exact q.elim
      | some b2 =>
        rw [k1, k2] at q
        have x2 : Ex p0 F1 H1 F1 (upd H1 tp (.tup [.ty t1.nm, .ty t2.nm])) := Ex.newO x1.le np
        refine ⟨v, tp, _, _, _, b1 || b2, rfl, upd_same, .cons (.ty _) (.cons (.ty _) .nil), dd_ty x2.le d1 k1, ?_, q _ F1 _ (x1.tr x2.up0) (C.stay m1 x2) (.bl _)⟩
        refine kitAny_cons (kit_ty (isT_kit k1)) (fun z => ?_) (fun z => by rw [z]; rfl)
        refine kitAny_cons (kit_ty (isT_kit k2)) (fun y => ?_) (fun y => by rw [y]; simp)
        rw [z, y]
        rfl
  · cases k1 : isT t1 d with
    | none => rw [k1] at q; exact q.elim
    | some b1 =>
      cases k2 : isT t2 d with
      | none => rw [k1, k2] at q; exact q.elim
      | some b2 => rw [k1, k2] at q; exact i _ _ q
end
end PU
set_option maxHeartbeats 2000000
namespace PU
open PySem PySem.Spec PyProof.Rows L2 HG LamX
/-! ## defs that ask repr: promised where no repr runs around -/
structure CalGP (P : Program) (w : World) (K : PySem.W.Frag) (mg : Str → Option Value) (base : Heap) (CX : CXT) (k : Nat) (x : Str) (ps : List Str) {ι : Type} (G : ι → Gh) (a : ι → SpD) : Prop where
  ca : CalleeP P w K mg base CX k x ps fun vs H Q E => ∃ i, spG K (G i) (a i) vs H Q E
  mo : ∀ i, MoSp (a i)
section
variable {P : Program} {w : World} {K : PySem.W.Frag} {mg : Str → Option Value} {base : Heap} {ι : Type} {G : ι → Gh} {a : ι → SpD}
theorem _root_.HG.Def.ukP {x : Str} {st : Stmt} {N ps : List Str} {k : Nat} (Df : Def K mg x st ps) (S : FnScope N ps (defScope st)) (ok : ∀ i, GhOk (G i)) (mo : ∀ i, MoSp (a i)) (len : ∀ i ds n Q E, a i ds n Q E → ds.length = ps.length)
    (body : ∀ (i : ι) (f : Addr) (cdv : Value) (A : Around) (outer : List Env) (s : Shared) (F H : Hp) (Ev : XK) (ds : List D) (n : Nat) (Q : D → Nat → Prop) (E : XD),
      NoG (A.deeper (envOfC x (defScope st) s.heap.objs.size f cdv)) → (cnOf (G i) F H).Ok → Room k (A.deeper (envOfC x (defScope st) s.heap.objs.size f cdv)) → a i ds n Q E →
      ∃ w', USs (cxOf CX0 P w K mg base N x (defScope st) f cdv A outer s H Ev).nox (cnOf (G i) F H) (defBody st) w' ∧ w' { nx := fun _ m => Q .non m, rt := Q } (startD N ds) n) :
    CalGP P w K mg base CX0 (k + 1) x ps G a := by
  refine ⟨Df.okP S (fun vs H Q E h => ?_) (fun f cdv A outer s H vs Q E ng hr h => ?_), mo⟩
  · obtain ⟨i, F, ds, n, l, fx, dd, m, h⟩ := h
    rw [dd.length]
    exact len i ds n _ _ h
  · obtain ⟨i, F, ds, n, l, fx, dd, m, h⟩ := h
    have hl : ds.length ≤ N.length := by
      rw [len i ds n _ _ h]
      have := congrArg List.length S.pre
      rw [List.length_take] at this
      omega
    obtain ⟨w', u, q⟩ := body i f cdv A outer s F H E ds n _ _ ng ⟨(ok i).sub, fx, fun b z => (G i).dm n H m b ((ok i).sub b z)⟩ hr h
    refine ⟨_, u.run, F, startD N ds, n, _, rel_start l dd m hl, ⟨?_, ?_, ?_, ?_⟩, q⟩
    · exact fun F' ρ n σ H' _ r q => q .non F' H' r.x r.m .non
    · exact fun v d F' n H' x m dd q => q v F' H' x m dd
    · exact fun F' ρ n σ H' _ r q => q.elim
    · exact fun F' ρ n σ H' _ r q => q.elim
end
section
variable {X : Cx} {C : Cn} {CX : CXT} {k n : Nat} {ps : List Str} {x : Str} {p pos : Pos} {e : Expr} {es : List Expr} {us : TDa} {t : TA} {sp : Sp}
theorem pe_cP (c : CalleeP X.prog X.w X.K X.mg X.base CX k x ps sp) (room : Room n X.A) (ng : NoG X.A) (lets : Passes CX X E0) (args : PA X (e :: es) t) (hk : k ≤ n := by decide) (glob : Gl X x := by rfl)
    (hdb : (x == ("__debug__" : Str)) = false := by decide) (he : starEach (e :: es) X.env = (false, eval e X.env) :: starEach es X.env := by rfl) (hpl : (backTo pos (starEach es X.env)).any (·.1) = false := by rfl) :
    PE X (.Call (.Name x p) (e :: es) [] pos) (fun σ H Q => t σ H fun vs H1 => sp vs H1 Q E0) := by
  obtain ⟨f, fd, F, m, kp, b, _⟩ := c.ex
  exact pe_callP F (room.mono hk) ng glob m kp b lets args hdb he hpl
theorem uc_pP {a : SpD} (c : CalGP X.prog X.w X.K X.mg X.base CX k x ps (fun _ : Unit => gh0) fun _ => a) (room : Room n X.A) (ng : NoG X.A) (lets : Passes CX X E0) (args : UA X C (e :: es) us) (hk : k ≤ n := by decide) (glob : Gl X x := by rfl)
    (hdb : (x == ("__debug__" : Str)) = false := by decide) (he : starEach (e :: es) X.env = (false, eval e X.env) :: starEach es X.env := by rfl) (hpl : (backTo pos (starEach es X.env)).any (·.1) = false := by rfl) :
    UE X C (.Call (.Name x p) (e :: es) [] pos) (uCp a us) :=
  ⟨PEw (pe_cP c.ca room ng lets args.run hk glob hdb he hpl) fun σ H Q ⟨F, ρ, n, rel, q⟩ => ⟨F, ρ, n, rel, args.mo _ _ _ _ (fun ds m q vs F1 H1 x1 m1 d1 =>
    ⟨(), F1, ds, 0, x1.le, (fun _ z => nomatch z), d1, trivial, c.mo () _ _ _ _ _ _ (fun d _ q v F2 H2 x2 _ dd => q v F2 H2 (x1.tr x2.up0) (C.stay m1 x2) dd) (fun _ _ _ _ z => z.elim) q⟩) q⟩, mo_Cp (c.mo ()) args.mo⟩
/-! ## calls by names: f(q=.., p=..) of f(p, q) -/
def rvD : TDa → TDa := fun us ρ n Q => us ρ n fun ds m => Q ds.reverse m
structure UK (X : Cx) (C : Cn) (ks : List Keyword) (u : TDa) : Prop where
  run : PK X ks (tA X.K C u)
  mo : Mo u
theorem PKw {X : Cx} {e : List Keyword} {t t' : TA} (h : PK X e t) (w : ∀ σ H Q, t' σ H Q → t σ H Q) : PK X e t' := ⟨fun pos pins s σ H Q I q => h.run pos pins s σ H Q I (w _ _ _ q)⟩
theorem uk_nil : UK X C [] uNil := ⟨PKw pk_nil fun σ H Q ⟨F, ρ, n, rel, h⟩ => h [] F H (Ex.rfl rel.le) rel.m .nil, fun _ _ _ _ h u => h _ _ u⟩
theorem uk_cons {u : TD} {ur : TDa} {nm : Option Str} {kp : Pos} {kws : List Keyword} (ha : UE X C e u) (hr : UK X C kws ur) : UK X C (⟨nm, e, kp⟩ :: kws) (uCons u ur) :=
  ⟨PKw (pk_cons ha.run hr.run) fun σ H Q ⟨F, ρ, n, rel, h⟩ => ⟨F, ρ, n, rel, ha.mo _ _ _ _ (fun d m q v F1 H1 x1 m1 d1 =>
    ⟨F1, ρ, m, rel.stepG x1 m1, hr.mo _ _ _ _ (fun ds k q vs F2 H2 x2 m2 d2 => q (v :: vs) F2 H2 (x1.tr x2) m2 (.cons (d1.le x2.up) d2)) q⟩) h⟩, mo_Cons ha.mo hr.mo⟩
theorem dda_rev {K : PySem.W.Frag} {F : Hp} : ∀ {vs : List V} {ds : List D}, DdA K F vs ds → DdA K F vs.reverse ds.reverse
  | _, _, .nil => .nil
  | _, _, .cons a b => by
    rw [List.reverse_cons, List.reverse_cons]
    exact (dda_rev b).append (.cons a .nil)
theorem uc_k {a : SpD} {st : Stmt} {ks : List Str} {kws : List Keyword} {ur : TDa} (c : CalG X.prog X.w X.K X.mg X.base CX k x ps (fun _ : Unit => gh0) fun _ => a) (D : Def X.K X.mg x st ps) (B : KwB x st ps ks) (room : Room n X.A) (lets : Passes CX X E0) (named : UK X C kws ur) (hk : k ≤ n := by decide) (glob : Gl X x := by rfl)
    (hall : (backToKw pos (keywordEach kws X.env)).all (·.1.isSome) = true := by rfl) (hks : (backToKw pos (keywordEach kws X.env)).filterMap (·.1) = ks := by rfl) (hdb : (x == ("__debug__" : Str)) = false := by decide)
    (hpl : ((backTo pos (starEach [] X.env)).any (·.1) || (backToKw pos (keywordEach kws X.env)).any (·.1.isNone)) = false := by rfl) :
    UE X C (.Call (.Name x p) [] kws pos) (uCp a (rvD ur)) :=
  ⟨PEw (pe_kwE c.ca D B room lets named.run hk glob hall hks hdb hpl) fun σ H Q ⟨F, ρ, n, rel, q⟩ => ⟨F, ρ, n, rel, named.mo _ _ _ _ (fun ds m q vs F1 H1 x1 m1 d1 =>
    ⟨(), F1, ds.reverse, 0, x1.le, (fun _ z => nomatch z), dda_rev d1, trivial, c.mo () _ _ _ _ _ _ (fun d _ q v F2 H2 x2 _ dd => q v F2 H2 (x1.tr x2.up0) (C.stay m1 x2) dd) (fun _ _ _ _ z => z.elim) q⟩) q⟩,
    mo_Cp (c.mo ()) fun ρ n P Q i w => named.mo _ _ _ _ (fun ds m => i _ m) w⟩
theorem uc_kX {a : SpD} {E : XD} {Ev : XK} {st : Stmt} {ks : List Str} {kws : List Keyword} {ur : TDa} (xo : XOk X.K C E Ev) (c : CalG X.prog X.w X.K X.mg X.base CX k x ps (fun _ : Unit => gh0) fun _ => a) (D : Def X.K X.mg x st ps) (B : KwB x st ps ks) (room : Room n X.A) (lets : Passes CX X Ev) (named : UK X C kws ur) (hk : k ≤ n := by decide) (glob : Gl X x := by rfl)
    (hall : (backToKw pos (keywordEach kws X.env)).all (·.1.isSome) = true := by rfl) (hks : (backToKw pos (keywordEach kws X.env)).filterMap (·.1) = ks := by rfl) (hdb : (x == ("__debug__" : Str)) = false := by decide)
    (hpl : ((backTo pos (starEach [] X.env)).any (·.1) || (backToKw pos (keywordEach kws X.env)).any (·.1.isNone)) = false := by rfl) :
    UE X C (.Call (.Name x p) [] kws pos) (uCpX a E (rvD ur)) :=
  ⟨PEw (pe_kwE c.ca D B room lets named.run hk glob hall hks hdb hpl) fun σ H Q ⟨F, ρ, n, rel, q⟩ => ⟨F, ρ, n, rel, named.mo _ _ _ _ (fun ds m q vs F1 H1 x1 m1 d1 =>
    ⟨(), F1, ds.reverse, 0, x1.le, (fun _ z => nomatch z), dda_rev d1, trivial, c.mo () _ _ _ _ _ _ (fun d _ q v F2 H2 x2 _ dd => q v F2 H2 (x1.tr x2.up0) (C.stay m1 x2) dd)
      (fun c ns xs _ q dx F2 H2 x2 _ ea => xo c ns xs m dx F2 H2 q ((rel.x.tr x1).tr x2.up0) (C.stay m1 x2) ea) q⟩) q⟩,
    fun ρ n P Q i w => named.mo _ _ _ _ (fun ds k => c.mo () _ _ _ _ _ _ (fun d _ => i d k) fun _ _ _ _ z => z) w⟩
end
end PU
set_option maxHeartbeats 2000000
namespace HG
open PySem PySem.Spec PyProof.Rows L2
/-- one statement behind another, with what holds between -/
theorem seq_join {t1 t2 : TS} {D : Ends} {σ : L2.St} {H : Hp} (P : L2.St → Hp → Prop)
    (h : ∀ NX : L2.St → Hp → Prop, (∀ σ1 H1, P σ1 H1 → NX σ1 H1) → t1 { D with nx := NX } σ H)
    (q : ∀ σ1 H1, P σ1 H1 → t2 D σ1 H1) : tSeq t1 t2 D σ H := h (t2 D) q
theorem dpAll_ints {K : PySem.W.Frag} {H : Hp} : ∀ ns : List Int, DpAll K H (ns.map V.int) (ns.map PyData.int)
  | [] => .nil
  | n :: r => .cons (.int n) (dpAll_ints r)
theorem lay_ints : ∀ ns : List Int, PyData.canLayAll0 (ns.map PyData.int) = true
  | [] => by simp [PyData.canLayAll0]
  | n :: r => by simp [PyData.canLayAll0, PyData.canLay0, lay_ints r]
theorem depth_ints : ∀ ns : List Int, PyData.depthAll (ns.map PyData.int) ≤ 1
  | [] => by simp [PyData.depthAll]
  | n :: r => by
    have := depth_ints r
    simp only [List.map_cons, PyData.depthAll, PyData.depth]
    omega
theorem shaped_ints (ns : List Int) : SeqAt.shaped (.list (ns.map PyData.int)) = true := by
  have h := depth_ints ns
  show (PyData.canLay0 _ && decide (PyData.depth _ ≤ 64)) = true
  rw [Bool.and_eq_true]
  refine ⟨by simp only [PyData.canLay0]; exact lay_ints ns, decide_eq_true ?_⟩
  simp only [PyData.depth]
  omega
theorem eqv_ints_nil (ns : List Int) : PyData.eqv (.list (ns.map PyData.int)) (.list []) = ns.isEmpty := by
  cases ns <;> simp [PyData.eqv, PyData.eqvAll]
/-! ## the drawing -/
def drawK (g c : Addr) (left turn : Int) : List (Key × V) :=
  [(.inr "great", .ref g), (.inr "cells", .ref c), (.inr "left", .int left), (.inr "turn", .int turn)]
theorem drawK_great {g c : Addr} {l t : Int} : valV (drawK g c l t) (.inr "great") = some (.ref g) := rfl
theorem drawK_cells {g c : Addr} {l t : Int} : valV (drawK g c l t) (.inr "cells") = some (.ref c) := rfl
theorem drawK_left {g c : Addr} {l t : Int} : valV (drawK g c l t) (.inr "left") = some (.int l) := rfl
theorem drawK_turn {g c : Addr} {l t : Int} : valV (drawK g c l t) (.inr "turn") = some (.int t) := rfl
theorem drawK_put_left {g c : Addr} {l t m : Int} : putK (drawK g c l t) (.inr "left") (.int m) = drawK g c m t := rfl
theorem drawK_put_turn {g c : Addr} {l t m : Int} : putK (drawK g c l t) (.inr "turn") (.int m) = drawK g c l m := rfl
/-- at p a drawing that has turned at most n times; its lists stand at g and c -/
structure Draw (H : Hp) (p g c : Addr) (n : Int) : Prop where
  ne : g ≠ c
  ex : ∃ (gs cs : List Int) (left turn : Int), H p = some (.dK (drawK g c left turn)) ∧ H g = some (.lst (gs.map V.int)) ∧
    H c = some (.lst (cs.map V.int)) ∧ 0 ≤ turn ∧ turn ≤ n
theorem dget_of {H : Hp} {a : Addr} {kvs : List (Key × V)} {k : Key} {v : V} (e : H a = some (.dK kvs)) (h : valV kvs k = some v) :
    DGet H a (kV k) (some v) := by
  rw [← h]
  exact DGet.k e
theorem dput_of {H : Hp} {a : Addr} {kvs kvs' : List (Key × V)} {k : Key} {v : V} (e : H a = some (.dK kvs)) (h : putK kvs k v = kvs')
    (hl : kvs.length < 1000) : DPut H a (kV k) v (upd H a (.dK kvs')) := by
  rw [← h]
  exact DPut.k e (Nat.lt_trans hl (by decide))
theorem atI_of {α : Type} {xs : List α} {r : Int} (h0 : 0 ≤ r) (h1 : r < xs.length) : ∃ v, xs[r.toNat]? = some v ∧ atI xs r = some v := by
  have h2 : r.toNat < xs.length := by omega
  refine ⟨xs[r.toNat], List.getElem?_eq_getElem h2, ?_⟩
  have q := atI_nat (xs := xs) (j := r.toNat) (List.getElem?_eq_getElem h2)
  rw [Int.toNat_of_nonneg h0] at q
  exact q
def sp_mixed : Sp := fun vs H Q _ => ∃ p g c n, vs = [.ref p] ∧ Draw H p g c n ∧ n < 1000000000 ∧
  ∀ r H', Keep [p] H H' → Draw H' p g c (n + 1) → Q (.int r) H'
def sp_take : Sp := fun vs H Q _ => ∃ p g c n m, vs = [.ref p, .int m] ∧ Draw H p g c n ∧ n < 1000000000 ∧ 0 < m ∧ m < 2 ^ 64 ∧
  ∀ r H', 0 ≤ r → r < m → Keep [p, g] H H' → Draw H' p g c (n + 1) → Q (.int r) H'
def sp_pick (K : PySem.W.Frag) : Sp := fun vs H Q _ => ∃ p g c n l xs, vs = [.ref p, .ref l] ∧ Draw H p g c n ∧ n < 1000000000 ∧
  SqL K H l xs ∧ l ∉ [p, g] ∧ 0 < xs.length ∧ xs.length < 1000 ∧
  ∀ (i : Nat) v H', xs[i]? = some v → Keep [p, g] H H' → Draw H' p g c (n + 1) → Q v H'
def sp_begun (K : PySem.W.Frag) : Sp := fun vs H Q _ => ∃ (l : Addr) (ns : List Int), vs = [.ref l] ∧ SqL K H l (ns.map V.int) ∧ ns.length ≤ 63 ∧
  ∀ p g c H', H p = none → H g = none → H c = none → Keep [] H H' → Draw H' p g c 0 → Q (.ref p) H'
end HG

namespace PU
open PySem PySem.Spec PyProof.Rows L2 HG LamX
theorem draw_not {H : Hp} {p g c : Addr} {n : Int} (d : Draw H p g c n) : ∀ a ∈ [p, g, c], ∃ o, H a = some o ∧ NTb o := by
  obtain ⟨_, gs, cs, left, turn, e1, e2, e3, _⟩ := d
  intro a m
  simp only [List.mem_cons, List.not_mem_nil, or_false] at m
  rcases m with rfl | rfl | rfl
  · exact ⟨_, e1, fun _ z => nomatch z⟩
  · exact ⟨_, e2, fun _ z => nomatch z⟩
  · exact ⟨_, e3, fun _ z => nomatch z⟩
theorem draw_stay {H H' : Hp} {p g c : Addr} {n : Int} (d : Draw H p g c n) (k : ∀ a ∈ [p, g, c], ∀ o, H a = some o → H' a = some o) : Draw H' p g c n := by
  obtain ⟨ne, gs, cs, left, turn, e1, e2, e3, q⟩ := d
  exact ⟨ne, gs, cs, left, turn, k p (by simp) _ e1, k g (by simp) _ e2, k c (by simp) _ e3, q⟩
/-- the ghost of a drawing; more: what else is to be kept (tables), by things that are no lists and no dicts -/
def gDraw (i : Addr × Addr × Addr) : Gh where
  pol := ⟨[i.1, i.2.1], false⟩
  dx := [i.1, i.2.1, i.2.2]
  M := fun n H => Draw H i.1 i.2.1 i.2.2 n
  kp := fun n H H' h d => draw_stay d fun a m o e => h a o e (.inl m)
  dm := fun n H d a m => draw_not d a m
theorem gDraw_ok (i : Addr × Addr × Addr) : GhOk (gDraw i) := ⟨fun b h => by
  simp only [gDraw, List.mem_cons, List.not_mem_nil, or_false] at h ⊢
  rcases h with h | h
  · exact .inl h
  · exact .inr (.inl h)⟩
/-- what a def that draws leaves -/
theorem ex_draw {F H H' : Hp} {i : Addr × Addr × Addr} (l : Le F H) (fx : ∀ b ∈ (gDraw i).pol.ex, Fr0 F b) (k : Keep [i.1, i.2.1] H H') : Ex (gDraw i).pol F H F H' := by
  refine ⟨Le.rfl, fun a o e t => k.toKeepW.all a o (l a o e t) (fun m => ?_) t, fun _ _ _ _ => rfl, k.toKeepW, fun _ a ps e => k.tbl a ps e⟩
  obtain ⟨ps, z⟩ := fx a m o e
  exact t ps z
section
variable {P : Program} {w : World} {K : PySem.W.Frag} {mg : Str → Option Value} {base : Heap}
def aTake (i : Addr × Addr × Addr) : SpD := fun ds n Q _ => ∃ m : Int, ds = [.ref i.1, .int m] ∧ n < 1000000000 ∧ 0 < m ∧ m < 2 ^ 64 ∧ ∀ r : Int, 0 ≤ r → r < m → Q (.int r) (n + 1)
theorem mo_take (i : Addr × Addr × Addr) : MoSp (aTake i) := fun ds n Q Q' E E' j _ ⟨m, h1, h2, h3, h4, h⟩ => ⟨m, h1, h2, h3, h4, fun r a b => j _ _ (h r a b)⟩
theorem cal_take {ps : List Str} (c : Callee P w K mg base CX0 2 "_law_take" ps HG.sp_take) : CalG P w K mg base CX0 2 "_law_take" ps gDraw aTake := by
  refine ⟨Callee.weak c fun vs H Q E ⟨i, F, ds, n, l, fx, dd, m, k, e, h1, h2, h3, q⟩ => ?_, mo_take⟩
  subst e
  obtain ⟨v, w', rfl, d1, d2⟩ := dda2 dd
  obtain rfl : v = V.ref i.1 := by cases d1; rfl
  obtain rfl : w' = V.int k := by cases d2; rfl
  refine ⟨i.1, i.2.1, i.2.2, n, k, rfl, m, by omega, h2, h3, fun r H' r0 r1 kp d => q r r0 r1 _ F H' (ex_draw l fx kp) ?_ (.int r)⟩
  show Draw H' i.1 i.2.1 i.2.2 ((n + 1 : Nat) : Int)
  rw [Int.natCast_add]
  exact d
end
/-- the ghost of a callee within one's own -/
structure Emb (G : Gh) (C : Gh) : Prop where
  dn : ∀ n H, C.M n H → G.M n H
  up : ∀ n n' F H F' H', C.M n H → Ex G.pol F H F' H' → G.M n' H' → C.M n' H'
  pl : ∀ F H F' H', Ex G.pol F H F' H' → Ex C.pol F H F' H'
  sub : ∀ b ∈ G.pol.ex, b ∈ C.pol.ex
theorem Emb.rfl {G : Gh} : Emb G G := ⟨fun _ _ h => h, fun _ _ _ _ _ _ _ _ h => h, fun _ _ _ _ h => h, fun _ h => h⟩
section
variable {X : Cx} {C : Cn} {CX : CXT} {k n : Nat} {ps : List Str} {x : Str} {p pos : Pos} {e : Expr} {es : List Expr} {us : TDa} {ι : Type} {G : ι → Gh} {a : ι → SpD}
theorem uc_e (i : ι) (em : Emb (G i) C.toGh) (ok : C.Ok) (c : CalG X.prog X.w X.K X.mg X.base CX k x ps G a) (room : Room n X.A) (lets : Passes CX X E0) (args : UA X C (e :: es) us) (hk : k ≤ n := by decide) (glob : Gl X x := by rfl)
    (hdb : (x == ("__debug__" : Str)) = false := by decide) (he : starEach (e :: es) X.env = (false, eval e X.env) :: starEach es X.env := by rfl) (hpl : (backTo pos (starEach es X.env)).any (·.1) = false := by rfl) :
    UE X C (.Call (.Name x p) (e :: es) [] pos) (uCg (a i) us) :=
  ⟨PEw (pe_cE c.ca room lets args.run hk glob hdb he hpl) fun σ H Q ⟨F, ρ, n, rel, q⟩ => ⟨F, ρ, n, rel, args.mo _ _ _ _ (fun ds m q vs F1 H1 x1 m1 d1 =>
    ⟨i, F1, ds, m, x1.le, fun b z => ok.fr (rel.x.tr x1) b (em.sub b z), d1, em.dn m H1 m1, c.mo i _ _ _ _ _ _ (fun d m2 q v F2 H2 x2 mm dd => q v F2 H2 (x1.tr (em.pl _ _ _ _ x2)) (em.up m m2 _ _ _ _ m1 x2 mm) dd) (fun _ _ _ _ z => z.elim) q⟩) q⟩, mo_Cg (c.mo i) args.mo⟩
end
/-- the ghost of the law's def: the drawing and the tables of its lambdas -/
theorem tabs_stay {T : List (Addr × Str)} {H H' : Hp} (t : Tabs T H) (h : ∀ a o, H a = some o → ((∀ xs, o ≠ .lst xs) ∧ ∀ kvs, o ≠ .dK kvs) → H' a = some o) : Tabs T H' := fun pq m => by
  obtain ⟨ps, e, ok, among⟩ := t pq m
  refine ⟨ps, h _ _ e ⟨fun _ z => (nomatch z), fun _ z => nomatch z⟩, ok, fun pos cv hc => ?_⟩
  obtain ⟨c, ec, hcc⟩ := among pos cv hc
  exact ⟨c, ec, h _ _ hcc ⟨fun _ z => (nomatch z), fun _ z => nomatch z⟩⟩
def gLaw (T : List (Addr × Str)) (i : Addr × Addr × Addr) : Gh where
  pol := ⟨[i.1, i.2.1], true⟩
  dx := [i.1, i.2.1, i.2.2]
  M := fun n H => Draw H i.1 i.2.1 i.2.2 n ∧ Tabs T H
  kp := fun n H H' h d => ⟨draw_stay d.1 fun a m o e => h a o e (.inl m), tabs_stay d.2 fun a o e z => h a o e (.inr z)⟩
  dm := fun n H d a m => draw_not d.1 a m
theorem gLaw_lam {T : List (Addr × Str)} {i : Addr × Addr × Addr} {F H : Hp} : LamOk (cnOf (gLaw T i) F H) T :=
  ⟨rfl, fun _ _ d => d.2, fun n H H1 d e t => ⟨draw_stay d.1 fun a m o h => e a o h (by obtain ⟨u, hu, z⟩ := draw_not d.1 a m; rw [h] at hu; cases hu; exact z), t⟩⟩
theorem emb_law {T : List (Addr × Str)} {i : Addr × Addr × Addr} : Emb (gDraw i) (gLaw T i) := by
  refine ⟨fun n H d => d.1, fun n n' F H F' H' d x d' => ⟨d', fun pq m => ?_⟩, fun F H F' H' x => ⟨x.up, x.le, x.new, x.keep, fun z => nomatch z⟩, fun b h => h⟩
  obtain ⟨ps, e, ok, among⟩ := d.2 pq m
  refine ⟨ps, x.tk rfl _ _ e, ok, fun pos cv hc => ?_⟩
  obtain ⟨c, ec, hcc⟩ := among pos cv hc
  refine ⟨c, ec, x.keep.all _ _ hcc (fun z => ?_) fun _ z => nomatch z⟩
  obtain ⟨_, gs, cs, left, turn, e1, e2, e3, _⟩ := d.1
  have z : c ∈ [i.1, i.2.1] := z
  simp only [List.mem_cons, List.not_mem_nil, or_false] at z
  have w : H c = some (CodeO c pq.2) := hcc
  unfold CodeO at w
  rcases z with rfl | rfl
  · rw [e1] at w; cases w
  · rw [e2] at w; cases w
/-- the script alone is frozen -/
def scr (H : Hp) (l : Addr) : Hp := fun a => if a = l then (match H l with
  | some (.lst xs) => some (.lst xs)
  | some (.frz o u) => some (.frz o u)
  | _ => none) else none
theorem scr_le {H H1 : Hp} {l : Addr} (k : Keep [] H H1) : Le (scr H l) H1 := fun a o e t => by
  unfold scr at e
  by_cases z : a = l
  · subst z
    rw [if_pos rfl] at e
    have q : H a = some o := by
      split at e <;> rename_i w <;> first | (rw [w]; exact e) | cases e
    exact k.toKeepW.all a o q (fun z => nomatch z) t
  · rw [if_neg z] at e
    cases e
theorem scr_sq {K : PySem.W.Frag} {H : Hp} {l : Addr} {xs : List V} (h : SqL K H l xs) : SqL K (scr H l) l xs := by
  rcases h with (h | ⟨o, h⟩) | h
  · exact .inl (.inl (by unfold scr; rw [if_pos rfl, h]))
  · exact .inl (.inr ⟨o, by unfold scr; rw [if_pos rfl, h]⟩)
  · exact .inr h
theorem scr_fr {H : Hp} {l a : Addr} (h : H a = none) : Fr0 (scr H l) a := fun o e => by
  unfold scr at e
  by_cases z : a = l
  · subst z
    rw [if_pos rfl, h] at e
    cases e
  · rw [if_neg z] at e
    cases e
def tLw (K : PySem.W.Frag) (T : List (Addr × Str)) (w : Addr × Addr × Addr → TDs) : TS := fun D σ H => ∃ i F0 H0, (cnOf (gLaw T i) F0 H0).Ok ∧ tS K (cnOf (gLaw T i) F0 H0) (w i) D σ H
theorem pss_lw {X : Cx} {T : List (Addr × Str)} {rest : List Stmt} {w : Addr × Addr × Addr → TDs} (h : ∀ i F0 H0, (cnOf (gLaw T i) F0 H0).Ok → USs X (cnOf (gLaw T i) F0 H0) rest (w i)) : PSs X rest (tLw X.K T w) :=
  ⟨fun pins s σ H D I ⟨i, F0, H0, ok, q⟩ => (h i F0 H0 ok).run.run pins s σ H D I q⟩
def sp_law (K : PySem.W.Frag) (T : List (Addr × Str)) : Sp := fun vs H Q _ => ∃ (l : Addr) (ns : List Int), vs = [.ref l] ∧ SqL K H l (ns.map V.int) ∧ ns.length ≤ 63 ∧ Tabs T H ∧ ∀ H', Q (.bl true) H'
def lawE : EndD := { nx := fun _ _ => False, rt := fun d _ => d = .bl true }
/-- the law's def: the drawing is begun; what is behind goes on under the drawing's ghost -/
theorem law_run {K : PySem.W.Frag} {T : List (Addr × Str)} {N : List Str} {w : Addr × Addr × Addr → TDs} {D : Ends} {l : Addr} {ns : List Int} {H : Hp} (hN : 1 ≤ N.length) (hl : SqL K H l (ns.map V.int)) (len : ns.length ≤ 63) (tb : Tabs T H) (hD : ∀ H', D.rt (.bl true) H')
    (h : ∀ i, w i lawE (st (startD N [.lst (ns.map .int)]) 1 (.d (.ref i.1))) 0) :
    tSeq (tAsg (tCl (HG.sp_begun K) E0 (tCons (tVar 0) tNil)) (gName 1)) (tLw K T w) D (L2.start N [.ref l]) H := by
  refine ⟨.ref l, rfl, l, ns, rfl, hl, len, fun p g c H1 np ng nc k1 d1 => ?_⟩
  have tb1 : Tabs T H1 := tabs_stay tb fun a o e _ => by
    by_cases t : ∃ ps, o = .tbl ps
    · obtain ⟨ps, z⟩ := t
      subst z
      exact k1.tbl a ps e
    · exact k1.toKeepW.all a o e (fun z => nomatch z) fun ps z => t ⟨ps, z⟩
  have fx : ∀ b ∈ [p, g], Fr0 (scr H l) b := fun b m => by
    simp only [List.mem_cons, List.not_mem_nil, or_false] at m
    rcases m with rfl | rfl
    · exact scr_fr np
    · exact scr_fr ng
  have rel := rel_start (K := K) (G := gLaw T (p, g, c)) (F := scr H l) (H := H1) (N := N) (vs := [.ref l]) (ds := [.lst (ns.map .int)]) (n := 0) (scr_le k1) (.cons (.lst (scr_sq hl) (dda_ints ns)) .nil) ⟨d1, tb1⟩ hN
  refine ⟨(p, g, c), scr H l, H1, ⟨fun b m => ?_, fx, fun b m => draw_not d1 b ?_⟩, scr H l, _, 0, lawE, rel.setD (i := 1) (.ref p), ⟨?_, ?_, ?_, ?_⟩, h (p, g, c)⟩
  · have m : b ∈ [p, g] := m
    show b ∈ [p, g, c]
    simp only [List.mem_cons, List.not_mem_nil, or_false] at m ⊢
    rcases m with m | m
    · exact .inl m
    · exact .inr (.inl m)
  · have m : b ∈ [p, g] := m
    simp only [List.mem_cons, List.not_mem_nil, or_false] at m ⊢
    rcases m with m | m
    · exact .inl m
    · exact .inr (.inl m)
  · exact fun F' ρ n σ H' _ r q => q.elim
  · intro v d F' n H' x m dd q
    obtain rfl : d = .bl true := q
    cases dd
    exact hD H'
  · exact fun F' ρ n σ H' _ r q => q.elim
  · exact fun F' ρ n σ H' _ r q => q.elim
end PU
set_option maxHeartbeats 2000000
namespace L53
open PySem PySem.Spec PyProof.Rows L2 HG PU LamX
def topS (i : Nat) : Stmt := PySem.Challenge.pw_hitclocks_k53_mean_fronts_by_hand.main.body.getD i (.Pass ⟨0, 0, 0, 0⟩)
theorem scope_by {N P : List Str} {sc : Scope} (kind : sc.kind = .function) (co : sc.isCoroutine = false) (gen : sc.isGenerator = false) (nd : N.Nodup) (pre : N.take P.length = P)
    (par : ∀ x ∈ P, sc.names.lookup x = some .local ∨ sc.names.lookup x = some .cell) (nofree : ∀ y ∈ sc.names, y.2 ≠ .free) : FnScope N P sc := ⟨kind, co, gen, nd, pre, par, nofree⟩
abbrev s_is_number : Stmt := topS 2
theorem sc_is_number : FnScope ["thing"] ["thing"] (defScope s_is_number) := scope_by rfl rfl rfl (by decide +kernel) rfl (by decide +kernel) (by decide +kernel)
abbrev s_is_tuple_of : Stmt := topS 3
theorem sc_is_tuple_of : FnScope ["thing", "many"] ["thing", "many"] (defScope s_is_tuple_of) := scope_by rfl rfl rfl (by decide +kernel) rfl (by decide +kernel) (by decide +kernel)
abbrev s_is_pair : Stmt := topS 4
theorem sc_is_pair : FnScope ["thing"] ["thing"] (defScope s_is_pair) := scope_by rfl rfl rfl (by decide +kernel) rfl (by decide +kernel) (by decide +kernel)
abbrev s_reduced : Stmt := topS 8
theorem sc_reduced : FnScope ["p", "q", "common"] ["p", "q"] (defScope s_reduced) := scope_by rfl rfl rfl (by decide +kernel) rfl (by decide +kernel) (by decide +kernel)
abbrev s_goes_ahead : Stmt := topS 9
theorem sc_goes_ahead : FnScope ["one", "other"] ["one", "other"] (defScope s_goes_ahead) := scope_by rfl rfl rfl (by decide +kernel) rfl (by decide +kernel) (by decide +kernel)
abbrev s_worth_at : Stmt := topS 10
theorem sc_worth_at : FnScope ["pair", "price"] ["pair", "price"] (defScope s_worth_at) := scope_by rfl rfl rfl (by decide +kernel) rfl (by decide +kernel) (by decide +kernel)
abbrev s_crossing : Stmt := topS 11
theorem sc_crossing : FnScope ["one", "other", "a", "b"] ["one", "other"] (defScope s_crossing) := scope_by rfl rfl rfl (by decide +kernel) rfl (by decide +kernel) (by decide +kernel)
abbrev s_is_price : Stmt := topS 17
theorem sc_is_price : FnScope ["thing", "p", "q"] ["thing"] (defScope s_is_price) := scope_by rfl rfl rfl (by decide +kernel) rfl (by decide +kernel) (by decide +kernel)
abbrev s_check_price : Stmt := topS 18
theorem sc_check_price : FnScope ["price"] ["price"] (defScope s_check_price) := scope_by rfl rfl rfl (by decide +kernel) rfl (by decide +kernel) (by decide +kernel)
abbrev s_stretch_without_gain : Stmt := topS 20
theorem sc_stretch_without_gain : FnScope ["pairs", "low", "high", "a", "b"] ["pairs", "low", "high"] (defScope s_stretch_without_gain) := scope_by rfl rfl rfl (by decide +kernel) rfl (by decide +kernel) (by decide +kernel)
abbrev s_fraction_of : Stmt := topS 22
theorem sc_fraction_of : FnScope ["number", "many", "common"] ["number", "many"] (defScope s_fraction_of) := scope_by rfl rfl rfl (by decide +kernel) rfl (by decide +kernel) (by decide +kernel)
abbrev s_is_greater : Stmt := topS 23
theorem sc_is_greater : FnScope ["one", "other"] ["one", "other"] (defScope s_is_greater) := scope_by rfl rfl rfl (by decide +kernel) rfl (by decide +kernel) (by decide +kernel)
abbrev s_greatest_of : Stmt := topS 24
theorem sc_greatest_of : FnScope ["fractions", "greatest", "fraction"] ["fractions"] (defScope s_greatest_of) := scope_by rfl rfl rfl (by decide +kernel) rfl (by decide +kernel) (by decide +kernel)
abbrev s_mean_at_price : Stmt := topS 25
theorem sc_mean_at_price : FnScope ["mean", "price"] ["mean", "price"] (defScope s_mean_at_price) := scope_by rfl rfl rfl (by decide +kernel) rfl (by decide +kernel) (by decide +kernel)
abbrev s_is_mean_front : Stmt := topS 27
theorem sc_is_mean_front : FnScope ["thing", "corner"] ["thing"] (defScope s_is_mean_front) := scope_by rfl rfl rfl (by decide +kernel) rfl (by decide +kernel) (by decide +kernel)
abbrev s_is_mean : Stmt := topS 28
theorem sc_is_mean : FnScope ["thing", "number"] ["thing"] (defScope s_is_mean) := scope_by rfl rfl rfl (by decide +kernel) rfl (by decide +kernel) (by decide +kernel)
abbrev s_are_in_order : Stmt := topS 29
theorem sc_are_in_order : FnScope ["corners", "before", "at", "a", "b", "price"] ["corners"] (defScope s_are_in_order) := scope_by rfl rfl rfl (by decide +kernel) rfl (by decide +kernel) (by decide +kernel)
abbrev s_scaled_difference : Stmt := topS 30
theorem sc_scaled_difference : FnScope ["one", "other"] ["one", "other"] (defScope s_scaled_difference) := scope_by rfl rfl rfl (by decide +kernel) rfl (by decide +kernel) (by decide +kernel)
abbrev s_meeting_of : Stmt := topS 31
theorem sc_meeting_of : FnScope ["one", "other"] ["one", "other"] (defScope s_meeting_of) := scope_by rfl rfl rfl (by decide +kernel) rfl (by decide +kernel) (by decide +kernel)
abbrev s_check_means : Stmt := topS 32
theorem sc_check_means : FnScope ["means"] ["means"] (defScope s_check_means) := scope_by rfl rfl rfl (by decide +kernel) rfl (by decide +kernel) (by decide +kernel)
abbrev s_mean_worth : Stmt := topS 33
theorem sc_mean_worth : FnScope ["means", "price"] ["means", "price"] (defScope s_mean_worth) := scope_by rfl rfl rfl (by decide +kernel) rfl (by decide +kernel) (by decide +kernel)
abbrev s_told_mean : Stmt := topS 34
theorem sc_told_mean : FnScope ["means", "price", "corner"] ["means", "price"] (defScope s_told_mean) := scope_by rfl rfl rfl (by decide +kernel) rfl (by decide +kernel) (by decide +kernel)
abbrev s_mean_prices : Stmt := topS 35
theorem sc_mean_prices : FnScope ["means"] ["means"] (defScope s_mean_prices) := scope_by rfl rfl rfl (by decide +kernel) rfl (by decide +kernel) (by decide +kernel)
abbrev s_prices_of : Stmt := topS 36
theorem sc_prices_of : FnScope ["means", "at"] ["means"] (defScope s_prices_of) := scope_by rfl rfl rfl (by decide +kernel) rfl (by decide +kernel) (by decide +kernel)
abbrev s_no_gain : Stmt := topS 37
theorem sc_no_gain : FnScope ["means", "pairs", "corner"] ["means"] (defScope s_no_gain) := scope_by rfl rfl rfl (by decide +kernel) rfl (by decide +kernel) (by decide +kernel)
abbrev s_l_begun : Stmt := topS 39
theorem sc_l_begun : FnScope ["script", "great", "cell"] ["script"] (defScope s_l_begun) := scope_by rfl rfl rfl (by decide +kernel) rfl (by decide +kernel) (by decide +kernel)
abbrev s_l_mixed : Stmt := topS 40
theorem sc_l_mixed : FnScope ["draw", "turn", "found", "prime", "blend", "cell"] ["draw"] (defScope s_l_mixed) := scope_by rfl rfl rfl (by decide +kernel) rfl (by decide +kernel) (by decide +kernel)
abbrev s_l_take : Stmt := topS 41
theorem sc_l_take : FnScope ["draw", "many", "found"] ["draw", "many"] (defScope s_l_take) := scope_by rfl rfl rfl (by decide +kernel) rfl (by decide +kernel) (by decide +kernel)
abbrev s_l_pick : Stmt := topS 42
theorem sc_l_pick : FnScope ["draw", "some"] ["draw", "some"] (defScope s_l_pick) := scope_by rfl rfl rfl (by decide +kernel) rfl (by decide +kernel) (by decide +kernel)
abbrev s_l_caught : Stmt := topS 43
theorem sc_l_caught : FnScope ["task", "caught", "error"] ["task"] (defScope s_l_caught) := scope_by rfl rfl rfl (by decide +kernel) rfl (by decide +kernel) (by decide +kernel)
abbrev s_l_is_number : Stmt := topS 44
theorem sc_l_is_number : FnScope ["item"] ["item"] (defScope s_l_is_number) := scope_by rfl rfl rfl (by decide +kernel) rfl (by decide +kernel) (by decide +kernel)
abbrev s_l_says : Stmt := topS 45
theorem sc_l_says : FnScope ["found", "due"] ["found", "due"] (defScope s_l_says) := scope_by rfl rfl rfl (by decide +kernel) rfl (by decide +kernel) (by decide +kernel)
abbrev s_l_cost : Stmt := topS 46
theorem sc_l_cost : FnScope ["draw", "peak"] ["draw", "peak"] (defScope s_l_cost) := scope_by rfl rfl rfl (by decide +kernel) rfl (by decide +kernel) (by decide +kernel)
abbrev s_l_gcd : Stmt := topS 47
theorem sc_l_gcd : FnScope ["one", "two"] ["one", "two"] (defScope s_l_gcd) := scope_by rfl rfl rfl (by decide +kernel) rfl (by decide +kernel) (by decide +kernel)
abbrev s_l_terms : Stmt := topS 48
theorem sc_l_terms : FnScope ["one", "two", "common"] ["one", "two"] (defScope s_l_terms) := scope_by rfl rfl rfl (by decide +kernel) rfl (by decide +kernel) (by decide +kernel)
abbrev s_l_price : Stmt := topS 49
theorem sc_l_price : FnScope ["draw", "rare"] ["draw"] (defScope s_l_price) := scope_by rfl rfl rfl (by decide +kernel) rfl (by decide +kernel) (by decide +kernel)
abbrev s_l_worth : Stmt := topS 50
theorem sc_l_worth : FnScope ["pair", "price"] ["pair", "price"] (defScope s_l_worth) := scope_by rfl rfl rfl (by decide +kernel) rfl (by decide +kernel) (by decide +kernel)
abbrev s_l_hull : Stmt := topS 51
theorem sc_l_hull : FnScope ["pairs", "found", "pair", "one"] ["pairs"] (defScope s_l_hull) := scope_by rfl rfl rfl (by decide +kernel) rfl (by decide +kernel) (by decide +kernel)
abbrev s_l_bends : Stmt := topS 52
theorem sc_l_bends : FnScope ["one", "middle", "two", "left", "right"] ["one", "middle", "two"] (defScope s_l_bends) := scope_by rfl rfl rfl (by decide +kernel) rfl (by decide +kernel) (by decide +kernel)
abbrev s_l_reduced : Stmt := topS 53
theorem sc_l_reduced : FnScope ["one", "common"] ["one"] (defScope s_l_reduced) := scope_by rfl rfl rfl (by decide +kernel) rfl (by decide +kernel) (by decide +kernel)
abbrev s_l_evened : Stmt := topS 54
theorem sc_l_evened : FnScope ["some", "many", "one"] ["some"] (defScope s_l_evened) := scope_by rfl rfl rfl (by decide +kernel) rfl (by decide +kernel) (by decide +kernel)
abbrev s_l_is_triple_so : Stmt := topS 55
theorem sc_l_is_triple_so : FnScope ["one", "part"] ["one"] (defScope s_l_is_triple_so) := scope_by rfl rfl rfl (by decide +kernel) rfl (by decide +kernel) (by decide +kernel)
abbrev s_l_is_front : Stmt := topS 56
theorem sc_l_is_front : FnScope ["item", "one", "pairs"] ["item"] (defScope s_l_is_front) := scope_by rfl rfl rfl (by decide +kernel) rfl (by decide +kernel) (by decide +kernel)
abbrev s_l_front_due : Stmt := topS 57
theorem sc_l_front_due : FnScope ["some", "pairs", "found", "pair"] ["some"] (defScope s_l_front_due) := scope_by rfl rfl rfl (by decide +kernel) rfl (by decide +kernel) (by decide +kernel)
abbrev s_l_mean : Stmt := topS 58
theorem sc_l_mean : FnScope ["some", "price", "best", "one", "here"] ["some", "price"] (defScope s_l_mean) := scope_by rfl rfl rfl (by decide +kernel) rfl (by decide +kernel) (by decide +kernel)
abbrev s_l_numbers : Stmt := topS 59
theorem sc_l_numbers : FnScope ["draw", "peak"] ["draw"] (defScope s_l_numbers) := scope_by rfl rfl rfl (by decide +kernel) rfl (by decide +kernel) (by decide +kernel)
abbrev s_l_triples : Stmt := topS 60
theorem sc_l_triples : FnScope ["draw", "found", "turn", "one"] ["draw"] (defScope s_l_triples) := scope_by rfl rfl rfl (by decide +kernel) rfl (by decide +kernel) (by decide +kernel)
abbrev s_l_changed : Stmt := topS 61
theorem sc_l_changed : FnScope ["draw", "front", "at", "way", "one", "wrong"] ["draw", "front"] (defScope s_l_changed) := scope_by rfl rfl rfl (by decide +kernel) rfl (by decide +kernel) (by decide +kernel)
abbrev s_l_gain_right : Stmt := topS 62
theorem sc_l_gain_right : FnScope ["front", "found", "prices", "price", "is_in"] ["front", "found", "prices"] (defScope s_l_gain_right) := scope_by rfl rfl rfl (by decide +kernel) rfl (by decide +kernel) (by decide +kernel)
abbrev s_l_sorted_prices : Stmt := topS 63
theorem sc_l_sorted_prices : FnScope ["some", "found", "price", "ahead", "one"] ["some"] (defScope s_l_sorted_prices) := scope_by rfl rfl rfl (by decide +kernel) rfl (by decide +kernel) (by decide +kernel)
abbrev s_l_turning : Stmt := topS 64
theorem sc_l_turning : FnScope ["front", "some", "one", "found", "two"] ["front"] (defScope s_l_turning) := scope_by rfl rfl rfl (by decide +kernel) rfl (by decide +kernel) (by decide +kernel)
abbrev s_law : Stmt := topS 65
theorem sc_law : FnScope ["script", "draw", "turn", "front", "pairs", "due", "one", "two", "price", "item", "is_right", "way", "error"] ["script"] (defScope s_law) := scope_by rfl rfl rfl (by decide +kernel) rfl (by decide +kernel) (by decide +kernel)
end L53
set_option maxHeartbeats 2000000
namespace L53
open PySem PySem.Spec PyProof.Rows L2 HG
section
variable {P : Program} {w : World} {K : PySem.W.Frag} {mg : Str → Option Value} {base : Heap}
theorem ok_mixed (D : Def K mg "_law_mixed" s_l_mixed ["draw"]) (zi : mg "int" = none) :
    Callee P w K mg base CX0 1 "_law_mixed" ["draw"] sp_mixed := by
  refine D.ok sc_l_mixed (fun vs H Q E h => ?_) (fun f cdv A outer s H vs Q E hr h => ?_)
  · obtain ⟨p, g, c, n, rfl, _⟩ := h
    rfl
  · obtain ⟨p, g, c, n, rfl, dr, small, q⟩ := h
    have nd := sc_l_mixed.nd
    have hu := hu_of hr
    refine ⟨_, pss_cons (ps_par (i := 1) (j := 2) rfl nd rfl rfl (by decide) rfl rfl
        (pa_cons (pe_op op_add (pe_dget hu (pv 0) pe_str (fun _ _ => rfl)) pe_int) (pa_cons pe_int pa_nil)) (by rfl))
      (pss_cons (ps_dput hu (pv 0) pe_str (pv 1) rfl)
      (pss_cons (ps_for PassesOwn.never rfl (pi_list (pe_lst (pa_cons pe_int (pa_cons pe_int (pa_cons pe_int (pa_cons pe_int pa_nil))))))
          (pg_name (i := 3) nd rfl (.inl rfl))
        (pss_cons (ps_set (i := 4) nd rfl (.inl rfl) (pe_op op_add (pe_op op_mul pe_int (pv 1)) (pe_op op_fdiv (pv 3) pe_int)))
        (pss_cons (ps_for PassesOwn.never rfl (pi_list (pe_dget hu (pv 0) pe_str (fun _ _ => rfl))) (pg_name (i := 5) nd rfl (.inl rfl))
          (pss_one (ps_set (i := 4) nd rfl (.inl rfl) (pe_op op_mod (pe_callTy call_int1 (by rfl) zi (by decide +kernel)
            (pa_cons (pe_op op_add (pe_op op_add (pe_op op_mul (pv 4) pe_int) (pv 5)) (pv 1)) pa_nil)) (pv 3)))))
        (pss_one (ps_set (i := 2) nd rfl (.inl rfl) (pe_op op_add (pe_op op_mul (pv 2) pe_int)
          (pe_op op_mod (pe_callTy call_int1 (by rfl) zi (by decide +kernel) (pa_cons (pe_op op_pow (pv 4) pe_int) pa_nil)) (pv 3))))))))
      (pss_one (ps_ret (pv 2))))), ?_⟩
    obtain ⟨gs, cs, left, turn, e1, e2, e3, t0, t1⟩ := dr.ex
    have npg : p ≠ g := ne_of e1 e2 (fun z => nomatch z)
    have npc : p ≠ c := ne_of e1 e3 (fun z => nomatch z)
    refine ⟨.ref p, rfl, p, .int turn, rfl, dget_of (k := Sum.inr "turn") e1 drawK_turn, turn, 1, rfl, rfl, .int (turn + 1), .int 0, rfl, ?_⟩
    refine ⟨.int (turn + 1), rfl, .ref p, rfl, p, _, rfl, dput_of (k := Sum.inr "turn") e1 drawK_put_turn (by show 4 < 1000; decide), ?_⟩
    refine ⟨by show 4 ≤ sizeLine; decide, fun l hl => ?_⟩
    have k1 : Keep [p] H (upd H p (.dK (drawK g c left (turn + 1)))) := Keep.chg e1 List.mem_cons_self (fun _ z => nomatch z) (fun _ _ z => nomatch z)
    have k2 := k1.trans (Keep.new (ex := [p]) (o := HO.lst [V.int 2147483647, V.int 2147483629, V.int 2147483587, V.int 2147483579]) hl)
    generalize hH : upd (upd H p (.dK (drawK g c left (turn + 1)))) l (.lst [V.int 2147483647, V.int 2147483629, V.int 2147483587, V.int 2147483579]) = H2 at k2 ⊢
    have nl : l ≠ p := fun z => by
      rw [z, upd_same] at hl
      cases hl
    have eL : SqL K H2 l [V.int 2147483647, V.int 2147483629, V.int 2147483587, V.int 2147483579] := by
      rw [← hH]
      exact .inl (.inl upd_same)
    have eP : H2 p = some (.dK (drawK g c left (turn + 1))) := by
      rw [← hH, upd_ne nl.symm, upd_same]
    have eG : H2 g = some (.lst (gs.map V.int)) := k2.get e2 (by simp [npg.symm])
    have eC : H2 c = some (.lst (cs.map V.int)) := k2.get e3 (by simp [npc.symm])
    have dr2 : Draw H2 p g c (n + 1) := ⟨dr.ne, gs, cs, left, turn + 1, eP, eG, eC, by omega, by omega⟩
    refine ⟨l, rfl, ⟨_, eL⟩, for_list (xs := [V.int 2147483647, V.int 2147483629, V.int 2147483587, V.int 2147483579]) (fun i σ H' => ∃ found y3 y4 y5, σ = [some (.ref p), some (.int (turn + 1)), some (.int found), y3, y4, y5] ∧ H2 = H')
      ⟨0, none, none, none, rfl, rfl⟩ (fun i σ H' _ hh => ?_) (fun i x σ H' hx hh => ?_) (fun σ H' hh => ?_)⟩
    · obtain ⟨_, _, _, _, _, rfl⟩ := hh
      exact eL
    · obtain ⟨found, y3, y4, y5, rfl, rfl⟩ := hh
      obtain ⟨pr, rfl, p0, p1⟩ : ∃ pr : Int, x = .int pr ∧ 0 < pr ∧ pr ≤ 2147483647 := by
        rcases i with _ | _ | _ | _ | i <;> first | (cases hx; exact ⟨_, rfl, by decide, by decide⟩) | cases hx
      refine ⟨_, rfl, _, _, rfl, rfl, .inl ⟨by decide, by decide⟩, _, rfl, _, _, rfl, rfl, ⟨by decide, by decide⟩, _, _, rfl, rfl, ?_⟩
      have b0 : -(2 ^ 64) < 48271 * (turn + 1) + pr / 37 ∧ 48271 * (turn + 1) + pr / 37 < 2 ^ 64 := by omega
      refine ⟨.ref p, rfl, p, .ref c, rfl, dget_of (k := Sum.inr "cells") eP drawK_cells, c, rfl, ⟨_, .inl (.inl eC)⟩,
        for_list (xs := cs.map V.int) (fun j σ H' => ∃ (blend : Int) (y5 : Option V), σ = [some (.ref p), some (.int (turn + 1)), some (.int found), some (.int pr), some (.int blend), y5] ∧ H2 = H' ∧ -(2 ^ 64) < blend ∧ blend < 2 ^ 64)
        ⟨_, y5, rfl, rfl, b0⟩ (fun j σ H' _ hh => ?_) (fun j x σ H' hx hh => ?_) (fun σ H' hh => ?_)⟩
      · obtain ⟨_, _, _, rfl, _⟩ := hh
        exact .inl (.inl eC)
      · obtain ⟨blend, y5, rfl, rfl, b1, b2⟩ := hh
        obtain ⟨cell, rfl⟩ : ∃ cell : Int, x = .int cell := by
          rw [List.getElem?_map] at hx
          cases e : cs[j]? with
          | none => rw [e] at hx; cases hx
          | some z => rw [e] at hx; cases hx; exact ⟨z, rfl⟩
        refine ⟨_, rfl, _, _, rfl, rfl, .inr ⟨by decide, by decide⟩, _, rfl, _, _, rfl, rfl, _, rfl, _, _, rfl, rfl, .inl ⟨_, rfl, _, rfl, _, _, rfl, rfl, p0, ?_⟩⟩
        refine ⟨_, _, rfl, rfl, ?_, ?_⟩
        · have := Int.emod_nonneg (blend * 69621 + cell + (turn + 1)) (show pr ≠ 0 by omega)
          omega
        · have := Int.emod_lt_of_pos (blend * 69621 + cell + (turn + 1)) p0
          omega
      · obtain ⟨blend, y5, rfl, rfl, b1, b2⟩ := hh
        refine ⟨_, rfl, _, _, rfl, rfl, .inr ⟨by decide, by decide⟩, _, rfl, _, _, rfl, rfl, ⟨by decide, by decide, by omega⟩, .inl ⟨_, rfl, _, rfl, _, _, rfl, rfl, p0, _, _, rfl, rfl, ?_⟩⟩
        exact ⟨_, _, _, _, rfl, rfl⟩
    · obtain ⟨found, y3, y4, y5, rfl, rfl⟩ := hh
      exact ⟨.int found, rfl, q found _ k2 dr2⟩
theorem ok_take (D : Def K mg "_law_take" s_l_take ["draw", "many"]) (zi : mg "int" = none)
    (CM : Callee P w K mg base CX0 1 "_law_mixed" ["draw"] sp_mixed) :
    Callee P w K mg base CX0 2 "_law_take" ["draw", "many"] sp_take := by
  refine D.ok sc_l_take (fun vs H Q E h => ?_) (fun f cdv A outer s H vs Q E hr h => ?_)
  · obtain ⟨p, g, c, n, m, rfl, _⟩ := h
    rfl
  · obtain ⟨p, g, c, n, m, rfl, dr, small, m0, m1, q⟩ := h
    have nd := sc_l_take.nd
    have hu := hu_of hr
    refine ⟨_, pss_cons (ps_if (pt_cmpR op_eq (pe_dget hu (pv 0) pe_str (fun _ _ => rfl)) pe_int (nomark _))
        (pss_one (ps_dput hu (pv 0) pe_str (pe_ifExp (pt_cmpR (op_neD hr.units) (pe_dget hu (pv 0) pe_str (fun _ _ => rfl)) (pe_lst pa_nil) (nomark _))
          (pe_bm PySem.F.plainAttrs_list PySem.F.slot_list_pop PySem.F.type_list_pop mt_popAt (pe_dget hu (pv 0) pe_str (fun _ _ => rfl)) (pa_cons pe_int pa_nil))
          (pe_c CM hr (pa_cons (pv 0) pa_nil))) rfl)) pss_nil)
      (pss_cons (ps_set (i := 2) nd rfl (.inl rfl) (pe_op op_mod (pe_callTy call_int1 (by rfl) zi (by decide +kernel) (pa_cons (pe_dget hu (pv 0) pe_str (fun _ _ => rfl)) pa_nil)) (pv 1)))
      (pss_cons (ps_dput hu (pv 0) pe_str (pe_op op_fdivW (pe_dget hu (pv 0) pe_str (fun _ _ => rfl)) (pv 1)) rfl)
      (pss_one (ps_ret (pv 2))))), ?_⟩
    refine seq_join (fun σ H1 => σ = [some (.ref p), some (.int m), none] ∧ Keep [p, g] H H1 ∧ Draw H1 p g c (n + 1)) (fun NX nx => ?_) (fun σ H1 hh => ?_)
    · obtain ⟨gs, cs, left, turn, e1, e2, e3, t0, t1⟩ := dr.ex
      have npg : p ≠ g := ne_of e1 e2 (fun z => nomatch z)
      refine ⟨.ref p, rfl, p, .int left, rfl, dget_of (k := Sum.inr "left") e1 drawK_left, rfl, _, rfl, ite2 (fun z => ?_) (fun z => ?_)⟩
      · refine ⟨.ref p, rfl, p, .ref g, rfl, dget_of (k := Sum.inr "great") e1 drawK_great, by show 0 ≤ sizeLine; decide, fun l hl => ?_⟩
        have kl : Keep [p, g] H (upd H l (.lst [])) := Keep.new hl
        have eP : upd H l (.lst []) p = some (.dK (drawK g c left turn)) := by
          rw [upd_ne (ne_of_none e1 hl)]
          exact e1
        have eG : upd H l (.lst []) g = some (.lst (gs.map V.int)) := by
          rw [upd_ne (ne_of_none e2 hl)]
          exact e2
        have eC : upd H l (.lst []) c = some (.lst (cs.map V.int)) := by
          rw [upd_ne (ne_of_none e3 hl)]
          exact e3
        have eL : upd H l (.lst []) l = some (.lst []) := upd_same
        generalize upd H l (.lst []) = H1 at kl eP eG eC eL ⊢
        refine ⟨.list (gs.map PyData.int), .list [], .lst (.inl (.inl eG)) (dpAll_ints gs), .lst (.inl (.inl eL)) .nil, shaped_ints gs, shaped_ints [], _, rfl, ?_⟩
        rw [eqv_ints_nil]
        cases gs with
        | nil =>
          refine ⟨.ref p, rfl, p, g, c, n, rfl, ⟨dr.ne, [], cs, left, turn, eP, eG, eC, t0, t1⟩, small, fun r H2 k2 d2 => ?_⟩
          obtain ⟨gs2, cs2, left2, turn2, f1, f2, f3, u0, u1⟩ := d2.ex
          refine ⟨.ref p, rfl, p, _, rfl, dput_of (k := Sum.inr "left") f1 drawK_put_left (by show 4 < 1000; decide), ?_⟩
          have k3 : Keep [p, g] H2 (upd H2 p (.dK (drawK g c r turn2))) := Keep.chg f1 List.mem_cons_self (fun _ z => nomatch z) (fun _ _ z => nomatch z)
          refine nx _ _ ⟨rfl, (kl.trans (k2.more (by simp))).trans k3, dr.ne, gs2, cs2, r, turn2, upd_same, ?_, ?_, u0, u1⟩
          · rw [upd_ne npg.symm]
            exact f2
          · rw [upd_ne (ne_of e1 e3 (fun z => nomatch z)).symm]
            exact f3
        | cons x r =>
          refine ⟨.ref p, rfl, p, .ref g, rfl, dget_of (k := Sum.inr "great") eP drawK_great, .inl ⟨rfl, _, .inl (.inl eG)⟩, g, _, 0, 0, .int x, rfl, rfl, eG, by decide, by decide, ?_, rfl, ?_⟩
          · rw [List.map_cons, List.length_cons]
            simp [seqIndex?]
          · have f1 : upd H1 g (.lst ((List.map V.int (x :: r)).eraseIdx 0)) p = some (.dK (drawK g c left turn)) := by
              rw [upd_ne npg]
              exact eP
            refine ⟨.ref p, rfl, p, _, rfl, dput_of (k := Sum.inr "left") f1 drawK_put_left (by show 4 < 1000; decide), ?_⟩
            have k2 : Keep [p, g] H1 (upd H1 g (.lst ((List.map V.int (x :: r)).eraseIdx 0))) := Keep.chg eG (by simp) (fun _ z => nomatch z) (fun _ _ z => nomatch z)
            have k3 : Keep [p, g] _ (upd (upd H1 g (.lst ((List.map V.int (x :: r)).eraseIdx 0))) p (.dK (drawK g c x turn))) :=
              Keep.chg f1 List.mem_cons_self (fun _ z => nomatch z) (fun _ _ z => nomatch z)
            refine nx _ _ ⟨rfl, (kl.trans k2).trans k3, dr.ne, r, cs, x, turn, upd_same, ?_, ?_, t0, by omega⟩
            · rw [upd_ne npg.symm, upd_same]
              rfl
            · rw [upd_ne (ne_of e1 e3 (fun z => nomatch z)).symm, upd_ne dr.ne.symm]
              exact eC
      · exact nx _ _ ⟨rfl, Keep.refl, dr.ne, gs, cs, left, turn, e1, e2, e3, t0, by omega⟩
    · obtain ⟨rfl, k1, d1⟩ := hh
      obtain ⟨gs, cs, left, turn, e1, e2, e3, t0, t1⟩ := d1.ex
      have npg : p ≠ g := ne_of e1 e2 (fun z => nomatch z)
      refine ⟨.ref p, rfl, p, .int left, rfl, dget_of (k := Sum.inr "left") e1 drawK_left, .inl ⟨_, rfl, _, rfl, _, _, rfl, rfl, m0, ?_⟩⟩
      refine ⟨.ref p, rfl, p, .int left, rfl, dget_of (k := Sum.inr "left") e1 drawK_left, _, rfl, _, _, rfl, rfl, wide_div m0 (b := 64) (by omega) (by decide) (by decide), ?_⟩
      refine ⟨.ref p, rfl, p, _, rfl, dput_of (k := Sum.inr "left") e1 drawK_put_left (by show 4 < 1000; decide), ?_⟩
      have k2 : Keep [p, g] H1 (upd H1 p (.dK (drawK g c (left / m) turn))) := Keep.chg e1 List.mem_cons_self (fun _ z => nomatch z) (fun _ _ z => nomatch z)
      refine ⟨_, rfl, q _ _ (Int.emod_nonneg _ (by omega)) (Int.emod_lt_of_pos _ m0) (k1.trans k2) ⟨dr.ne, gs, cs, left / m, turn, upd_same, ?_, ?_, t0, t1⟩⟩
      · rw [upd_ne npg.symm]
        exact e2
      · rw [upd_ne (ne_of e1 e3 (fun z => nomatch z)).symm]
        exact e3
end
end L53
namespace L53
open PySem PySem.Spec PyProof.Rows L2 HG
section
variable {P : Program} {w : World} {K : PySem.W.Frag} {mg : Str → Option Value} {base : Heap}
theorem ok_pick (D : Def K mg "_law_pick" s_l_pick ["draw", "some"]) (zl : mg "len" = none)
    (CT : Callee P w K mg base CX0 2 "_law_take" ["draw", "many"] sp_take) :
    Callee P w K mg base CX0 3 "_law_pick" ["draw", "some"] (sp_pick K) := by
  refine D.ok sc_l_pick (fun vs H Q E h => ?_) (fun f cdv A outer s H vs Q E hr h => ?_)
  · obtain ⟨p, g, c, n, l, xs, rfl, _⟩ := h
    rfl
  · obtain ⟨p, g, c, n, l, xs, rfl, dr, small, hl, nl, x0, x1, q⟩ := h
    refine ⟨_, pss_one (ps_ret (pe_ix ix_list (pv 1) (pe_c CT hr (pa_cons (pv 0) (pa_cons (pe_callB call_len_seq (by rfl) zl PySem.boot_len (pa_cons (pv 1) pa_nil)) pa_nil))) (fun _ _ => rfl))), ?_⟩
    refine ⟨.ref l, rfl, .ref p, rfl, .ref l, rfl, l, xs, rfl, .inl hl, p, g, c, n, xs.length, rfl, dr, small, by omega, by omega, fun r H1 r0 r1 k d => ?_⟩
    obtain ⟨v, h1, h2⟩ := atI_of r0 r1
    exact ⟨l, xs, r, v, rfl, rfl, sqL_keep k nl hl, h2, q _ _ _ h1 k d⟩
theorem ok_begun (D : Def K mg "_law_begun" s_l_begun ["script"]) (za : mg "abs" = none) (zi : mg "int" = none) :
    Callee P w K mg base CX0 1 "_law_begun" ["script"] (sp_begun K) := by
  refine D.ok sc_l_begun (fun vs H Q E h => ?_) (fun f cdv A outer s H vs Q E hr h => ?_)
  · obtain ⟨l, ns, rfl, _⟩ := h
    rfl
  · obtain ⟨l, ns, rfl, hl, len, q⟩ := h
    have nd := sc_l_begun.nd
    have hu := hu_of hr
    refine ⟨_, pss_cons (ps_setLc (i := 1) (own := [("cell", 2)]) (g := gName 2) rfl nd rfl rfl (sw_true rfl rfl rfl (by decide +kernel)) (pi_list (pv 0))
        (blkOk_by (N := ["script", "great", "cell"]) (sc := defScope s_l_begun) (by decide +kernel)) (fun _ _ _ _ _ => pg_name (i := 2) nd rfl (Or.inl rfl))
        (fun _ _ _ _ _ => pts_one (pt_cmpR op_ge (pe_callB call_abs (by rfl) za (by decide +kernel) (pa_cons (pv 2) pa_nil)) (pe_op op_pow pe_int pe_int) (nomark _)))
        (fun _ _ _ _ _ => pe_op op_sub (pe_callB call_abs (by rfl) za (by decide +kernel) (pa_cons (pv 2) pa_nil)) (pe_op op_pow pe_int pe_int)))
      (pss_one (ps_ret (pe_disp (pps_cons pe_str (pv 1) (pps_cons pe_str
        (pe_lc (own := [("cell", 2)]) (g := gName 2) rfl nd (pi_list (pv 0))
          (blkOk_by (N := ["script", "great", "cell"]) (sc := defScope s_l_begun) (by decide +kernel)) (fun _ _ _ _ _ => pg_name (i := 2) nd rfl (Or.inl rfl))
          (fun _ _ _ _ _ => pts_nil)
          (fun _ _ _ _ _ => pe_op op_mod (pe_callTy call_int1 (by rfl) zi (by decide +kernel) (pa_cons (pe_callB call_abs (by rfl) za (by decide +kernel) (pa_cons (pv 2) pa_nil)) pa_nil)) pe_int))
        (pps_cons pe_str pe_int (pps_cons pe_str pe_int pps_nil)))) rfl rfl (fun z => nomatch z) (by decide)))), ?_⟩
    have item : ∀ (i : Nat) (x : V), (ns.map V.int)[i]? = some x → ∃ z : Int, x = .int z := fun i x hx => by
      rw [List.getElem?_map] at hx
      cases e : ns[i]? with
      | none => rw [e] at hx; cases hx
      | some z => rw [e] at hx; cases hx; exact ⟨z, rfl⟩
    have pw : CPow 10 18 := ⟨by decide, by decide, by decide⟩
    refine seq_join (fun σ H1 => ∃ (g : Addr) (gs : List Int), σ = [some (.ref l), some (.ref g), none] ∧ H g = none ∧ Keep [] H H1 ∧ H1 g = some (.lst (gs.map V.int)) ∧ gs.length ≤ 63) (fun NX nx => ?_) (fun σ H1 hh => ?_)
    · refine ⟨.ref l, rfl, l, rfl, ⟨_, hl⟩, fun D nD => ?_⟩
      refine lc_list (xs := ns.map V.int) (fun i H' => Keep [] H H' ∧ ∃ acc : List Int, H' D = some (.lst (acc.map V.int)) ∧ acc.length ≤ i) ⟨Keep.new nD, [], upd_same, Nat.le_refl 0⟩
        (fun i H' _ hh => sqL_keep hh.1.toKeepW (by simp) hl) (fun i x H' hx hh => ?_) (fun H' hh => ?_)
      · obtain ⟨k, acc, eD, len⟩ := hh
        obtain ⟨z, rfl⟩ := item i x hx
        have il : i < 63 := by
          have := (List.getElem?_eq_some_iff.mp hx).1
          rw [List.length_map] at this
          omega
        refine ⟨rfl, .int z, rfl, z, rfl, _, _, rfl, rfl, pw, _, _, rfl, rfl, _, rfl, ite2 (fun _ => ?_) (fun _ => ?_)⟩
        · refine ⟨.int z, rfl, z, rfl, _, _, rfl, rfl, pw, _, _, rfl, rfl, acc.map V.int, eD, ?_, ?_, acc ++ [(if z < 0 then -z else z) - 10 ^ (18 : Int).toNat], ?_, ?_⟩
          · rw [List.length_map]
            exact small1000 (by omega)
          · exact k.mut nD
          · rw [upd_same, List.map_append]
            rfl
          · rw [List.length_append]
            simp only [List.length_singleton]
            omega
        · exact ⟨k, acc, eD, by omega⟩
      · obtain ⟨k, acc, eD, len'⟩ := hh
        rw [List.length_map] at len'
        exact nx _ _ ⟨D, acc, rfl, nD, k, eD, by omega⟩
    · obtain ⟨g, gs, rfl, ng, k, eg, lg⟩ := hh
      refine fun p np => ?_
      have kp : Keep [] H1 (upd H1 p (.dK [])) := Keep.new np
      have npg : g ≠ p := ne_of_none eg np
      refine ⟨.ref g, rfl, .ref l, rfl, l, rfl, ⟨_, sqL_keep (k.trans kp).toKeepW (by simp) hl⟩, fun D nD => ?_⟩
      have npD : p ≠ D := fun z => by
        rw [← z, upd_same] at nD
        cases nD
      have nD1 : H1 D = none := by
        rw [upd_ne npD.symm] at nD
        exact nD
      refine lc_list (xs := ns.map V.int) (fun i H' => (∀ a o, upd H1 p (.dK []) a = some o → H' a = some o) ∧ ∃ acc : List Int, H' D = some (.lst (acc.map V.int)) ∧ acc.length ≤ i) ⟨fun a o e => ?_, [], upd_same, Nat.le_refl 0⟩
        (fun i H' _ hh => sqL_keep ((k.trans kp).trans (Keep.ext hh.1)).toKeepW (by simp) hl) (fun i x H' hx hh => ?_) (fun H' hh => ?_)
      · rw [upd_ne (ne_of_none e nD)]
        exact e
      · obtain ⟨k, acc, eD, len⟩ := hh
        obtain ⟨z, rfl⟩ := item i x hx
        have il : i < 63 := by
          have := (List.getElem?_eq_some_iff.mp hx).1
          rw [List.length_map] at this
          omega
        refine ⟨rfl, .int z, rfl, z, rfl, .inl ⟨_, rfl, _, _, rfl, rfl, (show (0 : Int) < 2147483629 by decide), acc.map V.int, eD, ?_, ?_, acc ++ [(if z < 0 then -z else z) % 2147483629], ?_, ?_⟩⟩
        · rw [List.length_map]
          exact small1000 (by omega)
        · exact fun a o e => by rw [upd_ne (ne_of_none e nD)]; exact k a o e
        · rw [upd_same, List.map_append]
          rfl
        · rw [List.length_append]
          simp only [List.length_singleton]
          omega
      · obtain ⟨kk, acc, eD, len'⟩ := hh
        have eP : H' p = some (.dK []) := kk p _ upd_same
        have eG : H' g = some (.lst (gs.map V.int)) := kk g _ (by rw [upd_ne npg]; exact eg)
        have ngD : g ≠ D := ne_of_none eg nD1
        refine ⟨eP, [(.inr "great", .ref g), (.inr "cells", .ref D), (.inr "left", .int 0), (.inr "turn", .int 0)], rfl, by show 4 ≤ 15; decide, ?_⟩
        have kAll : Keep [] H (upd H' p (.dK (drawK g D 0 0))) := by
          have base : Keep [] H H' := (k.trans kp).trans (Keep.ext kk)
          exact base.mut (k.none np)
        refine q p g D _ (k.none np) ng (k.none nD1) kAll ⟨ngD, gs, acc, 0, 0, upd_same, ?_, ?_, by decide, by decide⟩
        · rw [upd_ne npg]
          exact eG
        · rw [upd_ne npD.symm]
          exact eD
end
end L53
set_option maxHeartbeats 2000000
namespace PU
open PySem PySem.Spec PyProof.Rows L2 HG LamX
/-! ## steps of readings -/
theorem ix_t {xs : List D} {k : Nat} {d : D} {Q : D → Prop} (h : xs[k]? = some d) (q : Q d) : rIx (.tup xs) (.int k) Q := by
  have e : atI xs (k : Int) = some d := atI_nat h
  unfold rIx
  simp only [e]
  exact q
theorem ix_t0 {x : D} {r : List D} {Q : D → Prop} (q : Q x) : rIx (.tup (x :: r)) (.int 0) Q := ix_t (k := 0) rfl q
theorem ix_t1 {w x : D} {r : List D} {Q : D → Prop} (q : Q x) : rIx (.tup (w :: x :: r)) (.int 1) Q := ix_t (k := 1) rfl q
theorem ix_t2 {v w x : D} {r : List D} {Q : D → Prop} (q : Q x) : rIx (.tup (v :: w :: x :: r)) (.int 2) Q := ix_t (k := 2) rfl q
theorem ix_l {xs : List D} {k : Nat} {d : D} {Q : D → Prop} (h : xs[k]? = some d) (q : Q d) : rIx (.lst xs) (.int k) Q := by
  have e : atI xs (k : Int) = some d := atI_nat h
  unfold rIx
  simp only [e]
  exact q
theorem rg_get {lo : Int} {n i : Nat} {x : D} (h : (rgD lo n)[i]? = some x) : i < n ∧ x = .int (lo + i) := by
  unfold rgD at h
  rw [List.getElem?_map] at h
  by_cases l : i < n
  · simp [l] at h
    exact ⟨l, h.symm⟩
  · simp [l] at h
theorem rg_len {lo : Int} {n : Nat} : (rgD lo n).length = n := by unfold rgD; simp
/-- a text of one sign within another -/
theorem opd_inS {X : Cx} : OpD X (compareOp .In) (fun x y Q => ∃ c z, x = .str ⟨#[c]⟩ ∧ y = .str z ∧ Q (.bl (decide (c ∈ z.cps.toList)))) := by
  refine ⟨fun x y P Q i ⟨c, z, a, b, h⟩ => ⟨c, z, a, b, i _ h⟩, fun pins s σ H x y v u Q I rx ry ⟨F, dx, dy, l, h1, h2, c, z, e1, e2, q⟩ => ?_⟩
  subst e1 e2
  cases h1
  cases h2
  exact op_in_sign pins s σ H _ _ v u Q I rx ry ⟨c, z, rfl, rfl, q _ F H (Ex.rfl l) (.bl _)⟩
theorem opd_notInS {X : Cx} : OpD X (compareOp .NotIn) (fun x y Q => ∃ c z, x = .str ⟨#[c]⟩ ∧ y = .str z ∧ Q (.bl (!decide (c ∈ z.cps.toList)))) := by
  refine ⟨fun x y P Q i ⟨c, z, a, b, h⟩ => ⟨c, z, a, b, i _ h⟩, fun pins s σ H x y v u Q I rx ry ⟨F, dx, dy, l, h1, h2, c, z, e1, e2, q⟩ => ?_⟩
  subst e1 e2
  cases h1
  cases h2
  exact op_notIn_sign pins s σ H _ _ v u Q I rx ry ⟨c, z, rfl, rfl, q _ F H (Ex.rfl l) (.bl _)⟩
theorem sgs_get {z : Str} {i : Nat} {x : D} (h : (sgs z)[i]? = some x) : ∃ c, z.cps.toList[i]? = some c ∧ x = .str ⟨#[c]⟩ := by
  unfold sgs at h
  rw [List.getElem?_map] at h
  cases e : z.cps.toList[i]? with
  | none => rw [e] at h; cases h
  | some c => rw [e] at h; cases h; exact ⟨c, rfl, rfl⟩
theorem sgs_len (z : Str) : (sgs z).length = z.length := by unfold sgs; simp [PySem.Str.length]
/-! ## data of any kind -/
mutual
/-- no object, no function; texts below 1000 signs -/
def fine : D → Bool
  | .non => true
  | .bl _ => true
  | .int _ => true
  | .str z => decide (z.length < 1000)
  | .lst xs => decide (xs.length < 1000) && fineA xs
  | .tup xs => decide (xs.length < 1000) && fineA xs
  | .dk _ xs => fineA xs
  | _ => false
def fineA : List D → Bool
  | [] => true
  | d :: r => fine d && fineA r
end
theorem fineA_all : ∀ {xs : List D}, fineA xs = true → ∀ d ∈ xs, fine d = true
  | [], _, d, m => nomatch m
  | x :: r, h, d, m => by
    simp only [fineA, Bool.and_eq_true] at h
    rcases List.mem_cons.mp m with rfl | m
    · exact h.1
    · exact fineA_all h.2 d m
theorem fineA_of : ∀ {xs : List D}, (∀ d ∈ xs, fine d = true) → fineA xs = true
  | [], _ => rfl
  | x :: r, h => by
    simp only [fineA, Bool.and_eq_true]
    exact ⟨h x List.mem_cons_self, fineA_of fun d m => h d (List.mem_cons_of_mem _ m)⟩
def isNum : D → Bool
  | .int _ => true
  | _ => false
def numIn (lo hi : Int) : D → Bool
  | .int i => decide (lo ≤ i) && decide (i ≤ hi)
  | _ => false
/-- a test that goes one of two ways -/
theorem ite_b {b : Bool} {A B : Prop} (h1 : b = true → A) (h2 : b = false → B) : if b = true then A else B := by
  cases b
  · exact h2 rfl
  · exact h1 rfl
/-- all items up to here, one more -/
theorem all_take {α : Type} {p : α → Bool} {xs : List α} {i : Nat} {x : α} (h : xs[i]? = some x) (a : (xs.take i).all p = true) (b : p x = true) : (xs.take (i + 1)).all p = true := by
  have l := (List.getElem?_eq_some_iff.mp h).1
  rw [List.take_succ, h, List.all_append, a]
  simp [b]
theorem all_not {α : Type} {p : α → Bool} {xs : List α} {i : Nat} {x : α} (h : xs[i]? = some x) (b : p x = false) : xs.all p = false := by
  rw [List.all_eq_false]
  exact ⟨x, List.mem_of_getElem? h, by rw [b]; exact Bool.false_ne_true⟩
theorem fine_tup {xs : List D} (h : fine (.tup xs) = true) : xs.length < 1000 ∧ ∀ d ∈ xs, fine d = true := by
  simp only [fine, Bool.and_eq_true, decide_eq_true_eq] at h
  exact ⟨h.1, fineA_all h.2⟩
theorem fine_lst {xs : List D} (h : fine (.lst xs) = true) : xs.length < 1000 ∧ ∀ d ∈ xs, fine d = true := by
  simp only [fine, Bool.and_eq_true, decide_eq_true_eq] at h
  exact ⟨h.1, fineA_all h.2⟩
theorem fine_tup' {xs : List D} (l : xs.length < 1000) (h : ∀ d ∈ xs, fine d = true) : fine (.tup xs) = true := by
  simp only [fine, Bool.and_eq_true, decide_eq_true_eq]
  exact ⟨l, fineA_of h⟩
theorem fine_lst' {xs : List D} (l : xs.length < 1000) (h : ∀ d ∈ xs, fine d = true) : fine (.lst xs) = true := by
  simp only [fine, Bool.and_eq_true, decide_eq_true_eq]
  exact ⟨l, fineA_of h⟩
/-- enumerate(x), x a name, a list or a tuple -/
def uEnumV (i : Nat) : TDi := fun ρ n Q => match gt ρ i with
  | .d (.lst xs) => Q (enumD xs) n
  | .d (.tup xs) => Q (enumD xs) n
  | _ => False
theorem ui_enumV {X : Cx} {C : Cn} {i : Nat} {x : Str} {px p pos tpos : Pos} {elts : List Expr} {kk : Nat} (hm : X.mg "enumerate" = none) (hg : Gl X "enumerate" := by rfl) (hN : X.N[i]? = some x := by rfl) (hv : Vis X.env.scope x := by first | exact .inl rfl | exact .inr (.inl rfl) | exact .inr (.inr rfl)) (hd : (x == ("__debug__" : Str)) = false := by decide) (hcd : (x == ("__classdict__" : Str)) = false := by decide)
    (hs : starEach [.Name x px] X.env = [(false, eval (.Name x px) X.env)] := by rfl) : UI X C (.Tuple elts kk tpos) (.Call (.Name "enumerate" p) [.Name x px] [] pos) (uEnumV i) := by
  refine ⟨PIw (pi_enumX hg hm (pa_cons (pe_var (i := i) hN hv hd hcd) pa_nil hs) hs) fun σ H R ⟨F, ρ, n, rel, q⟩ => ?_, fun ρ n P Q i w => ?_⟩
  · unfold uEnumV at q
    have sl := rel.sl i
    cases e : gt ρ i with
    | d y =>
      rw [e] at q sl
      obtain ⟨v, e2, dd⟩ := sl
      cases dd with
      | lst hq ha => exact .inl ⟨_, getD_some e2, _, _, rfl, SqL.le rel.le hq, q _ F H (Ex.rfl rel.le) rel.m (enum_walk walk_enum (fun H' l => SqL.le l hq) ha)⟩
      | tup hq ha => exact .inr ⟨_, getD_some e2, _, _, rfl, SqT.le rel.le hq, q _ F H (Ex.rfl rel.le) rel.m (enum_walk HN.walk_ent (fun H' l => SqT.le l hq) ha)⟩
      | _ => exact q.elim
    | _ => rw [e] at q; exact q.elim
  · unfold uEnumV at w ⊢
    split <;> rename_i e <;> simp only [e] at w <;> first | exact i _ _ w | exact w
theorem en_get {xs : List D} {i : Nat} {x : D} (h : (enumD xs)[i]? = some x) : ∃ d, xs[i]? = some d ∧ x = .tup [.int (i : Nat), d] := by
  rw [enumD_get] at h
  cases e : xs[i]? with
  | none => rw [e] at h; cases h
  | some d => rw [e] at h; cases h; exact ⟨d, rfl, rfl⟩
theorem en_len (xs : List D) : (enumD xs).length = xs.length := enumD_length xs
/-- slices -/
theorem cut_to' {xs : List D} {k : Nat} (h : k ≤ xs.length) : cutD xs none (some (k : Int)) = xs.take k := by
  unfold cutD
  rw [HT.sIx_nat]
  show (xs.drop 0).take (min k xs.length - 0) = _
  rw [Nat.min_eq_left h]
  rfl
theorem cut_from' {xs : List D} {k : Nat} (h : k ≤ xs.length) : cutD xs (some (k : Int)) none = xs.drop k := by
  unfold cutD
  rw [HT.sIx_nat]
  show (xs.drop (min k xs.length)).take (xs.length - min k xs.length) = _
  rw [Nat.min_eq_left h, List.take_of_length_le (by rw [List.length_drop]; exact Nat.le_refl _)]
theorem cut_mid' {xs : List D} {a b : Nat} (h1 : a ≤ b) (h2 : b ≤ xs.length) : cutD xs (some (a : Int)) (some (b : Int)) = (xs.drop a).take (b - a) := by
  unfold cutD
  rw [HT.sIx_nat, HT.sIx_nat, Nat.min_eq_left (Nat.le_trans h1 h2), Nat.min_eq_left h2]
end PU
set_option maxHeartbeats 2000000
namespace PU
open PySem PySem.Spec PyProof.Rows L2 HG LamX
/-- the things of a row: a list, a tuple, a text -/
def rowS (d : D) (xs : List D) : Prop := d = .lst xs ∨ d = .tup xs ∨ ∃ z : Str, d = .str z ∧ z.length < 1000 ∧ xs = sgs z
theorem at_of {α : Type} {xs : List α} {r : Int} (h0 : 0 ≤ r) (h1 : r < xs.length) : ∃ v, v ∈ xs ∧ atI xs r = some v := by
  have h2 : r.toNat < xs.length := by omega
  refine ⟨xs[r.toNat], List.getElem_mem h2, ?_⟩
  have q := atI_nat (xs := xs) (j := r.toNat) (List.getElem?_eq_getElem h2)
  rw [Int.toNat_of_nonneg h0] at q
  exact q
theorem ix_any {d : D} {xs : List D} {r : Int} {Q : D → Prop} (h : rowS d xs) (r0 : 0 ≤ r) (r1 : r < xs.length) (q : ∀ x, x ∈ xs → Q x) : rIx d (.int r) Q := by
  rcases h with rfl | rfl | ⟨z, rfl, hz, rfl⟩
  · obtain ⟨v, m, e⟩ := at_of r0 r1
    unfold rIx
    simp only [e]
    exact q v m
  · obtain ⟨v, m, e⟩ := at_of r0 r1
    unfold rIx
    simp only [e]
    exact q v m
  · have l : (z.cps.toList).length = z.length := by simp [PySem.Str.length]
    rw [sgs_len] at r1
    obtain ⟨c, m, e⟩ := at_of (xs := z.cps.toList) r0 (by rw [l]; exact r1)
    unfold rIx
    simp only [e]
    refine ⟨Nat.le_of_lt (Nat.lt_of_lt_of_le hz (by decide)), q _ ?_⟩
    unfold sgs
    exact List.mem_map.mpr ⟨c, m, rfl⟩
/-- one statement, then another, with what holds between -/
theorem seq_mid {w w' : TDs} {E : EndD} {ρ : List S} {n : Nat} (P : List S → Nat → Prop) (h : ∀ NX : List S → Nat → Prop, (∀ ρ m, P ρ m → NX ρ m) → w { E with nx := NX } ρ n) (q : ∀ ρ m, P ρ m → w' E ρ m) : uSeq w w' E ρ n := h _ q
/-! ### x, xs = a value, a new list; the names may be read by what stands within -/
def uAsgO (i j : Nat) (u : TD) (ul : TDl) : TDs := fun E ρ n => u ρ n fun d m => ul ρ m fun ds m2 => ∀ a, E.nx (st (st ρ i (.d d)) j (.o a ds)) m2
theorem us_asgO {X : Cx} {C : Cn} {i j : Nat} {x y : Str} {a b : Expr} {u : TD} {ul : TDl} {px py pt pos : Pos} {kt k2 pt2} (hc : C.Ok) (ha : UE X C a u) (hb : UL X C b ul) (hN : X.N.Nodup) (hi : X.N[i]? = some x := by rfl) (hj : X.N[j]? = some y := by rfl)
    (hx : Loc X.env.scope x := by first | exact .inl rfl | exact .inr rfl) (hy : Loc X.env.scope y := by first | exact .inl rfl | exact .inr rfl)
    (hf : X.fn x = true ∨ X.env.scope.names.lookup x = some .local := by first | exact .inl rfl | exact .inr rfl) (hg : X.fn y = true ∨ X.env.scope.names.lookup y = some .local := by first | exact .inl rfl | exact .inr rfl)
    (hcalm : X.calm = true := by rfl) (s0 : starEach [a, b] X.env = (false, eval a X.env) :: starEach [b] X.env := by rfl) (s1 : starEach [b] X.env = (false, eval b X.env) :: starEach [] X.env := by rfl)
    (hs : swapsWithSole [.Tuple [.Name x px, .Name y py] kt pt] (.Tuple [a, b] k2 pt2) pos.line X.env = pure false := by rfl)
    (hw : swappedStores [.Tuple [.Name x px, .Name y py] kt pt] (.Tuple [a, b] k2 pt2) X.env = pure none := by rfl)
    (h1 : (assignEach [.Tuple [.Name x px, .Name y py] kt pt] X.env).map (·.2) = [assign (.Tuple [.Name x px, .Name y py] kt pt) X.env] := by rfl)
    (g1 : (assignEach [.Name x px, .Name y py] X.env).map (·.2) = assign (.Name x px) X.env :: (assignEach [.Name y py] X.env).map (·.2) := by rfl)
    (g2 : (assignEach [.Name y py] X.env).map (·.2) = assign (.Name y py) X.env :: (assignEach [] X.env).map (·.2) := by rfl)
    (hn : (assignEach [.Name x px, .Name y py] X.env).length = 2 := by rfl) (hst : (assignEach [.Name x px, .Name y py] X.env).findIdx? (·.1) = none := by rfl) :
    US X C (.Assign [.Tuple [.Name x px, .Name y py] kt pt] (.Tuple [a, b] k2 pt2) pos) (uAsgO i j u ul) := by
  refine ⟨PSw (ps_asg (pe_tup (pa_cons ha.run (pa_cons hb.run pa_nil s1) s0)) (pg_tup hcalm (pgs_cons (pg_name hN hi hx hf) (pgs_cons (pg_name hN hj hy hg) pgs_nil g2) g1) hn hst) hs hw h1) fun D σ H ⟨F, ρ, n, E, rel, ok, q⟩ => ?_⟩
  refine ⟨F, ρ, n, rel, ha.mo _ _ _ _ (fun d m q v F1 H1 x1 m1 d1 => ⟨F1, ρ, m, rel.stepG x1 m1, hb.mo _ _ _ _ (fun ds m2 q l vs F2 H2 x2 m3 o1 o2 o3 d2 => ⟨by show 2 ≤ sizeLine; decide, fun p np => ?_⟩) q⟩) q⟩
  have x3 : Ex p0 F2 H2 F2 (upd H2 p (.tup [v, .ref l])) := Ex.newO x2.le np
  have rA := rel.stepG x1 m1
  have rB := (rA.stepG x2 m3).step x3
  have rC := rB.setD (i := i) (d1.le x2.up)
  have rD := rA.setD (i := i) d1
  have lp : l ≠ p := fun z => by
    rw [z, np] at o3
    cases o3
  refine ⟨p, _, rfl, .inl (.inl upd_same), rfl, v, _, rfl, .ref l, _, rfl, rfl, ?_⟩
  exact ok.nx F2 _ m2 _ _ (x1.up.tr x2.up) (rC.setO hc.sub o1 rA.x.keep ⟨m, rA.m⟩ (fun b z => rD.ownAt z) o2 (by rw [upd_ne lp]; exact o3) d2) (q l)
/-! ## letters and words, kinds of data -/
def signs : Str := "ABCDEFGHIJKLMNOPQRSTUVWXYZabcdefghijklmnopqrstuvwxyz0123456789."
def letS (z : Str) : Bool := decide (1 ≤ z.length) && decide (z.length ≤ 12) && z.cps.toList.all fun c => decide (c ∈ signs.cps.toList)
def isLet : D → Bool
  | .str z => letS z
  | _ => false
def isWord : D → Bool
  | .tup xs => xs.all isLet
  | _ => false
def isRow : D → Bool
  | .lst _ => true
  | .tup _ => true
  | _ => false
def tupN (n : Int) : D → Bool
  | .tup xs => decide ((xs.length : Int) = n)
  | _ => false
def isPair : D → Bool
  | .tup [x, y] => isNum x && isNum y
  | _ => false
end PU
set_option maxHeartbeats 2000000
namespace PU
open PySem PySem.Spec PyProof.Rows L2 HG LamX
theorem dda_rg {K : PySem.W.Frag} {F : Hp} {f : Nat → Int} : ∀ {l : List Nat}, DdA K F (l.map fun i => V.int (f i)) (l.map fun i => D.int (f i))
  | [] => .nil
  | _ :: _ => .cons (.int _) dda_rg
def uLstRg (ua : TD) : TDl := fun ρ n Q => ua ρ n fun d m => ∃ j : Nat, d = .int j ∧ j ≤ 16777216 ∧ Q (rgD 0 j) m
theorem ul_listRg {X : Cx} {C : Cn} {a : Expr} {ua : TD} {p q pos rp : Pos} (h : UE X C a ua) (zl : X.mg "list" = none) (zr : X.mg "range" = none) (hl : Gl X "list" := by rfl) (hg : Gl X "range" := by rfl) (hc : X.calm = true := by rfl)
    (h1 : starEach [a] X.env = (false, eval a X.env) :: starEach [] X.env := by rfl) (h2 : starEach [(.Call (.Name "range" p) [a] [] rp)] X.env = (false, eval (.Call (.Name "range" p) [a] [] rp) X.env) :: starEach [] X.env := by rfl) :
    UL X C (.Call (.Name "list" q) [.Call (.Name "range" p) [a] [] rp] [] pos) (uLstRg ua) := by
  refine ⟨PEw (pe_listRg hc hl zl (prg_1 hg zr h.run h1) h2) fun σ H Q ⟨F, ρ, n, rel, u⟩ => ⟨F, ρ, n, rel, h.mo _ _ _ _ (fun d m ⟨j, e, l, q⟩ v F1 H1 x1 m1 d1 => ?_) u⟩, fun ρ n P Q i w => h.mo _ _ _ _ (fun d m ⟨j, e, l, q⟩ => ⟨j, e, l, i _ _ q⟩) w⟩
  subst e
  obtain rfl : v = V.int j := by cases d1; rfl
  refine ⟨_, rfl, RgOk.of_le (by omega) (by omega) (by omega) (by omega), fun p np => ?_⟩
  have e : rgV 0 (j : Int) = (List.range j).map fun (i : Nat) => V.int (0 + (i : Int)) := by
    unfold rgV
    rw [show ((j : Int) - 0).toNat = j by omega]
  refine q p _ F1 _ (x1.tr (Ex.newO x1.le np)) (C.stay m1 (Ex.newO x1.le np)) (x1.keep.none np) (x1.le.fr (fr0_none np)) upd_same ?_
  rw [e]
  exact dda_rg
end PU
set_option maxHeartbeats 2000000
namespace HG
open PySem PySem.Spec PyProof.Rows L2
theorem put_mem {kvs : List (Key × V)} {k : Key} {v : V} {kv : Key × V} (m : kv ∈ putK kvs k v) : (∃ kv' ∈ kvs, kv'.2 = kv.2) ∨ kv.2 = v := by
  unfold putK at m
  split at m
  · obtain ⟨x, mx, e⟩ := List.mem_map.mp m
    by_cases q : x.1 = k
    · rw [if_pos q] at e
      exact .inr (by rw [← e])
    · rw [if_neg q] at e
      exact .inl ⟨x, mx, by rw [e]⟩
  · rcases List.mem_append.mp m with m | m
    · exact .inl ⟨kv, m, rfl⟩
    · rw [List.mem_singleton] at m
      exact .inr (by rw [m])
theorem merge_mem : ∀ {more kvs : List (Key × V)} {kv : Key × V}, kv ∈ mergeK kvs more → (∃ kv' ∈ kvs, kv'.2 = kv.2) ∨ ∃ kv' ∈ more, kv'.2 = kv.2
  | [], kvs, kv, m => .inl ⟨kv, m, rfl⟩
  | p :: r, kvs, kv, m => by
    rcases merge_mem (more := r) (kvs := putK kvs p.1 p.2) m with ⟨x, mx, e⟩ | ⟨x, mx, e⟩
    · rcases put_mem mx with ⟨y, my, e2⟩ | e2
      · exact .inl ⟨y, my, e2.trans e⟩
      · exact .inr ⟨p, List.mem_cons_self, by rw [← e, e2]⟩
    · exact .inr ⟨x, List.mem_cons_of_mem _ mx, e⟩
theorem ik_mem : ∀ {l : List V} {k : Nat} {kv : Key × V}, (∃ kv' ∈ ik k l, kv'.2 = kv.2) → kv.2 ∈ l
  | [], _, _, ⟨_, m, _⟩ => nomatch m
  | x :: r, k, kv, ⟨y, m, e⟩ => by
    rcases List.mem_cons.mp m with rfl | m
    · rw [← e]
      exact List.mem_cons_self
    · exact List.mem_cons_of_mem _ (ik_mem ⟨y, m, e⟩)
def tDictEn (K : PySem.W.Frag) (te : TE) : TE := fun σ H Q => te σ H fun v H1 => ∃ (a : Addr) (xs : List V), v = .ref a ∧ SqL K H1 a xs ∧ ∀ q kvs, (∀ kv ∈ kvs, kv.2 ∈ xs) → H1 q = none → Q (.ref q) (upd H1 q (.dK kvs))
theorem pe_dictEn {X : Cx} {e : Expr} {te : TE} {p p2 pos pos2 : Pos} (hc : X.calm = true) (hg : Gl X "dict") (hm : X.mg "dict" = none) (hg2 : Gl X "enumerate") (hm2 : X.mg "enumerate" = none) (he : PE X e te)
    (hs : starEach [e] X.env = (false, eval e X.env) :: starEach [] X.env := by rfl)
    (hs2 : starEach [.Call (.Name "enumerate" p2) [e] [] pos2] X.env = (false, eval (.Call (.Name "enumerate" p2) [e] [] pos2) X.env) :: starEach [] X.env := by rfl) :
    PE X (.Call (.Name "dict" p) [.Call (.Name "enumerate" p2) [e] [] pos2] [] pos) (tDictEn X.K te) := by
  refine ⟨fun pins s σ H Q I h => ?_⟩
  refine Call_ (ld_blt I hg hm PyProof.Rows.boot_dict (PyProof.Rows.callWith_type1 (args_cons (Call_ (ld_blt I hg2 hm2 boot_enumerate (PyProof.Rows.callWith_type1 (args_cons (thn (he.run pins s σ H _ I h) fun u s1 ⟨v, H1, I1, r1, q1⟩ => args_nil ?_) hs) hs rfl))) hs2) hs2 rfl))
  obtain ⟨a, xs, ev, hq, q⟩ := q1
  subst ev
  obtain rfl : u = Value.ref a := r1
  obtain ⟨its, rv, p', hz⟩ := I1.list hq
  refine call_enumerate_list p'.isList fun h' hen hit hsz hk => args_nil ?_
  have I2 : Inv X pins σ H1 { s1 with heap := h' } := I1.kept (t' := s1.toks) hk
  have hf : ∀ b ∈ [s1.heap.objs.size + 1, s1.heap.objs.size], FpOk X pins H1 b := fun b hb => by
    have hle : s1.heap.objs.size ≤ b := by
      have e' : b = s1.heap.objs.size + 1 ∨ b = s1.heap.objs.size := by simpa using hb
      rcases e' with z | z
      · rw [z]; exact Nat.le_add_right _ _
      · rw [z]; exact Nat.le_refl _
    exact I1.fpOk hle (I1.hok.fresh hle)
  have hl := p'.isList
  obtain ⟨ol, hol, _⟩ := id hl
  have lt : a < s1.heap.objs.size := Heap.lt_size hol
  have hl2 : h'.IsList a its.toArray := hl.at fun o x => hk _ o x
  refine PySem.call_dict_pairs (knd := mixKind X.prog X.w) (kvs := ik 0 its) (s := { s1 with heap := h' }) (PairArg.enumerate (s1.heap.objs.size + 1) s1.heap.objs.size a (Nat.succ_ne_self _) (Nat.ne_of_lt (Nat.lt_succ_of_lt lt)) (Nat.ne_of_lt lt) its.toArray) (I1.ok.hd hc) ⟨⟨_, hen⟩, hit, hl2⟩ ⟨by rw [ik_len, List.size_toArray], fun i key v hr => ?_⟩ ?_ (fun h2 tk hd hk2 => ?_)
  · obtain ⟨⟨t, rfl⟩, hv⟩ := hr
    rw [List.getElem?_toArray] at hv
    refine ⟨Sum.inl ((i : Nat) : Int), by rw [ik_get, hv, Nat.zero_add]; rfl, ?_⟩
    exact keyIs_int (i : Int) t
  · rw [List.size_toArray, ← rv.length]
    exact hz
  · have hm' : (h'.objs.size == sysModules) = false := beq_eq_false_iff_ne.mpr (Nat.ne_of_gt I2.big)
    have hlen : (mergeK [] (ik 0 xs)).length ≤ sizeLine := by
      refine Nat.le_trans (length_mergeK _ []) ?_
      rw [List.length_nil, Nat.zero_add, ik_len]
      exact hz
    refine ⟨.ref h'.objs.size, upd H1 h'.objs.size (.dK (mergeK [] (ik 0 xs))), I2.turnedNew (t' := tk) (ch := [s1.heap.objs.size + 1, s1.heap.objs.size]) (fun b o hb e => hk2 b o hb e) hf (Nat.le_refl _) (show ObjOk X.prog X.w _ _ _ (.dK (mergeK [] (ik 0 xs))) from ⟨hlen, hm', merged [] (ik 0 its), KV.merge (ik_kv rv) .nil, hd⟩), rfl, q _ _ (fun kv m => (merge_mem m).elim (fun ⟨_, z, _⟩ => nomatch z) fun z => ik_mem z) (I2.hok.fresh (Nat.le_refl _))⟩
end HG
namespace PU
open PySem PySem.Spec PyProof.Rows L2 HG LamX
theorem DdA.rev {K : PySem.W.Frag} {F : Hp} : ∀ {vs : List V} {ds : List D}, DdA K F vs ds → DdA K F vs.reverse ds.reverse
  | _, _, .nil => .nil
  | _, _, .cons a b => by
    rw [List.reverse_cons, List.reverse_cons]
    exact (DdA.rev b).append (.cons a .nil)
def uRevL (ua : TD) : TDl := fun ρ n Q => ua ρ n fun d m => match d with
  | .lst xs => Q xs.reverse m
  | _ => False
theorem ul_rev {X : Cx} {C : Cn} {e : Expr} {ua : TD} {k : Nat} {p1 p2 p3 pos : Pos} (h : UE X C e ua) : UL X C (.Subscript e (.Slice none none (some (.UnaryOp .USub (.Constant (.int 1) k p1) p2)) p3) pos) (uRevL ua) := by
  refine ⟨PEw (pe_revL h.run) fun σ H Q ⟨F, ρ, n, rel, u⟩ => ⟨F, ρ, n, rel, h.mo _ _ _ _ (fun d m q v F1 H1 x1 m1 d1 => ?_) u⟩, fun ρ n P Q i w => h.mo _ _ _ _ (fun d m q => by cases d <;> first | exact i _ _ q | exact q) w⟩
  cases d1 with
  | lst hq ha => exact ⟨_, _, rfl, SqL.le x1.le hq, fun p np => q p _ F1 _ (x1.tr (Ex.newO x1.le np)) (C.stay m1 (Ex.newO x1.le np)) (x1.keep.none np) (x1.le.fr (fr0_none np)) upd_same ha.rev⟩
  | _ => exact q.elim
def uDictEn (ua : TD) : TD := fun ρ n Q => ua ρ n fun d m => match d with
  | .lst xs => ∀ ks ds, (∀ d ∈ ds, d ∈ xs) → Q (.dk ks ds) m
  | _ => False
theorem dda_mem {K : PySem.W.Frag} {F : Hp} : ∀ {vs : List V} {ds : List D} {v : V}, DdA K F vs ds → v ∈ vs → ∃ d ∈ ds, Dd K F v d
  | _, _, _, .nil, m => nomatch m
  | _, _, _, .cons a b, m => by
    rcases List.mem_cons.mp m with rfl | m
    · exact ⟨_, List.mem_cons_self, a⟩
    · obtain ⟨d, md, h⟩ := dda_mem b m
      exact ⟨d, List.mem_cons_of_mem _ md, h⟩
theorem dda_sub {K : PySem.W.Frag} {F : Hp} {xs : List V} {ds : List D} (h : DdA K F xs ds) : ∀ {vs : List V}, (∀ v ∈ vs, v ∈ xs) → ∃ es, DdA K F vs es ∧ ∀ d ∈ es, d ∈ ds
  | [], _ => ⟨[], .nil, fun _ m => nomatch m⟩
  | v :: r, m => by
    obtain ⟨d, md, hd⟩ := dda_mem h (m v List.mem_cons_self)
    obtain ⟨es, he, me⟩ := dda_sub h (vs := r) fun x mx => m x (List.mem_cons_of_mem _ mx)
    refine ⟨d :: es, .cons hd he, fun x mx => ?_⟩
    rcases List.mem_cons.mp mx with rfl | mx
    · exact md
    · exact me x mx
theorem ue_dictEn {X : Cx} {C : Cn} {e : Expr} {ua : TD} {p p2 pos pos2 : Pos} (h : UE X C e ua) (zd : X.mg "dict" = none) (ze : X.mg "enumerate" = none) (hc : X.calm = true := by rfl) (hg : Gl X "dict" := by rfl) (hg2 : Gl X "enumerate" := by rfl)
    (hs : starEach [e] X.env = (false, eval e X.env) :: starEach [] X.env := by rfl)
    (hs2 : starEach [.Call (.Name "enumerate" p2) [e] [] pos2] X.env = (false, eval (.Call (.Name "enumerate" p2) [e] [] pos2) X.env) :: starEach [] X.env := by rfl) :
    UE X C (.Call (.Name "dict" p) [.Call (.Name "enumerate" p2) [e] [] pos2] [] pos) (uDictEn ua) := by
  refine ⟨PEw (pe_dictEn hc hg zd hg2 ze h.run hs hs2) fun σ H Q ⟨F, ρ, n, rel, u⟩ => ⟨F, ρ, n, rel, h.mo _ _ _ _ (fun d m q v F1 H1 x1 m1 d1 => ?_) u⟩, fun ρ n P Q i w => h.mo _ _ _ _ (fun d m q => by cases d <;> first | exact fun ks ds g => i _ _ (q ks ds g) | exact q) w⟩
  cases d1 with
  | lst hq ha =>
    refine ⟨_, _, rfl, SqL.le x1.le hq, fun p kvs sub np => ?_⟩
    obtain ⟨es, he, me⟩ := dda_sub ha (vs := kvs.map (·.2)) fun v m => by
      obtain ⟨kv, mk, rfl⟩ := List.mem_map.mp m
      exact sub kv mk
    have fr := x1.le.fr (fr0_none np)
    refine q (kvs.map (·.1)) es me (.ref p) (upd F1 p (.dK kvs)) _ (x1.tr (Ex.newF x1.le np)) (C.stay m1 (Ex.newF x1.le np)) (.dk (.inl upd_same) (he.le (Le.upd fr)))
  | _ => exact q.elim
end PU
set_option maxHeartbeats 2000000
namespace HG
open PySem PySem.Spec PySem.Calls PyProof.Rows L2
theorem args_gcd3 (a b c : Value) : argsOk "math.gcd" ⟨[a, b, c], []⟩ := by unfold argsOk; kernel_rfl
theorem mg_run_gcd3 (a : Int) (t : Tok) (b : Int) (u : Tok) (c : Int) (v : Tok) :
    Gives (Builtin.«math.gcd» ⟨[.int a t, .int b u, .int c v], []⟩) (.int (((((Nat.gcd 0 a.natAbs).gcd b.natAbs).gcd c.natAbs : Nat) : Int))) :=
  .of_wp fun M A E s Q h => by obtain ⟨hp, g, d, tk, os⟩ := s; wp_walk; exact ⟨_, rfl, h⟩
section
variable {X : Cx}
def rGcd3 : List V → Hp → VK → Prop := fun vs H Q => ∃ a b c : Int, vs = [.int a, .int b, .int c] ∧ Q (.int ((Nat.gcd (Nat.gcd a.natAbs b.natAbs) c.natAbs : Nat) : Int)) H
theorem cr_gcd3 : CallR X (.builtin "math.gcd") rGcd3 := by
  intro pins s σ H vs us Q I r h
  obtain ⟨a, b, c, rfl, q⟩ := h
  cases r with
  | cons r1 r =>
    cases r with
    | cons r2 r =>
      cases r with
      | cons r3 r =>
        cases r
        obtain ⟨t, rfl⟩ := r1
        obtain ⟨u, rfl⟩ := r2
        obtain ⟨v, rfl⟩ := r3
        have g := mg_run_gcd3 a t b u c v
        rw [Nat.gcd_zero_left] at g
        exact call_function_meets PySem.W.MGF.kind_gcd PySem.W.MGF.plain_gcd PySem.W.MGF.entry_gcd (args_gcd3 _ _ _) g.meets ⟨.int _, H, I.tok _, ⟨_, rfl⟩, q⟩
end
end HG
namespace PU
open PySem PySem.Spec PyProof.Rows L2 HG LamX
section
variable {X : Cx} {C : Cn} {a b e : Expr} {es : List Expr} {ua ub u : TD} {us : TDa} {pos : Pos}
def rIsB (f : Bool → Bool) (x y : D) (Q : D → Prop) : Prop := match x, y with
  | .bl a, .bl b => Q (.bl (f (decide (a = b))))
  | _, _ => False
theorem opd_isB : OpD X (compareOp .Is) (rIsB id) := by
  refine ⟨fun x y P Q i h => ?_, fun pins s σ H x y v u Q I rx ry ⟨F, dx, dy, l, h1, h2, q⟩ => ?_⟩
  · unfold rIsB at h
    split at h
    · exact i _ h
    · exact h.elim
  · unfold rIsB at q
    split at q
    · cases h1
      cases h2
      exact op_is_bl pins s σ H _ _ v u Q I rx ry ⟨_, _, rfl, rfl, q _ F H (Ex.rfl l) (.bl _)⟩
    · exact q.elim
def rGcd2D (ds : List D) (Q : D → Prop) : Prop := d2 ds fun d e => iOf d fun i => iOf e fun j => Q (.int ((Nat.gcd i.natAbs j.natAbs : Nat) : Int))
theorem cd_gcd : CallD X (.builtin "math.gcd") rGcd2D := by
  refine ⟨fun xs P Q i h => d2_mo (fun d e h => mo_iOf (fun k => mo_iOf fun j => i _) h) h, fun pins s σ H xs us Q I r ⟨F, ds, l, h, q⟩ => ?_⟩
  obtain ⟨d, e, rfl, q⟩ := d2_of q
  obtain ⟨v, w, rfl, h1, h2⟩ := dda2 h
  obtain ⟨k, rfl, q⟩ := iOf_of h1 q
  obtain ⟨j, rfl, q⟩ := iOf_of h2 q
  exact cr_gcd pins s σ H _ us Q I r ⟨k, j, rfl, q _ F H (Ex.rfl l) (.int _)⟩
def rGcd3D (ds : List D) (Q : D → Prop) : Prop := match ds with
  | [.int i, .int j, .int k] => Q (.int ((Nat.gcd (Nat.gcd i.natAbs j.natAbs) k.natAbs : Nat) : Int))
  | _ => False
theorem cd_gcd3 : CallD X (.builtin "math.gcd") rGcd3D := by
  refine ⟨fun xs P Q i h => ?_, fun pins s σ H xs us Q I r ⟨F, ds, l, h, q⟩ => ?_⟩
  · unfold rGcd3D at h
    split at h
    · exact i _ h
    · exact h.elim
  · unfold rGcd3D at q
    split at q
    · cases h with
      | cons a1 h =>
        cases h with
        | cons a2 h =>
          cases h with
          | cons a3 h =>
            cases h
            cases a1
            cases a2
            cases a3
            exact cr_gcd3 pins s σ H _ us Q I r ⟨_, _, _, rfl, q _ F H (Ex.rfl l) (.int _)⟩
    · exact q.elim
/-- f(e, ..), f a module's name for a built-in function -/
theorem ue_callBf {id : String} {x : Str} {p : Pos} {r : List D → (D → Prop) → Prop} (hc : CallD X (.builtin id) r) (hm : X.mg x = some (.builtin id)) (ha : UA X C (e :: es) us) (hg : Gl X x := by rfl) (hdb : (x == ("__debug__" : Str)) = false := by decide)
    (he : starEach (e :: es) X.env = (false, eval e X.env) :: starEach es X.env := by rfl) (hpl : (backTo pos (starEach es X.env)).any (·.1) = false := by rfl) : UE X C (.Call (.Name x p) (e :: es) [] pos) (uCall r us) :=
  ⟨PEw (pe_callBfun hc.run hg hm ha.run hdb he hpl) fun σ H Q ⟨F, ρ, n, rel, h⟩ => ⟨F, ρ, n, rel, ha.mo _ _ _ _ (fun ds m q vs F1 H1 x1 m1 d1 =>
    ⟨F1, ds, x1.le, d1, hc.mo _ _ _ (fun d q v F2 H2 x2 dd => q v F2 H2 (x1.tr x2.up0) (C.stay m1 x2) dd) q⟩) h⟩, mo_Call hc.mo ha.mo⟩
/-- a tuple of ints that the program's own text makes -/
structure TupK (K : PySem.W.Frag) (mg : Str → Option Value) (x : Str) (ns : List Int) : Prop where
  ex : ∃ a, mg x = some (.ref a) ∧ ∃ (o : Obj) (its : Array Value) (n : Nat), K.lookup a = some o ∧ o.cls = .type "tuple" ∧ o.data = .seq its n ∧ its.size ≤ sizeLine ∧ Vals (ns.map V.int) its.toList
theorem ue_globT {x : Str} {ns : List Int} (T : TupK X.K X.mg x ns) (hg : Gl X x := by rfl) (hdb : (x == ("__debug__" : Str)) = false := by decide) : UE X C (.Name x pos) (uC (.tup (ns.map .int))) := by
  obtain ⟨a, hm, h⟩ := T.ex
  exact ue_glob (v := .ref a) hm rfl (fun F => .tup (.inr h) (dda_ints ns)) hg hdb
/-! ### sorted(a list of pairs of ints) -/
def prD (p : Int × Int) : D := .tup [.int p.1, .int p.2]
def leP (p q : Int × Int) : Prop := p.1 < q.1 ∨ (p.1 = q.1 ∧ p.2 ≤ q.2)
theorem tup_pair {H : Hp} {s : Shared} {pins : List (Addr × Obj)} {σ : L2.St} {t : Addr} {i j : Int} (I : Inv X pins σ H s) (h : SqT X.K H t [.int i, .int j]) : Srt.IsPair s.heap (.ref t) i j := by
  obtain ⟨its, r, ⟨o, ho, hc, n, hd⟩, _⟩ := I.tuple h
  obtain ⟨u1, u2, rfl, ri, rj⟩ := vals2 r
  obtain ⟨t1, rfl⟩ := ri
  obtain ⟨t2, rfl⟩ := rj
  exact ⟨t, o, t1, t2, n, rfl, ho, hc, hd⟩
theorem pair_one {h : Heap} {v : Value} {a b c d : Int} (p : Srt.IsPair h v a b) (q : Srt.IsPair h v c d) : a = c ∧ b = d := by
  obtain ⟨t, o, x, y, n, rfl, ho, hc, hd⟩ := p
  obtain ⟨t', o', x', y', n', e, ho', hc', hd'⟩ := q
  cases e
  rw [ho] at ho'
  cases ho'
  rw [hd] at hd'
  cases hd'
  exact ⟨rfl, rfl⟩
theorem pairs_items {K : PySem.W.Frag} {F : Hp} : ∀ {vs : List V} {its : List Value} {ps : List (Int × Int)}, Vals vs its → DdA K F vs (ps.map PU.prD) → its.length = ps.length ∧ ∀ (i : Nat) (u : Value), its[i]? = some u → ∃ (p : Int × Int) (t : Addr), ps[i]? = some p ∧ u = .ref t ∧ SqT K F t [.int p.1, .int p.2]
  | _, _, [], rv, h => by
    cases h
    cases rv
    exact ⟨rfl, fun i u e => by simp at e⟩
  | _, _, p :: r, rv, h => by
    cases h with
    | cons a b =>
      cases rv with
      | cons r1 r2 =>
        obtain ⟨e, q⟩ := pairs_items r2 b
        refine ⟨by rw [List.length_cons, List.length_cons, e], fun i u hu => ?_⟩
        cases i with
        | zero =>
          cases hu
          unfold PU.prD at a
          cases a with
          | tup hq hA =>
            obtain ⟨x, y, rfl, c1, c2⟩ := dda2 hA
            cases c1
            cases c2
            exact ⟨p, _, rfl, r1, hq⟩
        | succ i => exact q i u hu
def rSortP (ds : List D) (Q : List D → Prop) : Prop := d1 ds fun d => ∃ ps : List (Int × Int), d = .lst (ps.map PU.prD) ∧ ∀ ps' : List (Int × Int), ps'.Perm ps → ps'.Pairwise leP → Q (ps'.map PU.prD)
open Classical in
theorem cl_sortedP : CallL X (.builtin "sorted") rSortP := by
  refine ⟨fun xs P Q i h => d1_mo (fun d ⟨ps, e, h⟩ => ⟨ps, e, fun m a b => i _ (h m a b)⟩) h, fun pins s σ H xs us Q I r ⟨F, ds, l, h, q⟩ => ?_⟩
  obtain ⟨d, rfl, ps, rfl, q2⟩ := d1_of q
  obtain ⟨v, rfl, k1⟩ := dda1 h
  cases k1 with
  | lst hq ha =>
    rename_i la vs _
    have hs := SqL.le l hq
    obtain ⟨its, rv, hl, hz⟩ := I.list hs
    obtain ⟨u, rfl, ru⟩ := vals1 r
    obtain rfl : u = Value.ref la := ru
    obtain ⟨el, it⟩ := pairs_items rv ha
    let k : Value → Int × Int := fun u => if h : ∃ p : Int × Int, Srt.IsPair s.heap u p.1 p.2 then h.choose else (0, 0)
    have hk : ∀ u (p : Int × Int), Srt.IsPair s.heap u p.1 p.2 → k u = p := fun u p hp => by
      have ex : ∃ p : Int × Int, Srt.IsPair s.heap u p.1 p.2 := ⟨p, hp⟩
      show (if h : ∃ p : Int × Int, Srt.IsPair s.heap u p.1 p.2 then h.choose else (0, 0)) = p
      rw [dif_pos ex]
      obtain ⟨e1, e2⟩ := pair_one ex.choose_spec hp
      exact Prod.ext e1 e2
    have at_ : ∀ u ∈ its, ∃ t, u = .ref t ∧ SqT X.K F t [.int (k u).1, .int (k u).2] := fun u hu => by
      obtain ⟨i, hi, e⟩ := List.mem_iff_getElem.mp hu
      obtain ⟨p, t, e1, rfl, e2⟩ := it i u (by rw [List.getElem?_eq_getElem hi, e])
      have := hk _ p (tup_pair I (SqT.le l e2))
      exact ⟨t, rfl, by rw [this]; exact e2⟩
    have mp : its.map k = ps := by
      refine List.ext_getElem? fun i => ?_
      rw [List.getElem?_map]
      cases hu : its[i]? with
      | none =>
        have : ps[i]? = none := List.getElem?_eq_none (by rw [← el]; exact List.getElem?_eq_none_iff.mp hu)
        rw [this]
        rfl
      | some u =>
        obtain ⟨p, t, e1, rfl, e2⟩ := it i u hu
        rw [e1, ← hk _ p (tup_pair I (SqT.le l e2))]
        rfl
    refine SrtO.sorted_pairsO (k := k) hl.isList (by rw [← rv.length]; exact hz) (fun v hv => ?_) fun h' d out h1 h2 kp hd hn => ?_
    · obtain ⟨t, rfl, e⟩ := at_ v hv
      exact tup_pair I (SqT.le l e)
    · have h3 : ∀ u ∈ out, ∃ a, u = Value.ref a := fun u hu => by
        obtain ⟨t, e, _⟩ := at_ u (h2.perm.mem_iff.mp hu)
        exact ⟨t, e⟩
      obtain ⟨n, hn⟩ := hn
      have pm : (out.map k).Perm ps := by
        rw [← mp]
        exact h2.perm.map k
      have pw : (out.map k).Pairwise leP := by
        rw [List.pairwise_map]
        refine List.Pairwise.imp (fun {x y} e => ?_) h1
        have := SrtO.lexB_no.mp e
        unfold leP
        omega
      have dd : DdA X.K F (out.map backV) ((out.map k).map PU.prD) := by
        have all : ∀ u ∈ out, ∃ t, u = .ref t ∧ SqT X.K F t [.int (k u).1, .int (k u).2] := fun u hu => at_ u (h2.perm.mem_iff.mp hu)
        clear h1 h2 h3 hn pm pw
        induction out with
        | nil => exact .nil
        | cons u r ih =>
          obtain ⟨t, e, e2⟩ := all u List.mem_cons_self
          refine .cons ?_ (ih fun x m => all x (List.mem_cons_of_mem _ m))
          rw [e] at e2 ⊢
          exact .tup e2 (.cons (.int _) (.cons (.int _) .nil))
      refine ⟨.ref d, upd H d (.lst (out.map backV)), I.laid (t' := s.toks) kp hd ⟨?_, out, n, vals_back h3, hn⟩, rfl, q2 _ pm pw d _ (I.hok.fresh hd) dd⟩
      rw [List.length_map, h2.perm.length_eq, ← rv.length]
      exact hz
/-- xs.pop(): the last one of an own list goes -/
def uPopE (i : Nat) : TDs := fun E ρ n => match gt ρ i with
  | .o a xs => ∃ ys y, xs = ys ++ [y] ∧ E.nx (st ρ i (.o a ys)) n
  | _ => False
theorem us_popE {i : Nat} {x : Str} {px ax cx : Pos} (hi : X.N[i]? = some x := by rfl) (hv : Vis X.env.scope x := by first | exact .inl rfl | exact .inr (.inl rfl) | exact .inr (.inr rfl)) (hd : (x == ("__debug__" : Str)) = false := by decide) (hcd : (x == ("__classdict__" : Str)) = false := by decide)
    (hbase : attributeBase (.Name x px) "pop" X.env (eval (.Name x px) X.env) = eval (.Name x px) X.env := by rfl) (hline : (ax.endLine == cx.line) = true := by rfl)
    (hs : swapsWith (.Call (.Attribute (.Name x px) "pop" ax) [] [] cx) none pos.line X.env = pure false := by rfl) :
    US X C (.Expr (.Call (.Attribute (.Name x px) "pop" ax) [] [] cx) pos) (uPopE i) := by
  refine ⟨PSw (ps_expr (pe_bm0 PySem.F.plainAttrs_list PySem.F.slot_list_pop PySem.F.type_list_pop mt_pop (pe_var (i := i) hi hv hd hcd) hbase hline) hs) fun D σ H ⟨F, ρ, n, E, rel, ok, q⟩ => ?_⟩
  unfold uPopE at q
  have s := rel.sl i
  cases e : gt ρ i with
  | o a xs =>
    rw [e] at q s
    obtain ⟨e2, vs, e3, e4⟩ := s
    obtain ⟨ys, y, rfl, q⟩ := q
    obtain ⟨ws, w, rfl, h1, h2⟩ := dda_snoc e4
    refine ⟨.ref a, getD_some e2, .inl ⟨rfl, _, SqL.of e3⟩, a, _, w, rfl, rfl, e3, by simp, ?_⟩
    rw [List.dropLast_concat]
    exact ok.nx F _ n _ _ Le.rfl (rel.mutO e h1) q
  | _ => rw [e] at q; exact q.elim
end
end PU
set_option maxHeartbeats 2000000
namespace PU
open PySem PySem.Spec L2 HG
def one (c : Nat) : Str := ⟨#[c]⟩
theorem join_one (cs : List Nat) : Txt.join (Str.ofString "") (cs.map one) = ⟨cs.toArray⟩ := by
  have e : cs.map one = PyProof.Rows.signs ⟨cs.toArray⟩ := by
    unfold PyProof.Rows.signs
    rw [List.toList_toArray]
    rfl
  have z : Str.ofString "" = ⟨#[]⟩ := by decide +kernel
  rw [TL.join_eq, z, e]
  exact PyProof.Rows.join_nil_signs _
theorem pig4 {a b c d : Str} (ab : a ≠ b) (ac : a ≠ c) (ad : a ≠ d) (bc : b ≠ c) (bd : b ≠ d) (cd : c ≠ d) {l : List Str} (len : l.length ≤ 3) (ha : a ∈ l) (hb : b ∈ l) (hc : c ∈ l) (hd : d ∈ l) : False := by
  have e1 := List.length_erase_of_mem ha
  have b1 : b ∈ l.erase a := (List.mem_erase_of_ne ab.symm).mpr hb
  have c1 : c ∈ l.erase a := (List.mem_erase_of_ne ac.symm).mpr hc
  have d1 : d ∈ l.erase a := (List.mem_erase_of_ne ad.symm).mpr hd
  have e2 := List.length_erase_of_mem b1
  have c2 : c ∈ (l.erase a).erase b := (List.mem_erase_of_ne bc.symm).mpr c1
  have d2 : d ∈ (l.erase a).erase b := (List.mem_erase_of_ne bd.symm).mpr d1
  have e3 := List.length_erase_of_mem c2
  have d3 : d ∈ ((l.erase a).erase b).erase c := (List.mem_erase_of_ne cd.symm).mpr d2
  have := List.length_pos_of_mem d3
  omega
theorem app_ne {x : Str} {c d : Nat} (h : c ≠ d) : x ++ one c ≠ x ++ one d := fun e => by
  have q : (x ++ one c).cps.toList = (x ++ one d).cps.toList := by rw [e]
  have e1 : ∀ k, (x ++ one k).cps.toList = x.cps.toList ++ [k] := fun k => by
    show (x.cps ++ #[k]).toList = _
    simp
  rw [e1, e1] at q
  have := List.append_cancel_left q
  cases this
  exact h rfl
theorem cut_11 (z : Str) : (cutS z none (some 11)).length ≤ 11 ∧ ∀ c ∈ (cutS z none (some 11)).cps.toList, c ∈ z.cps.toList := by
  have b : HT.sIx z.length z.length (some 11) ≤ 11 := by
    have q := HT.sIx_nat z.length z.length 11
    rw [show (((11 : Nat)) : Int) = 11 from rfl] at q
    rw [q]
    exact Nat.min_le_left _ _
  unfold cutS
  refine ⟨?_, fun c hc => ?_⟩
  · show (List.toArray _).size ≤ 11
    rw [List.size_toArray, List.length_take]
    omega
  · rw [List.toList_toArray] at hc
    exact List.mem_of_mem_drop (List.mem_of_mem_take hc)
def signs2 : Str := "abcdefghijklmnopqrstuvwxyzABCDEFGHIJKLMNOPQRSTUVWXYZ0123456789."
theorem signs_sub : ∀ c ∈ signs2.cps.toList, c ∈ signs.cps.toList := by decide +kernel
def near (z : Str) : List Str := z :: signs2.cps.toList.map fun c => cutS z none (some 11) ++ one c
theorem letS_of {z : Str} (h1 : 1 ≤ z.length) (h2 : z.length ≤ 12) (h3 : ∀ c ∈ z.cps.toList, c ∈ signs.cps.toList) : letS z = true := by
  unfold letS
  rw [decide_eq_true h1, decide_eq_true h2, Bool.true_and, Bool.true_and, List.all_eq_true]
  exact fun c hc => decide_eq_true (h3 c hc)
theorem letS_to {z : Str} (h : letS z = true) : 1 ≤ z.length ∧ z.length ≤ 12 ∧ ∀ c ∈ z.cps.toList, c ∈ signs.cps.toList := by
  unfold letS at h
  obtain ⟨h1, h3⟩ := Bool.and_eq_true_iff.mp h
  obtain ⟨h1, h2⟩ := Bool.and_eq_true_iff.mp h1
  exact ⟨of_decide_eq_true h1, of_decide_eq_true h2, fun c hc => of_decide_eq_true (List.all_eq_true.mp h3 c hc)⟩
theorem near_free {z : Str} {found : List Str} (len : found.length ≤ 3) : ∃ y r, (near z).filter (fun y => !decide (y ∈ found)) = y :: r := by
  cases e : (near z).filter (fun y => !decide (y ∈ found)) with
  | cons y r => exact ⟨y, r, rfl⟩
  | nil =>
    exfalso
    rw [List.filter_eq_nil_iff] at e
    have m : ∀ c ∈ signs2.cps.toList, cutS z none (some 11) ++ one c ∈ found := fun c hc => by
      have q := e _ (List.mem_cons_of_mem _ (List.mem_map.mpr ⟨c, hc, rfl⟩))
      simpa using q
    exact pig4 (app_ne (by decide)) (app_ne (by decide)) (app_ne (by decide)) (app_ne (by decide)) (app_ne (by decide)) (app_ne (by decide)) len
      (m 107 (by decide +kernel)) (m 81 (by decide +kernel)) (m 55 (by decide +kernel)) (m 46 (by decide +kernel))
theorem near_sign {z : Str} (h : letS z = true) : ∀ y ∈ near z, letS y = true := by
  intro y hy
  rcases List.mem_cons.mp hy with rfl | hy
  · exact h
  · obtain ⟨c, hc, rfl⟩ := List.mem_map.mp hy
    obtain ⟨l, m⟩ := cut_11 z
    obtain ⟨_, _, g⟩ := letS_to h
    have size : (cutS z none (some 11) ++ one c).length = (cutS z none (some 11)).length + 1 := by
      show (_ ++ #[c]).size = _
      rw [Array.size_append]
      rfl
    refine letS_of (by omega) (by omega) (fun x hx => ?_)
    have e : (cutS z none (some 11) ++ one c).cps.toList = (cutS z none (some 11)).cps.toList ++ [c] := by
      show (_ ++ #[c]).toList = _
      simp
    rw [e] at hx
    rcases List.mem_append.mp hx with q | q
    · exact g x (m x q)
    · rw [List.mem_singleton.mp q]
      exact signs_sub c hc
def labels : List Str := ["a", "b", "A", "x", "x.1", "read", "zzzzzzzzzzzz", "0", "1", "."]
theorem labels_ok : ∀ z ∈ labels, letS z = true := by decide +kernel
theorem labels_split : Txt.split (Str.ofString "a b A x x.1 read zzzzzzzzzzzz 0 1 .") (Str.ofString " ") = labels := by decide +kernel
end PU
set_option maxHeartbeats 2000000
namespace L53
open PySem PySem.Spec PyProof.Rows L2 HG PU LamX
/-- a number whose products may be made -/
def Sm (i : Int) : Prop := -(2 ^ 64) < i ∧ i < 2 ^ 64
def SmP (p : Int × Int) : Prop := Sm p.1 ∧ Sm p.2
def gI (p q : Int) : Int := ((Nat.gcd p.natAbs q.natAbs : Nat) : Int)
def redI (p q : Int) : Int × Int := (p / gI p q, q / gI p q)
def ahB (one other : Int × Int) : Bool := decide (other.1 * one.2 < one.1 * other.2)
def worthI (pair price : Int × Int) : Int := price.1 * pair.1 + price.2 * pair.2
theorem gI_pos {p q : Int} (h : p ≠ 0 ∨ q ≠ 0) : 0 < gI p q := by
  unfold gI
  have : 0 < Nat.gcd p.natAbs q.natAbs := by
    refine Nat.pos_of_ne_zero fun z => ?_
    have h1 := Nat.eq_zero_of_gcd_eq_zero_left z
    have h2 := Nat.eq_zero_of_gcd_eq_zero_right z
    omega
  omega
theorem gI_le {p q : Int} (h : p ≠ 0 ∨ q ≠ 0) (h1 : p.natAbs < 2 ^ 200) (h2 : q.natAbs < 2 ^ 200) : (gI p q).natAbs < 2 ^ 200 := by
  show (((Nat.gcd p.natAbs q.natAbs : Nat) : Int)).natAbs < _
  rw [Int.natAbs_natCast]
  by_cases z : p = 0
  · subst z
    rw [Int.natAbs_zero, Nat.gcd_zero_left]
    exact h2
  · exact Nat.lt_of_le_of_lt (Nat.gcd_le_left _ (by omega)) h1
theorem wide_of {j : Int} (h : 0 < j) (l : j.natAbs < 2 ^ 200) : CDivW 0 j := ⟨h, by
  have : j.natAbs.log2 < 200 := (Nat.log2_lt (by omega)).mpr l
  omega⟩
section
variable {P : Program} {w : World} {K : PySem.W.Frag} {mg : Str → Option Value} {base : Heap}
def sp_is_number : SpD := spF (fun d => [d]) (fun d => fine d = true) fun d => .bl (isNum d)
theorem ok_is_number (D : Def K mg "is_number" s_is_number ["thing"])
    (z_bool : mg "bool" = none)
    (z_int : mg "int" = none)
    (z_isinstance : mg "isinstance" = none)
     :
    CalG P w K mg base CX0 1 "is_number" ["thing"] (fun _ : Unit => gh0) (fun _ => sp_is_number) := by
  refine D.uk sc_is_number (fun i => gh0_ok) (fun _ => mo_F) (fun _ ds n Q E ⟨x, e, _⟩ => by rw [e]; rfl) (fun i f cdv A outer s F H Ev ds n Q E hC hr h => ?_)
  have nd := sc_is_number.nd
  have hu := hr.units
  obtain ⟨d, rfl, hd, q⟩ := h
  try dsimp only at q
  refine ⟨_, (us_one (us_ret (ue_and (ue_isi .int (ue_var (i := 0)) z_isinstance z_int) (ue_one (ue_not (ue_isi .bool (ue_var (i := 0)) z_isinstance z_bool)))))), ?_⟩
  cases d <;> first | exact q | cases hd
def sp_is_tuple_of : SpD := spF (fun (x : D × Int) => [x.1, .int x.2]) (fun x => fine x.1 = true) fun x => .bl (tupN x.2 x.1)
theorem ok_is_tuple_of (D : Def K mg "is_tuple_of" s_is_tuple_of ["thing", "many"])
    (z_isinstance : mg "isinstance" = none)
    (z_len : mg "len" = none)
    (z_tuple : mg "tuple" = none)
     :
    CalG P w K mg base CX0 1 "is_tuple_of" ["thing", "many"] (fun _ : Unit => gh0) (fun _ => sp_is_tuple_of) := by
  refine D.uk sc_is_tuple_of (fun i => gh0_ok) (fun _ => mo_F) (fun _ ds n Q E ⟨x, e, _⟩ => by rw [e]; rfl) (fun i f cdv A outer s F H Ev ds n Q E hC hr h => ?_)
  have nd := sc_is_tuple_of.nd
  have hu := hr.units
  obtain ⟨⟨d, m⟩, rfl, hd, q⟩ := h
  try dsimp only at q
  refine ⟨_, (us_one (us_ret (ue_and (ue_isi .tuple (ue_var (i := 0)) z_isinstance z_tuple) (ue_one (ue_cmp (opd_eqA hu) (ue_callB cd_len z_len (ua_cons (ue_var (i := 0)) ua_nil)) (ue_var (i := 1))))))), ?_⟩
  cases d <;> first | exact q | cases hd
def sp_is_pair : SpD := spF (fun d => [d]) (fun d => fine d = true) fun d => .bl (isPair d)
theorem ok_is_pair (D : Def K mg "is_pair" s_is_pair ["thing"])
    (c_is_number : CalG P w K mg base CX0 1 "is_number" ["thing"] (fun _ : Unit => gh0) (fun _ => sp_is_number))
    (c_is_tuple_of : CalG P w K mg base CX0 1 "is_tuple_of" ["thing", "many"] (fun _ : Unit => gh0) (fun _ => sp_is_tuple_of))
     :
    CalG P w K mg base CX0 2 "is_pair" ["thing"] (fun _ : Unit => gh0) (fun _ => sp_is_pair) := by
  refine D.uk sc_is_pair (fun i => gh0_ok) (fun _ => mo_F) (fun _ ds n Q E ⟨x, e, _⟩ => by rw [e]; rfl) (fun i f cdv A outer s F H Ev ds n Q E hC hr h => ?_)
  have nd := sc_is_pair.nd
  have hu := hr.units
  obtain ⟨d, rfl, hd, q⟩ := h
  try dsimp only at q
  refine ⟨_, (us_one (us_ret (ue_and (uc_p c_is_tuple_of hr pass0 (ua_cons (ue_var (i := 0)) (ua_cons ue_int ua_nil))) (ue_and (uc_p c_is_number hr pass0 (ua_cons (ue_ix (ue_var (i := 0)) ue_int) ua_nil)) (ue_one (uc_p c_is_number hr pass0 (ua_cons (ue_ix (ue_var (i := 0)) ue_int) ua_nil))))))), ?_⟩
  refine ⟨(d, 2), rfl, hd, ?_⟩
  cases d with
  | tup xs =>
    have ha := (fine_tup hd).2
    refine ite_b (fun e => ?_) fun e => ?_
    · match xs, e with
      | [x, y], _ =>
        refine ix_t0 (x := x) (r := [y]) ?_
        refine ⟨x, rfl, ha x (by simp), ite_b (fun e1 => ?_) fun e1 => ?_⟩
        · refine ix_t1 (w := x) (x := y) (r := []) ?_
          refine ⟨y, rfl, ha y (by simp), ?_⟩
          simp only [isPair, e1, Bool.true_and] at q
          exact q
        · simp only [isPair, e1, Bool.false_and] at q
          exact q
    · have : isPair (.tup xs) = false := by
        match xs, e with
        | [], _ => rfl
        | [_], _ => rfl
        | [_, _], e => cases e
        | _ :: _ :: _ :: _, _ => rfl
      rw [this] at q
      exact q
  | _ => first | exact q | cases hd
def sp_reduced : SpD := spF (fun (x : Int × Int) => [.int x.1, .int x.2]) (fun x => (x.1 ≠ 0 ∨ x.2 ≠ 0) ∧ x.1.natAbs < 2 ^ 200 ∧ x.2.natAbs < 2 ^ 200) fun x => PU.prD (redI x.1 x.2)
theorem ok_reduced (D : Def K mg "reduced" s_reduced ["p", "q"])
    (z_gcd : mg "gcd" = some (.builtin "math.gcd"))
     :
    CalG P w K mg base CX0 1 "reduced" ["p", "q"] (fun _ : Unit => gh0) (fun _ => sp_reduced) := by
  refine D.uk sc_reduced (fun i => gh0_ok) (fun _ => mo_F) (fun _ ds n Q E ⟨x, e, _⟩ => by rw [e]; rfl) (fun i f cdv A outer s F H Ev ds n Q E hC hr h => ?_)
  have nd := sc_reduced.nd
  have hu := hr.units
  obtain ⟨⟨a, b⟩, rfl, hp, q⟩ := h
  try dsimp only at q
  refine ⟨_, (us_cons (us_set (i := 2) (ue_callBf cd_gcd z_gcd (ua_cons (ue_var (i := 0)) (ua_cons (ue_var (i := 1)) ua_nil))) nd)
      (us_one (us_ret (ue_tup (ua_cons (ue_op opd_fdivW (ue_var (i := 0)) (ue_var (i := 2))) (ua_cons (ue_op opd_fdivW (ue_var (i := 1)) (ue_var (i := 2))) ua_nil)))))), ?_⟩
  obtain ⟨h1, h2, h3⟩ := hp
  have g0 := gI_pos h1
  have g1 := gI_le h1 h2 h3
  have cd := wide_of g0 g1
  exact ⟨cd, cd, by show 2 ≤ sizeLine; decide, q⟩
def sp_goes_ahead : SpD := spF (fun (x : (Int × Int) × (Int × Int)) => [PU.prD x.1, PU.prD x.2]) (fun x => SmP x.1 ∧ SmP x.2) fun x => .bl (ahB x.1 x.2)
theorem ok_goes_ahead (D : Def K mg "goes_ahead" s_goes_ahead ["one", "other"])
     :
    CalG P w K mg base CX0 1 "goes_ahead" ["one", "other"] (fun _ : Unit => gh0) (fun _ => sp_goes_ahead) := by
  refine D.uk sc_goes_ahead (fun i => gh0_ok) (fun _ => mo_F) (fun _ ds n Q E ⟨x, e, _⟩ => by rw [e]; rfl) (fun i f cdv A outer s F H Ev ds n Q E hC hr h => ?_)
  have nd := sc_goes_ahead.nd
  have hu := hr.units
  obtain ⟨⟨a, b⟩, rfl, hp, q⟩ := h
  try dsimp only at q
  refine ⟨_, (us_one (us_ret (ue_cmp opd_gt (ue_op opd_mul (ue_ix (ue_var (i := 0)) ue_int) (ue_ix (ue_var (i := 1)) ue_int)) (ue_op opd_mul (ue_ix (ue_var (i := 1)) ue_int) (ue_ix (ue_var (i := 0)) ue_int))))), ?_⟩
  obtain ⟨⟨a1, a2⟩, b1, b2⟩ := hp
  refine ix_t0 ?_
  refine ix_t1 ?_
  refine ⟨.inl a1, ?_⟩
  refine ix_t0 ?_
  refine ix_t1 ?_
  refine ⟨.inl b1, ?_⟩
  exact q
def sp_worth_at : SpD := spF (fun (x : (Int × Int) × (Int × Int)) => [PU.prD x.1, PU.prD x.2]) (fun x => SmP x.2) fun x => .int (worthI x.1 x.2)
theorem ok_worth_at (D : Def K mg "worth_at" s_worth_at ["pair", "price"])
     :
    CalG P w K mg base CX0 1 "worth_at" ["pair", "price"] (fun _ : Unit => gh0) (fun _ => sp_worth_at) := by
  refine D.uk sc_worth_at (fun i => gh0_ok) (fun _ => mo_F) (fun _ ds n Q E ⟨x, e, _⟩ => by rw [e]; rfl) (fun i f cdv A outer s F H Ev ds n Q E hC hr h => ?_)
  have nd := sc_worth_at.nd
  have hu := hr.units
  obtain ⟨⟨a, b⟩, rfl, hp, q⟩ := h
  try dsimp only at q
  refine ⟨_, (us_one (us_ret (ue_op opd_plus (ue_op opd_mul (ue_ix (ue_var (i := 1)) ue_int) (ue_ix (ue_var (i := 0)) ue_int)) (ue_op opd_mul (ue_ix (ue_var (i := 1)) ue_int) (ue_ix (ue_var (i := 0)) ue_int))))), ?_⟩
  obtain ⟨a1, a2⟩ := hp
  refine ix_t0 ?_
  refine ix_t0 ?_
  refine ⟨.inl a1, ?_⟩
  refine ix_t1 ?_
  refine ix_t1 ?_
  refine ⟨.inl a2, ?_⟩
  exact q
end
end L53
set_option maxHeartbeats 2000000
namespace L53
open PySem PySem.Spec PyProof.Rows L2 HG PU LamX
abbrev P2 := Int × Int
abbrev P3 := Int × Int × Int
def trD (t : P3) : D := .tup [.int t.1, .int t.2.1, .int t.2.2]
def opD : Option P2 → D
  | none => .non
  | some p => PU.prD p
def nrm (p : P2) : P2 := if p.1 < 0 then (-p.1, -p.2) else p
def crossI (one other : P2) : Option P2 :=
  let d := nrm (one.1 - other.1, one.2 - other.2)
  if 0 < d.1 ∧ d.2 ≤ 0 then some (redI (-d.2) d.1) else if d.1 = 0 ∧ d.2 ≠ 0 then some (1, 0) else none
def isPrice : D → Bool
  | .tup [.int p, .int q] => decide (0 ≤ p) && decide (0 ≤ q) && decide (gI p q = 1)
  | _ => false
/-- small enough for what is computed here -/
def In (k : Nat) (i : Int) : Prop := i.natAbs < 2 ^ k
theorem In.sm {i : Int} (h : In 64 i) : Sm i := by
  unfold In at h
  unfold Sm
  have : (2 : Int) ^ 64 = ((2 ^ 64 : Nat) : Int) := by decide
  omega
theorem In.up {i : Int} {k m : Nat} (h : In k i) (l : k ≤ m) : In m i := Nat.lt_of_lt_of_le h (Nat.pow_le_pow_right (by decide) l)
theorem ediv_abs {p g : Int} (h : 0 < g) : (p / g).natAbs ≤ p.natAbs := by
  by_cases z : 0 ≤ p
  · have h1 := Int.ediv_nonneg z (Int.le_of_lt h)
    have h2 : p / g ≤ p := Int.ediv_le_self _ z
    omega
  · have h2 : p ≤ p / g := by
      have := Int.le_ediv_of_mul_le h (a := p) (b := p) (by
        have : p * g ≤ p * 1 := Int.mul_le_mul_of_nonpos_left (by omega) (by omega)
        omega)
      exact this
    have h3 : p / g < 0 := Int.ediv_neg_of_neg_of_pos (by omega) h
    omega
theorem red_in {p q : Int} {k : Nat} (h : p ≠ 0 ∨ q ≠ 0) (h1 : In k p) (h2 : In k q) : In k (redI p q).1 ∧ In k (redI p q).2 :=
  ⟨Nat.lt_of_le_of_lt (ediv_abs (gI_pos h)) h1, Nat.lt_of_le_of_lt (ediv_abs (gI_pos h)) h2⟩
theorem in_neg {k : Nat} {i : Int} (h : In k i) : In k (-i) := by
  unfold In at h ⊢
  rwa [Int.natAbs_neg]
theorem nrm_in {k : Nat} {p : P2} (h1 : In k p.1) (h2 : In k p.2) : In k (nrm p).1 ∧ In k (nrm p).2 := by
  unfold nrm
  split
  · exact ⟨in_neg h1, in_neg h2⟩
  · exact ⟨h1, h2⟩
theorem isPair_to {d : D} (h : isPair d = true) : ∃ p : P2, d = PU.prD p := by
  cases d with
  | tup xs =>
    match xs, h with
    | [x, y], h =>
      have h : (isNum x && isNum y) = true := h
      obtain ⟨h1, h2⟩ := Bool.and_eq_true_iff.mp h
      cases x <;> first | cases h1 | skip
      cases y <;> first | cases h2 | skip
      exact ⟨(_, _), rfl⟩
  | _ => cases h
theorem price_pair {d : D} (h : isPrice d = true) : isPair d = true := by
  unfold isPrice at h
  split at h
  · rfl
  · cases h
section
variable {P : Program} {w : World} {K : PySem.W.Frag} {mg : Str → Option Value} {base : Heap}
def sp_crossing : SpD := spF (fun (x : P2 × P2) => [PU.prD x.1, PU.prD x.2]) (fun x => In 200 (x.1.1 - x.2.1) ∧ In 200 (x.1.2 - x.2.2)) fun x => opD (crossI x.1 x.2)
theorem ok_crossing (D : Def K mg "crossing" s_crossing ["one", "other"])
    (g_AHEAD_OF_ALL : TupK K mg "AHEAD_OF_ALL" [1, 0])
    (c_reduced : CalG P w K mg base CX0 1 "reduced" ["p", "q"] (fun _ : Unit => gh0) (fun _ => sp_reduced))
     :
    CalG P w K mg base CX0 2 "crossing" ["one", "other"] (fun _ : Unit => gh0) (fun _ => sp_crossing) := by
  refine D.uk sc_crossing (fun i => gh0_ok) (fun _ => mo_F) (fun _ ds n Q E ⟨x, e, _⟩ => by rw [e]; rfl) (fun i f cdv A outer s F H Ev ds n Q E hC hr h => ?_)
  have nd := sc_crossing.nd
  have hu := hr.units
  obtain ⟨⟨a, b⟩, rfl, hp, q⟩ := h
  try dsimp only at q
  refine ⟨_, (us_cons (us_set (i := 2) (ue_op opd_sub (ue_ix (ue_var (i := 0)) ue_int) (ue_ix (ue_var (i := 1)) ue_int)) nd)
      (us_cons (us_set (i := 3) (ue_op opd_sub (ue_ix (ue_var (i := 0)) ue_int) (ue_ix (ue_var (i := 1)) ue_int)) nd)
      (us_cons (us_if (ut_cmp opd_lt (ue_var (i := 2)) ue_int) (us_one (us_par (i := 2) (j := 3) (ua_cons (ue_neg (ue_var (i := 2))) (ua_cons (ue_neg (ue_var (i := 3))) ua_nil)) nd)) us_nil)
      (us_cons (us_if (UW.ut (uw_and (ut_cmp opd_gt (ue_var (i := 2)) ue_int) (uw_and1 (ut_cmp opd_le (ue_var (i := 3)) ue_int)))) (us_one (us_ret (uc_p c_reduced hr pass0 (ua_cons (ue_neg (ue_var (i := 3))) (ua_cons (ue_var (i := 2)) ua_nil))))) us_nil)
      (us_cons (us_if (UW.ut (uw_and (ut_cmp (opd_eqA hu) (ue_var (i := 2)) ue_int) (uw_and1 (ut_cmp (opd_neA hu) (ue_var (i := 3)) ue_int)))) (us_one (us_ret (ue_globT g_AHEAD_OF_ALL))) us_nil)
      (us_one (us_ret ue_non))))))), ?_⟩
  obtain ⟨h1, h2⟩ := hp
  refine ix_t0 ?_
  refine ix_t0 ?_
  refine ix_t1 ?_
  refine ix_t1 ?_
  dsimp only
  have hN := nrm_in (p := (a.1 - b.1, a.2 - b.2)) h1 h2
  unfold crossI at q
  dsimp only at q
  refine seq_mid (w := uIfS _ _ _) (fun ρ m => m = n ∧ ρ = [.d (PU.prD a), .d (PU.prD b), .d (.int (nrm (a.1 - b.1, a.2 - b.2)).1), .d (.int (nrm (a.1 - b.1, a.2 - b.2)).2)]) (fun NX nx => ?_) (fun ρ m hp => ?_)
  · refine ite_b (fun e => ?_) fun e => ?_
    · have e := of_decide_eq_true e
      refine nx _ _ ⟨rfl, ?_⟩
      unfold nrm
      rw [if_pos e]
      rfl
    · have e := of_decide_eq_false e
      refine nx _ _ ⟨rfl, ?_⟩
      unfold nrm
      rw [if_neg e]
      rfl
  · obtain ⟨rfl, rfl⟩ := hp
    generalize nrm (a.1 - b.1, a.2 - b.2) = d at hN q
    obtain ⟨x, y⟩ := d
    dsimp only at q hN
    refine ite_b (fun e => ?_) fun e => ?_
    · have e : 0 < x := of_decide_eq_true e
      refine ite_b (fun e2 => ?_) fun e2 => ?_
      · have e2 : y ≤ 0 := of_decide_eq_true e2
        rw [if_pos ⟨e, e2⟩] at q
        exact ⟨(-y, x), rfl, ⟨.inr (by show x ≠ 0; omega), in_neg hN.2, hN.1⟩, q⟩
      · have e2 : ¬ y ≤ 0 := of_decide_eq_false e2
        rw [if_neg (fun z => e2 z.2), if_neg (fun z => by omega)] at q
        refine ite_b (fun e3 => ?_) fun e3 => q
        have e3 : x = 0 := of_decide_eq_true e3
        omega
    · have e : ¬ 0 < x := of_decide_eq_false e
      rw [if_neg (fun z => e z.1)] at q
      refine ite_b (b := false) (fun z => nomatch z) fun _ => ?_
      refine ite_b (fun e2 => ite_b (fun e3 => ?_) fun e3 => ?_) fun e2 => ?_
      · have e2 : x = 0 := of_decide_eq_true e2
        have e3 : y ≠ 0 := by simpa using e3
        rw [if_pos ⟨e2, e3⟩] at q
        exact q
      · have e3 : y = 0 := by simpa using e3
        rw [if_neg (fun z => z.2 e3)] at q
        exact q
      · have e2 : ¬ x = 0 := of_decide_eq_false e2
        rw [if_neg (fun z => e2 z.1)] at q
        exact q
def sp_is_price : SpD := spF (fun d => [d]) (fun d => fine d = true) fun d => .bl (isPrice d)
theorem ok_is_price (D : Def K mg "is_price" s_is_price ["thing"])
    (z_gcd : mg "gcd" = some (.builtin "math.gcd"))
    (c_is_pair : CalG P w K mg base CX0 2 "is_pair" ["thing"] (fun _ : Unit => gh0) (fun _ => sp_is_pair))
     :
    CalG P w K mg base CX0 3 "is_price" ["thing"] (fun _ : Unit => gh0) (fun _ => sp_is_price) := by
  refine D.uk sc_is_price (fun i => gh0_ok) (fun _ => mo_F) (fun _ ds n Q E ⟨x, e, _⟩ => by rw [e]; rfl) (fun i f cdv A outer s F H Ev ds n Q E hC hr h => ?_)
  have nd := sc_is_price.nd
  have hu := hr.units
  obtain ⟨d, rfl, hd, q⟩ := h
  try dsimp only at q
  refine ⟨_, (us_cons (us_if (ut_not (ut_val (uc_p c_is_pair hr pass0 (ua_cons (ue_var (i := 0)) ua_nil)))) (us_one (us_ret ue_bl)) us_nil)
      (us_cons (us_asg (ue_var (i := 0)) (ug_tup (ug_cons (ug_name (i := 1) nd) (ug_cons (ug_name (i := 2) nd) ug_nil))))
      (us_one (us_ret (ue_and (ue_cmp opd_ge (ue_var (i := 1)) ue_int) (ue_and (ue_cmp opd_ge (ue_var (i := 2)) ue_int) (ue_one (ue_cmp (opd_eqA hu) (ue_callBf cd_gcd z_gcd (ua_cons (ue_var (i := 1)) (ua_cons (ue_var (i := 2)) ua_nil))) ue_int)))))))), ?_⟩
  refine ⟨d, rfl, hd, ite_b (fun e => ?_) fun e => ?_⟩
  · have e : isPair d = false := by simpa using e
    have z : isPrice d = false := by
      cases h : isPrice d with
      | false => rfl
      | true =>
        rw [price_pair h] at e
        cases e
    rw [z] at q
    exact q
  · obtain ⟨⟨x, y⟩, rfl⟩ := isPair_to (d := d) (by simpa using e)
    refine ⟨rfl, ?_⟩
    have q : Q (.bl (decide (0 ≤ x) && decide (0 ≤ y) && decide (gI x y = 1))) n := q
    refine ite_b (fun e1 => ?_) fun e1 => ?_
    · rw [show decide (0 ≤ x) = true from e1, Bool.true_and] at q
      refine ite_b (fun e2 => ?_) fun e2 => ?_
      · rw [show decide (0 ≤ y) = true from e2, Bool.true_and] at q
        exact q
      · rw [show decide (0 ≤ y) = false from e2, Bool.false_and] at q
        exact q
    · rw [show decide (0 ≤ x) = false from e1, Bool.false_and, Bool.false_and] at q
      exact q
end
end L53
set_option maxHeartbeats 2000000
namespace L53
open PySem PySem.Spec PyProof.Rows L2 HG PU LamX
def stepS (lh : P2 × P2) (p : P2) : Option (P2 × P2) :=
  if 0 < p.1 ∧ 0 < p.2 then none else
    some (if 0 < p.1 ∧ ahB lh.1 (redI (-p.2) p.1) = true then redI (-p.2) p.1 else lh.1, if 0 < p.2 ∧ ahB (redI p.2 (-p.1)) lh.2 = true then redI p.2 (-p.1) else lh.2)
def foldS : P2 × P2 → List P2 → Option (P2 × P2)
  | lh, [] => some lh
  | lh, p :: r => match stepS lh p with
    | some lh' => foldS lh' r
    | none => none
def stretch (ps : List P2) (lo hi : P2) : Option (P2 × P2) := match foldS (lo, hi) ps with
  | some lh => if ahB lh.2 lh.1 = true then none else some lh
  | none => none
def ppD : Option (P2 × P2) → D
  | none => .non
  | some lh => .tup [PU.prD lh.1, PU.prD lh.2]
def InP (k : Nat) (p : P2) : Prop := In k p.1 ∧ In k p.2
theorem InP.sm {p : P2} (h : InP 64 p) : SmP p := ⟨h.1.sm, h.2.sm⟩
theorem step_in {lh lh' : P2 × P2} {p : P2} (h1 : InP 64 lh.1) (h2 : InP 64 lh.2) (h : InP 64 p) (e : stepS lh p = some lh') : InP 64 lh'.1 ∧ InP 64 lh'.2 := by
  unfold stepS at e
  split at e
  · cases e
  · cases e
    constructor
    · show InP 64 (if _ then _ else _)
      split
      · rename_i z
        exact red_in (.inr (by omega)) (in_neg h.2) h.1
      · exact h1
    · show InP 64 (if _ then _ else _)
      split
      · rename_i z
        exact red_in (.inl (by omega)) h.2 (in_neg h.1)
      · exact h2
theorem getmapP {α β : Type} {f : α → β} {l : List α} {e : Nat} {x : β} (h : (l.map f)[e]? = some x) : ∃ y, l[e]? = some y ∧ x = f y := by
  rw [List.getElem?_map] at h
  cases q : l[e]? with
  | none => rw [q] at h; cases h
  | some y => rw [q] at h; cases h; exact ⟨y, rfl, rfl⟩
def best : P2 → List P2 → P2
  | g, [] => g
  | g, f :: r => best (if ahB f g = true then f else g) r
section
variable {P : Program} {w : World} {K : PySem.W.Frag} {mg : Str → Option Value} {base : Heap}
def sp_check_price (B : Addr) : SpD := spX (fun d => [d]) (fun d => fine d = true) fun d => if isPrice d = true then .ok .non else .er B [] []
theorem ok_check_price {B : Addr} (D : Def K mg "check_price" s_check_price ["price"])
    (c_is_price : CalG P w K mg base CX0 3 "is_price" ["thing"] (fun _ : Unit => gh0) (fun _ => sp_is_price))
    (e_BadPrice : ErrC K mg "BadPrice" B)
     :
    CalG P w K mg base (L2.CX P w) 4 "check_price" ["price"] (fun _ : Unit => gh0) (fun _ => sp_check_price B) := by
  refine D.ukX sc_check_price (fun i => gh0_ok) (fun _ => mo_X) (fun _ ds n Q E ⟨x, e, _⟩ => by rw [e]; rfl) (fun i f cdv A outer s F H Ev ds n Q E hC hr h xo => ?_)
  have nd := sc_check_price.nd
  have hu := hr.units
  have tk : Takes (cxOf (L2.CX P w) P w K mg base ["price"] "check_price" (defScope s_check_price) f cdv A outer s H Ev) fun cls d _ H => Ev cls d H := takes_of rfl rfl rfl rfl
  obtain ⟨d, rfl, hd, q⟩ := h
  try dsimp only at q
  refine ⟨_, (us_one (us_if (ut_not (ut_val (uc_p c_is_price hr pass0 (ua_cons (ue_var (i := 0)) ua_nil)))) (us_one (us_raise0 xo tk e_BadPrice)) us_nil)), ?_⟩
  refine ⟨d, rfl, hd, ite_b (fun e => ?_) fun e => ?_⟩
  · have : isPrice d = false := by simpa using e
    rw [this] at q
    exact q
  · have : isPrice d = true := by simpa using e
    rw [this] at q
    exact q
def sp_fraction_of : SpD := spF (fun (x : Int × Int) => [.int x.1, .int x.2]) (fun x => (x.1 ≠ 0 ∨ x.2 ≠ 0) ∧ In 200 x.1 ∧ In 200 x.2) fun x => PU.prD (redI x.1 x.2)
theorem ok_fraction_of (D : Def K mg "fraction_of" s_fraction_of ["number", "many"])
    (z_gcd : mg "gcd" = some (.builtin "math.gcd"))
     :
    CalG P w K mg base CX0 1 "fraction_of" ["number", "many"] (fun _ : Unit => gh0) (fun _ => sp_fraction_of) := by
  refine D.uk sc_fraction_of (fun i => gh0_ok) (fun _ => mo_F) (fun _ ds n Q E ⟨x, e, _⟩ => by rw [e]; rfl) (fun i f cdv A outer s F H Ev ds n Q E hC hr h => ?_)
  have nd := sc_fraction_of.nd
  have hu := hr.units
  obtain ⟨⟨a, b⟩, rfl, hp, q⟩ := h
  try dsimp only at q
  refine ⟨_, (us_cons (us_set (i := 2) (ue_callBf cd_gcd z_gcd (ua_cons (ue_var (i := 0)) (ua_cons (ue_var (i := 1)) ua_nil))) nd)
      (us_one (us_ret (ue_tup (ua_cons (ue_op opd_fdivW (ue_var (i := 0)) (ue_var (i := 2))) (ua_cons (ue_op opd_fdivW (ue_var (i := 1)) (ue_var (i := 2))) ua_nil)))))), ?_⟩
  obtain ⟨h1, h2, h3⟩ := hp
  have g0 := gI_pos h1
  have g1 := gI_le h1 h2 h3
  have cd := wide_of g0 g1
  exact ⟨cd, cd, by show 2 ≤ sizeLine; decide, q⟩
def sp_is_greater : SpD := spF (fun (x : P2 × P2) => [PU.prD x.1, PU.prD x.2]) (fun x => Sm x.1.2 ∧ Sm x.2.2) fun x => .bl (ahB x.1 x.2)
theorem ok_is_greater (D : Def K mg "is_greater" s_is_greater ["one", "other"])
     :
    CalG P w K mg base CX0 1 "is_greater" ["one", "other"] (fun _ : Unit => gh0) (fun _ => sp_is_greater) := by
  refine D.uk sc_is_greater (fun i => gh0_ok) (fun _ => mo_F) (fun _ ds n Q E ⟨x, e, _⟩ => by rw [e]; rfl) (fun i f cdv A outer s F H Ev ds n Q E hC hr h => ?_)
  have nd := sc_is_greater.nd
  have hu := hr.units
  obtain ⟨⟨a, b⟩, rfl, hp, q⟩ := h
  try dsimp only at q
  refine ⟨_, (us_one (us_ret (ue_cmp opd_gt (ue_op opd_mul (ue_ix (ue_var (i := 0)) ue_int) (ue_ix (ue_var (i := 1)) ue_int)) (ue_op opd_mul (ue_ix (ue_var (i := 1)) ue_int) (ue_ix (ue_var (i := 0)) ue_int))))), ?_⟩
  obtain ⟨a1, b1⟩ := hp
  refine ix_t0 ?_
  refine ix_t1 ?_
  refine ⟨.inr b1, ?_⟩
  refine ix_t0 ?_
  refine ix_t1 ?_
  refine ⟨.inr a1, ?_⟩
  exact q
def sp_greatest_of : SpD := spF (fun (x : P2 × List P2) => [.lst ((x.1 :: x.2).map PU.prD)]) (fun x => Sm x.1.2 ∧ ∀ f ∈ x.2, Sm f.2) fun x => PU.prD (best x.1 x.2)
theorem ok_greatest_of (D : Def K mg "greatest_of" s_greatest_of ["fractions"])
    (c_is_greater : CalG P w K mg base CX0 1 "is_greater" ["one", "other"] (fun _ : Unit => gh0) (fun _ => sp_is_greater))
     :
    CalG P w K mg base CX0 2 "greatest_of" ["fractions"] (fun _ : Unit => gh0) (fun _ => sp_greatest_of) := by
  refine D.uk sc_greatest_of (fun i => gh0_ok) (fun _ => mo_F) (fun _ ds n Q E ⟨x, e, _⟩ => by rw [e]; rfl) (fun i f cdv A outer s F H Ev ds n Q E hC hr h => ?_)
  have nd := sc_greatest_of.nd
  have hu := hr.units
  obtain ⟨⟨g, r⟩, rfl, hp, q⟩ := h
  try dsimp only at q
  refine ⟨_, (us_cons (us_set (i := 1) (ue_ix (ue_var (i := 0)) ue_int) nd)
      (us_cons (us_for (ui_row (ue_slice (ue_var (i := 0)) (uo_some ue_int) uo_none)) (ug_name (i := 2) nd)
      (us_one (us_if (ut_val (uc_p c_is_greater hr pass0 (ua_cons (ue_var (i := 2)) (ua_cons (ue_var (i := 1)) ua_nil)))) (us_one (us_set (i := 1) (ue_var (i := 2)) nd)) us_nil)))
      (us_one (us_ret (ue_var (i := 1)))))), ?_⟩
  obtain ⟨h1, h2⟩ := hp
  dsimp only at h1 h2
  refine ix_l (k := 0) rfl ?_
  have cf : PU.cutD ((g :: r).map PU.prD) (some 1) none = r.map PU.prD := cut_from' (k := 1) (by simp)
  refine ⟨fun i ρ k => k = n ∧ ∃ (cur : P2) (y : S), ρ = [.d (.lst ((g :: r).map PU.prD)), .d (PU.prD cur), y] ∧ Sm cur.2 ∧ best cur (r.drop i) = best g r, ⟨rfl, g, _, rfl, h1, rfl⟩, fun i x ρ k hx hp => ?_, fun ρ k hp => ?_⟩
  · obtain ⟨rfl, cur, y, rfl, hs, hb⟩ := hp
    have hx : (PU.cutD ((g :: r).map PU.prD) (some 1) none)[i]? = some x := hx
    rw [cf] at hx
    obtain ⟨f', hf, rfl⟩ := getmapP hx
    have il := (List.getElem?_eq_some_iff.mp hf).1
    have ef : r[i] = f' := (List.getElem?_eq_some_iff.mp hf).2
    rw [List.drop_eq_getElem_cons il, ef] at hb
    have sf := h2 f' (List.mem_of_getElem? hf)
    refine ⟨(f', cur), rfl, ⟨sf, hs⟩, ite_b (fun e => ?_) fun e => ?_⟩
    · refine ⟨rfl, f', _, rfl, sf, ?_⟩
      simp only [best] at hb
      rw [if_pos e] at hb
      exact hb
    · refine ⟨rfl, cur, _, rfl, hs, ?_⟩
      simp only [best] at hb
      rw [if_neg (by rw [e]; decide)] at hb
      exact hb
  · obtain ⟨rfl, cur, y, rfl, hs, hb⟩ := hp
    have hl : (PU.cutD ((g :: r).map PU.prD) (some 1) none).length = r.length := by rw [cf, List.length_map]
    have hb : best cur (r.drop (PU.cutD ((g :: r).map PU.prD) (some 1) none).length) = best g r := hb
    rw [hl, List.drop_length] at hb
    have hb : cur = best g r := hb
    subst hb
    exact q
def sp_mean_at_price : SpD := spF (fun (x : P3 × P2) => [trD x.1, PU.prD x.2]) (fun x => SmP x.2 ∧ In 200 (worthI (x.1.1, x.1.2.1) x.2) ∧ x.1.2.2 ≠ 0 ∧ In 200 x.1.2.2) fun x => PU.prD (redI (worthI (x.1.1, x.1.2.1) x.2) x.1.2.2)
theorem ok_mean_at_price (D : Def K mg "mean_at_price" s_mean_at_price ["mean", "price"])
    (c_fraction_of : CalG P w K mg base CX0 1 "fraction_of" ["number", "many"] (fun _ : Unit => gh0) (fun _ => sp_fraction_of))
    (c_worth_at : CalG P w K mg base CX0 1 "worth_at" ["pair", "price"] (fun _ : Unit => gh0) (fun _ => sp_worth_at))
     :
    CalG P w K mg base CX0 2 "mean_at_price" ["mean", "price"] (fun _ : Unit => gh0) (fun _ => sp_mean_at_price) := by
  refine D.uk sc_mean_at_price (fun i => gh0_ok) (fun _ => mo_F) (fun _ ds n Q E ⟨x, e, _⟩ => by rw [e]; rfl) (fun i f cdv A outer s F H Ev ds n Q E hC hr h => ?_)
  have nd := sc_mean_at_price.nd
  have hu := hr.units
  obtain ⟨⟨t, p⟩, rfl, hp, q⟩ := h
  try dsimp only at q
  refine ⟨_, (us_one (us_ret (uc_p c_fraction_of hr pass0 (ua_cons (uc_p c_worth_at hr pass0 (ua_cons (ue_slice (ue_var (i := 0)) uo_none (uo_some ue_int)) (ua_cons (ue_var (i := 1)) ua_nil))) (ua_cons (ue_ix (ue_var (i := 0)) ue_int) ua_nil))))), ?_⟩
  obtain ⟨h1, h2, h3, h4⟩ := hp
  refine ⟨((t.1, t.2.1), p), rfl, h1, ?_⟩
  refine ix_t2 ?_
  exact ⟨(_, t.2.2), rfl, ⟨.inr h3, h2, h4⟩, q⟩
def scaleI (a b : P3) : P2 := (a.1 * b.2.2 - b.1 * a.2.2, a.2.1 * b.2.2 - b.2.1 * a.2.2)
def sp_scaled_difference : SpD := spF (fun (x : P3 × P3) => [trD x.1, trD x.2]) (fun x => Sm x.1.2.2 ∧ Sm x.2.2.2) fun x => PU.prD (scaleI x.1 x.2)
theorem ok_scaled_difference (D : Def K mg "scaled_difference" s_scaled_difference ["one", "other"])
     :
    CalG P w K mg base CX0 1 "scaled_difference" ["one", "other"] (fun _ : Unit => gh0) (fun _ => sp_scaled_difference) := by
  refine D.uk sc_scaled_difference (fun i => gh0_ok) (fun _ => mo_F) (fun _ ds n Q E ⟨x, e, _⟩ => by rw [e]; rfl) (fun i f cdv A outer s F H Ev ds n Q E hC hr h => ?_)
  have nd := sc_scaled_difference.nd
  have hu := hr.units
  obtain ⟨⟨a, b⟩, rfl, hp, q⟩ := h
  try dsimp only at q
  refine ⟨_, (us_one (us_ret (ue_tup (ua_cons (ue_op opd_sub (ue_op opd_mul (ue_ix (ue_var (i := 0)) ue_int) (ue_ix (ue_var (i := 1)) ue_int)) (ue_op opd_mul (ue_ix (ue_var (i := 1)) ue_int) (ue_ix (ue_var (i := 0)) ue_int))) (ua_cons (ue_op opd_sub (ue_op opd_mul (ue_ix (ue_var (i := 0)) ue_int) (ue_ix (ue_var (i := 1)) ue_int)) (ue_op opd_mul (ue_ix (ue_var (i := 1)) ue_int) (ue_ix (ue_var (i := 0)) ue_int))) ua_nil))))), ?_⟩
  obtain ⟨h1, h2⟩ := hp
  refine ix_t0 ?_
  refine ix_t2 ?_
  refine ⟨.inr h2, ?_⟩
  refine ix_t0 ?_
  refine ix_t2 ?_
  refine ⟨.inr h1, ?_⟩
  refine ix_t1 ?_
  refine ix_t2 ?_
  refine ⟨.inr h2, ?_⟩
  refine ix_t1 ?_
  refine ix_t2 ?_
  refine ⟨.inr h1, ?_⟩
  exact ⟨by show 2 ≤ sizeLine; decide, q⟩
def meetI (a b : P3) : Option P2 := crossI (scaleI a b) (0, 0)
def sp_meeting_of : SpD := spF (fun (x : P3 × P3) => [trD x.1, trD x.2]) (fun x => Sm x.1.2.2 ∧ Sm x.2.2.2 ∧ InP 200 (scaleI x.1 x.2)) fun x => opD (meetI x.1 x.2)
theorem ok_meeting_of (D : Def K mg "meeting_of" s_meeting_of ["one", "other"])
    (c_crossing : CalG P w K mg base CX0 2 "crossing" ["one", "other"] (fun _ : Unit => gh0) (fun _ => sp_crossing))
    (c_scaled_difference : CalG P w K mg base CX0 1 "scaled_difference" ["one", "other"] (fun _ : Unit => gh0) (fun _ => sp_scaled_difference))
     :
    CalG P w K mg base CX0 3 "meeting_of" ["one", "other"] (fun _ : Unit => gh0) (fun _ => sp_meeting_of) := by
  refine D.uk sc_meeting_of (fun i => gh0_ok) (fun _ => mo_F) (fun _ ds n Q E ⟨x, e, _⟩ => by rw [e]; rfl) (fun i f cdv A outer s F H Ev ds n Q E hC hr h => ?_)
  have nd := sc_meeting_of.nd
  have hu := hr.units
  obtain ⟨⟨a, b⟩, rfl, hp, q⟩ := h
  try dsimp only at q
  refine ⟨_, (us_one (us_ret (uc_p c_crossing hr pass0 (ua_cons (uc_p c_scaled_difference hr pass0 (ua_cons (ue_var (i := 0)) (ua_cons (ue_var (i := 1)) ua_nil))) (ua_cons (ue_tup (ua_cons ue_int (ua_cons ue_int ua_nil))) ua_nil))))), ?_⟩
  obtain ⟨h1, h2, h3⟩ := hp
  refine ⟨(a, b), rfl, ⟨h1, h2⟩, ?_⟩
  refine ⟨by show 2 ≤ sizeLine; decide, ?_⟩
  refine ⟨(scaleI a b, (0, 0)), rfl, ⟨?_, ?_⟩, q⟩
  · show In 200 ((scaleI a b).1 - 0)
    rw [Int.sub_zero]
    exact h3.1
  · show In 200 ((scaleI a b).2 - 0)
    rw [Int.sub_zero]
    exact h3.2
end
end L53
set_option maxHeartbeats 2000000
namespace L53
open PySem PySem.Spec PyProof.Rows L2 HG PU LamX
def g3 (a b c : Int) : Int := ((Nat.gcd (Nat.gcd a.natAbs b.natAbs) c.natAbs : Nat) : Int)
def isMean : D → Bool
  | .tup [.int a, .int b, .int c] => decide (1 ≤ c) && decide (g3 a b c = 1)
  | _ => false
/-- triples of numbers that are not great -/
def Tb (t : P3) : Prop := In 40 t.1 ∧ In 40 t.2.1 ∧ In 10 t.2.2
def ordF : Option P2 → List P3 → Bool
  | b, x :: y :: r => if (scaleI x y).1 ≤ 0 ∨ 0 ≤ (scaleI x y).2 then false else
      (match b with | none => true | some q => ahB q (redI (-(scaleI x y).2) (scaleI x y).1)) && ordF (some (redI (-(scaleI x y).2) (scaleI x y).1)) (y :: r)
  | _, _ => true
theorem in_mul {i j : Int} {k m : Nat} (h1 : In k i) (h2 : In m j) : In (k + m) (i * j) := by
  unfold In at h1 h2 ⊢
  rw [Int.natAbs_mul, Nat.pow_add]
  exact Nat.mul_lt_mul'' h1 h2
theorem in_sub {i j : Int} {k : Nat} (h1 : In k i) (h2 : In k j) : In (k + 1) (i - j) := by
  unfold In at h1 h2 ⊢
  rw [Nat.pow_succ]
  omega
theorem scale_in {x y : P3} (hx : Tb x) (hy : Tb y) : InP 51 (scaleI x y) :=
  ⟨in_sub (in_mul hx.1 hy.2.2) (in_mul hy.1 hx.2.2), in_sub (in_mul hx.2.1 hy.2.2) (in_mul hy.2.1 hx.2.2)⟩
theorem meet_some {x y : P3} (h1 : 0 < (scaleI x y).1) (h2 : (scaleI x y).2 < 0) : meetI x y = some (redI (-(scaleI x y).2) (scaleI x y).1) := by
  unfold meetI crossI
  rw [Int.sub_zero, Int.sub_zero]
  have e : nrm ((scaleI x y).1, (scaleI x y).2) = ((scaleI x y).1, (scaleI x y).2) := by
    unfold nrm
    rw [if_neg (by show ¬ (scaleI x y).1 < 0; omega)]
  dsimp only
  rw [e, if_pos ⟨h1, by show (scaleI x y).2 ≤ 0; omega⟩]
theorem ix_tk {xs : List D} {z : Int} {k : Nat} {d : D} {Q : D → Prop} (e : z = k) (h : xs[k]? = some d) (q : Q d) : rIx (.tup xs) (.int z) Q := by
  subst e
  exact ix_t h q
theorem ord_cons {b : Option P2} {x y : P3} {r : List P3} : ordF b (x :: y :: r) = if (scaleI x y).1 ≤ 0 ∨ 0 ≤ (scaleI x y).2 then false else
      (match b with | none => true | some q => ahB q (redI (-(scaleI x y).2) (scaleI x y).1)) && ordF (some (redI (-(scaleI x y).2) (scaleI x y).1)) (y :: r) := by
  cases b <;> rfl
theorem three_to {d : D} (h : tupN 3 d = true) : ∃ x y z, d = .tup [x, y, z] := by
  cases d with
  | tup xs =>
    have h : decide ((xs.length : Int) = 3) = true := h
    have h : (xs.length : Int) = 3 := of_decide_eq_true h
    match xs, h with
    | [x, y, z], _ => exact ⟨x, y, z, rfl⟩
    | [], h => simp at h
    | [_], h => simp at h
    | [_, _], h => simp at h
    | _ :: _ :: _ :: _ :: r, h => simp at h; omega
  | _ => cases h
theorem mean_three {d : D} (h : isMean d = true) : tupN 3 d = true := by
  unfold isMean at h
  split at h
  · rfl
  · cases h
theorem mean_nums {x y z : D} (h : isMean (.tup [x, y, z]) = true) : [x, y, z].all isNum = true := by
  unfold isMean at h
  split at h
  · rename_i e
    cases e
    rfl
  · cases h
theorem num_to {x : D} (h : isNum x = true) : ∃ a, x = .int a := by
  cases x <;> first | exact ⟨_, rfl⟩ | cases h
theorem nums_to {x y z : D} (h : [x, y, z].all isNum = true) : ∃ a b c, x = .int a ∧ y = .int b ∧ z = .int c := by
  simp only [List.all_cons, List.all_nil, Bool.and_true, Bool.and_eq_true] at h
  obtain ⟨a, rfl⟩ := num_to h.1
  obtain ⟨b, rfl⟩ := num_to h.2.1
  obtain ⟨c, rfl⟩ := num_to h.2.2
  exact ⟨a, b, c, rfl, rfl, rfl⟩
theorem Tb.sm {t : P3} (h : Tb t) : Sm t.2.2 := (h.2.2.up (by decide)).sm
section
variable {P : Program} {w : World} {K : PySem.W.Frag} {mg : Str → Option Value} {base : Heap}
def sp_stretch_without_gain : SpD := spF (fun (x : List P2 × P2 × P2) => [.lst (x.1.map PU.prD), PU.prD x.2.1, PU.prD x.2.2]) (fun x => (∀ p ∈ x.1, InP 64 p) ∧ InP 64 x.2.1 ∧ InP 64 x.2.2) fun x => ppD (stretch x.1 x.2.1 x.2.2)
theorem ok_stretch_without_gain (D : Def K mg "stretch_without_gain" s_stretch_without_gain ["pairs", "low", "high"])
    (c_goes_ahead : CalG P w K mg base CX0 1 "goes_ahead" ["one", "other"] (fun _ : Unit => gh0) (fun _ => sp_goes_ahead))
    (c_reduced : CalG P w K mg base CX0 1 "reduced" ["p", "q"] (fun _ : Unit => gh0) (fun _ => sp_reduced))
     :
    CalG P w K mg base CX0 2 "stretch_without_gain" ["pairs", "low", "high"] (fun _ : Unit => gh0) (fun _ => sp_stretch_without_gain) := by
  refine D.uk sc_stretch_without_gain (fun i => gh0_ok) (fun _ => mo_F) (fun _ ds n Q E ⟨x, e, _⟩ => by rw [e]; rfl) (fun i f cdv A outer s F H Ev ds n Q E hC hr h => ?_)
  have nd := sc_stretch_without_gain.nd
  have hu := hr.units
  obtain ⟨⟨ps, lo, hi⟩, rfl, hp, q⟩ := h
  try dsimp only at q
  refine ⟨_, (us_cons (us_for (ui_row (ue_var (i := 0))) (ug_tup (ug_cons (ug_name (i := 3) nd) (ug_cons (ug_name (i := 4) nd) ug_nil)))
      (us_cons (us_if (UW.ut (uw_and (ut_cmp opd_gt (ue_var (i := 3)) ue_int) (uw_and1 (ut_cmp opd_gt (ue_var (i := 4)) ue_int)))) (us_one (us_ret ue_non)) us_nil)
      (us_cons (us_if (UW.ut (uw_and (ut_cmp opd_gt (ue_var (i := 3)) ue_int) (uw_and1 (ut_val (uc_p c_goes_ahead hr pass0 (ua_cons (ue_var (i := 1)) (ua_cons (uc_p c_reduced hr pass0 (ua_cons (ue_neg (ue_var (i := 4))) (ua_cons (ue_var (i := 3)) ua_nil))) ua_nil))))))) (us_one (us_set (i := 1) (uc_p c_reduced hr pass0 (ua_cons (ue_neg (ue_var (i := 4))) (ua_cons (ue_var (i := 3)) ua_nil))) nd)) us_nil)
      (us_one (us_if (UW.ut (uw_and (ut_cmp opd_gt (ue_var (i := 4)) ue_int) (uw_and1 (ut_val (uc_p c_goes_ahead hr pass0 (ua_cons (uc_p c_reduced hr pass0 (ua_cons (ue_var (i := 4)) (ua_cons (ue_neg (ue_var (i := 3))) ua_nil))) (ua_cons (ue_var (i := 2)) ua_nil))))))) (us_one (us_set (i := 2) (uc_p c_reduced hr pass0 (ua_cons (ue_var (i := 4)) (ua_cons (ue_neg (ue_var (i := 3))) ua_nil))) nd)) us_nil)))))
      (us_one (us_ret (ue_ifExp (ut_val (uc_p c_goes_ahead hr pass0 (ua_cons (ue_var (i := 2)) (ua_cons (ue_var (i := 1)) ua_nil)))) ue_non (ue_tup (ua_cons (ue_var (i := 1)) (ua_cons (ue_var (i := 2)) ua_nil))))))), ?_⟩
  obtain ⟨h1, h2, h3⟩ := hp
  dsimp only at h1 h2 h3
  refine ⟨fun i ρ k => k = n ∧ ∃ (l h : P2) (y z : S), ρ = [.d (.lst (ps.map PU.prD)), .d (PU.prD l), .d (PU.prD h), y, z] ∧ InP 64 l ∧ InP 64 h ∧ foldS (l, h) (ps.drop i) = foldS (lo, hi) ps, ⟨rfl, lo, hi, _, _, rfl, h2, h3, rfl⟩, fun i x ρ k hx hp => ?_, fun ρ k hp => ?_⟩
  · obtain ⟨rfl, l, h, y, z, rfl, il, ih, hf⟩ := hp
    obtain ⟨p, hp', rfl⟩ := getmapP hx
    have lt := (List.getElem?_eq_some_iff.mp hp').1
    have ep : ps[i] = p := (List.getElem?_eq_some_iff.mp hp').2
    rw [List.drop_eq_getElem_cons lt, ep] at hf
    have ip := h1 p (List.mem_of_getElem? hp')
    have stp : ∀ lh', stepS (l, h) p = some lh' → InP 64 lh'.1 ∧ InP 64 lh'.2 ∧ foldS lh' (ps.drop (i + 1)) = foldS (lo, hi) ps := fun lh' e => by
      have a := step_in il ih ip e
      simp only [foldS, e] at hf
      exact ⟨a.1, a.2, hf⟩
    refine ⟨rfl, ?_⟩
    dsimp only [uG1, uGn, uG0]
    refine seq_mid (w := uIfS _ _ _) (fun ρ m => m = k ∧ ¬ (0 < p.1 ∧ 0 < p.2) ∧ ρ = [.d (.lst (ps.map PU.prD)), .d (PU.prD l), .d (PU.prD h), .d (.int p.1), .d (.int p.2)]) (fun NX nx => ?_) (fun ρ m hp => ?_)
    · have no : 0 < p.1 ∧ 0 < p.2 → Q (.non) k := fun z => by
        have e : stepS (l, h) p = none := by
          unfold stepS
          rw [if_pos z]
        simp only [foldS, e] at hf
        have : stretch ps lo hi = none := by
          unfold stretch
          rw [← hf]
        rw [this] at q
        exact q
      refine ite_b (fun e1 => ite_b (fun e2 => ?_) fun e2 => ?_) fun e1 => ?_
      · exact no ⟨of_decide_eq_true e1, of_decide_eq_true e2⟩
      · exact nx _ _ ⟨rfl, fun z => absurd z.2 (of_decide_eq_false e2), rfl⟩
      · exact nx _ _ ⟨rfl, fun z => absurd z.1 (of_decide_eq_false e1), rfl⟩
    obtain ⟨rfl, nb, rfl⟩ := hp
    have st0 : stepS (l, h) p = some (if 0 < p.1 ∧ ahB l (redI (-p.2) p.1) = true then redI (-p.2) p.1 else l, if 0 < p.2 ∧ ahB (redI p.2 (-p.1)) h = true then redI p.2 (-p.1) else h) := by
      unfold stepS
      rw [if_neg nb]
    obtain ⟨s1, s2, s3⟩ := stp _ st0
    have s1 : InP 64 (if 0 < p.1 ∧ ahB l (redI (-p.2) p.1) = true then redI (-p.2) p.1 else l) := s1
    have s2 : InP 64 (if 0 < p.2 ∧ ahB (redI p.2 (-p.1)) h = true then redI p.2 (-p.1) else h) := s2
    have r1 : 0 < p.1 → InP 64 (redI (-p.2) p.1) := fun z => red_in (.inr (by omega)) (in_neg ip.2) ip.1
    have r2 : 0 < p.2 → InP 64 (redI p.2 (-p.1)) := fun z => red_in (.inl (by omega)) ip.2 (in_neg ip.1)
    refine seq_mid (w := uIfS _ _ _) (fun ρ m' => m' = m ∧ ρ = [.d (.lst (ps.map PU.prD)), .d (PU.prD (if 0 < p.1 ∧ ahB l (redI (-p.2) p.1) = true then redI (-p.2) p.1 else l)), .d (PU.prD h), .d (.int p.1), .d (.int p.2)]) (fun NX nx => ?_) (fun ρ m' hp => ?_)
    · refine ite_b (fun e1 => ?_) fun e1 => ?_
      · have e1 : 0 < p.1 := of_decide_eq_true e1
        refine ⟨(-p.2, p.1), rfl, ⟨.inr (by show p.1 ≠ 0; omega), in_neg (ip.2.up (by decide)), ip.1.up (by decide)⟩, ?_⟩
        refine ⟨(l, redI (-p.2) p.1), rfl, ⟨il.sm, (r1 e1).sm⟩, ite_b (fun e2 => ?_) fun e2 => ?_⟩
        · refine ⟨(-p.2, p.1), rfl, ⟨.inr (by show p.1 ≠ 0; omega), in_neg (ip.2.up (by decide)), ip.1.up (by decide)⟩, ?_⟩
          refine nx _ _ ⟨rfl, ?_⟩
          rw [if_pos ⟨e1, e2⟩]
          rfl
        · refine nx _ _ ⟨rfl, ?_⟩
          rw [if_neg (fun z => by rw [show ahB l (redI (-p.2) p.1) = false from e2] at z; exact absurd z.2 (by decide))]
      · have e1 : ¬ 0 < p.1 := of_decide_eq_false e1
        refine nx _ _ ⟨rfl, ?_⟩
        rw [if_neg (fun z => e1 z.1)]
    obtain ⟨rfl, rfl⟩ := hp
    generalize hL : (if 0 < p.1 ∧ ahB l (redI (-p.2) p.1) = true then redI (-p.2) p.1 else l) = l2 at s1 s3 ⊢
    refine ite_b (fun e1 => ?_) fun e1 => ?_
    · have e1 : 0 < p.2 := of_decide_eq_true e1
      refine ⟨(p.2, -p.1), rfl, ⟨.inl (by show p.2 ≠ 0; omega), ip.2.up (by decide), in_neg (ip.1.up (by decide))⟩, ?_⟩
      refine ⟨(redI p.2 (-p.1), h), rfl, ⟨(r2 e1).sm, ih.sm⟩, ite_b (fun e2 => ?_) fun e2 => ?_⟩
      · refine ⟨(p.2, -p.1), rfl, ⟨.inl (by show p.2 ≠ 0; omega), ip.2.up (by decide), in_neg (ip.1.up (by decide))⟩, ?_⟩
        rw [if_pos ⟨e1, e2⟩] at s2 s3
        exact ⟨rfl, l2, _, _, _, rfl, s1, s2, s3⟩
      · rw [if_neg (fun z => by rw [show ahB (redI p.2 (-p.1)) h = false from e2] at z; exact absurd z.2 (by decide))] at s2 s3
        exact ⟨rfl, l2, _, _, _, rfl, s1, s2, s3⟩
    · have e1 : ¬ 0 < p.2 := of_decide_eq_false e1
      rw [if_neg (fun z => e1 z.1)] at s2 s3
      exact ⟨rfl, l2, _, _, _, rfl, s1, s2, s3⟩
  · obtain ⟨rfl, l, h, y, z, rfl, il, ih, hf⟩ := hp
    have hf : foldS (l, h) (ps.drop (ps.map PU.prD).length) = foldS (lo, hi) ps := hf
    rw [List.length_map, List.drop_length] at hf
    have es : stretch ps lo hi = if ahB h l = true then none else some (l, h) := by
      unfold stretch
      rw [← hf]
      rfl
    rw [es] at q
    refine ⟨(h, l), rfl, ⟨ih.sm, il.sm⟩, ite_b (fun e => ?_) fun e => ?_⟩
    · rw [if_pos e] at q
      exact q
    · rw [if_neg (by rw [show ahB h l = false from e]; decide)] at q
      exact ⟨by show 2 ≤ sizeLine; decide, q⟩
def sp_is_mean : SpD := spF (fun d => [d]) (fun d => fine d = true) fun d => .bl (isMean d)
theorem ok_is_mean (D : Def K mg "is_mean" s_is_mean ["thing"])
    (z_gcd : mg "gcd" = some (.builtin "math.gcd"))
    (c_is_number : CalG P w K mg base CX0 1 "is_number" ["thing"] (fun _ : Unit => gh0) (fun _ => sp_is_number))
    (c_is_tuple_of : CalG P w K mg base CX0 1 "is_tuple_of" ["thing", "many"] (fun _ : Unit => gh0) (fun _ => sp_is_tuple_of))
     :
    CalG P w K mg base CX0 2 "is_mean" ["thing"] (fun _ : Unit => gh0) (fun _ => sp_is_mean) := by
  refine D.uk sc_is_mean (fun i => gh0_ok) (fun _ => mo_F) (fun _ ds n Q E ⟨x, e, _⟩ => by rw [e]; rfl) (fun i f cdv A outer s F H Ev ds n Q E hC hr h => ?_)
  have nd := sc_is_mean.nd
  have hu := hr.units
  obtain ⟨d, rfl, hd, q⟩ := h
  try dsimp only at q
  refine ⟨_, (us_cons (us_if (ut_not (ut_val (uc_p c_is_tuple_of hr pass0 (ua_cons (ue_var (i := 0)) (ua_cons ue_int ua_nil))))) (us_one (us_ret ue_bl)) us_nil)
      (us_cons (us_for (ui_row (ue_var (i := 0))) (ug_name (i := 1) nd)
      (us_one (us_if (ut_not (ut_val (uc_p c_is_number hr pass0 (ua_cons (ue_var (i := 1)) ua_nil)))) (us_one (us_ret ue_bl)) us_nil)))
      (us_one (us_ret (ue_and (ue_cmp opd_ge (ue_ix (ue_var (i := 0)) ue_int) ue_int) (ue_one (ue_cmp (opd_eqA hu) (ue_callBf cd_gcd3 z_gcd (ua_cons (ue_ix (ue_var (i := 0)) ue_int) (ua_cons (ue_ix (ue_var (i := 0)) ue_int) (ua_cons (ue_ix (ue_var (i := 0)) ue_int) ua_nil)))) ue_int))))))), ?_⟩
  refine ⟨(d, 3), rfl, hd, ite_b (fun e => ?_) fun e => ?_⟩
  · have e : tupN 3 d = false := by simpa using e
    have z : isMean d = false := by
      cases h : isMean d with
      | false => rfl
      | true =>
        rw [mean_three h] at e
        cases e
    rw [z] at q
    exact q
  · have e : tupN 3 d = true := by simpa using e
    obtain ⟨x, y, z, rfl⟩ := three_to e
    have ha := (fine_tup hd).2
    refine ⟨fun i ρ k => k = n ∧ ∃ u, ρ = [.d (.tup [x, y, z]), u] ∧ ([x, y, z].take i).all isNum = true, ⟨rfl, _, rfl, rfl⟩, fun i v ρ k hx hp => ?_, fun ρ k hp => ?_⟩
    · obtain ⟨rfl, u, rfl, hp⟩ := hp
      refine ⟨v, rfl, ha v (List.mem_of_getElem? hx), ite_b (fun e1 => ?_) fun e1 => ?_⟩
      · have no : [x, y, z].all isNum = false := all_not hx (by simpa using e1)
        have zz : isMean (.tup [x, y, z]) = false := by
          cases h : isMean (.tup [x, y, z]) with
          | false => rfl
          | true =>
            rw [mean_nums h] at no
            cases no
        rw [zz] at q
        exact q
      · exact ⟨rfl, _, rfl, all_take hx hp (by simpa using e1)⟩
    · obtain ⟨rfl, u, rfl, hp⟩ := hp
      have hp : [x, y, z].all isNum = true := hp
      obtain ⟨a, b, c, rfl, rfl, rfl⟩ := nums_to hp
      refine ix_t2 ?_
      have q : Q (.bl (decide (1 ≤ c) && decide (g3 a b c = 1))) k := q
      refine ite_b (fun e1 => ?_) fun e1 => ?_
      · rw [show decide (1 ≤ c) = true from e1, Bool.true_and] at q
        refine ix_t0 ?_
        refine ix_t1 ?_
        refine ix_t2 ?_
        exact q
      · rw [show decide (1 ≤ c) = false from e1, Bool.false_and] at q
        exact q
def sp_are_in_order : SpD := spF (fun (ts : List P3) => [.tup (ts.map trD)]) (fun ts => ts.length < 1000 ∧ ∀ t ∈ ts, Tb t) fun ts => .bl (ordF none ts)
theorem ok_are_in_order (D : Def K mg "are_in_order" s_are_in_order ["corners"])
    (z_len : mg "len" = none)
    (z_range : mg "range" = none)
    (g_AHEAD_OF_ALL : TupK K mg "AHEAD_OF_ALL" [1, 0])
    (c_goes_ahead : CalG P w K mg base CX0 1 "goes_ahead" ["one", "other"] (fun _ : Unit => gh0) (fun _ => sp_goes_ahead))
    (c_meeting_of : CalG P w K mg base CX0 3 "meeting_of" ["one", "other"] (fun _ : Unit => gh0) (fun _ => sp_meeting_of))
    (c_scaled_difference : CalG P w K mg base CX0 1 "scaled_difference" ["one", "other"] (fun _ : Unit => gh0) (fun _ => sp_scaled_difference))
     :
    CalG P w K mg base CX0 4 "are_in_order" ["corners"] (fun _ : Unit => gh0) (fun _ => sp_are_in_order) := by
  refine D.uk sc_are_in_order (fun i => gh0_ok) (fun _ => mo_F) (fun _ ds n Q E ⟨x, e, _⟩ => by rw [e]; rfl) (fun i f cdv A outer s F H Ev ds n Q E hC hr h => ?_)
  have nd := sc_are_in_order.nd
  have hu := hr.units
  obtain ⟨ts, rfl, hp, q⟩ := h
  try dsimp only at q
  refine ⟨_, (us_cons (us_set (i := 1) (ue_globT g_AHEAD_OF_ALL) nd)
      (us_cons (us_for (ui_range1 (ua_cons (ue_op opd_sub (ue_callB cd_len z_len (ua_cons (ue_var (i := 0)) ua_nil)) ue_int) ua_nil) z_range) (ug_name (i := 2) nd)
      (us_cons (us_asg (uc_p c_scaled_difference hr pass0 (ua_cons (ue_ix (ue_var (i := 0)) (ue_var (i := 2))) (ua_cons (ue_ix (ue_var (i := 0)) (ue_op opd_plus (ue_var (i := 2)) ue_int)) ua_nil))) (ug_tup (ug_cons (ug_name (i := 3) nd) (ug_cons (ug_name (i := 4) nd) ug_nil))))
      (us_cons (us_if (UW.ut (uw_or (ut_cmp opd_le (ue_var (i := 3)) ue_int) (uw_or1 (ut_cmp opd_ge (ue_var (i := 4)) ue_int)))) (us_one (us_ret ue_bl)) us_nil)
      (us_cons (us_set (i := 5) (uc_p c_meeting_of hr pass0 (ua_cons (ue_ix (ue_var (i := 0)) (ue_var (i := 2))) (ua_cons (ue_ix (ue_var (i := 0)) (ue_op opd_plus (ue_var (i := 2)) ue_int)) ua_nil))) nd)
      (us_cons (us_if (UW.ut (uw_and (ut_cmp opd_gt (ue_var (i := 2)) ue_int) (uw_and1 (ut_not (ut_val (uc_p c_goes_ahead hr pass0 (ua_cons (ue_var (i := 1)) (ua_cons (ue_var (i := 5)) ua_nil)))))))) (us_one (us_ret ue_bl)) us_nil)
      (us_one (us_set (i := 1) (ue_var (i := 5)) nd)))))))
      (us_one (us_ret ue_bl)))), ?_⟩
  obtain ⟨h1, h2⟩ := hp
  have sz : sizeLine = 16777216 := sizeLine_eq
  have lm : (ts.map trD).length = ts.length := List.length_map ..
  refine ⟨⟨by omega, by omega⟩, fun i ρ k => k = n ∧ ∃ (b : P2) (y2 y3 y4 y5 : S), ρ = [.d (.tup (ts.map trD)), .d (PU.prD b), y2, y3, y4, y5] ∧ InP 64 b ∧ ordF (if i = 0 then none else some b) (ts.drop i) = ordF none ts, ⟨rfl, (1, 0), _, _, _, _, rfl, ⟨by unfold In; decide, by unfold In; decide⟩, rfl⟩, fun i v ρ k hx hp => ?_, fun ρ k hp => ?_⟩
  · obtain ⟨rfl, b, y2, y3, y4, y5, rfl, ib, ho⟩ := hp
    obtain ⟨hi, rfl⟩ := rg_get hx
    have il : i + 1 < ts.length := by omega
    have e1 : ts.drop i = ts[i] :: ts[i + 1] :: ts.drop (i + 2) := by
      rw [List.drop_eq_getElem_cons (by omega : i < ts.length), List.drop_eq_getElem_cons il]
    have e2 : ts.drop (i + 1) = ts[i + 1] :: ts.drop (i + 2) := List.drop_eq_getElem_cons il
    have g1 : (ts.map trD)[i]? = some (trD ts[i]) := by
      rw [List.getElem?_map, List.getElem?_eq_getElem (by omega)]
      rfl
    have g2 : (ts.map trD)[i + 1]? = some (trD ts[i + 1]) := by
      rw [List.getElem?_map, List.getElem?_eq_getElem il]
      rfl
    have b1 := h2 ts[i] (List.getElem_mem _)
    have b2 := h2 ts[i + 1] (List.getElem_mem _)
    rw [e1] at ho
    generalize ts[i] = x at *
    generalize ts[i + 1] = y at *
    have si := scale_in b1 b2
    refine ix_tk (k := i) (by omega) g1 ?_
    refine ix_tk (k := i + 1) (by omega) g2 ?_
    refine ⟨(x, y), rfl, ⟨b1.sm, b2.sm⟩, rfl, ?_⟩
    dsimp only [uG1, uGn, uG0]
    refine seq_mid (w := uIfS _ _ _) (fun ρ m => m = k ∧ 0 < (scaleI x y).1 ∧ (scaleI x y).2 < 0 ∧ ρ = [.d (.tup (ts.map trD)), .d (PU.prD b), .d (.int (0 + i)), .d (.int (scaleI x y).1), .d (.int (scaleI x y).2), y5]) (fun NX nx => ?_) (fun ρ m hp => ?_)
    · have no : (scaleI x y).1 ≤ 0 ∨ 0 ≤ (scaleI x y).2 → Q (.bl false) k := fun z => by
        rw [ord_cons, if_pos z] at ho
        rw [← ho] at q
        exact q
      refine ite_b (fun z => ?_) fun z => ite_b (fun z2 => ?_) fun z2 => ?_
      · exact no (.inl (of_decide_eq_true z))
      · exact no (.inr (of_decide_eq_true z2))
      · have z : ¬ (scaleI x y).1 ≤ 0 := of_decide_eq_false z
        have z2 : ¬ 0 ≤ (scaleI x y).2 := of_decide_eq_false z2
        exact nx _ _ ⟨rfl, by omega, by omega, rfl⟩
    obtain ⟨rfl, p1, p2, rfl⟩ := hp
    rw [ord_cons, if_neg (fun z => by omega)] at ho
    have ip : InP 64 (redI (-(scaleI x y).2) (scaleI x y).1) := red_in (.inr (by omega)) (in_neg (si.2.up (by decide))) (si.1.up (by decide))
    refine ix_tk (k := i) (by omega) g1 ?_
    refine ix_tk (k := i + 1) (by omega) g2 ?_
    refine ⟨(x, y), rfl, ⟨b1.sm, b2.sm, si.1.up (by decide), si.2.up (by decide)⟩, ?_⟩
    dsimp only
    rw [meet_some p1 p2]
    generalize redI (-(scaleI x y).2) (scaleI x y).1 = p at ho ip ⊢
    have go : (∀ z : i ≠ 0, ahB b p = true) → ordF (if i + 1 = 0 then none else some p) (ts.drop (i + 1)) = ordF none ts := fun z => by
      rw [if_neg (by omega), e2, ← ho]
      by_cases hz : i = 0
      · rw [if_pos hz]
        rfl
      · rw [if_neg hz]
        show _ = (ahB b p && _)
        rw [z hz, Bool.true_and]
    refine seq_mid (w := uIfS _ _ _) (fun ρ m' => m' = m ∧ (∀ z : i ≠ 0, ahB b p = true) ∧ ρ = [.d (.tup (ts.map trD)), .d (PU.prD b), .d (.int (0 + i)), .d (.int (scaleI x y).1), .d (.int (scaleI x y).2), .d (PU.prD p)]) (fun NX nx => ?_) (fun ρ m' hp => ?_)
    · refine ite_b (fun z => ?_) fun z => ?_
      · have z : (0 : Int) < 0 + i := of_decide_eq_true z
        refine ⟨(b, p), rfl, ⟨ib.sm, ip.sm⟩, ite_b (fun z2 => ?_) fun z2 => ?_⟩
        · have z2 : ahB b p = false := by simpa using z2
          rw [if_neg (by omega : ¬ i = 0)] at ho
          have ho : (ahB b p && _) = _ := ho
          rw [z2, Bool.false_and] at ho
          rw [← ho] at q
          exact q
        · have z2 : ahB b p = true := by simpa using z2
          exact nx _ _ ⟨rfl, fun _ => z2, rfl⟩
      · have z : ¬ (0 : Int) < 0 + i := of_decide_eq_false z
        exact nx _ _ ⟨rfl, fun y => by omega, rfl⟩
    obtain ⟨rfl, hz, rfl⟩ := hp
    exact ⟨rfl, p, _, _, _, _, rfl, ip, go hz⟩
  · obtain ⟨rfl, b, y2, y3, y4, y5, rfl, ib, ho⟩ := hp
    have hd : ∀ bb, ordF bb (ts.drop (rgD 0 ((ts.length : Int) - 1).toNat).length) = true := fun bb => by
      rw [rg_len]
      have l1 : (ts.drop ((ts.length : Int) - 1).toNat).length ≤ 1 := by
        rw [List.length_drop]
        omega
      match ts.drop ((ts.length : Int) - 1).toNat, l1 with
      | [], _ => rfl
      | [_], _ => rfl
    have ho : ordF (if (rgD 0 (((ts.map trD).length : Int) - 1).toNat).length = 0 then none else some b) (ts.drop (rgD 0 (((ts.map trD).length : Int) - 1).toNat).length) = ordF none ts := ho
    rw [lm, hd] at ho
    rw [← ho] at q
    exact q
end
end L53
set_option maxHeartbeats 2000000
namespace L53
open PySem PySem.Spec PyProof.Rows L2 HG PU LamX
def trOf : D → P3
  | .tup [.int a, .int b, .int c] => (a, b, c)
  | _ => (0, 0, 0)
def short : Str := "short"
def isMF : D → Bool
  | .non => true
  | .str z => decide (z = short)
  | .tup xs => !xs.isEmpty && xs.all isMean && ordF none (xs.map trOf)
  | _ => false
structure OkM (d : D) : Prop where
  fin : fine d = true
  few : ∀ xs, d = .tup xs → ∀ x ∈ xs, isMean x = true → Tb (trOf x)
theorem mean_tr {x : D} (h : isMean x = true) : x = trD (trOf x) ∧ 1 ≤ (trOf x).2.2 := by
  unfold isMean at h
  split at h
  · rw [Bool.and_eq_true] at h
    exact ⟨rfl, of_decide_eq_true h.1⟩
  · cases h
theorem means_tr {xs : List D} (h : xs.all isMean = true) : xs = (xs.map trOf).map trD := by
  rw [List.map_map]
  conv => lhs; rw [← List.map_id xs]
  exact List.map_congr_left fun x m => (mean_tr (List.all_eq_true.mp h x m)).1
/-- a mean front with corners -/
structure Corn (ts : List P3) : Prop where
  ne : ts ≠ []
  few : ts.length < 1000
  tb : ∀ t ∈ ts, Tb t
  pos : ∀ t ∈ ts, 1 ≤ t.2.2
  ord : ordF none ts = true
theorem corn_of {xs : List D} (h : isMF (.tup xs) = true) (ok : OkM (.tup xs)) : ∃ ts, xs = ts.map trD ∧ Corn ts := by
  have h : (!xs.isEmpty && xs.all isMean && ordF none (xs.map trOf)) = true := h
  rw [Bool.and_eq_true, Bool.and_eq_true] at h
  obtain ⟨⟨h1, h2⟩, h3⟩ := h
  refine ⟨xs.map trOf, means_tr h2, fun z => ?_, by rw [List.length_map]; exact (fine_tup ok.fin).1, fun t m => ?_, fun t m => ?_, h3⟩
  · have : xs = [] := List.map_eq_nil_iff.mp z
    subst this
    cases h1
  · obtain ⟨x, hx, rfl⟩ := List.mem_map.mp m
    exact ok.few xs rfl x hx (List.all_eq_true.mp h2 x hx)
  · obtain ⟨x, hx, rfl⟩ := List.mem_map.mp m
    exact (mean_tr (List.all_eq_true.mp h2 x hx)).2
def mpI (price : P2) (t : P3) : P2 := redI (worthI (t.1, t.2.1) price) t.2.2
def bestOf (price : P2) : List P3 → P2
  | [] => (0, 1)
  | t :: r => best (mpI price t) (r.map (mpI price))
def toldD (price : P2) : D → D
  | .tup xs => PU.prD (bestOf price (xs.map trOf))
  | d => d
theorem trOf_trD (ts : List P3) : (ts.map trD).map trOf = ts := by
  rw [List.map_map]
  conv => rhs; rw [← List.map_id ts]
  exact List.map_congr_left fun t _ => rfl
theorem In.add {i j : Int} {k : Nat} (h1 : In k i) (h2 : In k j) : In (k + 1) (i + j) := by
  unfold In at h1 h2 ⊢
  rw [Nat.pow_succ]
  omega
theorem mp_ok {price : P2} {t : P3} (hp : InP 64 price) (h : Tb t) (h1 : 1 ≤ t.2.2) : In 200 (worthI (t.1, t.2.1) price) ∧ t.2.2 ≠ 0 ∧ In 200 t.2.2 ∧ Sm (mpI price t).2 := by
  have a : In 105 (worthI (t.1, t.2.1) price) := In.add (in_mul (k := 64) (m := 40) hp.1 h.1) (in_mul (k := 64) (m := 40) hp.2 h.2.1)
  refine ⟨a.up (by decide), by omega, h.2.2.up (by decide), In.sm ?_⟩
  exact Nat.lt_of_le_of_lt (ediv_abs (gI_pos (.inr (by show t.2.2 ≠ 0; omega)))) (h.2.2.up (k := 10) (m := 64) (by decide))
def meets : List P3 → List P2
  | x :: y :: r => redI (-(scaleI x y).2) (scaleI x y).1 :: meets (y :: r)
  | _ => []
theorem ord_next {b : Option P2} {x y : P3} {r : List P3} (h : ordF b (x :: y :: r) = true) : 0 < (scaleI x y).1 ∧ (scaleI x y).2 < 0 ∧ ordF (some (redI (-(scaleI x y).2) (scaleI x y).1)) (y :: r) = true := by
  rw [ord_cons] at h
  split at h
  · cases h
  · rename_i z
    rw [Bool.and_eq_true] at h
    exact ⟨by omega, by omega, h.2⟩
theorem ord_at : ∀ {ts : List P3} {b : Option P2} {i : Nat} (l : i + 1 < ts.length), ordF b ts = true → 0 < (scaleI ts[i] ts[i + 1]).1 ∧ (scaleI ts[i] ts[i + 1]).2 < 0 ∧ (meets ts)[i]? = some (redI (-(scaleI ts[i] ts[i + 1]).2) (scaleI ts[i] ts[i + 1]).1)
  | [], _, _, l, _ => by simp at l
  | [_], _, _, l, _ => by simp at l
  | x :: y :: r, b, 0, l, h => by
    obtain ⟨h1, h2, _⟩ := ord_next h
    exact ⟨h1, h2, rfl⟩
  | x :: y :: r, b, i + 1, l, h => by
    obtain ⟨_, _, h3⟩ := ord_next h
    exact ord_at (ts := y :: r) (i := i) (by simp only [List.length_cons] at l ⊢; omega) h3
theorem meets_len : ∀ ts : List P3, (meets ts).length = ts.length - 1
  | [] => rfl
  | [_] => rfl
  | x :: y :: r => by
    show (meets (y :: r)).length + 1 = _
    rw [meets_len (y :: r)]
    simp only [List.length_cons]
    omega
def turnsD : D → D
  | .tup xs => .lst (((1, 0) :: meets (xs.map trOf) ++ [(0, 1)]).map PU.prD)
  | _ => .lst []
def pairsOf : D → List P2
  | .tup xs => xs.map fun x => ((trOf x).1, (trOf x).2.1)
  | _ => []
section
variable {P : Program} {w : World} {K : PySem.W.Frag} {mg : Str → Option Value} {base : Heap}
def sp_is_mean_front : SpD := spF (fun d => [d]) (fun d => OkM d) fun d => .bl (isMF d)
theorem ok_is_mean_front (D : Def K mg "is_mean_front" s_is_mean_front ["thing"])
    (z_isinstance : mg "isinstance" = none)
    (z_len : mg "len" = none)
    (z_str : mg "str" = none)
    (z_tuple : mg "tuple" = none)
    (c_are_in_order : CalG P w K mg base CX0 4 "are_in_order" ["corners"] (fun _ : Unit => gh0) (fun _ => sp_are_in_order))
    (c_is_mean : CalG P w K mg base CX0 2 "is_mean" ["thing"] (fun _ : Unit => gh0) (fun _ => sp_is_mean))
     :
    CalG P w K mg base CX0 5 "is_mean_front" ["thing"] (fun _ : Unit => gh0) (fun _ => sp_is_mean_front) := by
  refine D.uk sc_is_mean_front (fun i => gh0_ok) (fun _ => mo_F) (fun _ ds n Q E ⟨x, e, _⟩ => by rw [e]; rfl) (fun i f cdv A outer s F H Ev ds n Q E hC hr h => ?_)
  have nd := sc_is_mean_front.nd
  have hu := hr.units
  obtain ⟨d, rfl, hd, q⟩ := h
  try dsimp only at q
  refine ⟨_, (us_cons (us_if (UW.ut (uw_or (ut_cmp opd_isN (ue_var (i := 0)) ue_non) (uw_or1 (UW.ut (uw_and (ut_val (ue_isi .str (ue_var (i := 0)) z_isinstance z_str)) (uw_and1 (ut_cmp (opd_eqA hu) (ue_var (i := 0)) ue_str))))))) (us_one (us_ret ue_bl)) us_nil)
      (us_cons (us_if (UW.ut (uw_or (ut_not (ut_val (ue_isi .tuple (ue_var (i := 0)) z_isinstance z_tuple))) (uw_or1 (ut_cmp (opd_eqA hu) (ue_callB cd_len z_len (ua_cons (ue_var (i := 0)) ua_nil)) ue_int)))) (us_one (us_ret ue_bl)) us_nil)
      (us_cons (us_for (ui_row (ue_var (i := 0))) (ug_name (i := 1) nd)
      (us_one (us_if (ut_not (ut_val (uc_p c_is_mean hr pass0 (ua_cons (ue_var (i := 1)) ua_nil)))) (us_one (us_ret ue_bl)) us_nil)))
      (us_one (us_ret (uc_p c_are_in_order hr pass0 (ua_cons (ue_var (i := 0)) ua_nil))))))), ?_⟩
  cases d with
  | tup xs =>
    have ha := (fine_tup hd.fin).2
    have hl := (fine_tup hd.fin).1
    refine ⟨rfl, ite_b (b := decide ((xs.length : Int) = 0)) (fun e => ?_) fun e => ?_⟩
    · have e : (xs.length : Int) = 0 := of_decide_eq_true e
      have : xs = [] := List.length_eq_zero_iff.mp (by omega)
      subst this
      exact q
    · have e : ¬ (xs.length : Int) = 0 := of_decide_eq_false e
      have ne : xs.isEmpty = false := by
        cases xs with
        | nil => exact absurd rfl e
        | cons _ _ => rfl
      have q : Q (.bl (!xs.isEmpty && xs.all isMean && ordF none (xs.map trOf))) n := q
      rw [ne] at q
      refine ⟨fun i ρ k => k = n ∧ ∃ y, ρ = [.d (.tup xs), y] ∧ (xs.take i).all isMean = true, ⟨rfl, _, rfl, by simp⟩, fun i x ρ k hx hp => ?_, fun ρ k hp => ?_⟩
      · obtain ⟨rfl, y, rfl, hp⟩ := hp
        refine ⟨x, rfl, ha x (List.mem_of_getElem? hx), ite_b (fun e1 => ?_) fun e1 => ?_⟩
        · rw [all_not hx (by simpa using e1)] at q
          exact q
        · exact ⟨rfl, _, rfl, all_take hx hp (by simpa using e1)⟩
      · obtain ⟨rfl, y, rfl, hp⟩ := hp
        rw [List.take_length] at hp
        rw [hp] at q
        have em := means_tr hp
        refine ⟨xs.map trOf, congrArg (fun z => [PU.D.tup z]) em, ⟨by rw [List.length_map]; exact hl, fun t m => ?_⟩, q⟩
        obtain ⟨x, hx, rfl⟩ := List.mem_map.mp m
        exact hd.few xs rfl x hx (List.all_eq_true.mp hp x hx)
  | str z =>
    refine ⟨rfl, ?_⟩
    have q : Q (.bl (decide (z = short))) n := q
    refine ite_b (b := decide (z = short)) (fun e => ?_) fun e => ?_
    · rw [e] at q
      exact q
    · rw [e] at q
      exact q
  | non => exact ⟨rfl, q⟩
  | bl _ => exact ⟨rfl, q⟩
  | int _ => exact ⟨rfl, q⟩
  | lst _ => exact ⟨rfl, q⟩
  | dk _ _ => exact ⟨rfl, q⟩
  | _ => exact nomatch hd.fin
def sp_check_means (B : Addr) : SpD := spX (fun d => [d]) (fun d => OkM d) fun d => if isMF d = true then .ok .non else .er B [] []
theorem ok_check_means {B : Addr} (D : Def K mg "check_means" s_check_means ["means"])
    (c_is_mean_front : CalG P w K mg base CX0 5 "is_mean_front" ["thing"] (fun _ : Unit => gh0) (fun _ => sp_is_mean_front))
    (e_BadMeans : ErrC K mg "BadMeans" B)
     :
    CalG P w K mg base (L2.CX P w) 6 "check_means" ["means"] (fun _ : Unit => gh0) (fun _ => sp_check_means B) := by
  refine D.ukX sc_check_means (fun i => gh0_ok) (fun _ => mo_X) (fun _ ds n Q E ⟨x, e, _⟩ => by rw [e]; rfl) (fun i f cdv A outer s F H Ev ds n Q E hC hr h xo => ?_)
  have nd := sc_check_means.nd
  have hu := hr.units
  have tk : Takes (cxOf (L2.CX P w) P w K mg base ["means"] "check_means" (defScope s_check_means) f cdv A outer s H Ev) fun cls d _ H => Ev cls d H := takes_of rfl rfl rfl rfl
  obtain ⟨d, rfl, hd, q⟩ := h
  try dsimp only at q
  refine ⟨_, (us_one (us_if (ut_not (ut_val (uc_p c_is_mean_front hr pass0 (ua_cons (ue_var (i := 0)) ua_nil)))) (us_one (us_raise0 xo tk e_BadMeans)) us_nil)), ?_⟩
  refine ⟨d, rfl, hd, ite_b (fun e => ?_) fun e => ?_⟩
  · have : isMF d = false := by simpa using e
    rw [this] at q
    exact q
  · have : isMF d = true := by simpa using e
    rw [this] at q
    exact q
def sp_told_mean : SpD := spF (fun (x : D × P2) => [x.1, PU.prD x.2]) (fun x => OkM x.1 ∧ isMF x.1 = true ∧ InP 64 x.2) fun x => toldD x.2 x.1
theorem ok_told_mean (D : Def K mg "told_mean" s_told_mean ["means", "price"])
    (z_isinstance : mg "isinstance" = none)
    (z_tuple : mg "tuple" = none)
    (c_greatest_of : CalG P w K mg base CX0 2 "greatest_of" ["fractions"] (fun _ : Unit => gh0) (fun _ => sp_greatest_of))
    (c_mean_at_price : CalG P w K mg base CX0 2 "mean_at_price" ["mean", "price"] (fun _ : Unit => gh0) (fun _ => sp_mean_at_price))
     :
    CalG P w K mg base CX0 3 "told_mean" ["means", "price"] (fun _ : Unit => gh0) (fun _ => sp_told_mean) := by
  refine D.uk sc_told_mean (fun i => gh0_ok) (fun _ => mo_F) (fun _ ds n Q E ⟨x, e, _⟩ => by rw [e]; rfl) (fun i f cdv A outer s F H Ev ds n Q E hC hr h => ?_)
  have nd := sc_told_mean.nd
  have hu := hr.units
  obtain ⟨⟨d, p⟩, rfl, hp, q⟩ := h
  try dsimp only at q
  refine ⟨_, (us_cons (us_if (ut_not (ut_val (ue_isi .tuple (ue_var (i := 0)) z_isinstance z_tuple))) (us_one (us_ret (ue_var (i := 0)))) us_nil)
      (us_one (us_ret (uc_p c_greatest_of hr pass0 (ua_cons (UL.ue (ul_lc (own := [("corner", 2)]) hC nd (ui_row (ue_var (i := 0))) (blkOk_by (own := [("corner", 2)]) (N := ["means", "price", "corner"]) (sc := defScope s_told_mean) (by decide +kernel)) (fun _ _ _ _ _ => (ug_name (i := 2) nd)) (fun _ _ _ _ _ => uts_nil) (fun _ _ _ _ _ => (uc_p c_mean_at_price hr pass0 (ua_cons (ue_var (i := 2)) (ua_cons (ue_var (i := 1)) ua_nil)))))) ua_nil))))), ?_⟩
  obtain ⟨h1, h2, h3⟩ := hp
  dsimp only at h1 h2 h3
  cases d with
  | tup xs =>
    obtain ⟨ts, rfl, co⟩ := corn_of h2 h1
    have q : Q (PU.prD (bestOf p ((ts.map trD).map trOf))) n := q
    rw [trOf_trD] at q
    have sz : sizeLine = 16777216 := sizeLine_eq
    refine ⟨fun i acc k => k = n ∧ acc = ((ts.take i).map (mpI p)).map PU.prD, ⟨rfl, rfl⟩, fun i x acc k hx hp => ?_, fun acc k hp => ?_⟩
    · obtain ⟨rfl, rfl⟩ := hp
      obtain ⟨t, ht, rfl⟩ := getmapP hx
      have tm := List.mem_of_getElem? ht
      obtain ⟨m1, m2, m3, m4⟩ := mp_ok h3 (co.tb t tm) (co.pos t tm)
      have few := co.few
      refine ⟨(t, p), rfl, ⟨h3.sm, m1, m2, m3⟩, by rw [List.length_map, List.length_map, List.length_take]; omega, rfl, ?_⟩
      rw [List.take_succ, ht, List.map_append, List.map_append]
      rfl
    · obtain ⟨rfl, rfl⟩ := hp
      have e : ts.take (ts.map trD).length = ts := by rw [List.length_map, List.take_length]
      rw [e]
      match ts, co, q with
      | [], co, _ => exact absurd rfl co.ne
      | t :: r, co, q =>
        refine ⟨(mpI p t, r.map (mpI p)), rfl, ⟨(mp_ok h3 (co.tb t List.mem_cons_self) (co.pos t List.mem_cons_self)).2.2.2, fun f hf => ?_⟩, q⟩
        obtain ⟨t', m, rfl⟩ := List.mem_map.mp hf
        exact (mp_ok h3 (co.tb t' (List.mem_cons_of_mem _ m)) (co.pos t' (List.mem_cons_of_mem _ m))).2.2.2
  | non => exact q
  | str z => exact q
  | _ => cases h2
def prOf : D → P2
  | .tup [.int a, .int b] => (a, b)
  | _ => (0, 0)
theorem price_pr {d : D} (h : isPrice d = true) : d = PU.prD (prOf d) := by
  unfold isPrice at h
  split at h
  · rfl
  · cases h
def worthRes (B C : Addr) (d p : D) : Res := if isMF d = true then (if isPrice p = true then .ok (toldD (prOf p) d) else .er C [] []) else .er B [] []
def sp_mean_worth (B C : Addr) : SpD := spX (fun (x : D × D) => [x.1, x.2]) (fun x => OkM x.1 ∧ fine x.2 = true ∧ (isPrice x.2 = true → InP 64 (prOf x.2))) fun x => worthRes B C x.1 x.2
theorem ok_mean_worth {B C : Addr} (D : Def K mg "mean_worth" s_mean_worth ["means", "price"])
    (c_check_means : CalG P w K mg base (L2.CX P w) 6 "check_means" ["means"] (fun _ : Unit => gh0) (fun _ => sp_check_means B))
    (c_check_price : CalG P w K mg base (L2.CX P w) 4 "check_price" ["price"] (fun _ : Unit => gh0) (fun _ => sp_check_price C))
    (c_told_mean : CalG P w K mg base CX0 3 "told_mean" ["means", "price"] (fun _ : Unit => gh0) (fun _ => sp_told_mean))
     :
    CalG P w K mg base (L2.CX P w) 7 "mean_worth" ["means", "price"] (fun _ : Unit => gh0) (fun _ => sp_mean_worth B C) := by
  refine D.ukX sc_mean_worth (fun i => gh0_ok) (fun _ => mo_X) (fun _ ds n Q E ⟨x, e, _⟩ => by rw [e]; rfl) (fun i f cdv A outer s F H Ev ds n Q E hC hr h xo => ?_)
  have nd := sc_mean_worth.nd
  have hu := hr.units
  have tk : Takes (cxOf (L2.CX P w) P w K mg base ["means", "price"] "mean_worth" (defScope s_mean_worth) f cdv A outer s H Ev) fun cls d _ H => Ev cls d H := takes_of rfl rfl rfl rfl
  obtain ⟨⟨d, p⟩, rfl, hp, q⟩ := h
  try dsimp only at q
  refine ⟨_, (us_cons (us_expr (uc_pX xo c_check_means hr passE (ua_cons (ue_var (i := 0)) ua_nil)))
      (us_cons (us_expr (uc_pX xo c_check_price hr passE (ua_cons (ue_var (i := 1)) ua_nil)))
      (us_one (us_ret (uc_p c_told_mean hr pass0 (ua_cons (ue_var (i := 0)) (ua_cons (ue_var (i := 1)) ua_nil))))))), ?_⟩
  obtain ⟨h1, h2, h3⟩ := hp
  dsimp only at h1 h2 h3
  unfold worthRes at q
  refine ⟨d, rfl, h1, ?_⟩
  dsimp only
  by_cases e1 : isMF d = true
  · rw [if_pos e1] at q ⊢
    refine ⟨p, rfl, h2, ?_⟩
    dsimp only
    by_cases e2 : isPrice p = true
    · rw [if_pos e2] at q ⊢
      refine ⟨(d, prOf p), congrArg (fun z => [d, z]) (price_pr e2), ⟨h1, e1, h3 e2⟩, q⟩
    · rw [if_neg e2] at q ⊢
      exact q
  · rw [if_neg e1] at q ⊢
    exact q
def sp_prices_of : SpD := spF (fun d => [d]) (fun d => OkM d ∧ isMF d = true) fun d => turnsD d
theorem ok_prices_of (D : Def K mg "prices_of" s_prices_of ["means"])
    (z_isinstance : mg "isinstance" = none)
    (z_len : mg "len" = none)
    (z_range : mg "range" = none)
    (z_tuple : mg "tuple" = none)
    (g_AHEAD_OF_ALL : TupK K mg "AHEAD_OF_ALL" [1, 0])
    (g_BEHIND_ALL : TupK K mg "BEHIND_ALL" [0, 1])
    (c_meeting_of : CalG P w K mg base CX0 3 "meeting_of" ["one", "other"] (fun _ : Unit => gh0) (fun _ => sp_meeting_of))
     :
    CalG P w K mg base CX0 4 "prices_of" ["means"] (fun _ : Unit => gh0) (fun _ => sp_prices_of) := by
  refine D.uk sc_prices_of (fun i => gh0_ok) (fun _ => mo_F) (fun _ ds n Q E ⟨x, e, _⟩ => by rw [e]; rfl) (fun i f cdv A outer s F H Ev ds n Q E hC hr h => ?_)
  have nd := sc_prices_of.nd
  have hu := hr.units
  obtain ⟨d, rfl, hp, q⟩ := h
  try dsimp only at q
  refine ⟨_, (us_cons (us_if (ut_not (ut_val (ue_isi .tuple (ue_var (i := 0)) z_isinstance z_tuple))) (us_one (us_ret (UL.ue (ul_lst ua_nil)))) us_nil)
      (us_one (us_ret (ue_op opd_plus (ue_op opd_plus (UL.ue (ul_lst (ua_cons (ue_globT g_AHEAD_OF_ALL) ua_nil))) (UL.ue (ul_lc (own := [("at", 1)]) hC nd (ui_range1 (ua_cons (ue_op opd_sub (ue_callB cd_len z_len (ua_cons (ue_var (i := 0)) ua_nil)) ue_int) ua_nil) z_range) (blkOk_by (own := [("at", 1)]) (N := ["means", "at"]) (sc := defScope s_prices_of) (by decide +kernel)) (fun _ _ _ _ _ => (ug_name (i := 1) nd)) (fun _ _ _ _ _ => uts_nil) (fun _ _ _ _ _ => (uc_p c_meeting_of hr pass0 (ua_cons (ue_ix (ue_var (i := 0)) (ue_var (i := 1))) (ua_cons (ue_ix (ue_var (i := 0)) (ue_op opd_plus (ue_var (i := 1)) ue_int)) ua_nil))))))) (UL.ue (ul_lst (ua_cons (ue_globT g_BEHIND_ALL) ua_nil))))))), ?_⟩
  obtain ⟨h1, h2⟩ := hp
  cases d with
  | tup xs =>
    obtain ⟨ts, rfl, co⟩ := corn_of h2 h1
    have q : Q (.lst (((1, 0) :: meets ((ts.map trD).map trOf) ++ [(0, 1)]).map PU.prD)) n := q
    rw [trOf_trD] at q
    have sz : sizeLine = 16777216 := sizeLine_eq
    have few := co.few
    have lm : (ts.map trD).length = ts.length := List.length_map ..
    have ml := meets_len ts
    refine ⟨by show 1 ≤ sizeLine; decide, ⟨by omega, by omega⟩, fun i acc k => k = n ∧ acc = ((meets ts).take i).map PU.prD, ⟨rfl, rfl⟩, fun i x acc k hx hp => ?_, fun acc k hp => ?_⟩
    · obtain ⟨rfl, rfl⟩ := hp
      obtain ⟨hi, rfl⟩ := rg_get hx
      have il : i + 1 < ts.length := by omega
      obtain ⟨p1, p2, p3⟩ := ord_at il co.ord
      have g1 : (ts.map trD)[i]? = some (trD ts[i]) := by
        rw [List.getElem?_map, List.getElem?_eq_getElem (by omega)]
        rfl
      have g2 : (ts.map trD)[i + 1]? = some (trD ts[i + 1]) := by
        rw [List.getElem?_map, List.getElem?_eq_getElem il]
        rfl
      have b1 := co.tb ts[i] (List.getElem_mem _)
      have b2 := co.tb ts[i + 1] (List.getElem_mem _)
      generalize ts[i] = x at *
      generalize ts[i + 1] = y at *
      have si := scale_in b1 b2
      refine ix_tk (k := i) (by omega) g1 ?_
      refine ix_tk (k := i + 1) (by omega) g2 ?_
      refine ⟨(x, y), rfl, ⟨b1.sm, b2.sm, si.1.up (by decide), si.2.up (by decide)⟩, ?_⟩
      dsimp only
      rw [meet_some p1 p2]
      refine ⟨by rw [List.length_map, List.length_take]; omega, rfl, ?_⟩
      rw [List.take_succ, p3, List.map_append]
      rfl
    · obtain ⟨rfl, rfl⟩ := hp
      have e : (meets ts).take (rgD 0 (((ts.map trD).length : Int) - 1).toNat).length = meets ts := List.take_of_length_le (by rw [rg_len]; omega)
      rw [e]
      refine ⟨by show 1 + ((meets ts).map PU.prD).length ≤ sizeLine; rw [List.length_map]; omega, by show 1 ≤ sizeLine; decide, ?_⟩
      refine ⟨by show (_ :: ((meets ts).map PU.prD)).length + 1 ≤ sizeLine; rw [List.length_cons, List.length_map]; omega, ?_⟩
      rw [List.map_append] at q
      exact q
  | non => exact ⟨by show 0 ≤ sizeLine; decide, q⟩
  | str z => exact ⟨by show 0 ≤ sizeLine; decide, q⟩
  | _ => cases h2
def sp_mean_prices (B : Addr) : SpD := spX (fun d => [d]) (fun d => OkM d) fun d => if isMF d = true then .ok (turnsD d) else .er B [] []
theorem ok_mean_prices {B : Addr} (D : Def K mg "mean_prices" s_mean_prices ["means"])
    (c_check_means : CalG P w K mg base (L2.CX P w) 6 "check_means" ["means"] (fun _ : Unit => gh0) (fun _ => sp_check_means B))
    (c_prices_of : CalG P w K mg base CX0 4 "prices_of" ["means"] (fun _ : Unit => gh0) (fun _ => sp_prices_of))
     :
    CalG P w K mg base (L2.CX P w) 7 "mean_prices" ["means"] (fun _ : Unit => gh0) (fun _ => sp_mean_prices B) := by
  refine D.ukX sc_mean_prices (fun i => gh0_ok) (fun _ => mo_X) (fun _ ds n Q E ⟨x, e, _⟩ => by rw [e]; rfl) (fun i f cdv A outer s F H Ev ds n Q E hC hr h xo => ?_)
  have nd := sc_mean_prices.nd
  have hu := hr.units
  have tk : Takes (cxOf (L2.CX P w) P w K mg base ["means"] "mean_prices" (defScope s_mean_prices) f cdv A outer s H Ev) fun cls d _ H => Ev cls d H := takes_of rfl rfl rfl rfl
  obtain ⟨d, rfl, hd, q⟩ := h
  try dsimp only at q
  refine ⟨_, (us_cons (us_expr (uc_pX xo c_check_means hr passE (ua_cons (ue_var (i := 0)) ua_nil)))
      (us_one (us_ret (uc_p c_prices_of hr pass0 (ua_cons (ue_var (i := 0)) ua_nil))))), ?_⟩
  refine ⟨d, rfl, hd, ?_⟩
  dsimp only
  by_cases e1 : isMF d = true
  · rw [if_pos e1] at q ⊢
    exact ⟨d, rfl, ⟨hd, e1⟩, q⟩
  · rw [if_neg e1] at q ⊢
    exact q
def sp_no_gain (B : Addr) : SpD := spX (fun d => [d]) (fun d => OkM d) fun d => if isMF d = true then .ok (ppD (stretch (pairsOf d) (1, 0) (0, 1))) else .er B [] []
theorem ok_no_gain {B : Addr} (D : Def K mg "no_gain" s_no_gain ["means"])
    (z_isinstance : mg "isinstance" = none)
    (z_tuple : mg "tuple" = none)
    (g_AHEAD_OF_ALL : TupK K mg "AHEAD_OF_ALL" [1, 0])
    (g_BEHIND_ALL : TupK K mg "BEHIND_ALL" [0, 1])
    (c_check_means : CalG P w K mg base (L2.CX P w) 6 "check_means" ["means"] (fun _ : Unit => gh0) (fun _ => sp_check_means B))
    (c_stretch_without_gain : CalG P w K mg base CX0 2 "stretch_without_gain" ["pairs", "low", "high"] (fun _ : Unit => gh0) (fun _ => sp_stretch_without_gain))
     :
    CalG P w K mg base (L2.CX P w) 7 "no_gain" ["means"] (fun _ : Unit => gh0) (fun _ => sp_no_gain B) := by
  refine D.ukX sc_no_gain (fun i => gh0_ok) (fun _ => mo_X) (fun _ ds n Q E ⟨x, e, _⟩ => by rw [e]; rfl) (fun i f cdv A outer s F H Ev ds n Q E hC hr h xo => ?_)
  have nd := sc_no_gain.nd
  have hu := hr.units
  have tk : Takes (cxOf (L2.CX P w) P w K mg base ["means", "pairs", "corner"] "no_gain" (defScope s_no_gain) f cdv A outer s H Ev) fun cls d _ H => Ev cls d H := takes_of rfl rfl rfl rfl
  obtain ⟨d, rfl, hd, q⟩ := h
  try dsimp only at q
  refine ⟨_, (us_cons (us_expr (uc_pX xo c_check_means hr passE (ua_cons (ue_var (i := 0)) ua_nil)))
      (us_cons (us_set (i := 1) (ue_ifExp (ut_val (ue_isi .tuple (ue_var (i := 0)) z_isinstance z_tuple)) (UL.ue (ul_lc (own := [("corner", 2)]) hC nd (ui_row (ue_var (i := 0))) (blkOk_by (own := [("corner", 2)]) (N := ["means", "pairs", "corner"]) (sc := defScope s_no_gain) (by decide +kernel)) (fun _ _ _ _ _ => (ug_name (i := 2) nd)) (fun _ _ _ _ _ => uts_nil) (fun _ _ _ _ _ => (ue_slice (ue_var (i := 2)) uo_none (uo_some ue_int))))) (UL.ue (ul_lst ua_nil))) nd)
      (us_one (us_ret (uc_p c_stretch_without_gain hr pass0 (ua_cons (ue_var (i := 1)) (ua_cons (ue_globT g_AHEAD_OF_ALL) (ua_cons (ue_globT g_BEHIND_ALL) ua_nil)))))))), ?_⟩
  refine ⟨d, rfl, hd, ?_⟩
  dsimp only
  have sz : sizeLine = 16777216 := sizeLine_eq
  have i1 : InP 64 (1, 0) := ⟨by unfold In; decide, by unfold In; decide⟩
  have i2 : InP 64 (0, 1) := ⟨by unfold In; decide, by unfold In; decide⟩
  by_cases e1 : isMF d = true
  · rw [if_pos e1] at q ⊢
    cases d with
    | tup xs =>
      obtain ⟨ts, rfl, co⟩ := corn_of e1 hd
      have few := co.few
      have ep : pairsOf (.tup (ts.map trD)) = ts.map fun t => (t.1, t.2.1) := by
        show (ts.map trD).map _ = _
        rw [List.map_map]
        rfl
      rw [ep] at q
      refine ⟨fun i acc k => k = n ∧ acc = ((ts.take i).map fun t => (t.1, t.2.1)).map PU.prD, ⟨rfl, rfl⟩, fun i x acc k hx hp => ?_, fun acc k hp => ?_⟩
      · obtain ⟨rfl, rfl⟩ := hp
        obtain ⟨t, ht, rfl⟩ := getmapP hx
        refine ⟨by rw [List.length_map, List.length_map, List.length_take]; omega, rfl, ?_⟩
        rw [List.take_succ, ht, List.map_append, List.map_append]
        rfl
      · obtain ⟨rfl, rfl⟩ := hp
        have e : ts.take (ts.map trD).length = ts := by rw [List.length_map, List.take_length]
        rw [e]
        refine ⟨(ts.map fun (t : P3) => ((t.1, t.2.1) : P2), (1, 0), (0, 1)), rfl, ⟨fun p m => ?_, i1, i2⟩, q⟩
        obtain ⟨t, tm, rfl⟩ := List.mem_map.mp m
        have tb := co.tb t tm
        exact ⟨tb.1.up (by decide), tb.2.1.up (by decide)⟩
    | non => exact ⟨by show 0 ≤ sizeLine; decide, ([], (1, 0), (0, 1)), rfl, ⟨(fun _ m => nomatch m), i1, i2⟩, q⟩
    | str z => exact ⟨by show 0 ≤ sizeLine; decide, ([], (1, 0), (0, 1)), rfl, ⟨(fun _ m => nomatch m), i1, i2⟩, q⟩
    | _ => cases e1
  · rw [if_neg e1] at q ⊢
    exact q
end
end L53
set_option maxHeartbeats 2000000
namespace PU
open PySem PySem.Spec PyProof.Rows L2 HG LamX
section
variable {X : Cx} {C : Cn} {a e : Expr} {u ua : TD} {pos : Pos}
def rIdxD (x y : D) (Q : D → Prop) : Prop := ∃ (xs : List D) (p : PyData) (ps : List PyData) (j : Nat) (z : PyData), x = .lst xs ∧ y.py = some p ∧ pyA xs = some ps ∧ SeqAt.shaped (.list ps) = true ∧ SeqAt.shaped p = true ∧ ps[j]? = some z ∧ PyData.eqv z p = true ∧
  (∀ (m : Nat) (z' : PyData), m < j → ps[m]? = some z' → PyData.eqv z' p = false) ∧ Q (.int (j : Nat))
def uIdxM (u ua : TD) : TD := fun ρ n Q => u ρ n fun d m => (∃ xs, d = .lst xs) ∧ ua ρ m fun y k => rIdxD d y fun z => Q z k
theorem ue_index {ap : Pos} (h : UE X C e u) (ha : UE X C a ua) (hu : X.A.units + 65 < cLine) (hbase : attributeBase e "index" X.env (eval e X.env) = eval e X.env := by rfl)
    (hfew : ((backTo pos (starEach [a] X.env)).all (fun x => !x.1) && (backToKw pos (keywordEach [] X.env)).all (fun x => x.1.isSome)
      && decide ([a].length + ([] : List Keyword).length + (if ([] : List Keyword).isEmpty then 0 else 1) < 30)) = true := by rfl)
    (hline : (ap.endLine == pos.line) = true := by rfl) (h1 : starEach [a] X.env = (false, eval a X.env) :: starEach [] X.env := by rfl) (hplain : (backTo pos (starEach [] X.env)).any (·.1) = false := by rfl) :
    UE X C (.Call (.Attribute e "index" ap) [a] [] pos) (uIdxM u ua) := by
  refine ⟨PEw (pe_bm PySem.F.plainAttrs_list PySem.F.slot_list_index PySem.F.type_list_index (mt_indexD hu) h.run (pa_cons ha.run pa_nil h1) hbase hfew hline h1 hplain) fun σ H Q ⟨F, ρ, n, rel, q⟩ => ⟨F, ρ, n, rel, h.mo _ _ _ _ (fun d m q v F1 H1 x1 m1 d1 => ?_) q⟩, fun ρ n P Q i w => h.mo _ _ _ _ (fun d m ⟨hd, q⟩ => ⟨hd, ha.mo _ _ _ _ (fun y k ⟨xs, p, ps, j, z, a1, a2, a3, a4, a5, a6, a7, a8, q⟩ => ⟨xs, p, ps, j, z, a1, a2, a3, a4, a5, a6, a7, a8, i _ _ q⟩) q⟩) w⟩
  obtain ⟨⟨xs, rfl⟩, q⟩ := q
  have d1' := d1
  cases d1 with
  | lst hq hA =>
    refine ⟨.inl ⟨rfl, _, SqL.le x1.le hq⟩, F1, ρ, m, rel.stepG x1 m1, ha.mo _ _ _ _ (fun y k ⟨xs', p, ps, j, z, a1, a2, a3, a4, a5, a6, a7, a8, q⟩ v2 F2 H2 x2 m2 d2 => ?_) q⟩
    cases a1
    have py : (D.lst xs).py = some (.list ps) := by simp only [D.py, a3, Option.map]
    exact ⟨_, v2, p, ps, j, z, rfl, rfl, dd_py x2.le (.lst xs) (d1'.le x2.up) py, dd_py x2.le y d2 a2, a4, a5, a6, a7, a8, q _ F2 H2 (x1.tr x2) m2 (.int _)⟩
def rInL (f : Bool → Bool) (x y : D) (Q : D → Prop) : Prop := ∃ (ys : List D) (p : PyData) (ps : List PyData), y = .lst ys ∧ x.py = some p ∧ pyA ys = some ps ∧ SeqAt.shaped p = true ∧ SeqAt.shaped (.list ps) = true ∧ Q (.bl (f (ps.any fun z => PyData.eqv z p)))
theorem opd_inL (hu : X.A.units + 65 < cLine) : OpD X (compareOp .In) (rInL id) := by
  refine ⟨fun x y P Q i ⟨ys, p, ps, a1, a2, a3, a4, a5, h⟩ => ⟨ys, p, ps, a1, a2, a3, a4, a5, i _ h⟩, fun pins s σ H x y v u Q I rx ry ⟨F, dx, dy, l, h1, h2, ys, p, ps, a1, a2, a3, a4, a5, q⟩ => ?_⟩
  subst a1
  have py : (D.lst ys).py = some (.list ps) := by simp only [D.py, a3, Option.map]
  exact op_inD hu pins s σ H x y v u Q I rx ry ⟨p, ps, dd_py l dx h1 a2, dd_py l _ h2 py, a4, a5, q _ F H (Ex.rfl l) (.bl _)⟩
theorem opd_notInL (hu : X.A.units + 65 < cLine) : OpD X (compareOp .NotIn) (rInL not) := by
  refine ⟨fun x y P Q i ⟨ys, p, ps, a1, a2, a3, a4, a5, h⟩ => ⟨ys, p, ps, a1, a2, a3, a4, a5, i _ h⟩, fun pins s σ H x y v u Q I rx ry ⟨F, dx, dy, l, h1, h2, ys, p, ps, a1, a2, a3, a4, a5, q⟩ => ?_⟩
  subst a1
  have py : (D.lst ys).py = some (.list ps) := by simp only [D.py, a3, Option.map]
  exact op_notInD hu pins s σ H x y v u Q I rx ry ⟨p, ps, dd_py l dx h1 a2, dd_py l _ h2 py, a4, a5, q _ F H (Ex.rfl l) (.bl _)⟩
end
/-! ### pairs as data -/
def pyP (p : Int × Int) : PyData := .tuple [.int p.1, .int p.2]
theorem py_pr (p : Int × Int) : (PU.prD p).py = some (pyP p) := by simp only [PU.prD, D.py, pyA, Option.map, pyP]
theorem py_prs : ∀ ps : List (Int × Int), pyA (ps.map PU.prD) = some (ps.map pyP)
  | [] => rfl
  | p :: r => by
    rw [List.map_cons, List.map_cons]
    simp only [pyA, py_pr, py_prs r]
theorem eqv_pr (p q : Int × Int) : PyData.eqv (pyP p) (pyP q) = decide (p = q) := by
  obtain ⟨a, b⟩ := p
  obtain ⟨c, d⟩ := q
  simp only [pyP, PyData.eqv, PyData.eqvAll, Bool.and_true]
  by_cases h1 : a = c <;> by_cases h2 : b = d <;> simp [h1, h2]
theorem lay_prs : ∀ ps : List (Int × Int), PyData.canLayAll0 (ps.map pyP) = true ∧ PyData.depthAll (ps.map pyP) ≤ 2
  | [] => ⟨by simp [PyData.canLayAll0], by simp [PyData.depthAll]⟩
  | p :: r => by
    obtain ⟨h1, h2⟩ := lay_prs r
    refine ⟨by simp [PyData.canLayAll0, PyData.canLay0, pyP, h1], ?_⟩
    simp only [List.map_cons, PyData.depthAll, pyP, PyData.depth]
    omega
theorem shaped_pr (p : Int × Int) : SeqAt.shaped (pyP p) = true := by
  show (PyData.canLay0 _ && decide (PyData.depth _ ≤ 64)) = true
  simp [pyP, PyData.canLay0, PyData.canLayAll0, PyData.depth, PyData.depthAll]
theorem shaped_prs (ps : List (Int × Int)) : SeqAt.shaped (.list (ps.map pyP)) = true := by
  obtain ⟨h1, h2⟩ := lay_prs ps
  show (PyData.canLay0 _ && decide (PyData.depth _ ≤ 64)) = true
  rw [Bool.and_eq_true]
  refine ⟨by simp only [PyData.canLay0]; exact h1, decide_eq_true ?_⟩
  simp only [PyData.depth]
  omega
theorem first_at {α : Type} [DecidableEq α] {p : α} : ∀ {ps : List α}, p ∈ ps → ∃ j : Nat, ps[j]? = some p ∧ ∀ (m : Nat) (z : α), m < j → ps[m]? = some z → z ≠ p
  | x :: r, h => by
    by_cases e : x = p
    · exact ⟨0, by rw [e]; rfl, fun m z l => absurd l (Nat.not_lt_zero m)⟩
    · rcases List.mem_cons.mp h with rfl | h
      · exact absurd rfl e
      · obtain ⟨j, h1, h2⟩ := first_at h
        refine ⟨j + 1, h1, fun m z l hz => ?_⟩
        cases m with
        | zero => cases hz; exact e
        | succ m => exact h2 m z (by omega) hz
theorem idx_pairs {ps : List (Int × Int)} {p : Int × Int} {Q : D → Prop} (h : p ∈ ps) (q : ∀ j : Nat, ps[j]? = some p → Q (.int (j : Nat))) : rIdxD (.lst (ps.map PU.prD)) (PU.prD p) Q := by
  obtain ⟨j, h1, h2⟩ := first_at h
  refine ⟨_, pyP p, ps.map pyP, j, pyP p, rfl, py_pr p, py_prs ps, shaped_prs ps, shaped_pr p, by rw [List.getElem?_map, h1]; rfl, by rw [eqv_pr]; exact decide_eq_true rfl, fun m z' l hz => ?_, q j h1⟩
  rw [List.getElem?_map] at hz
  cases e : ps[m]? with
  | none => rw [e] at hz; cases hz
  | some z =>
    rw [e] at hz
    cases hz
    rw [eqv_pr]
    exact decide_eq_false (h2 m z l e)
theorem any_pairs (ps : List (Int × Int)) (p : Int × Int) : ((ps.map pyP).any fun z => PyData.eqv z (pyP p)) = decide (p ∈ ps) := by
  rw [List.any_map]
  induction ps with
  | nil => simp
  | cons x r ih =>
    rw [List.any_cons, ih]
    show (PyData.eqv (pyP x) (pyP p) || _) = _
    rw [eqv_pr]
    by_cases e : x = p
    · subst e; simp
    · rw [decide_eq_false e, Bool.false_or]
      exact decide_eq_decide.mpr ⟨fun m => List.mem_cons_of_mem _ m, fun m => (List.mem_cons.mp m).resolve_left fun z => e z.symm⟩
theorem in_pairs {f : Bool → Bool} {ps : List (Int × Int)} {p : Int × Int} {Q : D → Prop} (q : Q (.bl (f (decide (p ∈ ps))))) : rInL f (PU.prD p) (.lst (ps.map PU.prD)) Q :=
  ⟨_, pyP p, ps.map pyP, rfl, py_pr p, py_prs ps, shaped_pr p, shaped_prs ps, by rw [any_pairs]; exact q⟩
/-- == of pairs, of lists of pairs -/
theorem eqA_pairs {f : Bool → Bool} {ps qs : List (Int × Int)} {Q : D → Prop} (q : Q (.bl (f (decide (ps = qs))))) : rEqA f (.lst (ps.map PU.prD)) (.lst (qs.map PU.prD)) Q := by
  have py1 : (D.lst (ps.map PU.prD)).py = some (.list (ps.map pyP)) := by simp only [D.py, py_prs, Option.map]
  have py2 : (D.lst (qs.map PU.prD)).py = some (.list (qs.map pyP)) := by simp only [D.py, py_prs, Option.map]
  show PU.rEqD f (.lst (ps.map PU.prD)) (.lst (qs.map PU.prD)) Q
  unfold PU.rEqD
  rw [py1, py2]
  refine ⟨shaped_prs ps, shaped_prs qs, ?_⟩
  have e : PyData.eqv (.list (ps.map pyP)) (.list (qs.map pyP)) = decide (ps = qs) := by
    show PyData.eqvAll (ps.map pyP) (qs.map pyP) = _
    clear q py1 py2
    induction ps generalizing qs with
    | nil => cases qs <;> simp [PyData.eqvAll]
    | cons x r ih =>
      cases qs with
      | nil => simp [PyData.eqvAll]
      | cons y t =>
        simp only [List.map_cons, PyData.eqvAll, eqv_pr, ih]
        by_cases e : x = y
        · subst e; simp
        · simp [e]
  rw [e]
  exact q
theorem eqA_pair {f : Bool → Bool} {p r : Int × Int} {Q : D → Prop} (q : Q (.bl (f (decide (p = r))))) : rEqA f (PU.prD p) (PU.prD r) Q := by
  show PU.rEqD f (PU.prD p) (PU.prD r) Q
  unfold PU.rEqD
  rw [py_pr, py_pr]
  refine ⟨shaped_pr p, shaped_pr r, ?_⟩
  rw [eqv_pr]
  exact q
end PU
set_option maxHeartbeats 2000000
namespace L53
open PySem PySem.Spec PyProof.Rows L2 HG PU LamX
abbrev sp_l_take : Addr × Addr × Addr → SpD := aTake
def redT (t : P3) : P3 := (t.1 / g3 t.1 t.2.1 t.2.2, t.2.1 / g3 t.1 t.2.1 t.2.2, t.2.2 / g3 t.1 t.2.1 t.2.2)
/-- a price whose numbers are not great -/
structure GoodP (p : P2) : Prop where
  n1 : 0 ≤ p.1
  n2 : 0 ≤ p.2
  g : gI p.1 p.2 = 1
  b : InP 42 p
theorem GoodP.in64 {p : P2} (h : GoodP p) : InP 64 p := ⟨h.b.1.up (by decide), h.b.2.up (by decide)⟩
theorem GoodP.is {p : P2} (h : GoodP p) : isPrice (PU.prD p) = true := by
  show (decide (0 ≤ p.1) && decide (0 ≤ p.2) && decide (gI p.1 p.2 = 1)) = true
  rw [decide_eq_true h.n1, decide_eq_true h.n2, decide_eq_true h.g]
  rfl
theorem abs_if (a : Int) : (if a < 0 then -a else a) = ((a.natAbs : Nat) : Int) := by split <;> omega
theorem in_of {i : Int} (h : -1099511627776 < i) (h2 : i < 1099511627776) : In 40 i := by
  unfold In
  have : (2 : Nat) ^ 40 = 1099511627776 := by decide
  omega
theorem red_gcd {p q : Int} (h1 : 0 ≤ p) (h2 : 0 ≤ q) (h : p ≠ 0 ∨ q ≠ 0) : gI (redI p q).1 (redI p q).2 = 1 ∧ 0 ≤ (redI p q).1 ∧ 0 ≤ (redI p q).2 := by
  obtain ⟨a, rfl⟩ := Int.eq_ofNat_of_zero_le h1
  obtain ⟨b, rfl⟩ := Int.eq_ofNat_of_zero_le h2
  have gp : 0 < Nat.gcd a b := by
    have := gI_pos h
    unfold gI at this
    simp only [Int.natAbs_natCast] at this
    omega
  have e1 : (redI (a : Int) (b : Int)).1 = ((a / Nat.gcd a b : Nat) : Int) := by
    show (a : Int) / ((Nat.gcd (a : Int).natAbs (b : Int).natAbs : Nat) : Int) = _
    simp only [Int.natAbs_natCast]
    exact (Int.natCast_ediv _ _).symm
  have e2 : (redI (a : Int) (b : Int)).2 = ((b / Nat.gcd a b : Nat) : Int) := by
    show (b : Int) / ((Nat.gcd (a : Int).natAbs (b : Int).natAbs : Nat) : Int) = _
    simp only [Int.natAbs_natCast]
    exact (Int.natCast_ediv _ _).symm
  refine ⟨?_, by rw [e1]; exact Int.natCast_nonneg _, by rw [e2]; exact Int.natCast_nonneg _⟩
  rw [e1, e2]
  unfold gI
  simp only [Int.natAbs_natCast]
  have := Nat.coprime_div_gcd_div_gcd gp
  rw [Nat.Coprime] at this
  rw [this]
  rfl
theorem good_red {p q : Int} (h1 : 0 ≤ p) (h2 : 0 ≤ q) (h : p ≠ 0 ∨ q ≠ 0) (i1 : In 42 p) (i2 : In 42 q) : GoodP (redI p q) := by
  obtain ⟨a, b, c⟩ := red_gcd h1 h2 h
  exact ⟨b, c, a, red_in h i1 i2⟩
theorem rare_ok : ∀ d ∈ [PU.prD (1, 0), PU.prD (0, 1), PU.prD (1, 1), PU.prD (2, 1), PU.prD (1, 2), PU.prD (3, 2), PU.prD (2, 3), PU.prD (1, 3), PU.prD (999, 1)], ∃ p : P2, d = PU.prD p ∧ GoodP p := by
  intro d hd
  simp only [List.mem_cons, List.not_mem_nil, or_false] at hd
  rcases hd with rfl | rfl | rfl | rfl | rfl | rfl | rfl | rfl | rfl <;> exact ⟨_, rfl, ⟨by decide, by decide, by decide +kernel, by unfold In; decide, by unfold In; decide⟩⟩
def bendB (a m b : P2) : Bool := decide ((a.1 - m.1) * (b.2 - m.2) < (m.2 - a.2) * (m.1 - b.1))
section
variable {P : Program} {w : World} {K : PySem.W.Frag} {mg : Str → Option Value} {base : Heap}
def sp_l_pick (i : Addr × Addr × Addr) : SpD := spN (fun (x : D × List D) => [.ref i.1, x.1]) (fun x n => rowS x.1 x.2 ∧ 0 < x.2.length ∧ x.2.length < 1000 ∧ n < 1000000000) fun x n d m => d ∈ x.2 ∧ m = n + 1
theorem ok_l_pick (D : Def K mg "_law_pick" s_l_pick ["draw", "some"])
    (z_len : mg "len" = none)
    (c__law_take : CalG P w K mg base CX0 2 "_law_take" ["draw", "many"] gDraw sp_l_take)
     :
    CalG P w K mg base CX0 3 "_law_pick" ["draw", "some"] gDraw sp_l_pick := by
  refine D.uk sc_l_pick (fun i => gDraw_ok i) (fun _ => mo_N) (fun _ ds n Q E ⟨x, e, _⟩ => by rw [e]; rfl) (fun i f cdv A outer s F H Ev ds n Q E hC hr h => ?_)
  have nd := sc_l_pick.nd
  have hu := hr.units
  have em : Emb (gDraw i) (cnOf (gDraw i) F H).toGh := Emb.rfl
  obtain ⟨⟨d, xs⟩, rfl, hp, q⟩ := h
  try dsimp only at q
  refine ⟨_, (us_one (us_ret (ue_ix (ue_var (i := 1)) (uc_e i em hC c__law_take hr pass0 (ua_cons (ue_var (i := 0)) (ua_cons (ue_callB cd_len z_len (ua_cons (ue_var (i := 1)) ua_nil)) ua_nil)))))), ?_⟩
  obtain ⟨h1, h2, h3, h4⟩ := hp
  dsimp only at h1 h2 h3
  have h1' := h1
  rcases h1' with rfl | rfl | ⟨z, rfl, hz, rfl⟩
  · exact ⟨xs.length, rfl, h4, by omega, by omega, fun r r0 r1 => ix_any h1 r0 r1 fun x m => q _ _ ⟨m, rfl⟩⟩
  · exact ⟨xs.length, rfl, h4, by omega, by omega, fun r r0 r1 => ix_any h1 r0 r1 fun x m => q _ _ ⟨m, rfl⟩⟩
  · rw [sgs_len] at h2 h3
    exact ⟨Nat.le_of_lt (Nat.lt_of_lt_of_le hz (by decide)), z.length, rfl, h4, by omega, by omega, fun r r0 r1 => ix_any h1 r0 (by rw [sgs_len]; exact r1) fun x m => q _ _ ⟨m, rfl⟩⟩
def sp_l_is_number : SpD := spF (fun d => [d]) (fun d => fine d = true) fun d => .bl (isNum d)
theorem ok_l_is_number (D : Def K mg "_law_is_number" s_l_is_number ["item"])
    (z_bool : mg "bool" = none)
    (z_int : mg "int" = none)
    (z_isinstance : mg "isinstance" = none)
     :
    CalG P w K mg base CX0 1 "_law_is_number" ["item"] (fun _ : Unit => gh0) (fun _ => sp_l_is_number) := by
  refine D.uk sc_l_is_number (fun i => gh0_ok) (fun _ => mo_F) (fun _ ds n Q E ⟨x, e, _⟩ => by rw [e]; rfl) (fun i f cdv A outer s F H Ev ds n Q E hC hr h => ?_)
  have nd := sc_l_is_number.nd
  have hu := hr.units
  obtain ⟨d, rfl, hd, q⟩ := h
  try dsimp only at q
  refine ⟨_, (us_one (us_ret (ue_and (ue_isi .int (ue_var (i := 0)) z_isinstance z_int) (ue_one (ue_not (ue_isi .bool (ue_var (i := 0)) z_isinstance z_bool)))))), ?_⟩
  cases d <;> first | exact q | cases hd
def sp_l_says : SpD := spF (fun (x : Bool × Bool) => [.bl x.1, .bl x.2]) (fun _ => True) fun x => .bl (x.1 == x.2)
theorem ok_l_says (D : Def K mg "_law_says" s_l_says ["found", "due"])
     :
    CalG P w K mg base CX0 1 "_law_says" ["found", "due"] (fun _ : Unit => gh0) (fun _ => sp_l_says) := by
  refine D.uk sc_l_says (fun i => gh0_ok) (fun _ => mo_F) (fun _ ds n Q E ⟨x, e, _⟩ => by rw [e]; rfl) (fun i f cdv A outer s F H Ev ds n Q E hC hr h => ?_)
  have nd := sc_l_says.nd
  have hu := hr.units
  obtain ⟨⟨a, b⟩, rfl, _, q⟩ := h
  try dsimp only at q
  refine ⟨_, (us_one (us_ret (ue_ifExp (ut_val (ue_var (i := 1))) (ue_cmp opd_isB (ue_var (i := 0)) ue_bl) (ue_cmp opd_isB (ue_var (i := 0)) ue_bl)))), ?_⟩
  cases a <;> cases b <;> exact q
def sp_l_cost (i : Addr × Addr × Addr) : SpD := spN (fun (p : Nat) => [.ref i.1, .int p]) (fun p n => p < 2 ^ 60 ∧ n < 999990000) fun p n d m => m = n + 1 ∧ ∃ c : Int, d = .int c ∧ -(p : Int) ≤ c ∧ c ≤ p
theorem ok_l_cost (D : Def K mg "_law_cost" s_l_cost ["draw", "peak"])
    (c__law_take : CalG P w K mg base CX0 2 "_law_take" ["draw", "many"] gDraw sp_l_take)
     :
    CalG P w K mg base CX0 3 "_law_cost" ["draw", "peak"] gDraw sp_l_cost := by
  refine D.uk sc_l_cost (fun i => gDraw_ok i) (fun _ => mo_N) (fun _ ds n Q E ⟨x, e, _⟩ => by rw [e]; rfl) (fun i f cdv A outer s F H Ev ds n Q E hC hr h => ?_)
  have nd := sc_l_cost.nd
  have hu := hr.units
  have em : Emb (gDraw i) (cnOf (gDraw i) F H).toGh := Emb.rfl
  obtain ⟨p, rfl, hp, q⟩ := h
  try dsimp only at q
  refine ⟨_, (us_one (us_ret (ue_op opd_sub (uc_e i em hC c__law_take hr pass0 (ua_cons (ue_var (i := 0)) (ua_cons (ue_op opd_plus (ue_op opd_mul ue_int (ue_var (i := 1))) ue_int) ua_nil))) (ue_var (i := 1))))), ?_⟩
  obtain ⟨h1, h2⟩ := hp
  have e60 : (2 : Nat) ^ 60 = 1152921504606846976 := by decide
  have e64 : (2 : Int) ^ 64 = 18446744073709551616 := by decide
  refine ⟨.inl ⟨by decide, by decide⟩, ?_⟩
  refine ⟨2 * (p : Int) + 1, rfl, by omega, by omega, by omega, fun r r0 r1 => ?_⟩
  exact q _ _ ⟨rfl, r - p, rfl, by omega, by omega⟩
def sp_l_gcd : SpD := spF (fun (x : Int × Int) => [.int x.1, .int x.2]) (fun _ => True) fun x => .int (gI x.1 x.2)
theorem ok_l_gcd (D : Def K mg "_law_gcd" s_l_gcd ["one", "two"])
    (z_abs : mg "abs" = none)
    (z_int : mg "int" = none)
     :
    CalG P w K mg base CX0 1 "_law_gcd" ["one", "two"] (fun _ : Unit => gh0) (fun _ => sp_l_gcd) := by
  refine D.uk sc_l_gcd (fun i => gh0_ok) (fun _ => mo_F) (fun _ ds n Q E ⟨x, e, _⟩ => by rw [e]; rfl) (fun i f cdv A outer s F H Ev ds n Q E hC hr h => ?_)
  have nd := sc_l_gcd.nd
  have hu := hr.units
  obtain ⟨⟨a, b⟩, rfl, _, q⟩ := h
  try dsimp only at q
  refine ⟨_, (us_cons (us_par (i := 0) (j := 1) (ua_cons (ue_callB cd_abs z_abs (ua_cons (ue_var (i := 0)) ua_nil)) (ua_cons (ue_callB cd_abs z_abs (ua_cons (ue_var (i := 1)) ua_nil)) ua_nil)) nd)
      (us_cons (us_while (ut_cmp (opd_neA hu) (ue_var (i := 1)) ue_int)
      (us_one (us_par (i := 0) (j := 1) (ua_cons (ue_var (i := 1)) (ua_cons (ue_op opd_mod (ue_callTy cd_int z_int (ua_cons (ue_var (i := 0)) ua_nil)) (ue_var (i := 1))) ua_nil)) nd)))
      (us_one (us_ret (ue_var (i := 0)))))), ?_⟩
  refine ⟨fun m ρ k => k = n ∧ ∃ x y : Nat, y = m ∧ ρ = [.d (.int (x : Int)), .d (.int (y : Int))] ∧ Nat.gcd x y = Nat.gcd a.natAbs b.natAbs, ⟨b.natAbs, rfl, a.natAbs, b.natAbs, rfl, ?_, rfl⟩, fun m ρ k hp => ?_⟩
  · show [S.d (.int (if a < 0 then -a else a)), S.d (.int (if b < 0 then -b else b))] = _
    rw [abs_if a, abs_if b]
  · obtain ⟨rfl, x, y, rfl, rfl, hg⟩ := hp
    refine ite_b (fun e => ?_) fun e => ?_
    · have ne : ¬ (y : Int) = 0 := by simpa using e
      have yp : 0 < y := by omega
      refine ⟨by omega, x % y, Nat.mod_lt _ yp, rfl, y, x % y, rfl, rfl, ?_⟩
      rw [← hg, Nat.gcd_comm y, ← Nat.gcd_rec, Nat.gcd_comm]
    · have ez : (y : Int) = 0 := by simpa using e
      have ez : y = 0 := by omega
      subst ez
      rw [Nat.gcd_zero_right] at hg
      have q : Q (.int ((Nat.gcd a.natAbs b.natAbs : Nat) : Int)) k := q
      rw [← hg] at q
      exact q
def sp_l_terms : SpD := spF (fun (x : Int × Int) => [.int x.1, .int x.2]) (fun x => (x.1 ≠ 0 ∨ x.2 ≠ 0) ∧ In 200 x.1 ∧ In 200 x.2) fun x => PU.prD (redI x.1 x.2)
theorem ok_l_terms (D : Def K mg "_law_terms" s_l_terms ["one", "two"])
    (c__law_gcd : CalG P w K mg base CX0 1 "_law_gcd" ["one", "two"] (fun _ : Unit => gh0) (fun _ => sp_l_gcd))
     :
    CalG P w K mg base CX0 2 "_law_terms" ["one", "two"] (fun _ : Unit => gh0) (fun _ => sp_l_terms) := by
  refine D.uk sc_l_terms (fun i => gh0_ok) (fun _ => mo_F) (fun _ ds n Q E ⟨x, e, _⟩ => by rw [e]; rfl) (fun i f cdv A outer s F H Ev ds n Q E hC hr h => ?_)
  have nd := sc_l_terms.nd
  have hu := hr.units
  obtain ⟨⟨a, b⟩, rfl, hp, q⟩ := h
  try dsimp only at q
  refine ⟨_, (us_cons (us_set (i := 2) (uc_p c__law_gcd hr pass0 (ua_cons (ue_var (i := 0)) (ua_cons (ue_var (i := 1)) ua_nil))) nd)
      (us_one (us_ret (ue_tup (ua_cons (ue_op opd_fdivW (ue_var (i := 0)) (ue_var (i := 2))) (ua_cons (ue_op opd_fdivW (ue_var (i := 1)) (ue_var (i := 2))) ua_nil)))))), ?_⟩
  obtain ⟨h1, h2, h3⟩ := hp
  have cd := wide_of (gI_pos h1) (gI_le h1 h2 h3)
  exact ⟨(a, b), rfl, trivial, cd, cd, by show 2 ≤ sizeLine; decide, q⟩
def sp_l_price (i : Addr × Addr × Addr) : SpD := spN (fun (_ : Unit) => [.ref i.1]) (fun _ n => n < 999990000) fun _ n d m => m ≤ n + 3 ∧ ∃ p : P2, d = PU.prD p ∧ GoodP p
theorem ok_l_price (D : Def K mg "_law_price" s_l_price ["draw"])
    (c__law_pick : CalG P w K mg base CX0 3 "_law_pick" ["draw", "some"] gDraw sp_l_pick)
    (c__law_take : CalG P w K mg base CX0 2 "_law_take" ["draw", "many"] gDraw sp_l_take)
    (c__law_terms : CalG P w K mg base CX0 2 "_law_terms" ["one", "two"] (fun _ : Unit => gh0) (fun _ => sp_l_terms))
     :
    CalG P w K mg base CX0 4 "_law_price" ["draw"] gDraw sp_l_price := by
  refine D.uk sc_l_price (fun i => gDraw_ok i) (fun _ => mo_N) (fun _ ds n Q E ⟨x, e, _⟩ => by rw [e]; rfl) (fun i f cdv A outer s F H Ev ds n Q E hC hr h => ?_)
  have nd := sc_l_price.nd
  have hu := hr.units
  have em : Emb (gDraw i) (cnOf (gDraw i) F H).toGh := Emb.rfl
  obtain ⟨_, rfl, hp, q⟩ := h
  try dsimp only at q
  refine ⟨_, (us_cons (us_set (i := 1) (UL.ue (ul_lst (ua_cons (ue_tup (ua_cons ue_int (ua_cons ue_int ua_nil))) (ua_cons (ue_tup (ua_cons ue_int (ua_cons ue_int ua_nil))) (ua_cons (ue_tup (ua_cons ue_int (ua_cons ue_int ua_nil))) (ua_cons (ue_tup (ua_cons ue_int (ua_cons ue_int ua_nil))) (ua_cons (ue_tup (ua_cons ue_int (ua_cons ue_int ua_nil))) (ua_cons (ue_tup (ua_cons ue_int (ua_cons ue_int ua_nil))) (ua_cons (ue_tup (ua_cons ue_int (ua_cons ue_int ua_nil))) (ua_cons (ue_tup (ua_cons ue_int (ua_cons ue_int ua_nil))) (ua_cons (ue_tup (ua_cons ue_int (ua_cons ue_int ua_nil))) ua_nil))))))))))) nd)
      (us_cons (us_if (ut_cmp opd_gt (uc_e i em hC c__law_take hr pass0 (ua_cons (ue_var (i := 0)) (ua_cons ue_int ua_nil))) ue_int) (us_one (us_ret (uc_e i em hC c__law_pick hr pass0 (ua_cons (ue_var (i := 0)) (ua_cons (ue_var (i := 1)) ua_nil))))) us_nil)
      (us_one (us_ret (uc_p c__law_terms hr pass0 (ua_cons (uc_e i em hC c__law_take hr pass0 (ua_cons (ue_var (i := 0)) (ua_cons ue_int ua_nil))) (ua_cons (ue_op opd_plus ue_int (uc_e i em hC c__law_take hr pass0 (ua_cons (ue_var (i := 0)) (ua_cons ue_int ua_nil)))) ua_nil))))))), ?_⟩
  have sz : sizeLine = 16777216 := sizeLine_eq
  refine ⟨by show 2 ≤ sizeLine; decide, by show 2 ≤ sizeLine; decide, by show 2 ≤ sizeLine; decide, by show 2 ≤ sizeLine; decide, by show 2 ≤ sizeLine; decide, by show 2 ≤ sizeLine; decide, by show 2 ≤ sizeLine; decide, by show 2 ≤ sizeLine; decide, by show 2 ≤ sizeLine; decide, by show 9 ≤ sizeLine; decide, ?_⟩
  refine ⟨3, rfl, by omega, by decide, by decide, fun r r0 r1 => ite_b (fun _ => ?_) fun _ => ?_⟩
  · refine ⟨(.lst _, _), rfl, ⟨.inl rfl, by simp, by simp, by omega⟩, fun d m hd => ?_⟩
    obtain ⟨hd, rfl⟩ := hd
    obtain ⟨p, rfl, gp⟩ := rare_ok d hd
    exact q _ _ ⟨by omega, p, rfl, gp⟩
  · refine ⟨2000, rfl, by omega, by decide, by decide, fun a a0 a1 => ?_⟩
    refine ⟨2000, rfl, by omega, by decide, by decide, fun b b0 b1 => ?_⟩
    have ia : In 40 a := in_of (by omega) (by omega)
    have ib : In 40 (1 + b) := in_of (by omega) (by omega)
    refine ⟨(a, 1 + b), rfl, ⟨.inr (by show 1 + b ≠ 0; omega), ia.up (by decide), ib.up (by decide)⟩, q _ _ ⟨by omega, _, rfl, good_red a0 (by omega) (.inr (by omega)) (ia.up (by decide)) (ib.up (by decide))⟩⟩
def sp_l_worth : SpD := spF (fun (x : P3 × P2) => [trD x.1, PU.prD x.2]) (fun x => SmP x.2) fun x => .int (worthI (x.1.1, x.1.2.1) x.2)
theorem ok_l_worth (D : Def K mg "_law_worth" s_l_worth ["pair", "price"])
     :
    CalG P w K mg base CX0 1 "_law_worth" ["pair", "price"] (fun _ : Unit => gh0) (fun _ => sp_l_worth) := by
  refine D.uk sc_l_worth (fun i => gh0_ok) (fun _ => mo_F) (fun _ ds n Q E ⟨x, e, _⟩ => by rw [e]; rfl) (fun i f cdv A outer s F H Ev ds n Q E hC hr h => ?_)
  have nd := sc_l_worth.nd
  have hu := hr.units
  obtain ⟨⟨a, b⟩, rfl, hp, q⟩ := h
  try dsimp only at q
  refine ⟨_, (us_one (us_ret (ue_op opd_plus (ue_op opd_mul (ue_ix (ue_var (i := 1)) ue_int) (ue_ix (ue_var (i := 0)) ue_int)) (ue_op opd_mul (ue_ix (ue_var (i := 1)) ue_int) (ue_ix (ue_var (i := 0)) ue_int))))), ?_⟩
  obtain ⟨a1, a2⟩ := hp
  refine ix_t0 ?_
  refine ix_t0 ?_
  refine ⟨.inl a1, ?_⟩
  refine ix_t1 ?_
  refine ix_t1 ?_
  refine ⟨.inl a2, ?_⟩
  exact q
def sp_l_reduced : SpD := spF (fun (t : P3) => [trD t]) (fun t => t.2.2 ≠ 0 ∧ In 200 t.1 ∧ In 200 t.2.1 ∧ In 200 t.2.2) fun t => trD (redT t)
theorem ok_l_reduced (D : Def K mg "_law_reduced" s_l_reduced ["one"])
    (c__law_gcd : CalG P w K mg base CX0 1 "_law_gcd" ["one", "two"] (fun _ : Unit => gh0) (fun _ => sp_l_gcd))
     :
    CalG P w K mg base CX0 2 "_law_reduced" ["one"] (fun _ : Unit => gh0) (fun _ => sp_l_reduced) := by
  refine D.uk sc_l_reduced (fun i => gh0_ok) (fun _ => mo_F) (fun _ ds n Q E ⟨x, e, _⟩ => by rw [e]; rfl) (fun i f cdv A outer s F H Ev ds n Q E hC hr h => ?_)
  have nd := sc_l_reduced.nd
  have hu := hr.units
  obtain ⟨t, rfl, hp, q⟩ := h
  try dsimp only at q
  refine ⟨_, (us_cons (us_set (i := 1) (uc_p c__law_gcd hr pass0 (ua_cons (uc_p c__law_gcd hr pass0 (ua_cons (ue_ix (ue_var (i := 0)) ue_int) (ua_cons (ue_ix (ue_var (i := 0)) ue_int) ua_nil))) (ua_cons (ue_ix (ue_var (i := 0)) ue_int) ua_nil))) nd)
      (us_one (us_ret (ue_tup (ua_cons (ue_op opd_fdivW (ue_ix (ue_var (i := 0)) ue_int) (ue_var (i := 1))) (ua_cons (ue_op opd_fdivW (ue_ix (ue_var (i := 0)) ue_int) (ue_var (i := 1))) (ua_cons (ue_op opd_fdivW (ue_ix (ue_var (i := 0)) ue_int) (ue_var (i := 1))) ua_nil))))))), ?_⟩
  obtain ⟨h1, h2, h3, h4⟩ := hp
  have g0 : 0 < g3 t.1 t.2.1 t.2.2 := gI_pos (p := gI t.1 t.2.1) (.inr h1)
  have g1 : (g3 t.1 t.2.1 t.2.2).natAbs < 2 ^ 200 := by
    show (((Nat.gcd (Nat.gcd t.1.natAbs t.2.1.natAbs) t.2.2.natAbs : Nat) : Int)).natAbs < _
    rw [Int.natAbs_natCast]
    exact Nat.lt_of_le_of_lt (Nat.gcd_le_right _ (by omega)) h4
  have cd := wide_of g0 g1
  refine ix_t0 ?_
  refine ix_t1 ?_
  refine ⟨(t.1, t.2.1), rfl, trivial, ?_⟩
  refine ix_t2 ?_
  refine ⟨(gI t.1 t.2.1, t.2.2), rfl, trivial, ?_⟩
  refine ix_t0 ?_
  refine ⟨cd, ?_⟩
  refine ix_t1 ?_
  refine ⟨cd, ?_⟩
  refine ix_t2 ?_
  refine ⟨cd, ?_⟩
  exact ⟨by show 3 ≤ sizeLine; decide, q⟩
end
end L53
set_option maxHeartbeats 2000000
namespace L53
open PySem PySem.Spec PyProof.Rows L2 HG PU LamX
section
variable {P : Program} {w : World} {K : PySem.W.Frag} {mg : Str → Option Value} {base : Heap}
def sp_l_bends : SpD := spF (fun (x : P2 × P2 × P2) => [PU.prD x.1, PU.prD x.2.1, PU.prD x.2.2]) (fun x => Sm (x.1.1 - x.2.1.1) ∧ Sm (x.2.1.2 - x.1.2)) fun x => .bl (bendB x.1 x.2.1 x.2.2)
theorem sub_d {a b : Int} {Q : PU.D → Prop} (q : Q (.int (a - b))) : rInt0 (fun i j => PU.D.int (i - j)) (.int a) (.int b) Q := q
theorem var_d {i : Nat} {ρ : List S} {n : Nat} {d : D} {Q : D → Nat → Prop} (e : gt ρ i = .d d) (q : Q d n) : uVar i ρ n Q := by
  unfold uVar
  rw [e]
  exact q
theorem ok_l_bends (D : Def K mg "_law_bends" s_l_bends ["one", "middle", "two"])
     :
    CalG P w K mg base CX0 1 "_law_bends" ["one", "middle", "two"] (fun _ : Unit => gh0) (fun _ => sp_l_bends) := by
  refine D.uk sc_l_bends (fun i => gh0_ok) (fun _ => mo_F) (fun _ ds n Q E ⟨x, e, _⟩ => by rw [e]; rfl) (fun i f cdv A outer s F H Ev ds n Q E hC hr h => ?_)
  have nd := sc_l_bends.nd
  have hu := hr.units
  obtain ⟨⟨a, m, b⟩, rfl, hp, q⟩ := h
  try dsimp only at q
  refine ⟨_, (us_cons (us_par (i := 3) (j := 4) (ua_cons (ue_tup (ua_cons (ue_op opd_sub (ue_ix (ue_var (i := 0)) ue_int) (ue_ix (ue_var (i := 1)) ue_int)) (ua_cons (ue_op opd_sub (ue_ix (ue_var (i := 1)) ue_int) (ue_ix (ue_var (i := 0)) ue_int)) ua_nil))) (ua_cons (ue_tup (ua_cons (ue_op opd_sub (ue_ix (ue_var (i := 1)) ue_int) (ue_ix (ue_var (i := 2)) ue_int)) (ua_cons (ue_op opd_sub (ue_ix (ue_var (i := 2)) ue_int) (ue_ix (ue_var (i := 1)) ue_int)) ua_nil))) ua_nil)) nd)
      (us_one (us_ret (ue_cmp opd_lt (ue_op opd_mul (ue_ix (ue_var (i := 3)) ue_int) (ue_ix (ue_var (i := 4)) ue_int)) (ue_op opd_mul (ue_ix (ue_var (i := 3)) ue_int) (ue_ix (ue_var (i := 4)) ue_int)))))), ?_⟩
  obtain ⟨h1, h2⟩ := hp
  dsimp only at h1 h2
  unfold uSeq uPar
  simp only [uCons, uTup, uOp, uC, uNil]
  refine var_d (i := 0) (ρ := [.d (PU.prD a), .d (PU.prD m), .d (PU.prD b), .u, .u]) (d := PU.prD a) rfl ?_
  refine ix_t0 (x := .int a.1) (r := [.int a.2]) ?_
  refine var_d (i := 1) (ρ := [.d (PU.prD a), .d (PU.prD m), .d (PU.prD b), .u, .u]) (d := PU.prD m) rfl ?_
  refine ix_t0 (x := .int m.1) (r := [.int m.2]) ?_
  refine sub_d ?_
  refine var_d (i := 1) (ρ := [.d (PU.prD a), .d (PU.prD m), .d (PU.prD b), .u, .u]) (d := PU.prD m) rfl ?_
  refine ix_t1 (w := .int m.1) (x := .int m.2) (r := []) ?_
  refine var_d (i := 0) (ρ := [.d (PU.prD a), .d (PU.prD m), .d (PU.prD b), .u, .u]) (d := PU.prD a) rfl ?_
  refine ix_t1 (w := .int a.1) (x := .int a.2) (r := []) ?_
  refine sub_d ?_
  refine ⟨by show 2 ≤ sizeLine; decide, ?_⟩
  refine var_d (i := 1) (ρ := [.d (PU.prD a), .d (PU.prD m), .d (PU.prD b), .u, .u]) (d := PU.prD m) rfl ?_
  refine ix_t0 (x := .int m.1) (r := [.int m.2]) ?_
  refine var_d (i := 2) (ρ := [.d (PU.prD a), .d (PU.prD m), .d (PU.prD b), .u, .u]) (d := PU.prD b) rfl ?_
  refine ix_t0 (x := .int b.1) (r := [.int b.2]) ?_
  refine sub_d ?_
  refine var_d (i := 2) (ρ := [.d (PU.prD a), .d (PU.prD m), .d (PU.prD b), .u, .u]) (d := PU.prD b) rfl ?_
  refine ix_t1 (w := .int b.1) (x := .int b.2) (r := []) ?_
  refine var_d (i := 1) (ρ := [.d (PU.prD a), .d (PU.prD m), .d (PU.prD b), .u, .u]) (d := PU.prD m) rfl ?_
  refine ix_t1 (w := .int m.1) (x := .int m.2) (r := []) ?_
  refine sub_d ?_
  refine ⟨by show 2 ≤ sizeLine; decide, ?_⟩
  unfold uRet
  simp only [uOp, uC]
  refine var_d (i := 3) (ρ := [.d (PU.prD a), .d (PU.prD m), .d (PU.prD b), .d (.tup [.int (a.1 - m.1), .int (m.2 - a.2)]), .d (.tup [.int (m.1 - b.1), .int (b.2 - m.2)])]) (d := .tup [.int (a.1 - m.1), .int (m.2 - a.2)]) rfl ?_
  refine ix_t0 (x := .int (a.1 - m.1)) (r := [.int (m.2 - a.2)]) ?_
  refine var_d (i := 4) (ρ := [.d (PU.prD a), .d (PU.prD m), .d (PU.prD b), .d (.tup [.int (a.1 - m.1), .int (m.2 - a.2)]), .d (.tup [.int (m.1 - b.1), .int (b.2 - m.2)])]) (d := .tup [.int (m.1 - b.1), .int (b.2 - m.2)]) rfl ?_
  refine ix_t1 (w := .int (m.1 - b.1)) (x := .int (b.2 - m.2)) (r := []) ?_
  refine ⟨.inl h1, ?_⟩
  refine var_d (i := 3) (ρ := [.d (PU.prD a), .d (PU.prD m), .d (PU.prD b), .d (.tup [.int (a.1 - m.1), .int (m.2 - a.2)]), .d (.tup [.int (m.1 - b.1), .int (b.2 - m.2)])]) (d := .tup [.int (a.1 - m.1), .int (m.2 - a.2)]) rfl ?_
  refine ix_t1 (w := .int (a.1 - m.1)) (x := .int (m.2 - a.2)) (r := []) ?_
  refine var_d (i := 4) (ρ := [.d (PU.prD a), .d (PU.prD m), .d (PU.prD b), .d (.tup [.int (a.1 - m.1), .int (m.2 - a.2)]), .d (.tup [.int (m.1 - b.1), .int (b.2 - m.2)])]) (d := .tup [.int (m.1 - b.1), .int (b.2 - m.2)]) rfl ?_
  refine ix_t0 (x := .int (m.1 - b.1)) (r := [.int (b.2 - m.2)]) ?_
  refine ⟨.inl h2, ?_⟩
  have q : Q (.bl (decide ((a.1 - m.1) * (b.2 - m.2) < (m.2 - a.2) * (m.1 - b.1)))) n := q
  exact q
end
end L53
set_option maxHeartbeats 2000000
namespace L53
open PySem PySem.Spec PyProof.Rows L2 HG PU LamX
structure Tc (t : P3) : Prop where
  a : In 40 t.1
  b : In 40 t.2.1
  c1 : 1 ≤ t.2.2
  c2 : t.2.2 ≤ 12
def lcmS (m : Int) (t : P3) : Int := m * t.2.2 / gI m t.2.2
def lcmF (ts : List P3) : Int := ts.foldl lcmS 1
def evenI (m : Int) (t : P3) : P2 := (t.1 * (m / t.2.2), t.2.1 * (m / t.2.2))
def evens (ts : List P3) : List P2 := ts.map (evenI (lcmF ts))
/-- a number that goes into 27720 -/
def Lc (m : Int) : Prop := ∃ M : Nat, m = (M : Int) ∧ 0 < M ∧ M ∣ 27720
theorem small_dvd {k : Nat} (h1 : 1 ≤ k) (h2 : k ≤ 12) : k ∣ 27720 := by
  have : ∀ k, k < 13 → 1 ≤ k → k ∣ 27720 := by decide
  exact this k (by omega) h1
theorem lcm_step {m : Int} {t : P3} (h : Lc m) (ht : Tc t) : Lc (lcmS m t) ∧ (∃ z, lcmS m t = m * z) ∧ ∃ z, lcmS m t = t.2.2 * z := by
  obtain ⟨M, rfl, p, d⟩ := h
  obtain ⟨k, hk⟩ := Int.eq_ofNat_of_zero_le (show 0 ≤ t.2.2 by have := ht.c1; omega)
  have k1 : 1 ≤ k := by have := ht.c1; omega
  have k2 : k ≤ 12 := by have := ht.c2; omega
  have e : lcmS M t = ((Nat.lcm M k : Nat) : Int) := by
    unfold lcmS gI
    rw [hk]
    simp only [Int.natAbs_natCast]
    unfold Nat.lcm
    rw [Int.natCast_ediv, Int.natCast_mul]
  rw [e]
  refine ⟨⟨_, rfl, Nat.lcm_pos p (by omega), Nat.lcm_dvd d (small_dvd k1 k2)⟩, ?_, ?_⟩
  · obtain ⟨z, hz⟩ := Nat.dvd_lcm_left M k
    exact ⟨(z : Int), by rw [hz, Int.natCast_mul]⟩
  · obtain ⟨z, hz⟩ := Nat.dvd_lcm_right M k
    exact ⟨(z : Int), by rw [hz, Int.natCast_mul, hk]⟩
theorem lc_small {m : Int} (h : Lc m) : 1 ≤ m ∧ m ≤ 27720 := by
  obtain ⟨M, rfl, p, d⟩ := h
  have := Nat.le_of_dvd (by decide) d
  omega
theorem lcm_fold : ∀ {ts : List P3} {m : Int}, Lc m → (∀ t ∈ ts, Tc t) → Lc (ts.foldl lcmS m) ∧ (∃ z, ts.foldl lcmS m = m * z) ∧ ∀ t ∈ ts, ∃ z, ts.foldl lcmS m = t.2.2 * z
  | [], m, h, _ => ⟨h, ⟨1, by rw [Int.mul_one]; rfl⟩, fun _ z => nomatch z⟩
  | t :: r, m, h, g => by
    obtain ⟨a, ⟨z, hz⟩, y, hy⟩ := lcm_step h (g t List.mem_cons_self)
    obtain ⟨b, ⟨x, hx⟩, c⟩ := lcm_fold (ts := r) a fun t m => g t (List.mem_cons_of_mem _ m)
    refine ⟨b, ⟨z * x, ?_⟩, fun t' m' => ?_⟩
    · show r.foldl lcmS (lcmS m t) = _
      rw [hx, hz, Int.mul_assoc]
    · rcases List.mem_cons.mp m' with rfl | m'
      · refine ⟨y * x, ?_⟩
        show r.foldl lcmS (lcmS m t') = _
        rw [hx, hy, Int.mul_assoc]
      · exact c t' m'
theorem lc_one : Lc 1 := ⟨1, rfl, by decide, by decide⟩
theorem Tc.sm {t : P3} (h : Tc t) : Sm t.2.2 := by
  have h1 := h.c1
  have h2 := h.c2
  have : (2 : Int) ^ 64 = 18446744073709551616 := by decide
  exact ⟨by omega, by omega⟩
theorem Tc.tb {t : P3} (h : Tc t) : Tb t := ⟨h.a, h.b, by
  have h1 := h.c1
  have h2 := h.c2
  unfold In
  have : (2 : Nat) ^ 10 = 1024 := by decide
  omega⟩
theorem in40_sm {i : Int} (h : In 40 i) : Sm i := (h.up (by decide)).sm
theorem in200 {i : Int} (h1 : -1000000 < i) (h2 : i < 1000000) : In 200 i := by
  have : In 40 i := in_of (by omega) (by omega)
  exact this.up (by decide)
theorem getT {f : P3 → D} {l : List P3} {e : Nat} {x : D} (h : (l.map f)[e]? = some x) : ∃ y, l[e]? = some y ∧ x = f y := getmapP h
section
variable {P : Program} {w : World} {K : PySem.W.Frag} {mg : Str → Option Value} {base : Heap}
def sp_l_evened : SpD := spF (fun (x : D × List P3) => [x.1]) (fun x => (x.1 = .lst (x.2.map trD) ∨ x.1 = .tup (x.2.map trD)) ∧ x.2.length < 1000 ∧ ∀ t ∈ x.2, Tc t) fun x => .lst ((evens x.2).map PU.prD)
theorem ok_l_evened (D : Def K mg "_law_evened" s_l_evened ["some"])
    (c__law_gcd : CalG P w K mg base CX0 1 "_law_gcd" ["one", "two"] (fun _ : Unit => gh0) (fun _ => sp_l_gcd))
     :
    CalG P w K mg base CX0 2 "_law_evened" ["some"] (fun _ : Unit => gh0) (fun _ => sp_l_evened) := by
  refine D.uk sc_l_evened (fun i => gh0_ok) (fun _ => mo_F) (fun _ ds n Q E ⟨x, e, _⟩ => by rw [e]; rfl) (fun i f cdv A outer s F H Ev ds n Q E hC hr h => ?_)
  have nd := sc_l_evened.nd
  have hu := hr.units
  obtain ⟨⟨bd, ts⟩, rfl, hp, q⟩ := h
  try dsimp only at q
  refine ⟨_, (us_cons (us_set (i := 1) ue_int nd)
      (us_cons (us_for (ui_row (ue_var (i := 0))) (ug_name (i := 2) nd)
      (us_one (us_set (i := 1) (ue_op opd_fdivW (ue_op opd_mul (ue_var (i := 1)) (ue_ix (ue_var (i := 2)) ue_int)) (uc_p c__law_gcd hr pass0 (ua_cons (ue_var (i := 1)) (ua_cons (ue_ix (ue_var (i := 2)) ue_int) ua_nil)))) nd)))
      (us_one (us_ret (UL.ue (ul_lc (own := [("one", 2)]) hC nd (ui_row (ue_var (i := 0))) (blkOk_by (own := [("one", 2)]) (N := ["some", "many", "one"]) (sc := defScope s_l_evened) (by decide +kernel)) (fun _ _ _ _ _ => (ug_name (i := 2) nd)) (fun _ _ _ _ _ => uts_nil) (fun _ _ _ _ _ => (ue_tup (ua_cons (ue_op opd_mul (ue_ix (ue_var (i := 2)) ue_int) (ue_op opd_fdiv (ue_var (i := 1)) (ue_ix (ue_var (i := 2)) ue_int))) (ua_cons (ue_op opd_mul (ue_ix (ue_var (i := 2)) ue_int) (ue_op opd_fdiv (ue_var (i := 1)) (ue_ix (ue_var (i := 2)) ue_int))) ua_nil)))))))))), ?_⟩
  have S0 : ∀ {bd : PU.D} {ds : List PU.D} {ρ : List S} {n : Nat} {Q : List PU.D → Nat → Prop}, gt ρ 0 = .d bd → (bd = .lst ds ∨ bd = .tup ds) → Q ds n → uSeqI (uVar 0) ρ n Q := fun e h q => by
    unfold uSeqI uVar
    rw [e]
    rcases h with rfl | rfl <;> exact q
  generalize uSeqI (uVar 0) = U0 at S0 ⊢
  
  obtain ⟨h1, h2, h3⟩ := hp
  dsimp only at h1 h2 h3
  have sz : sizeLine = 16777216 := sizeLine_eq
  show U0 _ _ _
  refine S0 (bd := bd) (ds := ts.map trD) rfl h1 ?_
  refine ⟨fun i ρ k => k = n ∧ ∃ y, ρ = [.d bd, .d (.int ((ts.take i).foldl lcmS 1)), y], ⟨rfl, _, rfl⟩, fun i x ρ k hx hp => ?_, fun ρ k hp => ?_⟩
  · obtain ⟨rfl, y, rfl⟩ := hp
    obtain ⟨t, ht, rfl⟩ := getT hx
    have tm := h3 t (List.mem_of_getElem? ht)
    have lf := (lcm_fold (ts := ts.take i) lc_one fun t m => h3 t (List.mem_of_mem_take m)).1
    have nx : (ts.take (i + 1)).foldl lcmS 1 = lcmS ((ts.take i).foldl lcmS 1) t := by
      rw [List.take_succ, ht, List.foldl_append]
      rfl
    have ls := lc_small lf
    generalize (ts.take i).foldl lcmS 1 = m at lf ls nx ⊢
    have c1 := tm.c1
    have c2 := tm.c2
    refine ix_t2 ?_
    refine ⟨.inr tm.sm, ?_⟩
    refine ix_t2 ?_
    refine ⟨(m, t.2.2), rfl, trivial, ?_⟩
    have g0 : 0 < gI m t.2.2 := gI_pos (.inl (by omega))
    have g1 := gI_le (p := m) (q := t.2.2) (.inl (by omega)) (in200 (by omega) (by omega)) (in200 (by omega) (by omega))
    refine ⟨wide_of g0 g1, ?_⟩
    show k = k ∧ ∃ y, _ = [S.d bd, S.d (.int ((ts.take (i + 1)).foldl lcmS 1)), y]
    rw [nx]
    exact ⟨rfl, _, rfl⟩
  · obtain ⟨rfl, y, rfl⟩ := hp
    have hl : ts.take (ts.map trD).length = ts := by rw [List.length_map, List.take_length]
    rw [hl]
    have lf := (lcm_fold (ts := ts) lc_one h3).1
    have ls := lc_small lf
    have q : Q (.lst ((ts.map (evenI (ts.foldl lcmS 1))).map PU.prD)) k := q
    generalize ts.foldl lcmS 1 = m at lf ls q ⊢
    show U0 _ _ _
    refine S0 (bd := bd) (ds := ts.map trD) rfl h1 ?_
    refine ⟨fun i acc k' => k' = k ∧ acc = ((ts.take i).map (evenI m)).map PU.prD, ⟨rfl, rfl⟩, fun i x acc k' hx hp => ?_, fun acc k' hp => ?_⟩
    · obtain ⟨rfl, rfl⟩ := hp
      obtain ⟨t, ht, rfl⟩ := getT hx
      have tm := h3 t (List.mem_of_getElem? ht)
      have c1 := tm.c1
      have c2 := tm.c2
      refine ix_t0 ?_
      refine ix_t2 ?_
      refine ⟨⟨by omega, by omega⟩, ?_⟩
      refine ⟨.inl (in40_sm tm.a), ?_⟩
      refine ix_t1 ?_
      refine ix_t2 ?_
      refine ⟨⟨by omega, by omega⟩, ?_⟩
      refine ⟨.inl (in40_sm tm.b), ?_⟩
      refine ⟨by show 2 ≤ sizeLine; decide, by rw [List.length_map, List.length_map, List.length_take]; omega, rfl, ?_⟩
      rw [List.take_succ, ht, List.map_append, List.map_append]
      rfl
    · obtain ⟨rfl, rfl⟩ := hp
      rw [hl]
      exact q
end
end L53
set_option maxHeartbeats 2000000
namespace L53
open PySem PySem.Spec PyProof.Rows L2 HG PU LamX
theorem pyA_ints : ∀ (ns : List Int), pyA (ns.map .int) = some (ns.map PyData.int)
  | [] => by simp [pyA]
  | n :: r => by simp [pyA, D.py, pyA_ints r]
theorem ne_nil {ns : List Int} {Q : D → Prop} (q : Q (.bl (!ns.isEmpty))) : rEqA not (.lst (ns.map .int)) (.lst []) Q := by
  show PU.rEqD not _ _ _
  unfold PU.rEqD
  have e1 : (D.lst (ns.map .int)).py = some (.list (ns.map PyData.int)) := by
    simp only [D.py, pyA_ints]
    rfl
  have e2 : (D.lst []).py = some (.list (([] : List Int).map PyData.int)) := by
    simp only [D.py, pyA]
    rfl
  rw [e1, e2]
  refine ⟨shaped_ints _, shaped_ints [], ?_⟩
  cases ns with
  | nil => exact q
  | cons a r =>
    have e : PyData.eqv (.list ((a :: r).map PyData.int)) (.list (([] : List Int).map PyData.int)) = false := by
      simp [PyData.eqv, PyData.eqvAll]
    rw [e]
    exact q
theorem all_filter {α : Type} {p : α → Bool} (l : List α) : (l.filter fun c => !p c).isEmpty = l.all p := by
  rw [Bool.eq_iff_iff]
  simp only [List.isEmpty_iff, List.filter_eq_nil_iff, List.all_eq_true]
  simp
theorem filter_next {α : Type} {p : α → Bool} {l : List α} {e : Nat} {x : α} (h : l[e]? = some x) : (l.take (e + 1)).filter p = if p x = true then (l.take e).filter p ++ [x] else (l.take e).filter p := by
  rw [List.take_succ, h, List.filter_append]
  show _ ++ [x].filter p = _
  cases q : p x
  · rw [List.filter_cons_of_neg (by simp [q])]; simp
  · rw [List.filter_cons_of_pos q]; simp
theorem nt {b : Bool} (h : (!b) = true) : b = false := by
  cases b
  · rfl
  · cases h
theorem nf {b : Bool} (h : (!b) = false) : b = true := by
  cases b
  · cases h
  · rfl
def pyT (t : P3) : PyData := .tuple [.int t.1, .int t.2.1, .int t.2.2]
theorem py_tr (t : P3) : (trD t).py = some (pyT t) := by simp only [trD, D.py, pyA, Option.map, pyT]
theorem eqv_tr (p q : P3) : PyData.eqv (pyT p) (pyT q) = decide (p = q) := by
  obtain ⟨a, b, c⟩ := p
  obtain ⟨d, e, f⟩ := q
  simp only [pyT, PyData.eqv, PyData.eqvAll, Bool.and_true]
  by_cases h1 : a = d <;> by_cases h2 : b = e <;> by_cases h3 : c = f <;> simp [h1, h2, h3]
theorem shaped_tr (p : P3) : SeqAt.shaped (pyT p) = true := by
  show (PyData.canLay0 _ && decide (PyData.depth _ ≤ 64)) = true
  simp [pyT, PyData.canLay0, PyData.canLayAll0, PyData.depth, PyData.depthAll]
theorem eqA_tr {f : Bool → Bool} {p r : P3} {Q : D → Prop} (q : Q (.bl (f (decide (p = r))))) : rEqA f (trD p) (trD r) Q := by
  show PU.rEqD f (trD p) (trD r) Q
  unfold PU.rEqD
  rw [py_tr, py_tr]
  refine ⟨shaped_tr p, shaped_tr r, ?_⟩
  rw [eqv_tr]
  exact q
theorem red_same {t : P3} (h : 1 ≤ t.2.2) : decide (redT t = t) = decide (g3 t.1 t.2.1 t.2.2 = 1) := by
  have g0 : 0 < g3 t.1 t.2.1 t.2.2 := gI_pos (p := gI t.1 t.2.1) (.inr (by omega))
  refine decide_eq_decide.mpr ⟨fun e => ?_, fun e => ?_⟩
  · have e3 : t.2.2 / g3 t.1 t.2.1 t.2.2 = t.2.2 := congrArg (fun z : P3 => z.2.2) e
    generalize g3 t.1 t.2.1 t.2.2 = g at *
    by_cases z : g = 1
    · exact z
    · exfalso
      have : t.2.2 / g < t.2.2 := Int.ediv_lt_of_lt_mul g0 (by
        have : t.2.2 * 1 < t.2.2 * g := Int.mul_lt_mul_of_pos_left (by omega) (by omega)
        omega)
      omega
  · unfold redT
    rw [e, Int.ediv_one, Int.ediv_one, Int.ediv_one]
section
variable {P : Program} {w : World} {K : PySem.W.Frag} {mg : Str → Option Value} {base : Heap}
def sp_l_is_triple_so : SpD := spF (fun d => [d]) (fun d => fine d = true ∧ ∀ t, d = trD t → In 200 t.1 ∧ In 200 t.2.1 ∧ In 200 t.2.2) fun d => .bl (isMean d)
theorem ok_l_is_triple_so (D : Def K mg "_law_is_triple_so" s_l_is_triple_so ["one"])
    (z_isinstance : mg "isinstance" = none)
    (z_len : mg "len" = none)
    (z_tuple : mg "tuple" = none)
    (c__law_is_number : CalG P w K mg base CX0 1 "_law_is_number" ["item"] (fun _ : Unit => gh0) (fun _ => sp_l_is_number))
    (c__law_reduced : CalG P w K mg base CX0 2 "_law_reduced" ["one"] (fun _ : Unit => gh0) (fun _ => sp_l_reduced))
     :
    CalG P w K mg base CX0 3 "_law_is_triple_so" ["one"] (fun _ : Unit => gh0) (fun _ => sp_l_is_triple_so) := by
  refine D.uk sc_l_is_triple_so (fun i => gh0_ok) (fun _ => mo_F) (fun _ ds n Q E ⟨x, e, _⟩ => by rw [e]; rfl) (fun i f cdv A outer s F H Ev ds n Q E hC hr h => ?_)
  have nd := sc_l_is_triple_so.nd
  have hu := hr.units
  obtain ⟨d, rfl, hp, q⟩ := h
  try dsimp only at q
  refine ⟨_, (us_cons (us_if (UW.ut (uw_or (ut_not (ut_val (ue_isi .tuple (ue_var (i := 0)) z_isinstance z_tuple))) (uw_or (ut_cmp (opd_neA hu) (ue_callB cd_len z_len (ua_cons (ue_var (i := 0)) ua_nil)) ue_int) (uw_or1 (ut_cmp (opd_neA hu) (UL.ue (ul_lc (own := [("part", 1)]) hC nd (ui_row (ue_var (i := 0))) (blkOk_by (own := [("part", 1)]) (N := ["one", "part"]) (sc := defScope s_l_is_triple_so) (by decide +kernel)) (fun _ _ _ _ _ => (ug_name (i := 1) nd)) (fun _ _ _ _ _ => (uts_one (ut_not (ut_val (uc_p c__law_is_number hr pass0 (ua_cons (ue_var (i := 1)) ua_nil)))))) (fun _ _ _ _ _ => ue_int))) (UL.ue (ul_lst ua_nil))))))) (us_one (us_ret ue_bl)) us_nil)
      (us_one (us_ret (ue_and (ue_cmp opd_ge (ue_ix (ue_var (i := 0)) ue_int) ue_int) (ue_one (ue_cmp (opd_eqA hu) (uc_p c__law_reduced hr pass0 (ua_cons (ue_var (i := 0)) ua_nil)) (ue_var (i := 0)))))))), ?_⟩
  obtain ⟨h1, h2⟩ := hp
  have no : ∀ {d : PU.D}, isMean d = false → Q (.bl (isMean d)) n → Q (.bl false) n := fun z q => by
    rw [z] at q
    exact q
  cases d with
  | tup xs =>
    have ha := (fine_tup h1).2
    refine ite_b (b := !decide ((xs.length : Int) = 3)) (fun e => ?_) fun e => ?_
    · have e : ¬ (xs.length : Int) = 3 := by simpa using e
      refine no ?_ q
      cases z : isMean (.tup xs) with
      | false => rfl
      | true =>
        have := mean_three z
        have this : decide ((xs.length : Int) = 3) = true := this
        exact absurd (of_decide_eq_true this) e
    · have e : (xs.length : Int) = 3 := by simpa using e
      obtain ⟨x, y, z, e2⟩ := three_to (d := .tup xs) (decide_eq_true e)
      cases e2
      refine ⟨fun i acc k' => k' = n ∧ acc = ((([x, y, z].take i).filter fun c => !isNum c).map fun _ => (1 : Int)).map .int, ⟨rfl, rfl⟩, fun i v acc k' hx hp => ?_, fun acc k' hp => ?_⟩
      · obtain ⟨rfl, rfl⟩ := hp
        refine ⟨v, rfl, ha v (List.mem_of_getElem? hx), ite_b (fun e3 => ⟨?_, rfl, ?_⟩) fun e3 => ⟨rfl, ?_⟩⟩
        · have := List.length_filter_le (fun c => !isNum c) ([x, y, z].take i)
          have sz : sizeLine = 16777216 := sizeLine_eq
          rw [List.length_take] at this
          rw [List.length_map, List.length_map]
          simp only [List.length_cons, List.length_nil] at this
          omega
        · rw [filter_next hx, if_pos e3, List.map_append, List.map_append]
          rfl
        · rw [filter_next hx, if_neg (by rw [show (!isNum v) = false from e3]; exact Bool.false_ne_true)]
      · obtain ⟨rfl, rfl⟩ := hp
        rw [show [x, y, z].take [x, y, z].length = [x, y, z] from rfl]
        refine ⟨by show 0 ≤ sizeLine; decide, ne_nil ?_⟩
        have e4 : ((([x, y, z].filter fun c => !isNum c).map fun _ => (1 : Int))).isEmpty = [x, y, z].all isNum := by
          rw [List.isEmpty_map, all_filter]
        rw [e4]
        refine ite_b (fun e5 => ?_) fun e5 => ?_
        · refine no ?_ q
          have e5 : [x, y, z].all isNum = false := nt e5
          cases zz : isMean (.tup [x, y, z]) with
          | false => rfl
          | true =>
            rw [mean_nums zz] at e5
            cases e5
        · obtain ⟨a, b, c, rfl, rfl, rfl⟩ := nums_to (x := x) (y := y) (z := z) (nf e5)
          obtain ⟨i1, i2, i3⟩ := h2 (a, b, c) rfl
          have q : Q (.bl (decide (1 ≤ c) && decide (g3 a b c = 1))) k' := q
          refine ix_t2 ?_
          refine ite_b (b := decide (1 ≤ c)) (fun e6 => ?_) fun e6 => ?_
          · have c1 : 1 ≤ c := of_decide_eq_true e6
            rw [e6, Bool.true_and] at q
            refine ⟨(a, b, c), rfl, ⟨by show c ≠ 0; omega, i1, i2, i3⟩, ?_⟩
            show uVar 0 [.d (trD (a, b, c)), .u] _ _
            refine var_d (d := trD (a, b, c)) rfl ?_
            refine eqA_tr (p := redT (a, b, c)) (r := (a, b, c)) ?_
            rw [red_same c1]
            exact q
          · rw [e6, Bool.false_and] at q
            exact q
  | _ => first | exact q | cases h1
end
end L53
set_option maxHeartbeats 2000000
namespace L53
open PySem PySem.Spec PyProof.Rows L2 HG PU LamX
structure OrdI (fs : List P2) : Prop where
  c : ∀ (i : Nat) (x y : P2), fs[i]? = some x → fs[i + 1]? = some y → y.1 < x.1 ∧ x.2 < y.2
  b : ∀ (i : Nat) (x y z : P2), fs[i]? = some x → fs[i + 1]? = some y → fs[i + 2]? = some z → bendB x y z = true
theorem OrdI.nil : OrdI [] := ⟨fun i x y h => by simp at h, fun i x y z h => by simp at h⟩
theorem getA {α : Type} {fs : List α} {p x : α} {i : Nat} (h : fs[i]? = some x) : (fs ++ [p])[i]? = some x := by
  have l := (List.getElem?_eq_some_iff.mp h).1
  rw [List.getElem?_append_left l, h]
theorem OrdI.pre {fs : List P2} {p : P2} (h : OrdI (fs ++ [p])) : OrdI fs :=
  ⟨fun i x y h1 h2 => h.c i x y (getA h1) (getA h2), fun i x y z h1 h2 h3 => h.b i x y z (getA h1) (getA h2) (getA h3)⟩
theorem getB {α : Type} {fs : List α} {p x : α} {i : Nat} (h : (fs ++ [p])[i]? = some x) : (i < fs.length ∧ fs[i]? = some x) ∨ (i = fs.length ∧ x = p) := by
  by_cases l : i < fs.length
  · rw [List.getElem?_append_left l] at h
    exact .inl ⟨l, h⟩
  · have l2 := (List.getElem?_eq_some_iff.mp h).1
    rw [List.length_append, List.length_singleton] at l2
    have e : i = fs.length := by omega
    subst e
    rw [List.getElem?_append_right (Nat.le_refl _), Nat.sub_self] at h
    cases h
    exact .inr ⟨rfl, rfl⟩
theorem OrdI.snoc {fs : List P2} {p : P2} (h : OrdI fs) (c : ∀ l, fs[fs.length - 1]? = some l → p.1 < l.1 ∧ l.2 < p.2) (b : ∀ x l, 2 ≤ fs.length → fs[fs.length - 2]? = some x → fs[fs.length - 1]? = some l → bendB x l p = true) : OrdI (fs ++ [p]) := by
  refine ⟨fun i x y h1 h2 => ?_, fun i x y z h1 h2 h3 => ?_⟩
  · rcases getB h2 with ⟨l2, h2⟩ | ⟨e, rfl⟩
    · rcases getB h1 with ⟨_, h1⟩ | ⟨e, _⟩
      · exact h.c i x y h1 h2
      · omega
    · rcases getB h1 with ⟨_, h1⟩ | ⟨e', _⟩
      · exact c x (by rw [show fs.length - 1 = i by omega]; exact h1)
      · omega
  · rcases getB h3 with ⟨l3, h3⟩ | ⟨e, rfl⟩
    · rcases getB h2 with ⟨_, h2⟩ | ⟨e, _⟩
      · rcases getB h1 with ⟨_, h1⟩ | ⟨e, _⟩
        · exact h.b i x y z h1 h2 h3
        · omega
      · omega
    · rcases getB h2 with ⟨_, h2⟩ | ⟨e', _⟩
      · rcases getB h1 with ⟨_, h1⟩ | ⟨e', _⟩
        · exact b x y (by omega) (by rw [show fs.length - 2 = i by omega]; exact h1) (by rw [show fs.length - 1 = i + 1 by omega]; exact h2)
        · omega
      · omega
def ngP (p : P2) : P2 := (-p.1, -p.2)
theorem ng_ng (p : P2) : ngP (ngP p) = p := by
  unfold ngP
  rw [Int.neg_neg, Int.neg_neg]
theorem le_anti {p q : P2} (h1 : leP p q) (h2 : leP q p) : p = q := by
  unfold leP at h1 h2
  exact Prod.ext (by omega) (by omega)
theorem sorted_one : ∀ {l m : List P2}, l.Perm m → l.Pairwise leP → m.Pairwise leP → l = m
  | [], m, h, _, _ => (List.Perm.eq_nil h.symm).symm
  | x :: l, [], h, _, _ => absurd h.length_eq (by simp)
  | x :: l, y :: m, h, h1, h2 => by
    rw [List.pairwise_cons] at h1 h2
    have e : x = y := by
      rcases List.mem_cons.mp (h.mem_iff.mp (List.mem_cons_self (a := x) (l := l))) with e | hx
      · exact e
      · rcases List.mem_cons.mp (h.mem_iff.mpr (List.mem_cons_self (a := y) (l := m))) with e | hy
        · exact e.symm
        · exact le_anti (h1.1 y hy) (h2.1 x hx)
    subst e
    rw [sorted_one h.cons_inv h1.2 h2.2]
/-- what the hull of pairs is known by -/
structure HullOk (ps H : List P2) : Prop where
  ord : OrdI H
  sub : ∀ p ∈ H, p ∈ ps
  ne : ps ≠ [] → H ≠ []
  same : OrdI ps → H = ps
  le : H.length ≤ ps.length
theorem ord_lt {ps : List P2} (h : OrdI ps) : ∀ {k i : Nat} {x y : P2}, ps[i]? = some x → ps[i + k + 1]? = some y → y.1 < x.1
  | 0, i, x, y, h1, h2 => (h.c i x y h1 h2).1
  | k + 1, i, x, y, h1, h2 => by
    have l := (List.getElem?_eq_some_iff.mp h2).1
    have hz : ps[i + k + 1]? = some ps[i + k + 1] := List.getElem?_eq_getElem (by omega)
    have a := ord_lt h (k := k) h1 hz
    have b := (h.c (i + k + 1) _ y hz h2).1
    omega
theorem ord_sorted {ps : List P2} (h : OrdI ps) : (ps.map ngP).Pairwise leP := by
  rw [List.pairwise_map, List.pairwise_iff_getElem]
  intro i j hi hj lt
  obtain ⟨k, rfl⟩ : ∃ k, j = i + k + 1 := ⟨j - i - 1, by omega⟩
  have := ord_lt h (k := k) (List.getElem?_eq_getElem hi) (List.getElem?_eq_getElem hj)
  refine .inl ?_
  show -ps[i].1 < -ps[i + k + 1].1
  omega
theorem at_neg {α : Type} {xs : List α} {k : Nat} (h1 : 1 ≤ k) (h2 : k ≤ xs.length) : atI xs (-(k : Int)) = xs[xs.length - k]? := by
  unfold atI ixN
  rw [if_neg (by omega), if_pos (by omega)]
  show xs[(-(k : Int) + xs.length).toNat]? = _
  rw [show (-(k : Int) + xs.length).toNat = xs.length - k by omega]
structure HI (ps us : List P2) (i : Nat) (fs : List P2) : Prop where
  ord : OrdI fs
  sub : ∀ f ∈ fs, f ∈ us.take i
  ne : 0 < i → fs ≠ []
  same : OrdI ps → fs = us.take i
  le : fs.length ≤ i
theorem in56 {a b : Int} (h1 : In 56 a) (h2 : In 56 b) : Sm (a - b) := ((in_sub h1 h2).up (by decide)).sm
theorem mem_takeS {α : Type} {l : List α} {i : Nat} {x : α} (h : x ∈ l.take i) : x ∈ l.take (i + 1) := by
  rw [List.take_succ]
  exact List.mem_append_left _ h
theorem last_mem {α : Type} {l : List α} {j : Nat} {x : α} (h : l[j]? = some x) : x ∈ l := List.mem_of_getElem? h
/-- what stands behind the while -/
theorem hull_app {ps us fs : List P2} {i : Nat} {p : P2} (hp : us[i]? = some p) (o : OrdI fs) (sub : ∀ f ∈ fs, f ∈ us.take i) (same : OrdI ps → fs = us.take i)
    (le : fs.length ≤ i) (top : ∀ l, fs[fs.length - 1]? = some l → p.1 < l.1 ∧ l.2 < p.2) (bn : ∀ x l, 2 ≤ fs.length → fs[fs.length - 2]? = some x → fs[fs.length - 1]? = some l → bendB x l p = true) : HI ps us (i + 1) (fs ++ [p]) := by
  refine ⟨o.snoc top bn, fun f m => ?_, (fun _ z => by simp at z), fun z => ?_, by rw [List.length_append]; exact Nat.succ_le_succ le⟩
  · rcases List.mem_append.mp m with m | m
    · exact mem_takeS (sub f m)
    · rw [List.mem_singleton.mp m, List.take_succ, hp]
      exact List.mem_append_right _ (by simp)
  · rw [List.take_succ, hp, same z]
    rfl
theorem ix_neg {xs : List P2} {k : Nat} {x : P2} {Q : PU.D → Prop} (h1 : 1 ≤ k) (h2 : k ≤ xs.length) (h : xs[xs.length - k]? = some x) (q : Q (PU.prD x)) : PU.rIx (.lst (xs.map PU.prD)) (.int (-(k : Int))) Q := by
  have e : atI (xs.map PU.prD) (-(k : Int)) = some (PU.prD x) := by
    rw [at_neg h1 (by rw [List.length_map]; exact h2), List.length_map, List.getElem?_map, h]
    rfl
  unfold PU.rIx
  simp only [e]
  exact q
theorem at_lt {α : Type} {xs : List α} {k : Nat} (h1 : 1 ≤ k) (h2 : k ≤ xs.length) : ∃ x, xs[xs.length - k]? = some x := ⟨_, List.getElem?_eq_getElem (by omega)⟩
/-- one corner goes -/
theorem pop_top {gs : List P2} {l p : P2} (o : OrdI (gs ++ [l])) (top : ∀ l', (gs ++ [l])[(gs ++ [l]).length - 1]? = some l' → p.1 < l'.1 ∧ l'.2 < p.2) : ∀ l', gs[gs.length - 1]? = some l' → p.1 < l'.1 ∧ l'.2 < p.2 := fun l' h => by
  have t := top l (by rw [List.length_append, List.length_singleton, Nat.add_sub_cancel, List.getElem?_append_right (Nat.le_refl _), Nat.sub_self]; rfl)
  have hl := (List.getElem?_eq_some_iff.mp h).1
  have c := o.c (gs.length - 1) l' l (getA h) (by rw [show gs.length - 1 + 1 = gs.length by omega, List.getElem?_append_right (Nat.le_refl _), Nat.sub_self]; rfl)
  omega
theorem no_pop {ps us fs : List P2} {i : Nat} {x l p : P2} (uo : OrdI ps → us = ps) (hp : us[i]? = some p) (same : OrdI ps → fs = us.take i) (two : 2 ≤ fs.length) (hx : fs[fs.length - 2]? = some x) (hl : fs[fs.length - 1]? = some l) (bn : bendB x l p = false) : ¬ OrdI ps := fun z => by
  have e1 := same z
  have e2 := uo z
  have hi := (List.getElem?_eq_some_iff.mp hp).1
  have fl : fs.length = i := by rw [e1, List.length_take]; omega
  rw [fl] at two
  rw [fl, e1, List.getElem?_take, if_pos (by omega), e2] at hx hl
  rw [e2] at hp
  have := z.b (i - 2) x l p hx (by rw [show i - 2 + 1 = i - 1 by omega]; exact hl) (by rw [show i - 2 + 2 = i by omega]; exact hp)
  rw [this] at bn
  cases bn
theorem drop_last {α : Type} {fs : List α} (h : fs ≠ []) : ∃ gs l, fs = gs ++ [l] := ⟨fs.dropLast, fs.getLast h, (List.dropLast_concat_getLast h).symm⟩
section
variable {P : Program} {w : World} {K : PySem.W.Frag} {mg : Str → Option Value} {base : Heap}
def sp_l_hull : SpD := spN (fun (ps : List P2) => [.lst (ps.map PU.prD)]) (fun ps _ => ps.length < 1000 ∧ ∀ p ∈ ps, InP 56 p) fun ps n d m => m = n ∧ ∃ H : List P2, d = .tup (H.map PU.prD) ∧ HullOk ps H
theorem ok_l_hull (D : Def K mg "_law_hull" s_l_hull ["pairs"])
    (z_len : mg "len" = none)
    (z_sorted : mg "sorted" = none)
    (z_tuple : mg "tuple" = none)
    (c__law_bends : CalG P w K mg base CX0 1 "_law_bends" ["one", "middle", "two"] (fun _ : Unit => gh0) (fun _ => sp_l_bends))
     :
    CalG P w K mg base CX0 2 "_law_hull" ["pairs"] (fun _ : Unit => gh0) (fun _ => sp_l_hull) := by
  refine D.uk sc_l_hull (fun i => gh0_ok) (fun _ => mo_N) (fun _ ds n Q E ⟨x, e, _⟩ => by rw [e]; rfl) (fun i f cdv A outer s F H Ev ds n Q E hC hr h => ?_)
  have nd := sc_l_hull.nd
  have hu := hr.units
  obtain ⟨ps, rfl, hp, q⟩ := h
  try dsimp only at q
  refine ⟨_, (us_cons (us_setO (i := 1) hC (ul_lst ua_nil) nd)
      (us_cons (us_for (ui_row (UL.ue (ul_callB cl_sortedP z_sorted (ua_cons (UL.ue (ul_lc (own := [("one", 3)]) hC nd (ui_row (ue_var (i := 0))) (blkOk_by (own := [("one", 3)]) (N := ["pairs", "found", "pair", "one"]) (sc := defScope s_l_hull) (by decide +kernel)) (fun _ _ _ _ _ => (ug_name (i := 3) nd)) (fun _ _ _ _ _ => uts_nil) (fun _ _ _ _ _ => (ue_tup (ua_cons (ue_neg (ue_ix (ue_var (i := 3)) ue_int)) (ua_cons (ue_neg (ue_ix (ue_var (i := 3)) ue_int)) ua_nil)))))) ua_nil)))) (ug_name (i := 2) nd)
      (us_cons (us_set (i := 2) (ue_tup (ua_cons (ue_neg (ue_ix (ue_var (i := 2)) ue_int)) (ua_cons (ue_neg (ue_ix (ue_var (i := 2)) ue_int)) ua_nil))) nd)
      (us_cons (us_if (UW.ut (uw_and (ut_tmp (i := 1) (ut_cmp (opd_neA hu) (ue_var (i := 1)) (UL.ue (ul_lst ua_nil)))) (uw_and1 (ut_tmp (i := 1) (ut_cmp opd_le (ue_ix (ue_var (i := 2)) ue_int) (ue_ix (ue_ix (ue_var (i := 1)) (ue_neg ue_int)) ue_int)))))) (us_one us_continue) us_nil)
      (us_cons (us_while (UW.ut (uw_and (ut_tmp (i := 1) (ut_cmp opd_gt (ue_callB cd_len z_len (ua_cons (ue_var (i := 1)) ua_nil)) ue_int)) (uw_and1 (ut_not (ut_tmp (i := 1) (ut_val (uc_p c__law_bends hr pass0 (ua_cons (ue_ix (ue_var (i := 1)) (ue_neg ue_int)) (ua_cons (ue_ix (ue_var (i := 1)) (ue_neg ue_int)) (ua_cons (ue_var (i := 2)) ua_nil))))))))))
      (us_one (us_popE (i := 1))))
      (us_one (us_app (i := 1) (ue_var (i := 2))))))))
      (us_one (us_frz 1 (us_ret (ue_callTy cd_tuple z_tuple (ua_cons (ue_var (i := 1)) ua_nil))))))), ?_⟩
  obtain ⟨h1, h2⟩ := hp
  have sz : sizeLine = 16777216 := sizeLine_eq
  refine ⟨by show 0 ≤ sizeLine; decide, fun al => ?_⟩
  refine ⟨fun i acc k => k = n ∧ acc = ((ps.take i).map ngP).map PU.prD, ⟨rfl, rfl⟩, fun i x acc k hx hp => ?_, fun acc k hp => ?_⟩
  · obtain ⟨rfl, rfl⟩ := hp
    obtain ⟨t, ht, rfl⟩ := getmapP hx
    refine ix_t0 ?_
    refine ix_t1 ?_
    refine ⟨by show 2 ≤ sizeLine; decide, by rw [List.length_map, List.length_map, List.length_take]; omega, rfl, ?_⟩
    rw [List.take_succ, ht, List.map_append, List.map_append]
    rfl
  obtain ⟨rfl, rfl⟩ := hp
  have e : ps.take (ps.map PU.prD).length = ps := by rw [List.length_map, List.take_length]
  rw [e]
  refine ⟨ps.map ngP, rfl, fun ss pm so => ?_⟩
  have um : (ss.map ngP).Perm ps := by
    have := pm.map ngP
    rw [List.map_map] at this
    have e : List.map (ngP ∘ ngP) ps = ps := by
      conv => rhs; rw [← List.map_id ps]
      exact List.map_congr_left fun x _ => ng_ng x
    rwa [e] at this
  have uo : OrdI ps → ss.map ngP = ps := fun z => by
    have := sorted_one pm so (ord_sorted z)
    rw [this, List.map_map]
    conv => rhs; rw [← List.map_id ps]
    exact List.map_congr_left fun x _ => ng_ng x
  have lt0 : ∀ {i j : Nat} {x y : P2}, i < j → (ss.map ngP)[i]? = some x → (ss.map ngP)[j]? = some y → leP (ngP x) (ngP y) := fun {i j x y} l hx hy => by
    obtain ⟨a, ha, rfl⟩ := getmapP hx
    obtain ⟨b, hb, rfl⟩ := getmapP hy
    rw [ng_ng, ng_ng]
    have h1 := List.getElem?_eq_some_iff.mp ha
    have h2 := List.getElem?_eq_some_iff.mp hb
    have := List.pairwise_iff_getElem.mp so i j h1.1 h2.1 l
    rw [h1.2, h2.2] at this
    exact this
  have ub : ∀ p ∈ ss.map ngP, InP 56 p := fun p m => h2 p (um.mem_iff.mp m)
  have sl : ss.length = ps.length := by rw [pm.length_eq, List.length_map]
  generalize hus : ss.map ngP = us at um uo lt0 ub
  have us_at : ∀ {i : Nat} {t : P2}, ss[i]? = some t → us[i]? = some (ngP t) := fun {i t} ht => by
    rw [← hus, List.getElem?_map, ht]
    rfl
  refine ⟨fun i ρ k' => k' = k ∧ ∃ (fs : List P2) (y2 y3 : S), ρ = [.d (.lst (ps.map PU.prD)), .o al (fs.map PU.prD), y2, y3] ∧ HI ps us i fs, ⟨rfl, [], _, _, rfl, OrdI.nil, (fun _ m => nomatch m), (fun z => absurd z (Nat.lt_irrefl 0)), (fun _ => rfl), Nat.le_refl 0⟩, fun i x ρ k' hx hp => ?_, fun ρ k' hp => ?_⟩
  · obtain ⟨rfl, fs, y2, y3, rfl, hi⟩ := hp
    obtain ⟨t, ht, rfl⟩ := getmapP hx
    have hp' := us_at ht
    have il : i < ps.length := by
      have := (List.getElem?_eq_some_iff.mp ht).1
      omega
    have fl : ∀ {fs : List P2}, (∀ f ∈ fs, f ∈ us.take i) → ∀ {l : P2}, l ∈ fs → l.2 < (ngP t).2 → (ngP t).1 < l.1 := fun {fs} sub {l} ml h2 => by
      obtain ⟨j, hj, e⟩ := List.mem_iff_getElem.mp (sub l ml)
      rw [List.length_take] at hj
      rw [List.getElem_take] at e
      have := lt0 (i := j) (j := i) (by omega) (by rw [List.getElem?_eq_getElem (by omega), e]) hp'
      unfold leP at this
      have e1 : (ngP l).1 = -l.1 := rfl
      have e2 : (ngP l).2 = -l.2 := rfl
      have e3 : (ngP (ngP t)).1 = -(ngP t).1 := rfl
      have e4 : (ngP (ngP t)).2 = -(ngP t).2 := rfl
      omega
    refine ix_t0 ?_
    refine ix_t1 ?_
    refine ⟨by show 2 ≤ sizeLine; decide, ?_⟩
    dsimp only
    obtain ⟨p, hpe⟩ : ∃ p, p = ngP t := ⟨_, rfl⟩
    rw [← hpe] at hp' fl
    have bp := ub p (List.mem_of_getElem? hp')
    have sp : PU.st [S.d (.lst (ps.map PU.prD)), .o al (fs.map PU.prD), .d (PU.prD t), y3] 2 (.d (.tup [.int (-t.1), .int (-t.2)])) = [.d (.lst (ps.map PU.prD)), .o al (fs.map PU.prD), .d (PU.prD p), y3] := by
      rw [hpe]
      rfl
    refine seq_mid (w := uIfS _ _ _) (fun ρ m => m = k' ∧ (∀ l, fs[fs.length - 1]? = some l → p.1 < l.1 ∧ l.2 < p.2) ∧ ρ = [.d (.lst (ps.map PU.prD)), .o al (fs.map PU.prD), .d (PU.prD p), y3]) (fun NX nx => ?_) (fun ρ m hp => ?_)
    · have ctu : (∃ l, fs[fs.length - 1]? = some l ∧ p.2 ≤ l.2) → HI ps us (i + 1) fs := fun ⟨l, hl, le⟩ => by
        have ml : l ∈ fs := last_mem hl
        refine ⟨hi.ord, fun f m => mem_takeS (hi.sub f m), (fun _ z => by rw [z] at ml; cases ml), fun z => ?_, Nat.le_succ_of_le hi.le⟩
        exfalso
        have e1 := hi.same z
        have up := uo z
        rw [e1, List.length_take] at hl
        have i1 : i < us.length := by rw [up]; exact il
        rw [Nat.min_eq_left (Nat.le_of_lt i1), List.getElem?_take] at hl
        by_cases z0 : i = 0
        · subst z0
          simp at hl
        · rw [if_pos (by omega)] at hl
          rw [up] at hl hp'
          have := (z.c (i - 1) l p hl (by rw [show i - 1 + 1 = i by omega]; exact hp')).2
          omega
      refine ⟨by show 0 ≤ sizeLine; decide, ?_⟩
      refine eqA_pairs (qs := []) ?_
      refine ite_b (b := !decide (fs = [])) (fun e3 => ?_) fun e3 => ?_
      · have fne : fs ≠ [] := by simpa using e3
        have f1 : 1 ≤ fs.length := List.length_pos_iff.mpr fne
        obtain ⟨l, hl⟩ := at_lt (xs := fs) (Nat.le_refl 1) f1
        refine ix_t1 ?_
        refine ix_neg (k := 1) (Nat.le_refl 1) f1 hl ?_
        refine ix_t1 ?_
        have e22 : p.2 = -t.2 := by rw [hpe]; rfl
        refine ite_b (b := decide (-t.2 ≤ l.2)) (fun e4 => ?_) fun e4 => ?_
        · exact ⟨rfl, fs, _, _, rfl, ctu ⟨l, hl, by rw [e22]; exact of_decide_eq_true e4⟩⟩
        · have e4 := of_decide_eq_false e4
          refine nx _ _ ⟨rfl, fun l' h' => ?_, sp⟩
          rw [hl] at h'
          cases h'
          have h3 : l.2 < p.2 := by omega
          exact ⟨fl hi.sub (last_mem hl) h3, h3⟩
      · have fe : fs = [] := by simpa using e3
        refine ite_b (b := false) (fun z => nomatch z) fun _ => nx _ _ ⟨rfl, fun l' h' => ?_, sp⟩
        rw [fe] at h'
        simp at h'
    · obtain ⟨rfl, top, rfl⟩ := hp
      have us56 : ∀ {gs : List P2}, (∀ f ∈ gs, f ∈ us.take i) → ∀ {j : Nat} {x : P2}, gs[j]? = some x → InP 56 x := fun {gs} sub {j} {x} h => ub _ (List.mem_of_mem_take (sub _ (List.mem_of_getElem? h)))
      refine ⟨fun mm ρ kk => kk = m ∧ ∃ gs : List P2, gs.length = mm ∧ ρ = [S.d (.lst (ps.map PU.prD)), .o al (gs.map PU.prD), .d (PU.prD p), y3] ∧ OrdI gs ∧ (∀ f ∈ gs, f ∈ us.take i) ∧ (OrdI ps → gs = us.take i) ∧ gs.length ≤ i ∧ (∀ l, gs[gs.length - 1]? = some l → p.1 < l.1 ∧ l.2 < p.2), ⟨fs.length, rfl, fs, rfl, rfl, hi.ord, hi.sub, hi.same, hi.le, top⟩, fun mm ρ kk hw => ?_⟩
      obtain ⟨rfl, gs, rfl, rfl, og, subg, sameg, leg, topg⟩ := hw
      have gl : gs.length < sizeLine := by omega
      refine ite_b (b := decide ((1 : Int) < ((gs.map PU.prD).length : Int))) (fun e6 => ?_) fun e6 => ?_
      · have two : 2 ≤ gs.length := by
          have := of_decide_eq_true e6
          rw [List.length_map] at this
          omega
        obtain ⟨x, hx⟩ := at_lt (xs := gs) (k := 2) (by decide) two
        obtain ⟨l, hl⟩ := at_lt (xs := gs) (k := 1) (by decide) (by omega)
        have bx := us56 subg hx
        have bl := us56 subg hl
        refine ix_neg (k := 2) (by decide) two hx ?_
        refine ix_neg (k := 1) (by decide) (by omega) hl ?_
        refine ⟨(x, l, p), rfl, ⟨in56 bx.1 bl.1, in56 bl.2 bx.2⟩, ?_⟩
        refine ite_b (b := !bendB x l p) (fun e5 => ?_) fun e5 => ?_
        · have e5 := nt e5
          have no := no_pop uo hp' sameg two hx hl e5
          obtain ⟨hs, l0, rfl⟩ := drop_last (fs := gs) (by intro z; rw [z] at two; simp at two)
          refine ⟨hs.map PU.prD, PU.prD l0, by rw [List.map_append]; rfl, hs.length, by rw [List.length_append]; exact Nat.lt_succ_self _, rfl, hs, rfl, rfl, og.pre, fun f m => subg f (List.mem_append_left _ m), (fun z => absurd z no), (by rw [List.length_append] at leg; exact Nat.le_of_succ_le leg), pop_top og topg⟩
        · have e5 := nf e5
          refine ⟨by rw [List.length_map]; exact gl, rfl, gs ++ [p], _, _, by rw [List.map_append]; rfl, hull_app hp' og subg sameg leg topg fun x' l' _ hx' hl' => ?_⟩
          rw [hx] at hx'
          rw [hl] at hl'
          cases hx'
          cases hl'
          exact e5
      · have one : gs.length < 2 := by
          have := of_decide_eq_false e6
          rw [List.length_map] at this
          omega
        refine ite_b (b := false) (fun z => nomatch z) fun _ => ?_
        refine ⟨by rw [List.length_map]; exact gl, rfl, gs ++ [p], _, _, by rw [List.map_append]; rfl, hull_app hp' og subg sameg leg topg fun x' l' t' _ _ => absurd t' (by omega)⟩
  · obtain ⟨rfl, fs, y2, y3, rfl, hi⟩ := hp
    have e2 : us.take ((ss.map PU.prD).length) = us := List.take_of_length_le (by rw [List.length_map, ← hus, List.length_map]; exact Nat.le_refl _)
    have hi : HI ps us ((ss.map PU.prD).length) fs := hi
    refine q _ _ ⟨rfl, fs, rfl, hi.ord, fun p m => ?_, fun z => hi.ne ?_, fun z => ?_, by have := hi.le; rwa [List.length_map, sl] at this⟩
    · have := hi.sub p m
      rw [e2] at this
      exact um.mem_iff.mp this
    · rw [List.length_map, sl]
      exact List.length_pos_iff.mpr z
    · rw [hi.same z, e2]
      exact uo z
end
end L53
set_option maxHeartbeats 2000000
namespace L53
open PySem PySem.Spec PyProof.Rows L2 HG PU LamX
theorem sign_of {K M D S : Int} (hK : 0 < K) (hM : 0 < M) (e : K * D = M * S) : (0 < D ↔ 0 < S) ∧ (D < 0 ↔ S < 0) := by
  refine ⟨⟨fun h => ?_, fun h => ?_⟩, fun h => ?_, fun h => ?_⟩
  · have := Int.mul_pos hK h
    rw [e] at this
    exact Int.lt_of_mul_lt_mul_left (a := M) (by rw [Int.mul_zero]; exact this) (Int.le_of_lt hM)
  · have := Int.mul_pos hM h
    rw [← e] at this
    exact Int.lt_of_mul_lt_mul_left (a := K) (by rw [Int.mul_zero]; exact this) (Int.le_of_lt hK)
  · have := Int.mul_neg_of_pos_of_neg hK h
    rw [e] at this
    exact Int.lt_of_mul_lt_mul_left (a := M) (by rw [Int.mul_zero]; exact this) (Int.le_of_lt hM)
  · have := Int.mul_neg_of_pos_of_neg hM h
    rw [← e] at this
    exact Int.lt_of_mul_lt_mul_left (a := K) (by rw [Int.mul_zero]; exact this) (Int.le_of_lt hK)
theorem lt_of_sc {K M A B a b : Int} (hK : 0 < K) (hM : 0 < M) (e1 : K * A = M * a) (e2 : K * B = M * b) : A < B ↔ a < b := by
  have := (sign_of (D := B - A) (S := b - a) hK hM (by rw [Int.mul_sub, Int.mul_sub, e1, e2])).1
  constructor
  · intro h
    have := this.mp (by omega)
    omega
  · intro h
    have := this.mpr (by omega)
    omega
theorem red_mul {p q : Int} : p = gI p q * (redI p q).1 ∧ q = gI p q * (redI p q).2 := by
  unfold redI gI
  exact ⟨(Int.mul_ediv_cancel' (Int.ofNat_dvd_left.mpr (Nat.gcd_dvd_left _ _))).symm, (Int.mul_ediv_cancel' (Int.ofNat_dvd_left.mpr (Nat.gcd_dvd_right _ _))).symm⟩
theorem ah_red {a b c d : Int} (h1 : a ≠ 0 ∨ b ≠ 0) (h2 : c ≠ 0 ∨ d ≠ 0) : ahB (redI a b) (redI c d) = decide (c * b < a * d) := by
  have g1 := gI_pos h1
  have g2 := gI_pos h2
  obtain ⟨ea, eb⟩ := red_mul (p := a) (q := b)
  obtain ⟨ec, ed⟩ := red_mul (p := c) (q := d)
  refine decide_eq_decide.mpr ?_
  generalize gI a b = g at *
  generalize gI c d = h at *
  generalize redI a b = x at *
  generalize redI c d = y at *
  refine lt_of_sc (K := g * h) (M := 1) (Int.mul_pos g1 g2) (by decide) ?_ ?_
  · rw [ec, eb, Int.one_mul]
    simp only [Int.mul_assoc, Int.mul_comm, Int.mul_left_comm]
  · rw [ea, ed, Int.one_mul]
    simp only [Int.mul_assoc, Int.mul_comm, Int.mul_left_comm]
theorem ev_mul {M : Int} {t : P3} (h : ∃ z, M = t.2.2 * z) : t.2.2 * (M / t.2.2) = M := Int.mul_ediv_cancel' h
theorem even_sub {M : Int} {x y : P3} (hx : ∃ z, M = x.2.2 * z) (hy : ∃ z, M = y.2.2 * z) :
    (x.2.2 * y.2.2) * ((evenI M x).1 - (evenI M y).1) = M * (scaleI x y).1 ∧ (x.2.2 * y.2.2) * ((evenI M x).2 - (evenI M y).2) = M * (scaleI x y).2 := by
  have ex := ev_mul hx
  have ey := ev_mul hy
  unfold evenI scaleI
  dsimp only
  generalize M / x.2.2 = u at *
  generalize M / y.2.2 = v at *
  have go : ∀ a b : Int, x.2.2 * y.2.2 * (a * u - b * v) = M * (a * y.2.2 - b * x.2.2) := fun a b => by
    have h1 : x.2.2 * y.2.2 * (a * u) = (a * y.2.2) * (x.2.2 * u) := by simp only [Int.mul_assoc, Int.mul_comm, Int.mul_left_comm]
    have h2 : x.2.2 * y.2.2 * (b * v) = (b * x.2.2) * (y.2.2 * v) := by simp only [Int.mul_assoc, Int.mul_comm, Int.mul_left_comm]
    rw [Int.mul_sub, h1, h2, ex, ey, Int.mul_sub, Int.mul_comm M, Int.mul_comm M]
  exact ⟨go _ _, go _ _⟩
def mtI (x y : P3) : P2 := redI (-(scaleI x y).2) (scaleI x y).1
structure Mu (M : Int) (t : P3) : Prop where
  c : 0 < t.2.2
  d : ∃ z, M = t.2.2 * z
theorem ev_fall {M : Int} {x y : P3} (hM : 0 < M) (hx : Mu M x) (hy : Mu M y) : ((evenI M y).1 < (evenI M x).1 ∧ (evenI M x).2 < (evenI M y).2) ↔ (0 < (scaleI x y).1 ∧ (scaleI x y).2 < 0) := by
  obtain ⟨e1, e2⟩ := even_sub hx.d hy.d
  have k := Int.mul_pos hx.c hy.c
  have a := (sign_of k hM e1).1
  have b := (sign_of k hM e2).2
  constructor
  · rintro ⟨h1, h2⟩
    exact ⟨a.mp (by omega), b.mp (by omega)⟩
  · rintro ⟨h1, h2⟩
    have := a.mpr h1
    have := b.mpr h2
    omega
theorem ev_bend {M : Int} {x y z : P3} (hM : 0 < M) (hx : Mu M x) (hy : Mu M y) (hz : Mu M z) (h1 : 0 < (scaleI x y).1) (h2 : 0 < (scaleI y z).1) : bendB (evenI M x) (evenI M y) (evenI M z) = ahB (mtI x y) (mtI y z) := by
  obtain ⟨a1, a2⟩ := even_sub hx.d hy.d
  obtain ⟨b1, b2⟩ := even_sub hy.d hz.d
  have k1 := Int.mul_pos hx.c hy.c
  have k2 := Int.mul_pos hy.c hz.c
  unfold mtI
  rw [ah_red (.inr (by omega)) (.inr (by omega))]
  unfold bendB
  refine decide_eq_decide.mpr ?_
  generalize scaleI x y = s at *
  generalize scaleI y z = t at *
  generalize x.2.2 * y.2.2 = k at *
  generalize y.2.2 * z.2.2 = m at *
  have n1 : k * ((evenI M y).2 - (evenI M x).2) = M * -s.2 := by
    rw [Int.mul_neg, ← a2, ← Int.mul_neg, Int.neg_sub]
  have n2 : m * ((evenI M z).2 - (evenI M y).2) = M * -t.2 := by
    rw [Int.mul_neg, ← b2, ← Int.mul_neg, Int.neg_sub]
  generalize (evenI M x).1 - (evenI M y).1 = d1 at *
  generalize (evenI M y).1 - (evenI M z).1 = d2 at *
  generalize (evenI M y).2 - (evenI M x).2 = f1 at *
  generalize (evenI M z).2 - (evenI M y).2 = f2 at *
  refine lt_of_sc (K := k * m) (M := M * M) (Int.mul_pos k1 k2) (Int.mul_pos hM hM) ?_ ?_
  · have : k * m * (d1 * f2) = (k * d1) * (m * f2) := by simp only [Int.mul_assoc, Int.mul_comm, Int.mul_left_comm]
    rw [this, a1, n2]
    simp only [Int.mul_assoc, Int.mul_comm, Int.mul_left_comm]
  · have : k * m * (f1 * d2) = (k * f1) * (m * d2) := by simp only [Int.mul_assoc, Int.mul_comm, Int.mul_left_comm]
    rw [this, n1, b1]
    simp only [Int.mul_assoc, Int.mul_comm, Int.mul_left_comm]
theorem ordI_one (x : P2) : OrdI [x] := ⟨fun i a b _ h => by simp at h, fun i a b c _ h _ => by simp at h⟩
theorem ordI_cons {x y : P2} {r : List P2} : OrdI (x :: y :: r) ↔ (y.1 < x.1 ∧ x.2 < y.2) ∧ (∀ z, r.head? = some z → bendB x y z = true) ∧ OrdI (y :: r) := by
  constructor
  · intro h
    refine ⟨h.c 0 x y rfl rfl, fun z hz => h.b 0 x y z rfl rfl (by cases r with | nil => cases hz | cons a s => exact hz), ⟨fun i a b h1 h2 => h.c (i + 1) a b h1 h2, fun i a b c h1 h2 h3 => h.b (i + 1) a b c h1 h2 h3⟩⟩
  · rintro ⟨h1, h2, h3⟩
    refine ⟨fun i a b ha hb => ?_, fun i a b c ha hb hc => ?_⟩
    · cases i with
      | zero => cases ha; cases hb; exact h1
      | succ i => exact h3.c i a b ha hb
    · cases i with
      | zero =>
        cases ha
        cases hb
        cases r with
        | nil => cases hc
        | cons z s => exact h2 c hc
      | succ i => exact h3.b i a b c ha hb hc
theorem ordF_some {q : P2} {y : P3} {r : List P3} : ordF (some q) (y :: r) = true ↔ ordF none (y :: r) = true ∧ ∀ z, r.head? = some z → ahB q (mtI y z) = true := by
  cases r with
  | nil => exact ⟨fun _ => ⟨rfl, (fun _ h => nomatch h)⟩, fun _ => rfl⟩
  | cons z s =>
    rw [ord_cons, ord_cons]
    by_cases g : (scaleI y z).1 ≤ 0 ∨ 0 ≤ (scaleI y z).2
    · rw [if_pos g, if_pos g]
      exact ⟨(fun h => nomatch h), (fun h => nomatch h.1)⟩
    · rw [if_neg g, if_neg g, Bool.true_and, Bool.and_eq_true]
      exact ⟨fun ⟨h1, h2⟩ => ⟨h2, fun z' h => by cases h; exact h1⟩, fun ⟨h1, h2⟩ => ⟨h2 z rfl, h1⟩⟩
theorem ordF_cons {x y : P3} {r : List P3} : ordF none (x :: y :: r) = true ↔ (0 < (scaleI x y).1 ∧ (scaleI x y).2 < 0) ∧ (∀ z, r.head? = some z → ahB (mtI x y) (mtI y z) = true) ∧ ordF none (y :: r) = true := by
  rw [ord_cons]
  by_cases g : (scaleI x y).1 ≤ 0 ∨ 0 ≤ (scaleI x y).2
  · rw [if_pos g]
    exact ⟨(fun h => nomatch h), (fun h => by omega)⟩
  · rw [if_neg g, Bool.true_and]
    have := ordF_some (q := mtI x y) (y := y) (r := r)
    exact ⟨fun h => ⟨by omega, (this.mp h).2, (this.mp h).1⟩, fun h => this.mpr ⟨h.2.2, h.2.1⟩⟩
theorem ord_iff {M : Int} (hM : 0 < M) : ∀ {ts : List P3}, (∀ t ∈ ts, Mu M t) → (OrdI (ts.map (evenI M)) ↔ ordF none ts = true)
  | [], _ => ⟨fun _ => rfl, fun _ => OrdI.nil⟩
  | [x], _ => ⟨fun _ => rfl, fun _ => ordI_one _⟩
  | x :: y :: r, h => by
    have ih := ord_iff hM (ts := y :: r) fun t m => h t (List.mem_cons_of_mem _ m)
    have hx := h x List.mem_cons_self
    have hy := h y (List.mem_cons_of_mem _ List.mem_cons_self)
    rw [List.map_cons, List.map_cons, ordI_cons, ordF_cons, ← List.map_cons, ih, ev_fall hM hx hy]
    cases r with
    | nil => exact ⟨fun a => ⟨a.1, (fun _ h => nomatch h), a.2.2⟩, fun a => ⟨a.1, (fun _ h => nomatch h), a.2.2⟩⟩
    | cons z s =>
      have hz := h z (by simp)
      constructor
      · rintro ⟨a, b, c⟩
        refine ⟨a, fun z' e => ?_, c⟩
        cases e
        rw [← ev_bend hM hx hy hz a.1 (ordF_cons.mp c).1.1]
        exact b _ rfl
      · rintro ⟨a, b, c⟩
        refine ⟨a, fun z' e => ?_, c⟩
        cases e
        rw [ev_bend hM hx hy hz a.1 (ordF_cons.mp c).1.1]
        exact b _ rfl
theorem evens_mu {ts : List P3} (h : ∀ t ∈ ts, Tc t) : 0 < lcmF ts ∧ ∀ t ∈ ts, Mu (lcmF ts) t := by
  obtain ⟨a, _, c⟩ := lcm_fold (ts := ts) lc_one h
  exact ⟨by have := (lc_small a).1; exact this, fun t m => ⟨by have := (h t m).c1; omega, c t m⟩⟩
theorem evens_iff {ts : List P3} (h : ∀ t ∈ ts, Tc t) : OrdI (evens ts) ↔ ordF none ts = true := ord_iff (evens_mu h).1 (evens_mu h).2
theorem evens_in {ts : List P3} (h : ∀ t ∈ ts, Tc t) : ∀ p ∈ evens ts, InP 56 p := fun p m => by
  obtain ⟨t, ht, rfl⟩ := List.mem_map.mp m
  have lf := (lcm_fold (ts := ts) lc_one h).1
  have ls : 1 ≤ lcmF ts ∧ lcmF ts ≤ 27720 := lc_small lf
  have tc := h t ht
  have c1 := tc.c1
  have q : In 15 (lcmF ts / t.2.2) := by
    have h1 : 0 ≤ lcmF ts / t.2.2 := Int.ediv_nonneg (by omega) (by omega)
    have h2 : lcmF ts / t.2.2 ≤ lcmF ts := Int.ediv_le_self _ (by omega)
    unfold In
    have : (2 : Nat) ^ 15 = 32768 := by decide
    omega
  exact ⟨(in_mul tc.a q).up (by decide), (in_mul tc.b q).up (by decide)⟩
/-- the hull of even pairs is these, if they are in order -/
theorem hull_iff {ts : List P3} {H : List P2} (h : ∀ t ∈ ts, Tc t) (hh : HullOk (evens ts) H) : decide (H = evens ts) = ordF none ts := by
  rw [Bool.eq_iff_iff, decide_eq_true_eq, ← evens_iff h]
  exact ⟨fun e => by rw [← e]; exact hh.ord, hh.same⟩
end L53
set_option maxHeartbeats 2000000
namespace L53
open PySem PySem.Spec PyProof.Rows L2 HG PU LamX
structure OkI (d : D) : Prop where
  fin : fine d = true
  pd : ∃ p, d.py = some p ∧ SeqAt.shaped p = true
  tc : ∀ xs, d = .tup xs → ∀ x ∈ xs, isMean x = true → Tc (trOf x)
  tr : ∀ xs, d = .tup xs → ∀ x ∈ xs, ∀ t, x = trD t → In 200 t.1 ∧ In 200 t.2.1 ∧ In 200 t.2.2
theorem eq_nil_t {xs : List D} {Q : D → Prop} (h : ∃ p, (D.tup xs).py = some p ∧ SeqAt.shaped p = true) (q : Q (.bl xs.isEmpty)) : rEqA id (.tup xs) (.tup []) Q := by
  obtain ⟨p, e, sh⟩ := h
  show PU.rEqD id _ _ _
  unfold PU.rEqD
  have e2 : (D.tup []).py = some (.tuple []) := by
    simp only [D.py, pyA]
    rfl
  rw [e, e2]
  refine ⟨sh, by decide +kernel, ?_⟩
  simp only [D.py] at e
  cases xs with
  | nil =>
    simp only [pyA, Option.map] at e
    cases e
    exact q
  | cons x r =>
    simp only [pyA] at e
    cases e1 : x.py with
    | none => rw [e1] at e; cases e
    | some a =>
      cases e3 : pyA r with
      | none => rw [e1, e3] at e; cases e
      | some b =>
        rw [e1, e3] at e
        cases e
        have z : PyData.eqv (.tuple (a :: b)) (.tuple []) = false := by simp [PyData.eqv, PyData.eqvAll]
        rw [z]
        exact q
theorem mean_all_trd {xs : List D} (h : xs.all isMean = true) (ok : OkI (.tup xs)) : ∀ t ∈ xs.map trOf, Tc t := fun t m => by
  obtain ⟨x, hx, rfl⟩ := List.mem_map.mp m
  exact ok.tc xs rfl x hx (List.all_eq_true.mp h x hx)
section
variable {P : Program} {w : World} {K : PySem.W.Frag} {mg : Str → Option Value} {base : Heap}
def sp_l_is_front : SpD := spF (fun d => [d]) (fun d => OkI d) fun d => .bl (isMF d)
theorem ok_l_is_front (D : Def K mg "_law_is_front" s_l_is_front ["item"])
    (z_isinstance : mg "isinstance" = none)
    (z_list : mg "list" = none)
    (z_str : mg "str" = none)
    (z_tuple : mg "tuple" = none)
    (c__law_evened : CalG P w K mg base CX0 2 "_law_evened" ["some"] (fun _ : Unit => gh0) (fun _ => sp_l_evened))
    (c__law_hull : CalG P w K mg base CX0 2 "_law_hull" ["pairs"] (fun _ : Unit => gh0) (fun _ => sp_l_hull))
    (c__law_is_triple_so : CalG P w K mg base CX0 3 "_law_is_triple_so" ["one"] (fun _ : Unit => gh0) (fun _ => sp_l_is_triple_so))
     :
    CalG P w K mg base CX0 4 "_law_is_front" ["item"] (fun _ : Unit => gh0) (fun _ => sp_l_is_front) := by
  refine D.uk sc_l_is_front (fun i => gh0_ok) (fun _ => mo_F) (fun _ ds n Q E ⟨x, e, _⟩ => by rw [e]; rfl) (fun i f cdv A outer s F H Ev ds n Q E hC hr h => ?_)
  have nd := sc_l_is_front.nd
  have hu := hr.units
  obtain ⟨d, rfl, hp, q⟩ := h
  try dsimp only at q
  refine ⟨_, (us_cons (us_if (UW.ut (uw_or (ut_cmp opd_isN (ue_var (i := 0)) ue_non) (uw_or1 (ut_val (ue_isi .str (ue_var (i := 0)) z_isinstance z_str))))) (us_one (us_ret (ue_or (ue_cmp opd_isN (ue_var (i := 0)) ue_non) (ue_one (ue_cmp (opd_eqA hu) (ue_var (i := 0)) ue_str))))) us_nil)
      (us_cons (us_if (UW.ut (uw_or (ut_not (ut_val (ue_isi .tuple (ue_var (i := 0)) z_isinstance z_tuple))) (uw_or (ut_cmp (opd_eqA hu) (ue_var (i := 0)) (ue_tup ua_nil)) (uw_or1 (ut_cmp (opd_neA hu) (UL.ue (ul_lc (own := [("one", 1)]) hC nd (ui_row (ue_var (i := 0))) (blkOk_by (own := [("one", 1)]) (N := ["item", "one", "pairs"]) (sc := defScope s_l_is_front) (by decide +kernel)) (fun _ _ _ _ _ => (ug_name (i := 1) nd)) (fun _ _ _ _ _ => (uts_one (ut_not (ut_val (uc_p c__law_is_triple_so hr pass0 (ua_cons (ue_var (i := 1)) ua_nil)))))) (fun _ _ _ _ _ => ue_int))) (UL.ue (ul_lst ua_nil))))))) (us_one (us_ret ue_bl)) us_nil)
      (us_cons (us_set (i := 2) (uc_p c__law_evened hr pass0 (ua_cons (ue_var (i := 0)) ua_nil)) nd)
      (us_one (us_ret (ue_cmp (opd_eqA hu) (UL.ue (ul_callTy cl_list z_list (ua_cons (uc_p c__law_hull hr pass0 (ua_cons (ue_var (i := 2)) ua_nil)) ua_nil))) (ue_var (i := 2)))))))), ?_⟩
  cases d with
  | tup xs =>
    have ha := (fine_tup hp.fin).2
    have hl := (fine_tup hp.fin).1
    have sz : sizeLine = 16777216 := sizeLine_eq
    have q : Q (.bl (!xs.isEmpty && xs.all isMean && ordF none (xs.map trOf))) n := q
    refine ⟨rfl, by show 0 ≤ sizeLine; decide, eq_nil_t hp.pd ?_⟩
    refine ite_b (b := xs.isEmpty) (fun e => ?_) fun e => ?_
    · rw [e] at q
      exact q
    rw [e] at q
    refine ⟨fun i acc k' => k' = n ∧ acc = (((xs.take i).filter fun c => !isMean c).map fun _ => (1 : Int)).map .int, ⟨rfl, rfl⟩, fun i v acc k' hx hq => ?_, fun acc k' hq => ?_⟩
    · obtain ⟨rfl, rfl⟩ := hq
      have mv := List.mem_of_getElem? hx
      refine ⟨v, rfl, ⟨ha v mv, hp.tr xs rfl v mv⟩, ite_b (fun e3 => ⟨?_, rfl, ?_⟩) fun e3 => ⟨rfl, ?_⟩⟩
      · have := List.length_filter_le (fun c => !isMean c) (xs.take i)
        rw [List.length_take] at this
        rw [List.length_map, List.length_map]
        omega
      · rw [filter_next hx, if_pos e3, List.map_append, List.map_append]
        rfl
      · rw [filter_next hx, if_neg (by rw [show (!isMean v) = false from e3]; exact Bool.false_ne_true)]
    · obtain ⟨rfl, rfl⟩ := hq
      rw [List.take_length]
      refine ⟨by show 0 ≤ sizeLine; decide, ne_nil ?_⟩
      have e4 : (((xs.filter fun c => !isMean c).map fun _ => (1 : Int))).isEmpty = xs.all isMean := by
        rw [List.isEmpty_map, all_filter]
      rw [e4]
      refine ite_b (b := !xs.all isMean) (fun e5 => ?_) fun e5 => ?_
      · rw [nt e5] at q
        exact q
      · have am := nf e5
        rw [am] at q
        have tc := mean_all_trd am hp
        refine ⟨(.tup xs, xs.map trOf), rfl, ⟨.inr (congrArg PU.D.tup (means_tr am)), by rw [List.length_map]; exact hl, tc⟩, ?_⟩
        refine ⟨evens (xs.map trOf), rfl, ⟨by unfold evens; rw [List.length_map, List.length_map]; exact hl, evens_in tc⟩, fun d m hd => ?_⟩
        obtain ⟨rfl, H, rfl, hh⟩ := hd
        dsimp only [uNil, rLstOf, PU.d1]
        refine var_d (d := .lst ((evens (xs.map trOf)).map PU.prD)) rfl ?_
        refine eqA_pairs (f := id) (ps := H) (qs := evens (xs.map trOf)) ?_
        rw [hull_iff tc hh]
        exact q
  | str z =>
    have q : Q (.bl (decide (z = short))) n := q
    exact ⟨rfl, rfl, q⟩
  | non => exact ⟨rfl, rfl, q⟩
  | bl _ => exact ⟨rfl, q⟩
  | int _ => exact ⟨rfl, q⟩
  | lst _ => exact ⟨rfl, q⟩
  | dk _ _ => exact ⟨rfl, q⟩
  | _ => exact nomatch hp.fin
end
end L53
set_option maxHeartbeats 2000000
namespace PU
open PySem PySem.Spec PyProof.Rows L2 HG LamX
theorem us_parO {X : Cx} {C : Cn} {i j : Nat} {x y : Str} {a b : Expr} {u : TD} {ul : TDl} {px py pt pos : Pos} {kt k2 pt2} (hc : C.Ok) (ha : UE X C a u) (hb : UL X C b ul) (hN : X.N.Nodup) (hcalm : X.calm = true := by rfl) (hi : X.N[i]? = some x := by rfl) (hj : X.N[j]? = some y := by rfl) (hij : i ≠ j := by decide)
    (hx : X.env.scope.names.lookup x = some .local := by rfl) (hy : X.env.scope.names.lookup y = some .local := by rfl)
    (hw : swappedStores [.Tuple [.Name x px, .Name y py] kt pt] (.Tuple [a, b] k2 pt2) X.env = pure (some [x, y]) := by rfl)
    (hs : swapsWithSole [.Tuple [.Name x px, .Name y py] kt pt] (.Tuple [a, b] k2 pt2) pos.line X.env = pure false := by rfl)
    (s0 : starEach [a, b] X.env = (false, eval a X.env) :: starEach [b] X.env := by rfl) (s1 : starEach [b] X.env = (false, eval b X.env) :: starEach [] X.env := by rfl) :
    US X C (.Assign [.Tuple [.Name x px, .Name y py] kt pt] (.Tuple [a, b] k2 pt2) pos) (uAsgO i j u ul) := by
  refine ⟨PSw (ps_par hcalm hN hi hj hij hx hy (pa_cons ha.run (pa_cons hb.run pa_nil s1) s0) hw hs) fun D σ H ⟨F, ρ, n, E, rel, ok, q⟩ => ?_⟩
  refine ⟨F, ρ, n, rel, ha.mo _ _ _ _ (fun d m q v F1 H1 x1 m1 d1 => ⟨F1, ρ, m, rel.stepG x1 m1, hb.mo _ _ _ _ (fun ds m2 q l vs F2 H2 x2 m3 o1 o2 o3 d2 => ⟨_, _, rfl, ?_⟩) q⟩) q⟩
  have rA := rel.stepG x1 m1
  have rB := rA.stepG x2 m3
  have rC := rB.setD (i := i) (d1.le x2.up)
  have rD := rA.setD (i := i) d1
  exact ok.nx F2 _ m2 _ _ (x1.up.tr x2.up) (rC.setO hc.sub o1 rA.x.keep ⟨m, rA.m⟩ (fun b z => rD.ownAt z) o2 o3 d2) (q l)
end PU
set_option maxHeartbeats 2000000
namespace L53
open PySem PySem.Spec PyProof.Rows L2 HG PU LamX
structure FrontOk (ts : List P3) : Prop where
  ne : ts ≠ []
  few : ts.length < 900
  tc : ∀ t ∈ ts, Tc t
  g : ∀ t ∈ ts, g3 t.1 t.2.1 t.2.2 = 1
  ord : ordF none ts = true
  sm : ∀ t ∈ ts, In 39 t.1 ∧ In 39 t.2.1
theorem g3_dvd (a b c : Int) : g3 a b c ∣ a ∧ g3 a b c ∣ b ∧ g3 a b c ∣ c := by
  unfold g3
  exact ⟨Int.ofNat_dvd_left.mpr (Nat.dvd_trans (Nat.gcd_dvd_left _ _) (Nat.gcd_dvd_left _ _)), Int.ofNat_dvd_left.mpr (Nat.dvd_trans (Nat.gcd_dvd_left _ _) (Nat.gcd_dvd_right _ _)), Int.ofNat_dvd_left.mpr (Nat.gcd_dvd_right _ _)⟩
theorem g3_mul (k a b c : Int) : g3 (k * a) (k * b) (k * c) = ((k.natAbs : Nat) : Int) * g3 a b c := by
  unfold g3
  rw [Int.natAbs_mul, Int.natAbs_mul, Int.natAbs_mul, Nat.gcd_mul_left, Nat.gcd_mul_left, Int.natCast_mul]
theorem g3_pos {t : P3} (h : 1 ≤ t.2.2) : 0 < g3 t.1 t.2.1 t.2.2 := gI_pos (p := gI t.1 t.2.1) (.inr (by omega))
theorem red_parts {t : P3} (h : 1 ≤ t.2.2) : ∃ g : Int, 0 < g ∧ t.1 = g * (redT t).1 ∧ t.2.1 = g * (redT t).2.1 ∧ t.2.2 = g * (redT t).2.2 ∧ 1 ≤ (redT t).2.2 ∧ g3 (redT t).1 (redT t).2.1 (redT t).2.2 = 1 := by
  have gp := g3_pos h
  obtain ⟨d1, d2, d3⟩ := g3_dvd t.1 t.2.1 t.2.2
  have e1 : t.1 = g3 t.1 t.2.1 t.2.2 * (redT t).1 := (Int.mul_ediv_cancel' d1).symm
  have e2 : t.2.1 = g3 t.1 t.2.1 t.2.2 * (redT t).2.1 := (Int.mul_ediv_cancel' d2).symm
  have e3 : t.2.2 = g3 t.1 t.2.1 t.2.2 * (redT t).2.2 := (Int.mul_ediv_cancel' d3).symm
  have e4 : g3 t.1 t.2.1 t.2.2 = g3 (g3 t.1 t.2.1 t.2.2 * (redT t).1) (g3 t.1 t.2.1 t.2.2 * (redT t).2.1) (g3 t.1 t.2.1 t.2.2 * (redT t).2.2) := by rw [← e1, ← e2, ← e3]
  generalize redT t = r at *
  generalize g3 t.1 t.2.1 t.2.2 = g at *
  refine ⟨g, gp, e1, e2, e3, ?_, ?_⟩
  · have : g * 0 < g * r.2.2 := by rw [← e3, Int.mul_zero]; omega
    exact Int.lt_of_mul_lt_mul_left this (Int.le_of_lt gp)
  · rw [g3_mul] at e4
    have ea : ((g.natAbs : Nat) : Int) = g := by omega
    rw [ea] at e4
    have : g * g3 r.1 r.2.1 r.2.2 = g * 1 := by omega
    exact Int.eq_of_mul_eq_mul_left (by omega) this
theorem red_abs {a g r : Int} {k : Nat} (hg : 0 < g) (e : a = g * r) (h : In k a) : In k r := by
  unfold In at h ⊢
  rw [e, Int.natAbs_mul] at h
  refine Nat.lt_of_le_of_lt ?_ h
  exact Nat.le_mul_of_pos_left _ (by omega)
theorem red_tc {t : P3} (h : Tc t) : Tc (redT t) := by
  obtain ⟨g, gp, e1, e2, e3, c, _⟩ := red_parts h.c1
  refine ⟨red_abs gp e1 h.a, red_abs gp e2 h.b, c, ?_⟩
  have := h.c2
  have : 1 * (redT t).2.2 ≤ g * (redT t).2.2 := Int.mul_le_mul_of_nonneg_right (by omega) (by omega)
  omega
theorem red_even {M : Int} {t : P3} (h : 1 ≤ t.2.2) (d : ∃ z, M = t.2.2 * z) : Mu M (redT t) ∧ evenI M (redT t) = evenI M t := by
  obtain ⟨g, gp, e1, e2, e3, c, _⟩ := red_parts h
  obtain ⟨z, hz⟩ := d
  have e5 : M = (redT t).2.2 * (g * z) := by
    rw [hz, e3]
    simp only [Int.mul_assoc, Int.mul_comm, Int.mul_left_comm]
  refine ⟨⟨by omega, g * z, e5⟩, ?_⟩
  have q1 : M / t.2.2 = z := by rw [hz]; exact Int.mul_ediv_cancel_left _ (by omega)
  have q2 : M / (redT t).2.2 = g * z := by rw [e5]; exact Int.mul_ediv_cancel_left _ (by omega)
  unfold evenI
  rw [q1, q2]
  refine Prod.ext ?_ ?_
  · show (redT t).1 * (g * z) = t.1 * z
    rw [e1]
    simp only [Int.mul_assoc, Int.mul_comm, Int.mul_left_comm]
  · show (redT t).2.1 * (g * z) = t.2.1 * z
    rw [e2]
    simp only [Int.mul_assoc, Int.mul_comm, Int.mul_left_comm]
theorem front_ok {ts Rs : List P3} {H : List P2} (ne : ts ≠ []) (few : ts.length < 900) (h : ∀ t ∈ ts, Tc t) (hh : HullOk (evens ts) H) (e : Rs.map (evenI (lcmF ts)) = H) (al : ∀ r ∈ Rs, ∃ t ∈ ts, r = redT t) (sm : ∀ t ∈ ts, In 39 t.1 ∧ In 39 t.2.1) : FrontOk Rs := by
  have ne2 : evens ts ≠ [] := fun z => ne (List.map_eq_nil_iff.mp z)
  obtain ⟨hM, mu⟩ := evens_mu h
  refine ⟨fun z => hh.ne ne2 ?_, ?_, fun r m => ?_, fun r m => ?_, (ord_iff hM fun r m => ?_).mp (by rw [e]; exact hh.ord), fun r m => ?_⟩
  · rw [← e, z]
    rfl
  · have := hh.le
    rw [← e] at this
    unfold evens at this
    rw [List.length_map, List.length_map] at this
    omega
  · obtain ⟨t, mt, rfl⟩ := al r m
    exact red_tc (h t mt)
  · obtain ⟨t, mt, rfl⟩ := al r m
    exact (red_parts (h t mt).c1).choose_spec.2.2.2.2.2
  · obtain ⟨t, mt, rfl⟩ := al r m
    exact (red_even (h t mt).c1 (mu t mt).d).1
  · obtain ⟨t, mt, rfl⟩ := al r m
    obtain ⟨g, gp, e1, e2, _, _, _⟩ := red_parts (h t mt).c1
    exact ⟨red_abs gp e1 (sm t mt).1, red_abs gp e2 (sm t mt).2⟩
section
variable {P : Program} {w : World} {K : PySem.W.Frag} {mg : Str → Option Value} {base : Heap}
def sp_l_front_due : SpD := spN (fun (ts : List P3) => [.lst (ts.map trD)]) (fun ts _ => ts ≠ [] ∧ ts.length < 900 ∧ (∀ t ∈ ts, Tc t) ∧ ∀ t ∈ ts, In 39 t.1 ∧ In 39 t.2.1) fun ts n d m => m = n ∧ ∃ Rs : List P3, d = .tup (Rs.map trD) ∧ FrontOk Rs
theorem ok_l_front_due (D : Def K mg "_law_front_due" s_l_front_due ["some"])
    (z_tuple : mg "tuple" = none)
    (c__law_evened : CalG P w K mg base CX0 2 "_law_evened" ["some"] (fun _ : Unit => gh0) (fun _ => sp_l_evened))
    (c__law_hull : CalG P w K mg base CX0 2 "_law_hull" ["pairs"] (fun _ : Unit => gh0) (fun _ => sp_l_hull))
    (c__law_reduced : CalG P w K mg base CX0 2 "_law_reduced" ["one"] (fun _ : Unit => gh0) (fun _ => sp_l_reduced))
     :
    CalG P w K mg base CX0 3 "_law_front_due" ["some"] (fun _ : Unit => gh0) (fun _ => sp_l_front_due) := by
  refine D.uk sc_l_front_due (fun i => gh0_ok) (fun _ => mo_N) (fun _ ds n Q E ⟨x, e, _⟩ => by rw [e]; rfl) (fun i f cdv A outer s F H Ev ds n Q E hC hr h => ?_)
  have nd := sc_l_front_due.nd
  have hu := hr.units
  have hu65 : (A.deeper (envOfC "_law_front_due" (defScope s_l_front_due) s.heap.objs.size f cdv)).units + 65 < cLine := by
    have := hr.un
    omega
  obtain ⟨ts, rfl, hp, q⟩ := h
  try dsimp only at q
  refine ⟨_, (us_cons (us_parO (i := 1) (j := 2) hC (uc_p c__law_evened hr pass0 (ua_cons (ue_var (i := 0)) ua_nil)) (ul_lst ua_nil) nd)
      (us_cons (us_for (ui_row (uc_p c__law_hull hr pass0 (ua_cons (ue_var (i := 1)) ua_nil))) (ug_name (i := 3) nd)
      (us_one (us_app (i := 2) (uc_p c__law_reduced hr pass0 (ua_cons (ue_ix (ue_var (i := 0)) (ue_index (ue_var (i := 1)) (ue_var (i := 3)) hu65)) ua_nil)))))
      (us_one (us_frz 2 (us_ret (ue_callTy cd_tuple z_tuple (ua_cons (ue_var (i := 2)) ua_nil))))))), ?_⟩
  obtain ⟨h1, h2, h3, h4⟩ := hp
  have sz : sizeLine = 16777216 := sizeLine_eq
  have el : (evens ts).length = ts.length := by unfold evens; rw [List.length_map]
  refine ⟨(.lst (ts.map trD), ts), rfl, ⟨.inl rfl, by show ts.length < 1000; omega, h3⟩, by show 0 ≤ sizeLine; decide, fun al => ?_⟩
  refine ⟨evens ts, rfl, ⟨by rw [el]; omega, evens_in h3⟩, fun d m hd => ?_⟩
  obtain ⟨rfl, H, rfl, hh⟩ := hd
  refine ⟨fun i ρ k => k = n ∧ ∃ (Rs : List P3) (y : S), ρ = [.d (.lst (ts.map trD)), .d (.lst ((evens ts).map PU.prD)), .o al (Rs.map trD), y] ∧ Rs.map (evenI (lcmF ts)) = H.take i ∧ ∀ r ∈ Rs, ∃ t ∈ ts, r = redT t, ⟨rfl, [], _, rfl, rfl, (fun _ z => nomatch z)⟩, fun i x ρ k hx hp => ?_, fun ρ k hp => ?_⟩
  · obtain ⟨rfl, Rs, y, rfl, e, al2⟩ := hp
    obtain ⟨p, hp, rfl⟩ := getmapP hx
    have pm := hh.sub p (List.mem_of_getElem? hp)
    dsimp only [uGn, uApp, PU.st, PU.gt, uCp, uCons, uOp, uIdxM, uVar]
    refine ⟨⟨_, rfl⟩, ?_⟩
    refine idx_pairs pm fun j hj => ?_
    obtain ⟨t, ht, et⟩ := getmapP (f := evenI (lcmF ts)) hj
    have mt := List.mem_of_getElem? ht
    refine ix_l (d := trD t) (by rw [List.getElem?_map, ht]; rfl) ?_
    have tc := h3 t mt
    have tb := tc.tb
    refine ⟨t, rfl, ⟨by have := tc.c1; omega, tc.a.up (by decide), tc.b.up (by decide), tb.2.2.up (by decide)⟩, ?_⟩
    have rl : Rs.length ≤ i := by
      have := congrArg List.length e
      rw [List.length_map, List.length_take] at this
      omega
    have il := (List.getElem?_eq_some_iff.mp hp).1
    have hle := hh.le
    refine ⟨by rw [List.length_map]; omega, rfl, Rs ++ [redT t], _, by rw [List.map_append]; rfl, ?_, fun r m => ?_⟩
    · rw [List.map_append, e, List.take_succ, hp]
      show _ ++ [evenI (lcmF ts) (redT t)] = _ ++ [p]
      rw [(red_even tc.c1 ((evens_mu h3).2 t mt).d).2, et]
    · rcases List.mem_append.mp m with m | m
      · exact al2 r m
      · exact ⟨t, mt, List.mem_singleton.mp m⟩
  · obtain ⟨rfl, Rs, y, rfl, e, al2⟩ := hp
    rw [List.length_map, List.take_length] at e
    exact q _ _ ⟨rfl, Rs, rfl, front_ok h1 h2 h3 hh e al2 h4⟩
end
end L53
set_option maxHeartbeats 2000000
namespace L53
open PySem PySem.Spec PyProof.Rows L2 HG PU LamX
def wtI (price : P2) (t : P3) : Int := worthI (t.1, t.2.1) price
def bstep (price : P2) (b : P2) (t : P3) : P2 := if b.1 * t.2.2 < wtI price t * b.2 then (wtI price t, t.2.2) else b
def bsI (price : P2) : List P3 → P2
  | [] => (0, 1)
  | t :: r => r.foldl (bstep price) (wtI price t, t.2.2)
theorem bs_best {price : P2} : ∀ {r : List P3} {b : P2}, 1 ≤ b.2 → (∀ t ∈ r, 1 ≤ t.2.2) → redI (r.foldl (bstep price) b).1 (r.foldl (bstep price) b).2 = best (redI b.1 b.2) (r.map (mpI price))
  | [], b, _, _ => rfl
  | t :: r, b, h, g => by
    have gt := g t List.mem_cons_self
    have e : ahB (mpI price t) (redI b.1 b.2) = decide (b.1 * t.2.2 < wtI price t * b.2) := ah_red (.inr (by omega)) (.inr (by omega))
    show redI (r.foldl (bstep price) (bstep price b t)).1 (r.foldl (bstep price) (bstep price b t)).2 = best (if ahB (mpI price t) (redI b.1 b.2) = true then mpI price t else redI b.1 b.2) (r.map (mpI price))
    rw [e]
    unfold bstep
    by_cases z : b.1 * t.2.2 < wtI price t * b.2
    · rw [if_pos z, if_pos (decide_eq_true z)]
      exact bs_best (r := r) (b := (wtI price t, t.2.2)) gt fun t m => g t (List.mem_cons_of_mem _ m)
    · rw [if_neg z, if_neg (by simpa using z)]
      exact bs_best (r := r) h fun t m => g t (List.mem_cons_of_mem _ m)
theorem bs_of {price : P2} {ts : List P3} (ne : ts ≠ []) (h : ∀ t ∈ ts, 1 ≤ t.2.2) : redI (bsI price ts).1 (bsI price ts).2 = bestOf price ts := by
  cases ts with
  | nil => exact absurd rfl ne
  | cons t r => exact bs_best (h t List.mem_cons_self) fun t m => h t (List.mem_cons_of_mem _ m)
theorem bs_snoc {price : P2} {l : List P3} {t : P3} (ne : l ≠ []) : bsI price (l ++ [t]) = bstep price (bsI price l) t := by
  cases l with
  | nil => exact absurd rfl ne
  | cons x r =>
    show (r ++ [t]).foldl _ _ = _
    rw [List.foldl_append]
    rfl
theorem bs_pos {price : P2} {ts : List P3} (ne : ts ≠ []) (pp : InP 64 price) (h : ∀ t ∈ ts, Tc t) : In 200 (bsI price ts).1 ∧ 1 ≤ (bsI price ts).2 ∧ (bsI price ts).2 ≤ 12 := by
  cases ts with
  | nil => exact absurd rfl ne
  | cons t r =>
    have go : ∀ {r : List P3} {b : P2}, (In 200 b.1 ∧ 1 ≤ b.2 ∧ b.2 ≤ 12) → (∀ t ∈ r, Tc t) → (In 200 (r.foldl (bstep price) b).1 ∧ 1 ≤ (r.foldl (bstep price) b).2 ∧ (r.foldl (bstep price) b).2 ≤ 12) := by
      intro r
      induction r with
      | nil => exact fun h _ => h
      | cons t r ih =>
        intro b hb g
        refine ih ?_ fun t m => g t (List.mem_cons_of_mem _ m)
        have tc := g t List.mem_cons_self
        unfold bstep
        split
        · exact ⟨(mp_ok pp tc.tb tc.c1).1, tc.c1, tc.c2⟩
        · exact hb
    have tc := h t List.mem_cons_self
    exact go ⟨(mp_ok pp tc.tb tc.c1).1, tc.c1, tc.c2⟩ fun t m => h t (List.mem_cons_of_mem _ m)
def bsD (price : P2) : List P3 → D
  | [] => .non
  | t :: r => PU.prD (bsI price (t :: r))
theorem bsD_ne {price : P2} {l : List P3} (ne : l ≠ []) : bsD price l = PU.prD (bsI price l) := by
  cases l with
  | nil => exact absurd rfl ne
  | cons _ _ => rfl
section
variable {P : Program} {w : World} {K : PySem.W.Frag} {mg : Str → Option Value} {base : Heap}
def sp_l_mean : SpD := spF (fun (x : List P3 × P2) => [.tup (x.1.map trD), PU.prD x.2]) (fun x => x.1 ≠ [] ∧ InP 64 x.2 ∧ ∀ t ∈ x.1, Tc t) fun x => PU.prD (bestOf x.2 x.1)
theorem ok_l_mean (D : Def K mg "_law_mean" s_l_mean ["some", "price"])
    (c__law_terms : CalG P w K mg base CX0 2 "_law_terms" ["one", "two"] (fun _ : Unit => gh0) (fun _ => sp_l_terms))
    (c__law_worth : CalG P w K mg base CX0 1 "_law_worth" ["pair", "price"] (fun _ : Unit => gh0) (fun _ => sp_l_worth))
     :
    CalG P w K mg base CX0 3 "_law_mean" ["some", "price"] (fun _ : Unit => gh0) (fun _ => sp_l_mean) := by
  refine D.uk sc_l_mean (fun i => gh0_ok) (fun _ => mo_F) (fun _ ds n Q E ⟨x, e, _⟩ => by rw [e]; rfl) (fun i f cdv A outer s F H Ev ds n Q E hC hr h => ?_)
  have nd := sc_l_mean.nd
  have hu := hr.units
  obtain ⟨⟨ts, p⟩, rfl, hp, q⟩ := h
  try dsimp only at q
  refine ⟨_, (us_cons (us_set (i := 2) ue_non nd)
      (us_cons (us_for (ui_row (ue_var (i := 0))) (ug_name (i := 3) nd)
      (us_cons (us_set (i := 4) (uc_p c__law_worth hr pass0 (ua_cons (ue_var (i := 3)) (ua_cons (ue_var (i := 1)) ua_nil))) nd)
      (us_one (us_if (UW.ut (uw_or (ut_cmp opd_isN (ue_var (i := 2)) ue_non) (uw_or1 (ut_cmp opd_gt (ue_op opd_mul (ue_var (i := 4)) (ue_ix (ue_var (i := 2)) ue_int)) (ue_op opd_mul (ue_ix (ue_var (i := 2)) ue_int) (ue_ix (ue_var (i := 3)) ue_int)))))) (us_one (us_set (i := 2) (ue_tup (ua_cons (ue_var (i := 4)) (ua_cons (ue_ix (ue_var (i := 3)) ue_int) ua_nil))) nd)) us_nil))))
      (us_one (us_ret (uc_p c__law_terms hr pass0 (ua_cons (ue_ix (ue_var (i := 2)) ue_int) (ua_cons (ue_ix (ue_var (i := 2)) ue_int) ua_nil))))))), ?_⟩
  obtain ⟨h1, h2, h3⟩ := hp
  dsimp only at h1 h2 h3
  have q : Q (PU.prD (bestOf p ts)) n := q
  rw [← bs_of h1 fun t m => (h3 t m).c1] at q
  refine ⟨fun i ρ k => k = n ∧ ∃ (y1 y2 : S), ρ = [.d (.tup (ts.map trD)), .d (PU.prD p), .d (bsD p (ts.take i)), y1, y2], ⟨rfl, _, _, rfl⟩, fun i x ρ k hx hp => ?_, fun ρ k hp => ?_⟩
  · obtain ⟨rfl, y1, y2, rfl⟩ := hp
    obtain ⟨t, ht, rfl⟩ := getT hx
    have tc := h3 t (List.mem_of_getElem? ht)
    have tk : ts.take (i + 1) = ts.take i ++ [t] := by
      rw [List.take_succ, ht]
      rfl
    dsimp only
    rw [tk]
    have tl : ∀ t ∈ ts.take i, Tc t := fun t m => h3 t (List.mem_of_mem_take m)
    generalize ts.take i = l at tl
    refine ⟨(t, p), rfl, h2.sm, ?_⟩
    by_cases ln : l = []
    · subst ln
      refine ⟨rfl, ?_⟩
      refine ix_t2 ?_
      exact ⟨by show 2 ≤ sizeLine; decide, rfl, _, _, rfl⟩
    · have ne2 : l ++ [t] ≠ [] := fun z => by simp at z
      obtain ⟨b1, b2, b3⟩ := bs_pos ln h2 tl
      rw [bsD_ne ln, bsD_ne ne2, bs_snoc ln]
      generalize bsI p l = b at b1 b2 b3
      refine ⟨rfl, ?_⟩
      refine ix_t1 ?_
      have two64 : (2 : Int) ^ 64 = 18446744073709551616 := by decide
      refine ⟨.inr ⟨by omega, by omega⟩, ?_⟩
      refine ix_t0 ?_
      refine ix_t2 ?_
      refine ⟨.inr tc.sm, ?_⟩
      unfold bstep
      refine ite_b (b := decide (b.1 * t.2.2 < wtI p t * b.2)) (fun e => ?_) fun e => ?_
      · rw [if_pos (of_decide_eq_true e)]
        refine ix_t2 ?_
        exact ⟨by show 2 ≤ sizeLine; decide, rfl, _, _, rfl⟩
      · rw [if_neg (of_decide_eq_false e)]
        exact ⟨rfl, _, _, rfl⟩
  · obtain ⟨rfl, y1, y2, rfl⟩ := hp
    rw [List.length_map, List.take_length, bsD_ne h1]
    obtain ⟨b1, b2, b3⟩ := bs_pos h1 h2 h3
    refine ix_t0 ?_
    refine ix_t1 ?_
    exact ⟨bsI p ts, rfl, ⟨.inr (by omega), b1, in200 (by omega) (by omega)⟩, q⟩
end
end L53
set_option maxHeartbeats 2000000
namespace L53
open PySem PySem.Spec PyProof.Rows L2 HG PU LamX
theorem py_trs : ∀ ps : List P3, pyA (ps.map trD) = some (ps.map pyT)
  | [] => rfl
  | p :: r => by
    rw [List.map_cons, List.map_cons]
    simp only [pyA, py_tr, py_trs r]
theorem lay_trs : ∀ ps : List P3, PyData.canLayAll0 (ps.map pyT) = true ∧ PyData.depthAll (ps.map pyT) ≤ 2
  | [] => ⟨by simp [PyData.canLayAll0], by simp [PyData.depthAll]⟩
  | p :: r => by
    obtain ⟨h1, h2⟩ := lay_trs r
    refine ⟨by simp [PyData.canLayAll0, PyData.canLay0, pyT, h1], ?_⟩
    simp only [List.map_cons, PyData.depthAll, pyT, PyData.depth]
    omega
theorem shaped_trs (ps : List P3) : SeqAt.shaped (.list (ps.map pyT)) = true := by
  obtain ⟨h1, h2⟩ := lay_trs ps
  show (PyData.canLay0 _ && decide (PyData.depth _ ≤ 64)) = true
  rw [Bool.and_eq_true]
  refine ⟨by simp only [PyData.canLay0]; exact h1, decide_eq_true ?_⟩
  simp only [PyData.depth]
  omega
theorem eq_nil_trs {f : Bool → Bool} {ts : List P3} {Q : D → Prop} (q : Q (.bl (f ts.isEmpty))) : rEqA f (.lst (ts.map trD)) (.lst []) Q := by
  have e1 : (D.lst (ts.map trD)).py = some (.list (ts.map pyT)) := by simp only [D.py, py_trs, Option.map]
  have e2 : (D.lst []).py = some (.list (([] : List P3).map pyT)) := by
    simp only [D.py, pyA]
    rfl
  show PU.rEqD f _ _ _
  unfold PU.rEqD
  rw [e1, e2]
  refine ⟨shaped_trs ts, shaped_trs [], ?_⟩
  cases ts with
  | nil => exact q
  | cons a r =>
    have e : PyData.eqv (.list ((a :: r).map pyT)) (.list (([] : List P3).map pyT)) = false := by
      simp [PyData.eqv, PyData.eqvAll]
    rw [e]
    exact q
/-- a triple that is drawn at turn i -/
structure Dr (i : Nat) (t : P3) : Prop where
  a1 : -(100000000000 + 3 * (i : Int)) ≤ t.1
  a2 : t.1 ≤ 100000000000 + 3 * (i : Int)
  b1 : -(100000000000 + 3 * (i : Int)) ≤ t.2.1
  b2 : t.2.1 ≤ 100000000000 + 3 * (i : Int)
  c1 : 1 ≤ t.2.2
  c2 : t.2.2 ≤ 12
theorem Dr.up {i : Nat} {t : P3} (h : Dr i t) : Dr (i + 1) t := by
  obtain ⟨a1, a2, b1, b2, c1, c2⟩ := h
  exact ⟨by omega, by omega, by omega, by omega, c1, c2⟩
theorem Dr.tc {i : Nat} {t : P3} (h : Dr i t) (hi : i ≤ 6) : Tc t := by
  obtain ⟨a1, a2, b1, b2, c1, c2⟩ := h
  exact ⟨in_of (by omega) (by omega), in_of (by omega) (by omega), c1, c2⟩
theorem in39 {i : Int} (h : -549755813888 < i) (h2 : i < 549755813888) : In 39 i := by
  unfold In
  have : (2 : Nat) ^ 39 = 549755813888 := by decide
  omega
theorem Dr.sm {i : Nat} {t : P3} (h : Dr i t) (hi : i ≤ 6) : In 39 t.1 ∧ In 39 t.2.1 := by
  obtain ⟨a1, a2, b1, b2, c1, c2⟩ := h
  exact ⟨in39 (by omega) (by omega), in39 (by omega) (by omega)⟩
theorem ixo_last {α : Type} {f : α → D} {xs : List α} {x : α} {i : Nat} {al : Addr} {ρ : List S} {n : Nat} {Q : D → Nat → Prop} (e : gt ρ i = .o al (xs.map f)) (h : xs[xs.length - 1]? = some x) (q : Q (f x) n) : uIxO i (uNeg (uC (.int 1))) ρ n Q := by
  have l := (List.getElem?_eq_some_iff.mp h).1
  have e2 : atI (xs.map f) (-1 : Int) = some (f x) := by
    have := at_neg (xs := xs.map f) (k := 1) (Nat.le_refl 1) (by rw [List.length_map]; omega)
    rw [List.length_map, List.getElem?_map, h] at this
    exact this
  unfold uIxO
  rw [e]
  show (match atI (xs.map f) (-1 : Int) with | some y => Q y n | none => False)
  rw [e2]
  exact q
theorem ix_negG {α : Type} {f : α → D} {xs : List α} {k : Nat} {x : α} {Q : D → Prop} (h1 : 1 ≤ k) (h2 : k ≤ xs.length) (h : xs[xs.length - k]? = some x) (q : Q (f x)) : PU.rIx (.lst (xs.map f)) (.int (-(k : Int))) Q := by
  have e : atI (xs.map f) (-(k : Int)) = some (f x) := by
    rw [at_neg h1 (by rw [List.length_map]; exact h2), List.length_map, List.getElem?_map, h]
    rfl
  unfold PU.rIx
  simp only [e]
  exact q
section
variable {P : Program} {w : World} {K : PySem.W.Frag} {mg : Str → Option Value} {base : Heap}
def sp_l_numbers (i : Addr × Addr × Addr) : SpD := spN (fun (_ : Unit) => [.ref i.1]) (fun _ n => n < 999980000) fun _ n d m => m ≤ n + 2 ∧ ∃ c : Int, d = .int c ∧ -100000000000 ≤ c ∧ c ≤ 100000000000
theorem ok_l_numbers (D : Def K mg "_law_numbers" s_l_numbers ["draw"])
    (c__law_cost : CalG P w K mg base CX0 3 "_law_cost" ["draw", "peak"] gDraw sp_l_cost)
    (c__law_pick : CalG P w K mg base CX0 3 "_law_pick" ["draw", "some"] gDraw sp_l_pick)
     :
    CalG P w K mg base CX0 4 "_law_numbers" ["draw"] gDraw sp_l_numbers := by
  refine D.uk sc_l_numbers (fun i => gDraw_ok i) (fun _ => mo_N) (fun _ ds n Q E ⟨x, e, _⟩ => by rw [e]; rfl) (fun i f cdv A outer s F H Ev ds n Q E hC hr h => ?_)
  have nd := sc_l_numbers.nd
  have hu := hr.units
  have em : Emb (gDraw i) (cnOf (gDraw i) F H).toGh := Emb.rfl
  obtain ⟨_, rfl, hp, q⟩ := h
  try dsimp only at q
  refine ⟨_, (us_cons (us_set (i := 1) (uc_e i em hC c__law_pick hr pass0 (ua_cons (ue_var (i := 0)) (ua_cons (UL.ue (ul_lst (ua_cons ue_int (ua_cons ue_int (ua_cons ue_int (ua_cons ue_int (ua_cons (ue_op opd_pow ue_int ue_int) ua_nil))))))) ua_nil))) nd)
      (us_one (us_ret (uc_e i em hC c__law_cost hr pass0 (ua_cons (ue_var (i := 0)) (ua_cons (ue_var (i := 1)) ua_nil)))))), ?_⟩
  have sz : sizeLine = 16777216 := sizeLine_eq
  refine ⟨⟨by decide, by decide, by decide⟩, by show 5 ≤ sizeLine; decide, ?_⟩
  refine ⟨(.lst _, _), rfl, ⟨.inl rfl, by simp, by simp, by omega⟩, fun d m hd => ?_⟩
  obtain ⟨hd, rfl⟩ := hd
  have go : ∀ p : Nat, p ≤ 100000000000 → ∀ d m, (m = n + 1 + 1 ∧ ∃ c : Int, d = PU.D.int c ∧ -(p : Int) ≤ c ∧ c ≤ p) → Q d m := fun p hp d m ⟨e, c, e2, c1, c2⟩ => q _ _ ⟨by omega, c, e2, by omega, by omega⟩
  have e11 : (10 : Int) ^ (11 : Int).toNat = 100000000000 := by decide
  dsimp only at hd
  rw [e11] at hd
  simp only [List.mem_cons, List.not_mem_nil, or_false] at hd
  rcases hd with rfl | rfl | rfl | rfl | rfl
  · exact ⟨1, rfl, ⟨by decide, by omega⟩, go 1 (by decide)⟩
  · exact ⟨2, rfl, ⟨by decide, by omega⟩, go 2 (by decide)⟩
  · exact ⟨9, rfl, ⟨by decide, by omega⟩, go 9 (by decide)⟩
  · exact ⟨9, rfl, ⟨by decide, by omega⟩, go 9 (by decide)⟩
  · exact ⟨100000000000, rfl, ⟨by decide, by omega⟩, go 100000000000 (by decide)⟩
def sp_l_triples (i : Addr × Addr × Addr) : SpD := spN (fun (_ : Unit) => [.ref i.1]) (fun _ n => n < 999970000) fun _ n d m => m ≤ n + 100 ∧ ∃ ts : List P3, d = .lst (ts.map trD) ∧ ts ≠ [] ∧ ts.length < 900 ∧ (∀ t ∈ ts, Tc t) ∧ ∀ t ∈ ts, In 39 t.1 ∧ In 39 t.2.1
theorem ok_l_triples (D : Def K mg "_law_triples" s_l_triples ["draw"])
    (z_range : mg "range" = none)
    (c__law_numbers : CalG P w K mg base CX0 4 "_law_numbers" ["draw"] gDraw sp_l_numbers)
    (c__law_pick : CalG P w K mg base CX0 3 "_law_pick" ["draw", "some"] gDraw sp_l_pick)
    (c__law_take : CalG P w K mg base CX0 2 "_law_take" ["draw", "many"] gDraw sp_l_take)
     :
    CalG P w K mg base CX0 5 "_law_triples" ["draw"] gDraw sp_l_triples := by
  refine D.uk sc_l_triples (fun i => gDraw_ok i) (fun _ => mo_N) (fun _ ds n Q E ⟨x, e, _⟩ => by rw [e]; rfl) (fun i f cdv A outer s F H Ev ds n Q E hC hr h => ?_)
  have nd := sc_l_triples.nd
  have hu := hr.units
  have em : Emb (gDraw i) (cnOf (gDraw i) F H).toGh := Emb.rfl
  obtain ⟨_, rfl, hp, q⟩ := h
  try dsimp only at q
  refine ⟨_, (us_cons (us_setO (i := 1) hC (ul_lst ua_nil) nd)
      (us_cons (us_for (ui_range1 (ua_cons (ue_op opd_plus ue_int (uc_e i em hC c__law_take hr pass0 (ua_cons (ue_var (i := 0)) (ua_cons ue_int ua_nil)))) ua_nil) z_range) (ug_name (i := 2) nd)
      (us_cons (us_set (i := 3) (ue_tup (ua_cons (uc_e i em hC c__law_numbers hr pass0 (ua_cons (ue_var (i := 0)) ua_nil)) (ua_cons (uc_e i em hC c__law_numbers hr pass0 (ua_cons (ue_var (i := 0)) ua_nil)) (ua_cons (ue_op opd_plus ue_int (uc_e i em hC c__law_take hr pass0 (ua_cons (ue_var (i := 0)) (ua_cons (uc_e i em hC c__law_pick hr pass0 (ua_cons (ue_var (i := 0)) (ua_cons (UL.ue (ul_lst (ua_cons ue_int (ua_cons ue_int (ua_cons ue_int ua_nil))))) ua_nil))) ua_nil)))) ua_nil)))) nd)
      (us_cons (us_if (UW.ut (uw_and (ut_tmp (i := 1) (ut_cmp (opd_neA hu) (ue_var (i := 1)) (UL.ue (ul_lst ua_nil)))) (uw_and1 (ut_cmp (opd_eqA hu) (uc_e i em hC c__law_take hr pass0 (ua_cons (ue_var (i := 0)) (ua_cons ue_int ua_nil))) ue_int)))) (us_one (us_set (i := 3) (ue_tup (ua_cons (ue_op opd_sub (ue_ix (ue_ixO (i := 1) (ue_neg ue_int)) ue_int) (uc_e i em hC c__law_take hr pass0 (ua_cons (ue_var (i := 0)) (ua_cons ue_int ua_nil)))) (ua_cons (ue_op opd_plus (ue_ix (ue_ixO (i := 1) (ue_neg ue_int)) ue_int) (uc_e i em hC c__law_take hr pass0 (ua_cons (ue_var (i := 0)) (ua_cons ue_int ua_nil)))) (ua_cons (ue_ix (ue_ixO (i := 1) (ue_neg ue_int)) ue_int) ua_nil)))) nd)) us_nil)
      (us_one (us_app (i := 1) (ue_var (i := 3)))))))
      (us_one (us_frz 1 (us_ret (ue_var (i := 1))))))), ?_⟩
  have sz : sizeLine = 16777216 := sizeLine_eq
  refine ⟨by show 0 ≤ sizeLine; decide, fun al => ?_⟩
  refine ⟨6, rfl, by omega, by decide, by decide, fun r r0 r1 => ?_⟩
  refine ⟨⟨by omega, by omega⟩, fun j ρ k => k ≤ n + 1 + 10 * j ∧ ∃ (ts : List P3) (y2 y3 : S), ρ = [.d (.ref i.1), .o al (ts.map trD), y2, y3] ∧ ts.length = j ∧ ∀ t ∈ ts, Dr j t, ⟨by omega, [], _, _, rfl, rfl, (fun _ z => nomatch z)⟩, fun j x ρ k hx hp => ?_, fun ρ k hp => ?_⟩
  · obtain ⟨kb, ts, y2, y3, rfl, tl, td⟩ := hp
    obtain ⟨hj, rfl⟩ := rg_get hx
    have j6 : j < 6 := by omega
    refine ⟨(), rfl, by show k < 999980000; omega, fun d1 m1 hd1 => ?_⟩
    obtain ⟨k1, a, rfl, a1, a2⟩ := hd1
    refine ⟨(), rfl, by show m1 < 999980000; omega, fun d2 m2 hd2 => ?_⟩
    obtain ⟨k2, b, rfl, b1, b2⟩ := hd2
    refine ⟨by show 3 ≤ sizeLine; decide, ?_⟩
    refine ⟨(.lst _, _), rfl, ⟨.inl rfl, by simp, by simp, by omega⟩, fun d m hd => ?_⟩
    obtain ⟨hd, rfl⟩ := hd
    obtain ⟨p, rfl, p1, p2⟩ : ∃ p : Int, d = .int p ∧ 1 ≤ p ∧ p ≤ 12 := by
      simp only [List.mem_cons, List.not_mem_nil, or_false] at hd
      rcases hd with rfl | rfl | rfl <;> exact ⟨_, rfl, by decide, by decide⟩
    have two64 : (2 : Int) ^ 64 = 18446744073709551616 := by decide
    refine ⟨p, rfl, by omega, by omega, by omega, fun c c0 c1 => ?_⟩
    refine ⟨by show 3 ≤ sizeLine; decide, ?_⟩
    have m2k : m2 + 1 + 1 ≤ n + 1 + 10 * j + 6 := by omega
    generalize m2 + 1 + 1 = m3 at m2k ⊢
    dsimp only
    have dr : Dr j (a, b, 1 + c) := ⟨by show -(100000000000 + 3 * (j : Int)) ≤ a; omega, by show a ≤ _; omega, by show _ ≤ b; omega, by show b ≤ _; omega, by show 1 ≤ 1 + c; omega, by show 1 + c ≤ 12; omega⟩
    refine seq_mid (w := uIfS _ _ _) (fun ρ m => m ≤ n + 1 + 10 * j + 9 ∧ ∃ (t : P3) (y : S), ρ = [.d (.ref i.1), .o al (ts.map trD), y, .d (trD t)] ∧ Dr (j + 1) t) (fun NX nx => ?_) (fun ρ m hp => ?_)
    · refine ⟨by show 0 ≤ sizeLine; decide, ?_⟩
      refine eq_nil_trs ?_
      refine ite_b (b := !ts.isEmpty) (fun e3 => ?_) fun e3 => ?_
      · have f1 : 1 ≤ ts.length := by
          cases ts with
          | nil => cases e3
          | cons _ _ => exact Nat.succ_le_succ (Nat.zero_le _)
        obtain ⟨l, hl⟩ := at_lt (xs := ts) (k := 1) (Nat.le_refl 1) f1
        have dl := td l (last_mem hl)
        refine ⟨3, rfl, by omega, by decide, by decide, fun z z0 z1 => ?_⟩
        refine ite_b (b := decide (z = 0)) (fun e4 => ?_) fun e4 => ?_
        · dsimp only [uSet, uTup, uCons, uOp]
          refine ixo_last (f := trD) (xs := ts) (al := al) (i := 1) ?e hl ?_
          case e => rfl
          refine ix_t0 ?_
          refine ⟨4, rfl, by omega, by decide, by decide, fun u u0 u1 => ?_⟩
          dsimp only [rInt0]
          refine ixo_last (f := trD) (xs := ts) (al := al) (i := 1) ?e hl ?_
          case e => rfl
          refine ix_t1 ?_
          refine ⟨4, rfl, by omega, by decide, by decide, fun v v0 v1 => ?_⟩
          dsimp only [rPlus]
          refine ixo_last (f := trD) (xs := ts) (al := al) (i := 1) ?e hl ?_
          case e => rfl
          refine ix_t2 ?_
          obtain ⟨a1, a2, b1, b2, c1, c2⟩ := dl
          refine ⟨by show 3 ≤ sizeLine; decide, nx _ _ ⟨by omega, (l.1 - u, l.2.1 + v, l.2.2), _, rfl, ?_⟩⟩
          exact ⟨by show _ ≤ l.1 - u; omega, by show l.1 - u ≤ _; omega, by show _ ≤ l.2.1 + v; omega, by show l.2.1 + v ≤ _; omega, c1, c2⟩
        · exact nx _ _ ⟨by omega, _, _, rfl, dr.up⟩
      · refine ite_b (b := false) (fun z => nomatch z) fun _ => nx _ _ ⟨by omega, _, _, rfl, dr.up⟩
    · obtain ⟨mb, t, y, rfl, dt⟩ := hp
      refine ⟨by rw [List.length_map]; omega, by omega, ts ++ [t], _, _, by rw [List.map_append]; rfl, by rw [List.length_append, tl]; rfl, fun x m => ?_⟩
      rcases List.mem_append.mp m with m | m
      · exact (td x m).up
      · rw [List.mem_singleton.mp m]
        exact dt
  · obtain ⟨kb, ts, y2, y3, rfl, tl, td⟩ := hp
    have rl : (rgD 0 (1 + r).toNat).length = (1 + r).toNat := by
      unfold rgD
      rw [List.length_map, List.length_range]
    rw [rl] at tl kb td
    have nz : ts ≠ [] := fun z => by
      rw [z] at tl
      simp only [List.length_nil] at tl
      omega
    exact q _ _ ⟨by omega, ts, rfl, nz, by omega, (fun t m => (td t m).tc (by omega)), fun t m => (td t m).sm (by omega)⟩
end
end L53
set_option maxHeartbeats 2000000
namespace PU
open PySem PySem.Spec PyProof.Rows L2 HG LamX
theorem pick_take {α : Type} (l : List α) : ∀ n, n ≤ l.length → (List.range n).filterMap (fun k => l[k]?) = l.take n
  | 0, _ => rfl
  | n + 1, h => by
    rw [List.range_succ, List.filterMap_append, pick_take l n (by omega), List.take_succ]
    have : l[n]? = some l[n] := List.getElem?_eq_getElem (by omega)
    rw [this]
    simp [this]
theorem fm_congr {α β : Type} {f g : α → Option β} : ∀ {l : List α}, (∀ x ∈ l, f x = g x) → l.filterMap f = l.filterMap g
  | [], _ => rfl
  | x :: r, h => by
    rw [List.filterMap_cons, List.filterMap_cons, h x List.mem_cons_self, fm_congr fun y m => h y (List.mem_cons_of_mem _ m)]
theorem pick_rev (xs : Array Value) : (List.filterMap (fun (k : Nat) => xs[(((xs.size : Int) - 1) + (k : Int) * (-1)).toNat]?) (List.range xs.size)).toArray = xs.toList.reverse.toArray := by
  have e : List.filterMap (fun (k : Nat) => xs[(((xs.size : Int) - 1) + (k : Int) * (-1)).toNat]?) (List.range xs.size) = (List.range xs.size).filterMap fun k => xs.toList.reverse[k]? := by
    refine fm_congr fun k hk => ?_
    have hk := List.mem_range.mp hk
    rw [List.getElem?_reverse (by rw [Array.length_toList]; exact hk), Array.length_toList, Array.getElem?_toList]
    congr 1
    omega
  rw [e, pick_take _ _ (by rw [List.length_reverse, Array.length_toList]; exact Nat.le_refl _)]
  rw [List.take_of_length_le (by rw [List.length_reverse, Array.length_toList]; exact Nat.le_refl _)]
theorem sliceApplied_rev {prog : Program} {w : World} {A : Around} {E : Value → Shared → Prop} {s : Shared} {sl : Addr} {n : Nat} {u : Tok} {Q : Int × Int × Nat → Shared → Prop}
    (h : s.heap.IsSliceOf sl .none .none (.int (-1) u)) (q : Q ((n : Int) - 1, -1, n) s) : wpAny (model prog w) A (Builtin.Slice.sliceApplied (.ref sl) (pure (n : Int))) Q E s := by
  obtain ⟨o, ho, hc, hd⟩ := h
  unfold Builtin.Slice.sliceApplied
  refine wpAny_bind ?_
  unfold Builtin.Slice.sliceFields
  refine wpAny_bind (wpAny_field ho hd (i := 0) rfl ?_)
  refine wpAny_bind (wpAny_field ho hd (i := 1) rfl ?_)
  refine wpAny_bind (wpAny_field ho hd (i := 2) rfl ?_)
  refine wpAny_pure ?_
  dsimp only
  refine wpAny_bind (HT.slicePart_ (.int (-1) u) ?_)
  show wpAny _ _ (_ >>= _) _ _ _
  refine wpAny_bind (HT.slicePart_ .none ?_)
  refine wpAny_bind (HT.slicePart_ .none ?_)
  refine wpAny_bind (wpAny_pure ?_)
  refine wpAny_pure ?_
  have e1 : Builtin.Slice.sliceAdjust none none ((some (-1)).getD 1) (n : Int) = ((n : Int) - 1, -1) := rfl
  have e2 : Builtin.Slice.slicePlaces ((n : Int) - 1) (-1) (-1) = n := by
    unfold Builtin.Slice.slicePlaces
    rw [if_neg (by decide)]
    by_cases z : n = 0
    · subst z
      rfl
    · rw [if_pos (by omega), show - (-1 : Int) = 1 from rfl, Int.ediv_one]
      omega
  rw [e1]
  show Q ((n : Int) - 1, -1, Builtin.Slice.slicePlaces ((n : Int) - 1) (-1) (-1)) s
  rw [e2]
  exact q
theorem getItem_tuple_rev {prog : Program} {w : World} {A : Around} {E : Value → Shared → Prop} {s : Shared} {t sl : Addr} {items : Array Value} {u : Tok} {Q : Value → Shared → Prop}
    (ht : IsTup s.heap t items) (hs : s.heap.IsSliceOf sl .none .none (.int (-1) u)) (hz : items.size ≤ sizeLine)
    (q : Q (.ref s.heap.objs.size) { s with heap := s.heap.push { cls := .type "tuple", data := .seq items.toList.reverse.toArray } }) :
    wpAny (model prog w) A (getItem (.ref t) (.ref sl)) Q E s := by
  obtain ⟨o, ho, hc, n, hd⟩ := id ht
  obtain ⟨o2, ho2, hc2, hd2⟩ := id hs
  have ty : s.TypeIs (.ref t) "tuple" := ⟨o, ho, hc⟩
  refine getItem_slot ty (by decide) slot_tuple_getitem (wpAny_call_entry slot_tuple_getitem ty entry_tuple_getitem ?_ (args_tuple_getitem _ _))
  unfold Builtin.«tuple.__getitem__»
  refine wpAny_bind ?_
  show wpAny _ _ (pure (Value.ref t, [Value.ref sl])) _ _ _
  refine wpAny_pure ?_
  dsimp only
  refine wpAny_bind (tupleItemsOf_ ht ?_)
  refine wpAny_bind (wpAny_typeOf (T := "slice") ⟨o2, ho2, hc2⟩ ?_)
  have sl0 : (Value.type "slice" == Value.type "slice") = true := by decide
  rw [if_pos sl0]
  refine wpAny_bind (sliceApplied_rev hs ?_)
  dsimp only
  rw [if_neg (by simp), pick_rev]
  unfold Builtin.Tuple.tupleExact
  refine wpAny_bind (wpAny_newObj_type ?_ ?_)
  · exact wpAny_pure ⟨_, rfl, q⟩
  · show _ ≤ sizeLine
    rw [List.size_toArray, List.length_reverse, Array.length_toList]
    exact hz
def tRevT (K : PySem.W.Frag) (te : TE) : TE := fun σ H Q => te σ H fun v H1 => ∃ a xs, v = .ref a ∧ SqT K H1 a xs ∧ ∀ p, H1 p = none → Q (.ref p) (upd H1 p (.tup xs.reverse))
theorem pe_revT {X : Cx} {e : Expr} {te : TE} {k : Nat} {p1 p2 p3 pos : Pos} (he : PE X e te) (hl : ∀ o r : Value, letTemporaryGo e o r = pure () := by intro _ _; rfl) :
    PE X (.Subscript e (.Slice none none (some (.UnaryOp .USub (.Constant (.int 1) k p1) p2)) p3) pos) (tRevT X.K te) := by
  refine ⟨fun pins s σ H Q I h => ?_⟩
  refine wpAny_Subscript_Slice_step (T := "tuple") (id := "tuple.__getitem__") slot_tuple_getitem.lookup (thn (he.run pins s σ H _ I h) fun v s1 ⟨x, H1, I1, rx, q⟩ => ?_) hl
  obtain ⟨a, xs, rfl, hq, q⟩ := q
  cases rx
  refine wpAny_Slice ?_
  show wpAny _ _ (pure Value.none) _ _ _
  refine wpAny_pure ?_
  show wpAny _ _ (pure Value.none) _ _ _
  refine wpAny_pure ?_
  show wpAny _ _ (eval (.UnaryOp .USub (.Constant (.int 1) k p1) p2) X.env) _ _ _
  refine thn ((pe_un un_neg (pe_int (X := X) (i := 1) (j := k) (pos := p1)) (pos := p2)).run pins s1 σ H1 (fun y H2 => y = .int (-1) ∧ H2 = H1) I1 ?_) fun u s2 ⟨y, H2, I2, ry, ey, eh⟩ => ?_
  · exact ⟨1, rfl, rfl, rfl⟩
  · subst ey eh
    obtain ⟨tk, rfl⟩ : ∃ tk, u = Value.int (-1) tk := ry
    have I3 : Inv X pins σ H2 { s2 with heap := s2.heap.push { cls := .type "slice", data := .fields #[.none, .none, .int (-1) tk] } } := I2.kept (t' := s2.toks) fun b o e => Heap.get?_push_of_some _ e
    obtain ⟨its, rv, ht, hz⟩ := I3.tuple hq
    refine ⟨by obtain ⟨o, ho, hc, _⟩ := ht; exact ⟨o, ho, hc⟩, getItem_tuple_rev ht (Heap.IsSliceOf.new _ _ _ _) (by rw [List.size_toArray, ← rv.length]; exact hz) ?_⟩
    generalize ({ s2 with heap := s2.heap.push { cls := .type "slice", data := .fields #[.none, .none, .int (-1) tk] } } : Shared) = s3 at I3 ht ⊢
    have ok : ObjOk X.prog X.w (upd H2 s3.heap.objs.size (.tup xs.reverse)) (s3.heap.push { cls := .type "tuple", data := .seq its.reverse.toArray }) s3.heap.objs.size (.tup xs.reverse) :=
      ⟨by rw [List.length_reverse]; exact hz, its.reverse, rv.reverse, IsTup.new _ _⟩
    exact ⟨.ref s3.heap.objs.size, _, I3.laid (t' := s3.toks) (fun b o e => Heap.get?_push_of_some _ e) (Nat.le_refl _) ok, rfl, q _ (I3.hok.fresh (Nat.le_refl _))⟩
def uRevT (ua : TD) : TD := fun ρ n Q => ua ρ n fun d m => match d with
  | .tup xs => Q (.tup xs.reverse) m
  | _ => False
theorem ue_revT {X : Cx} {C : Cn} {e : Expr} {ua : TD} {k : Nat} {p1 p2 p3 pos : Pos} (h : UE X C e ua) (hl : ∀ o r : Value, letTemporaryGo e o r = pure () := by intro _ _; rfl) : UE X C (.Subscript e (.Slice none none (some (.UnaryOp .USub (.Constant (.int 1) k p1) p2)) p3) pos) (uRevT ua) := by
  refine ⟨PEw (pe_revT h.run hl) fun σ H Q ⟨F, ρ, n, rel, u⟩ => ⟨F, ρ, n, rel, h.mo _ _ _ _ (fun d m q v F1 H1 x1 m1 d1 => ?_) u⟩, fun ρ n P Q i w => h.mo _ _ _ _ (fun d m q => by cases d <;> first | exact i _ _ q | exact q) w⟩
  cases d1 with
  | tup hq ha => exact ⟨_, _, rfl, SqT.le x1.le hq, fun p np => q _ _ _ (x1.tr (Ex.newF x1.le np)) (C.stay m1 (Ex.newF x1.le np)) (dd_tupN ha.rev (x1.le.fr (fr0_none np)))⟩
  | _ => exact q.elim
end PU
set_option maxHeartbeats 2000000
namespace L53
open PySem PySem.Spec PyProof.Rows L2 HG PU LamX
theorem mem_cut {xs : List D} {lo hi : Option Int} {x : D} (m : x ∈ PU.cutD xs lo hi) : x ∈ xs := List.mem_of_mem_drop (List.mem_of_mem_take m)
theorem len_cut {xs : List D} {lo hi : Option Int} : (PU.cutD xs lo hi).length ≤ xs.length := by
  unfold PU.cutD
  rw [List.length_take, List.length_drop]
  omega
structure PyI (x : D) : Prop where
  ex : ∃ p, x.py = some p ∧ PyData.canLay0 p = true ∧ PyData.depth p ≤ 3
structure ItI (x : D) : Prop where
  fin : fine x = true
  py : PyI x
  tc : isMean x = true → Tc (trOf x)
  tr : ∀ t, x = trD t → In 200 t.1 ∧ In 200 t.2.1 ∧ In 200 t.2.2
theorem pyA_all : ∀ {xs : List D}, (∀ x ∈ xs, PyI x) → ∃ ps, pyA xs = some ps ∧ PyData.canLayAll0 ps = true ∧ PyData.depthAll ps ≤ 3
  | [], _ => ⟨[], by simp only [pyA], by simp [PyData.canLayAll0], by simp [PyData.depthAll]⟩
  | x :: r, h => by
    obtain ⟨p, e1, l1, d1⟩ := (h x List.mem_cons_self).ex
    obtain ⟨ps, e2, l2, d2⟩ := pyA_all fun y m => h y (List.mem_cons_of_mem _ m)
    refine ⟨p :: ps, by simp only [pyA, e1, e2], by simp only [PyData.canLayAll0, l1, l2, Bool.and_self], ?_⟩
    simp only [PyData.depthAll]
    omega
theorem fineT {xs : List D} (h : xs.length < 1000) (a : ∀ d ∈ xs, fine d = true) : fine (.tup xs) = true := by
  simp only [fine, Bool.and_eq_true, decide_eq_true_eq]
  exact ⟨h, fineA_of a⟩
theorem fineL {xs : List D} (h : xs.length < 1000) (a : ∀ d ∈ xs, fine d = true) : fine (.lst xs) = true := by
  simp only [fine, Bool.and_eq_true, decide_eq_true_eq]
  exact ⟨h, fineA_of a⟩
theorem okI_tup {xs : List D} (h : xs.length < 1000) (a : ∀ x ∈ xs, ItI x) : OkI (.tup xs) := by
  obtain ⟨ps, e, l, d⟩ := pyA_all fun x m => (a x m).py
  refine ⟨fineT h fun x m => (a x m).fin, ⟨.tuple ps, by simp only [D.py, e, Option.map], ?_⟩, fun ys z x m => ?_, fun ys z x m => ?_⟩
  · show (PyData.canLay0 _ && decide (PyData.depth _ ≤ 64)) = true
    rw [Bool.and_eq_true]
    refine ⟨by simp only [PyData.canLay0]; exact l, decide_eq_true ?_⟩
    simp only [PyData.depth]
    omega
  · cases z
    exact (a x m).tc
  · cases z
    exact (a x m).tr
theorem okI_lst {xs : List D} (h : xs.length < 1000) (f : ∀ x ∈ xs, fine x = true) (a : ∀ x ∈ xs, PyI x) : OkI (.lst xs) := by
  obtain ⟨ps, e, l, d⟩ := pyA_all a
  refine ⟨fineL h f, ⟨.list ps, by simp only [D.py, e, Option.map], ?_⟩, (fun ys z => nomatch z), (fun ys z => nomatch z)⟩
  show (PyData.canLay0 _ && decide (PyData.depth _ ≤ 64)) = true
  rw [Bool.and_eq_true]
  refine ⟨by simp only [PyData.canLay0]; exact l, decide_eq_true ?_⟩
  simp only [PyData.depth]
  omega
theorem pyI_tr (t : P3) : PyI (trD t) := ⟨_, py_tr t, by simp [pyT, PyData.canLay0, PyData.canLayAll0], by simp [pyT, PyData.depth, PyData.depthAll]⟩
theorem fine_tr (t : P3) : fine (trD t) = true := fineT (by show 3 < 1000; decide) fun d m => by
  simp only [List.mem_cons, List.not_mem_nil, or_false] at m
  rcases m with rfl | rfl | rfl <;> rfl
theorem trD_inj {t u : P3} (h : trD t = trD u) : t = u := by
  obtain ⟨a, b, c⟩ := t
  obtain ⟨d, e, f⟩ := u
  cases h
  rfl
theorem itI_tri {t : P3} (b : In 200 t.1 ∧ In 200 t.2.1 ∧ In 200 t.2.2) (h : isMean (trD t) = true → Tc t) : ItI (trD t) := ⟨fine_tr t, pyI_tr t, h, fun u e => by
  rw [← trD_inj e]
  exact b⟩
theorem Tc.in200 {t : P3} (h : Tc t) : In 200 t.1 ∧ In 200 t.2.1 ∧ In 200 t.2.2 := ⟨h.a.up (by decide), h.b.up (by decide), h.tb.2.2.up (by decide)⟩
theorem itI_tc {t : P3} (h : Tc t) : ItI (trD t) := itI_tri h.in200 fun _ => h
theorem twice_no (t : P3) : isMean (trD (2 * t.1, 2 * t.2.1, 2 * t.2.2)) = false := by
  show (decide (1 ≤ 2 * t.2.2) && decide (g3 (2 * t.1) (2 * t.2.1) (2 * t.2.2) = 1)) = false
  rw [g3_mul]
  have : ¬ (((2 : Int).natAbs : Nat) : Int) * g3 t.1 t.2.1 t.2.2 = 1 := by
    show ¬ (2 : Int) * g3 t.1 t.2.1 t.2.2 = 1
    omega
  rw [decide_eq_false this, Bool.and_false]
theorem itI_of {x : D} (f : fine x = true) (p : PyI x) (nm : isMean x = false) (nt : ∀ t, x ≠ trD t) : ItI x := ⟨f, p, (fun z => by rw [nm] at z; cases z), fun t e => absurd e (nt t)⟩
theorem py_small {x : D} {p : PyData} (e : x.py = some p) (l : PyData.canLay0 p = true) (d : PyData.depth p ≤ 3) : PyI x := ⟨p, e, l, d⟩
theorem wrongI {t : P3} (tc : Tc t) : ∀ d ∈ [D.tup [.int t.1, .int t.2.1], .lst [.int t.1, .int t.2.1, .int t.2.2], .tup ([D.int t.1, .int t.2.1, .int t.2.2] ++ [.int 1]), .tup [.int t.1, .int t.2.1, .int 0], .tup [.int t.1, .int t.2.1, .int (-1)], .tup [.int t.1, .int t.2.1, .bl true], .non], ItI d := by
  intro d m
  obtain ⟨a, b, c⟩ := t
  obtain ⟨i1, i2, i3⟩ := tc.in200
  have i0 : In 200 (0 : Int) := by unfold In; decide
  have im : In 200 (-1 : Int) := by unfold In; decide
  simp only [List.mem_cons, List.not_mem_nil, or_false, List.cons_append, List.nil_append] at m
  rcases m with rfl | rfl | rfl | rfl | rfl | rfl | rfl
  · exact itI_of rfl (py_small (p := .tuple [.int a, .int b]) (by simp only [D.py, pyA, Option.map]) (by simp [PyData.canLay0, PyData.canLayAll0]) (by simp [PyData.depth, PyData.depthAll])) rfl (fun t e => nomatch e)
  · exact itI_of rfl (py_small (p := .list [.int a, .int b, .int c]) (by simp only [D.py, pyA, Option.map]) (by simp [PyData.canLay0, PyData.canLayAll0]) (by simp [PyData.depth, PyData.depthAll])) rfl (fun t e => nomatch e)
  · exact itI_of rfl (py_small (p := .tuple [.int a, .int b, .int c, .int 1]) (by simp only [D.py, pyA, Option.map]) (by simp [PyData.canLay0, PyData.canLayAll0]) (by simp [PyData.depth, PyData.depthAll])) rfl (fun t e => nomatch e)
  · exact itI_tri (t := (a, b, 0)) ⟨i1, i2, i0⟩ fun z => nomatch z
  · exact itI_tri (t := (a, b, -1)) ⟨i1, i2, im⟩ fun z => nomatch z
  · exact itI_of rfl (py_small (p := .tuple [.int a, .int b, .bool true]) (by simp only [D.py, pyA, Option.map]) (by simp [PyData.canLay0, PyData.canLayAll0]) (by simp [PyData.depth, PyData.depthAll])) rfl (fun t e => nomatch e)
  · exact itI_of rfl (py_small (p := .none) (by simp only [D.py]) (by simp [PyData.canLay0]) (by simp [PyData.depth])) rfl (fun t e => nomatch e)
theorem okI_flat {x : D} {p : PyData} (f : fine x = true) (e : x.py = some p) (sh : SeqAt.shaped p = true) (nt : ∀ xs, x ≠ .tup xs) : OkI x := ⟨f, ⟨p, e, sh⟩, (fun xs z => absurd z (nt xs)), (fun xs z => absurd z (nt xs))⟩
theorem pyI_front (ts : List P3) : PyI (.tup (ts.map trD)) := by
  obtain ⟨l, d⟩ := lay_trs ts
  refine ⟨.tuple (ts.map pyT), by simp only [D.py, py_trs, Option.map], by simp only [PyData.canLay0]; exact l, ?_⟩
  simp only [PyData.depth]
  omega
theorem oddI {ts : List P3} (few : ts.length < 900) (tc : ∀ t ∈ ts, Tc t) : ∀ d ∈ [D.non, .str "short", .str "endless", .tup [], .lst (ts.map trD), .int 1, .tup [.non], .tup [.str "short"], .lst [.tup (ts.map trD)]], OkI d := by
  intro d m
  have le : (ts.map trD).length < 1000 := by
    rw [List.length_map]
    omega
  have ff : ∀ x ∈ ts.map trD, fine x = true := fun x m => by
    obtain ⟨t, _, rfl⟩ := List.mem_map.mp m
    exact fine_tr t
  have on : ∀ {y : D} {P : D → Prop}, P y → ∀ x ∈ [y], P x := fun h x m => by
    rw [List.mem_singleton.mp m]
    exact h
  simp only [List.mem_cons, List.not_mem_nil, or_false] at m
  rcases m with rfl | rfl | rfl | rfl | rfl | rfl | rfl | rfl | rfl
  · exact okI_flat rfl (p := .none) (by simp only [D.py]) (by decide +kernel) (fun xs e => nomatch e)
  · exact okI_flat (by decide +kernel) (p := .str "short") (by simp only [D.py]) (by decide +kernel) (fun xs e => nomatch e)
  · exact okI_flat (by decide +kernel) (p := .str "endless") (by simp only [D.py]) (by decide +kernel) (fun xs e => nomatch e)
  · exact okI_tup (by decide) (fun x m => nomatch m)
  · exact okI_lst le ff fun x m => by
      obtain ⟨t, _, rfl⟩ := List.mem_map.mp m
      exact pyI_tr t
  · exact okI_flat rfl (p := .int 1) (by simp only [D.py]) (by decide +kernel) (fun xs e => nomatch e)
  · exact okI_tup (by decide) (on (itI_of rfl (py_small (p := .none) (by simp only [D.py]) (by simp [PyData.canLay0]) (by simp [PyData.depth])) rfl (fun t e => nomatch e)))
  · exact okI_tup (by decide) (on (itI_of (by decide +kernel) (py_small (p := .str "short") (by simp only [D.py]) (by simp only [PyData.canLay0]; decide +kernel) (by simp [PyData.depth])) rfl (fun t e => nomatch e)))
  · exact okI_lst (by show 1 < 1000; decide) (on (fineT le ff)) (on (pyI_front ts))
theorem down_tc {t : P3} (h : Tc t) (s : In 39 t.1 ∧ In 39 t.2.1) : Tc (t.1 - 1, t.2.1 - 1, t.2.2) := by
  have one : In 39 (1 : Int) := by unfold In; decide
  exact ⟨in_sub s.1 one, in_sub s.2 one, h.c1, h.c2⟩
section
variable {P : Program} {w : World} {K : PySem.W.Frag} {mg : Str → Option Value} {base : Heap}
def sp_l_changed (i : Addr × Addr × Addr) : SpD := spN (fun (ts : List P3) => [.ref i.1, .tup (ts.map trD)]) (fun ts n => n < 999960000 ∧ FrontOk ts) fun _ n d m => m ≤ n + 100 ∧ OkI d
theorem ok_l_changed (D : Def K mg "_law_changed" s_l_changed ["draw", "front"])
    (z_len : mg "len" = none)
    (z_list : mg "list" = none)
    (c__law_numbers : CalG P w K mg base CX0 4 "_law_numbers" ["draw"] gDraw sp_l_numbers)
    (c__law_pick : CalG P w K mg base CX0 3 "_law_pick" ["draw", "some"] gDraw sp_l_pick)
    (c__law_reduced : CalG P w K mg base CX0 2 "_law_reduced" ["one"] (fun _ : Unit => gh0) (fun _ => sp_l_reduced))
    (c__law_take : CalG P w K mg base CX0 2 "_law_take" ["draw", "many"] gDraw sp_l_take)
     :
    CalG P w K mg base CX0 5 "_law_changed" ["draw", "front"] gDraw sp_l_changed := by
  refine D.uk sc_l_changed (fun i => gDraw_ok i) (fun _ => mo_N) (fun _ ds n Q E ⟨x, e, _⟩ => by rw [e]; rfl) (fun i f cdv A outer s F H Ev ds n Q E hC hr h => ?_)
  have nd := sc_l_changed.nd
  have hu := hr.units
  have em : Emb (gDraw i) (cnOf (gDraw i) F H).toGh := Emb.rfl
  obtain ⟨ts, rfl, hp, q⟩ := h
  try dsimp only at q
  refine ⟨_, (us_cons (us_par (i := 2) (j := 3) (ua_cons (uc_e i em hC c__law_take hr pass0 (ua_cons (ue_var (i := 0)) (ua_cons (ue_callB cd_len z_len (ua_cons (ue_var (i := 1)) ua_nil)) ua_nil))) (ua_cons (uc_e i em hC c__law_take hr pass0 (ua_cons (ue_var (i := 0)) (ua_cons ue_int ua_nil))) ua_nil)) nd)
      (us_cons (us_set (i := 4) (ue_ix (ue_var (i := 1)) (ue_var (i := 2))) nd)
      (us_cons (us_if (ut_cmp (opd_eqA hu) (ue_var (i := 3)) ue_int) (us_one (us_ret (ue_op opd_plus (ue_slice (ue_var (i := 1)) uo_none (uo_some (ue_var (i := 2)))) (ue_slice (ue_var (i := 1)) (uo_some (ue_op opd_plus (ue_var (i := 2)) ue_int)) uo_none)))) us_nil)
      (us_cons (us_if (ut_cmp (opd_eqA hu) (ue_var (i := 3)) ue_int) (us_one (us_ret (ue_revT (ue_var (i := 1))))) us_nil)
      (us_cons (us_if (ut_cmp (opd_eqA hu) (ue_var (i := 3)) ue_int) (us_one (us_ret (ue_op opd_plus (ue_op opd_plus (ue_slice (ue_var (i := 1)) uo_none (uo_some (ue_var (i := 2)))) (ue_tup (ua_cons (ue_tup (ua_cons (ue_op opd_mul ue_int (ue_ix (ue_var (i := 4)) ue_int)) (ua_cons (ue_op opd_mul ue_int (ue_ix (ue_var (i := 4)) ue_int)) (ua_cons (ue_op opd_mul ue_int (ue_ix (ue_var (i := 4)) ue_int)) ua_nil)))) ua_nil))) (ue_slice (ue_var (i := 1)) (uo_some (ue_op opd_plus (ue_var (i := 2)) ue_int)) uo_none)))) us_nil)
      (us_cons (us_if (ut_cmp (opd_eqA hu) (ue_var (i := 3)) ue_int) (us_one (us_ret (ue_op opd_plus (ue_op opd_plus (ue_slice (ue_var (i := 1)) uo_none (uo_some (ue_var (i := 2)))) (ue_tup (ua_cons (uc_p c__law_reduced hr pass0 (ua_cons (ue_tup (ua_cons (ue_op opd_sub (ue_ix (ue_var (i := 4)) ue_int) ue_int) (ua_cons (ue_op opd_sub (ue_ix (ue_var (i := 4)) ue_int) ue_int) (ua_cons (ue_ix (ue_var (i := 4)) ue_int) ua_nil)))) ua_nil)) ua_nil))) (ue_slice (ue_var (i := 1)) (uo_some (ue_var (i := 2))) uo_none)))) us_nil)
      (us_cons (us_if (ut_cmp (opd_eqA hu) (ue_var (i := 3)) ue_int) (us_one (us_ret (ue_op opd_plus (ue_var (i := 1)) (ue_tup (ua_cons (uc_p c__law_reduced hr pass0 (ua_cons (ue_tup (ua_cons (uc_e i em hC c__law_numbers hr pass0 (ua_cons (ue_var (i := 0)) ua_nil)) (ua_cons (uc_e i em hC c__law_numbers hr pass0 (ua_cons (ue_var (i := 0)) ua_nil)) (ua_cons (ue_op opd_plus ue_int (uc_e i em hC c__law_take hr pass0 (ua_cons (ue_var (i := 0)) (ua_cons ue_int ua_nil)))) ua_nil)))) ua_nil)) ua_nil))))) us_nil)
      (us_cons (us_if (ut_cmp (opd_eqA hu) (ue_var (i := 3)) ue_int) (us_one (us_ret (ue_op opd_plus (ue_op opd_plus (ue_slice (ue_var (i := 1)) uo_none (uo_some (ue_var (i := 2)))) (ue_tup (ua_cons (ue_var (i := 4)) ua_nil))) (ue_slice (ue_var (i := 1)) (uo_some (ue_var (i := 2))) uo_none)))) us_nil)
      (us_cons (us_if (ut_cmp (opd_eqA hu) (ue_var (i := 3)) ue_int) (us_cons (us_set (i := 5) (UL.ue (ul_lst (ua_cons (ue_slice (ue_var (i := 4)) uo_none (uo_some ue_int)) (ua_cons (UL.ue (ul_callTy cl_list z_list (ua_cons (ue_var (i := 4)) ua_nil))) (ua_cons (ue_op opd_plus (ue_var (i := 4)) (ue_tup (ua_cons ue_int ua_nil))) (ua_cons (ue_tup (ua_cons (ue_ix (ue_var (i := 4)) ue_int) (ua_cons (ue_ix (ue_var (i := 4)) ue_int) (ua_cons ue_int ua_nil)))) (ua_cons (ue_tup (ua_cons (ue_ix (ue_var (i := 4)) ue_int) (ua_cons (ue_ix (ue_var (i := 4)) ue_int) (ua_cons (ue_neg ue_int) ua_nil)))) (ua_cons (ue_tup (ua_cons (ue_ix (ue_var (i := 4)) ue_int) (ua_cons (ue_ix (ue_var (i := 4)) ue_int) (ua_cons ue_bl ua_nil)))) (ua_cons ue_non ua_nil))))))))) nd)
      (us_one (us_ret (ue_op opd_plus (ue_op opd_plus (ue_slice (ue_var (i := 1)) uo_none (uo_some (ue_var (i := 2)))) (ue_tup (ua_cons (uc_e i em hC c__law_pick hr pass0 (ua_cons (ue_var (i := 0)) (ua_cons (ue_var (i := 5)) ua_nil))) ua_nil))) (ue_slice (ue_var (i := 1)) (uo_some (ue_op opd_plus (ue_var (i := 2)) ue_int)) uo_none))))) us_nil)
      (us_one (us_ret (uc_e i em hC c__law_pick hr pass0 (ua_cons (ue_var (i := 0)) (ua_cons (UL.ue (ul_lst (ua_cons ue_non (ua_cons ue_str (ua_cons ue_str (ua_cons (ue_tup ua_nil) (ua_cons (UL.ue (ul_callTy cl_list z_list (ua_cons (ue_var (i := 1)) ua_nil))) (ua_cons ue_int (ua_cons (ue_tup (ua_cons ue_non ua_nil)) (ua_cons (ue_tup (ua_cons ue_str ua_nil)) (ua_cons (UL.ue (ul_lst (ua_cons (ue_var (i := 1)) ua_nil))) ua_nil))))))))))) ua_nil)))))))))))))), ?_⟩
  have sz : sizeLine = 16777216 := sizeLine_eq
  obtain ⟨hn, fo⟩ := hp
  have two64 : (2 : Int) ^ 64 = 18446744073709551616 := by decide
  have few := fo.few
  have tl : (ts.map trD).length = ts.length := List.length_map ..
  have pos : 0 < ts.length := List.length_pos_iff.mpr fo.ne
  have bI : ∀ x ∈ ts.map trD, ItI x := fun x m => by
    obtain ⟨t, mt, rfl⟩ := List.mem_map.mp m
    exact itI_tc (fo.tc t mt)
  have go : ∀ {xs : List PU.D} {j : Nat}, xs.length < 1000 → (∀ x ∈ xs, ItI x) → j ≤ n + 100 → Q (.tup xs) j := fun l a jn => q _ _ ⟨jn, okI_tup l a⟩
  have tk : ∀ {xs : List PU.D} {lo hi : Option Int}, xs = ts.map trD → (PU.cutD xs lo hi).length ≤ ts.length ∧ ∀ x ∈ PU.cutD xs lo hi, ItI x := fun {xs} {lo} {hi} e => by
    subst e
    exact ⟨by have := len_cut (xs := ts.map trD) (lo := lo) (hi := hi); rw [tl] at this; exact this, fun x m => bI x (mem_cut m)⟩
  refine ⟨((ts.map trD).length : Int), rfl, by omega, by omega, by omega, fun r r0 r1 => ?_⟩
  refine ⟨9, rfl, by omega, by decide, by decide, fun w w0 w1 => ?_⟩
  obtain ⟨k, rfl⟩ := Int.eq_ofNat_of_zero_le r0
  have kl : k < ts.length := by omega
  obtain ⟨t, ht⟩ : ∃ t, ts[k]? = some t := ⟨_, List.getElem?_eq_getElem kl⟩
  have mt := List.mem_of_getElem? ht
  have tc := fo.tc t mt
  have sm := fo.sm t mt
  refine ix_t (k := k) (d := trD t) (by rw [List.getElem?_map, ht]; rfl) ?_
  have A1 : ∀ lo hi, (PU.cutD (ts.map trD) lo hi).length ≤ ts.length := fun lo hi => (tk (lo := lo) (hi := hi) rfl).1
  have A2 : ∀ lo hi, ∀ x ∈ PU.cutD (ts.map trD) lo hi, ItI x := fun lo hi => (tk (lo := lo) (hi := hi) rfl).2
  have ap : ∀ {a b : List PU.D}, (∀ x ∈ a, ItI x) → (∀ x ∈ b, ItI x) → ∀ x ∈ a ++ b, ItI x := fun ha hb x m => (List.mem_append.mp m).elim (ha x) (hb x)
  have on : ∀ {y : PU.D}, ItI y → ∀ x ∈ [y], ItI x := fun h x m => by
    rw [List.mem_singleton.mp m]
    exact h
  have l1 : (PU.cutD (ts.map trD) none (some (k : Int))).length ≤ k := by
    rw [cut_to' (by omega), List.length_take]
    omega
  have l2 : (PU.cutD (ts.map trD) (some ((k : Int) + 1)) none).length ≤ ts.length - k := by
    show (PU.cutD (ts.map trD) (some ((k + 1 : Nat) : Int)) none).length ≤ _
    rw [cut_from' (by omega), List.length_drop]
    omega
  have l3 : (PU.cutD (ts.map trD) (some (k : Int)) none).length ≤ ts.length - k := by
    rw [cut_from' (by omega), List.length_drop]
    omega
  have go3 : ∀ {y : PU.D} {lo : Option Int} {j : Nat}, (PU.cutD (ts.map trD) lo none).length ≤ ts.length - k → ItI y → j ≤ n + 100 → Q (.tup (PU.cutD (ts.map trD) none (some (k : Int)) ++ [y] ++ PU.cutD (ts.map trD) lo none)) j := fun {y lo j} this hy jn => go (by
    rw [List.length_append, List.length_append]
    show _ + 1 + _ < 1000
    omega) (ap (ap (A2 _ _) (on hy)) (A2 _ _)) jn
  have ln1 : (PU.cutD (ts.map trD) none (some (k : Int))).length + 1 ≤ sizeLine := by omega
  have ln2 : ∀ {y : PU.D} {lo : Option Int}, (PU.cutD (ts.map trD) none (some (k : Int)) ++ [y]).length + (PU.cutD (ts.map trD) lo none).length ≤ sizeLine := fun {y lo} => by
    have := A1 lo none
    rw [List.length_append]
    show _ + 1 + _ ≤ _
    omega
  have one : 1 ≤ sizeLine := by omega
  have three : 3 ≤ sizeLine := by omega
  have c1 := tc.c1
  refine ite_b (b := decide (w = 0)) (fun e => ?_) fun e => ?_
  · exact ⟨by omega, go (by rw [List.length_append]; omega) (ap (A2 _ _) (A2 _ _)) (by omega)⟩
  refine ite_b (b := decide (w = 1)) (fun e => ?_) fun e => ?_
  · exact go (by rw [List.length_reverse, tl]; omega) (fun x m => bI x (List.mem_reverse.mp m)) (by omega)
  refine ite_b (b := decide (w = 2)) (fun e => ?_) fun e => ?_
  · have s2 : Sm (2 : Int) := ⟨by omega, by omega⟩
    refine ix_t0 ?_
    refine ⟨.inl s2, ?_⟩
    refine ix_t1 ?_
    refine ⟨.inl s2, ?_⟩
    refine ix_t2 ?_
    refine ⟨.inl s2, three, one, ln1, ln2, go3 l2 ?_ (by omega)⟩
    have two : In 2 (2 : Int) := by unfold In; decide
    exact itI_tri (t := (2 * t.1, 2 * t.2.1, 2 * t.2.2)) ⟨(in_mul two tc.a).up (by decide), (in_mul two tc.b).up (by decide), (in_mul two tc.tb.2.2).up (by decide)⟩ fun z => by
      rw [twice_no] at z
      cases z
  refine ite_b (b := decide (w = 3)) (fun e => ?_) fun e => ?_
  · have dt := down_tc tc sm
    refine ix_t0 ?_
    refine ix_t1 ?_
    refine ix_t2 ?_
    refine ⟨three, (t.1 - 1, t.2.1 - 1, t.2.2), rfl, ⟨by show t.2.2 ≠ 0; omega, dt.in200⟩, one, ln1, ln2, go3 l3 (itI_tc (red_tc dt)) (by omega)⟩
  refine ite_b (b := decide (w = 4)) (fun e => ?_) fun e => ?_
  · refine ⟨(), rfl, by show n + 1 + 1 < 999980000; omega, fun d1 m1 hd1 => ?_⟩
    obtain ⟨k1, a, rfl, a1, a2⟩ := hd1
    refine ⟨(), rfl, by show m1 < 999980000; omega, fun d2 m2 hd2 => ?_⟩
    obtain ⟨k2, b, rfl, b1, b2⟩ := hd2
    refine ⟨3, rfl, by omega, by decide, by decide, fun c c0 c1 => ?_⟩
    have dt : Tc (a, b, 1 + c) := ⟨(show In 40 a from in_of (by omega) (by omega)), (show In 40 b from in_of (by omega) (by omega)), by show 1 ≤ 1 + c; omega, by show 1 + c ≤ 12; omega⟩
    refine ⟨three, (a, b, 1 + c), rfl, ⟨by show 1 + c ≠ 0; omega, dt.in200⟩, one, by rw [tl]; show _ + 1 ≤ _; omega, go (by rw [List.length_append, tl]; show _ + 1 < _; omega) (ap bI (on (itI_tc (red_tc dt)))) (by omega)⟩
  refine ite_b (b := decide (w = 5)) (fun e => ?_) fun e => ?_
  · exact ⟨one, ln1, ln2, go3 l3 (itI_tc tc) (by omega)⟩
  refine ite_b (b := decide (w = 6)) (fun e => ?_) fun e => ?_
  · have cut2 : PU.cutD [PU.D.int t.1, .int t.2.1, .int t.2.2] none (some 2) = [.int t.1, .int t.2.1] := cut_to' (k := 2) (by show 2 ≤ 3; decide)
    refine ⟨one, by show 3 + 1 ≤ _; omega, ?_⟩
    refine ix_t0 ?_
    refine ix_t1 ?_
    refine ⟨three, ?_⟩
    refine ix_t0 ?_
    refine ix_t1 ?_
    refine ⟨three, ?_⟩
    refine ix_t0 ?_
    refine ix_t1 ?_
    refine ⟨three, by show 7 ≤ _; omega, ?_⟩
    refine ⟨(.lst _, _), rfl, ⟨.inl rfl, by simp, by simp, by omega⟩, fun d m hd => ?_⟩
    obtain ⟨hd, rfl⟩ := hd
    refine ⟨one, ln1, ln2, go3 l2 ?_ (by omega)⟩
    have hd : d ∈ [PU.D.tup (PU.cutD [PU.D.int t.1, .int t.2.1, .int t.2.2] none (some 2)), .lst [.int t.1, .int t.2.1, .int t.2.2], .tup ([PU.D.int t.1, .int t.2.1, .int t.2.2] ++ [.int 1]), .tup [.int t.1, .int t.2.1, .int 0], .tup [.int t.1, .int t.2.1, .int (-1)], .tup [.int t.1, .int t.2.1, .bl true], .non] := hd
    rw [cut2] at hd
    exact wrongI tc d hd
  refine ⟨by show 0 ≤ sizeLine; omega, one, one, one, by show 9 ≤ sizeLine; omega, ?_⟩
  refine ⟨(.lst _, _), rfl, ⟨.inl rfl, by simp, by simp, by omega⟩, fun d m hd => ?_⟩
  obtain ⟨hd, rfl⟩ := hd
  exact q _ _ ⟨by omega, oddI few fo.tc d hd⟩
end
end L53
set_option maxHeartbeats 2000000
namespace L53
open PySem PySem.Spec PyProof.Rows L2 HG PU LamX
theorem ah_of {x y : P2} (h : ahB x y = true) : y.1 * x.2 < x.1 * y.2 := of_decide_eq_true h
theorem ah_trans {x y p : P2} (hx : GoodP x) (hy : GoodP y) (hp : GoodP p) (h1 : ahB x y = true) (h2 : ahB y p = true) : ahB x p = true := by
  have h1 := ah_of h1
  have h2 := ah_of h2
  refine decide_eq_true ?_
  obtain ⟨x1, x2⟩ := x
  obtain ⟨y1, y2⟩ := y
  obtain ⟨p1, p2⟩ := p
  have a1 : 0 ≤ x1 := hx.n1
  have a2 : 0 ≤ x2 := hx.n2
  have b1 : 0 ≤ y1 := hy.n1
  have b2 : 0 ≤ y2 := hy.n2
  have c1 : 0 ≤ p1 := hp.n1
  have c2 : 0 ≤ p2 := hp.n2
  dsimp only at h1 h2 ⊢
  have y2p : 0 < y2 := by
    have := Int.mul_nonneg b1 a2
    rcases Int.lt_or_le 0 y2 with z | z
    · exact z
    · have : y2 = 0 := by omega
      rw [this, Int.mul_zero] at h1
      omega
  have p2p : 0 < p2 := by
    have := Int.mul_nonneg c1 b2
    rcases Int.lt_or_le 0 p2 with z | z
    · exact z
    · have : p2 = 0 := by omega
      rw [this, Int.mul_zero] at h2
      omega
  have e1 : y1 * x2 * p2 < x1 * y2 * p2 := Int.mul_lt_mul_of_pos_right h1 p2p
  have e2 : x2 * (p1 * y2) ≤ x2 * (y1 * p2) := Int.mul_le_mul_of_nonneg_left (Int.le_of_lt h2) a2
  have e3 : y2 * (p1 * x2) < y2 * (x1 * p2) := by
    have f1 : y2 * (p1 * x2) = x2 * (p1 * y2) := by simp only [Int.mul_assoc, Int.mul_comm, Int.mul_left_comm]
    have f2 : x2 * (y1 * p2) = y1 * x2 * p2 := by simp only [Int.mul_assoc, Int.mul_comm, Int.mul_left_comm]
    have f3 : y2 * (x1 * p2) = x1 * y2 * p2 := by simp only [Int.mul_assoc, Int.mul_comm, Int.mul_left_comm]
    omega
  exact Int.lt_of_mul_lt_mul_left e3 b2
theorem ah_tri {x y : P2} (hx : GoodP x) (hy : GoodP y) (h : ahB x y = false) (ne : x ≠ y) : ahB y x = true := by
  have h : ¬ y.1 * x.2 < x.1 * y.2 := of_decide_eq_false h
  refine decide_eq_true ?_
  by_cases z : x.1 * y.2 = y.1 * x.2
  · exfalso
    refine ne ?_
    obtain ⟨x1, x2⟩ := x
    obtain ⟨y1, y2⟩ := y
    obtain ⟨a, rfl⟩ := Int.eq_ofNat_of_zero_le hx.n1
    obtain ⟨b, rfl⟩ := Int.eq_ofNat_of_zero_le hx.n2
    obtain ⟨c, rfl⟩ := Int.eq_ofNat_of_zero_le hy.n1
    obtain ⟨d, rfl⟩ := Int.eq_ofNat_of_zero_le hy.n2
    have g1 : Nat.gcd a b = 1 := by
      have := hx.g
      unfold gI at this
      simp only [Int.natAbs_natCast] at this
      omega
    have g2 : Nat.gcd c d = 1 := by
      have := hy.g
      unfold gI at this
      simp only [Int.natAbs_natCast] at this
      omega
    have zn : a * d = c * b := by
      have z : (a : Int) * d = c * b := z
      exact_mod_cast z
    have ac : a ∣ c := Nat.Coprime.dvd_of_dvd_mul_right g1 ⟨d, by rw [← zn]⟩
    have ca : c ∣ a := Nat.Coprime.dvd_of_dvd_mul_right g2 ⟨b, by rw [zn]⟩
    have bd : b ∣ d := Nat.Coprime.dvd_of_dvd_mul_left (m := a) (by rw [Nat.Coprime, Nat.gcd_comm]; exact g1) ⟨c, by rw [zn, Nat.mul_comm]⟩
    have db : d ∣ b := Nat.Coprime.dvd_of_dvd_mul_left (m := c) (by rw [Nat.Coprime, Nat.gcd_comm]; exact g2) ⟨a, by rw [← zn, Nat.mul_comm]⟩
    rw [Nat.dvd_antisymm ac ca, Nat.dvd_antisymm bd db]
  · omega
structure Srt (l : List P2) : Prop where
  pw : l.Pairwise fun x y => ahB x y = true
  gd : ∀ x ∈ l, GoodP x
theorem pre_take {p : P2} (hp : GoodP p) : ∀ {l : List P2}, Srt l → l.filter (fun x => ahB x p) = l.take (l.filter fun x => ahB x p).length ∧ ∀ y ∈ l.drop (l.filter fun x => ahB x p).length, ahB y p = false
  | [], _ => ⟨rfl, fun _ m => nomatch m⟩
  | x :: r, h => by
    have hr : Srt r := ⟨(List.pairwise_cons.mp h.pw).2, fun y m => h.gd y (List.mem_cons_of_mem _ m)⟩
    obtain ⟨i1, i2⟩ := pre_take hp hr
    cases e : ahB x p with
    | true =>
      rw [List.filter_cons_of_pos (by exact e), List.length_cons, List.take_succ_cons, List.drop_succ_cons]
      exact ⟨by rw [← i1], i2⟩
    | false =>
      have al : ∀ y ∈ x :: r, ahB y p = false := fun y m => by
        rcases List.mem_cons.mp m with rfl | m
        · exact e
        · cases z : ahB y p with
          | false => rfl
          | true =>
            have := ah_trans (h.gd x List.mem_cons_self) (hr.gd y m) hp ((List.pairwise_cons.mp h.pw).1 y m) z
            rw [this] at e
            cases e
      have : (x :: r).filter (fun x => ahB x p) = [] := List.filter_eq_nil_iff.mpr fun y m => by rw [al y m]; exact Bool.false_ne_true
      rw [this]
      exact ⟨rfl, al⟩
def insP (l : List P2) (p : P2) : List P2 := l.filter (fun x => ahB x p) ++ [p] ++ l.drop (l.filter fun x => ahB x p).length
theorem ins_mem {l : List P2} {p : P2} (h : Srt l) (hp : GoodP p) (x : P2) : x ∈ insP l p ↔ x ∈ l ∨ x = p := by
  obtain ⟨e, _⟩ := pre_take hp h
  unfold insP
  generalize (l.filter fun x => ahB x p).length = k at *
  rw [e]
  have : x ∈ l ↔ x ∈ l.take k ∨ x ∈ l.drop k := by
    rw [← List.mem_append, List.take_append_drop]
  rw [this, List.mem_append, List.mem_append, List.mem_singleton]
  constructor
  · rintro ((a | a) | a)
    · exact .inl (.inl a)
    · exact .inr a
    · exact .inl (.inr a)
  · rintro ((a | a) | a)
    · exact .inl (.inl a)
    · exact .inr a
    · exact .inl (.inr a)
theorem ins_srt {l : List P2} {p : P2} (h : Srt l) (hp : GoodP p) (n : p ∉ l) : Srt (insP l p) := by
  refine ⟨?_, fun x m => ?_⟩
  · obtain ⟨e, al⟩ := pre_take hp h
    have fa : ∀ x ∈ l.filter (fun x => ahB x p), ahB x p = true := fun x m => (List.mem_filter.mp m).2
    unfold insP
    generalize (l.filter fun x => ahB x p).length = k at *
    rw [e] at fa ⊢
    have pw := h.pw
    rw [← List.take_append_drop k l, List.pairwise_append] at pw
    obtain ⟨p1, p2, p3⟩ := pw
    have low : ∀ y ∈ l.drop k, ahB p y = true := fun y m => ah_tri (h.gd y (List.mem_of_mem_drop m)) hp (al y m) fun z => n (by rw [← z]; exact List.mem_of_mem_drop m)
    rw [List.append_assoc, List.pairwise_append]
    refine ⟨p1, List.pairwise_cons.mpr ⟨low, p2⟩, fun x mx y my => ?_⟩
    rcases List.mem_cons.mp my with rfl | my
    · exact fa x mx
    · exact p3 x mx y my
  · rcases (ins_mem h hp x).mp m with m | rfl
    · exact h.gd x m
    · exact hp
def srtP (l : List P2) : List P2 → List P2
  | [] => l
  | p :: r => srtP (if p ∈ l then l else insP l p) r
theorem srt_ok : ∀ {r l : List P2}, Srt l → (∀ p ∈ r, GoodP p) → Srt (srtP l r) ∧ ∀ x, x ∈ srtP l r ↔ x ∈ l ∨ x ∈ r
  | [], l, h, _ => ⟨h, fun x => by simp [srtP]⟩
  | p :: r, l, h, g => by
    have hp := g p List.mem_cons_self
    have gr : ∀ q ∈ r, GoodP q := fun q m => g q (List.mem_cons_of_mem _ m)
    unfold srtP
    by_cases z : p ∈ l
    · rw [if_pos z]
      obtain ⟨a, b⟩ := srt_ok (r := r) h gr
      refine ⟨a, fun x => ?_⟩
      rw [b x, List.mem_cons]
      constructor
      · rintro (m | m)
        · exact .inl m
        · exact .inr (.inr m)
      · rintro (m | rfl | m)
        · exact .inl m
        · exact .inl z
        · exact .inr m
    · rw [if_neg z]
      obtain ⟨a, b⟩ := srt_ok (r := r) (ins_srt h hp z) gr
      refine ⟨a, fun x => ?_⟩
      rw [b x, List.mem_cons, ins_mem h hp x, or_assoc]
theorem srtP_snoc {l r : List P2} {p : P2} : srtP l (r ++ [p]) = if p ∈ srtP l r then srtP l r else insP (srtP l r) p := by
  induction r generalizing l with
  | nil => rfl
  | cons q r ih => exact ih
theorem srt_len : ∀ {r l : List P2}, (srtP l r).length ≤ l.length + r.length
  | [], l => Nat.le_refl _
  | p :: r, l => by
    refine Nat.le_trans (srt_len (r := r)) ?_
    rw [List.length_cons]
    split
    · omega
    · unfold insP
      rw [List.length_append, List.length_append, List.length_drop, List.length_singleton]
      have := List.length_filter_le (fun x => ahB x p) l
      omega
section
variable {P : Program} {w : World} {K : PySem.W.Frag} {mg : Str → Option Value} {base : Heap}
def sp_l_sorted_prices : SpD := spF (fun (ps : List P2) => [.lst (ps.map PU.prD)]) (fun ps => ps.length < 5000 ∧ ∀ p ∈ ps, GoodP p) fun ps => .lst ((srtP [] ps).map PU.prD)
theorem ok_l_sorted_prices (D : Def K mg "_law_sorted_prices" s_l_sorted_prices ["some"])
    (z_len : mg "len" = none)
     :
    CalG P w K mg base CX0 1 "_law_sorted_prices" ["some"] (fun _ : Unit => gh0) (fun _ => sp_l_sorted_prices) := by
  refine D.uk sc_l_sorted_prices (fun i => gh0_ok) (fun _ => mo_F) (fun _ ds n Q E ⟨x, e, _⟩ => by rw [e]; rfl) (fun i f cdv A outer s F H Ev ds n Q E hC hr h => ?_)
  have nd := sc_l_sorted_prices.nd
  have hu := hr.units
  have hu65 : (A.deeper (envOfC "_law_sorted_prices" (defScope s_l_sorted_prices) s.heap.objs.size f cdv)).units + 65 < cLine := by
    have := hr.un
    omega
  obtain ⟨ps, rfl, hp, q⟩ := h
  try dsimp only at q
  refine ⟨_, (us_cons (us_set (i := 1) (UL.ue (ul_lst ua_nil)) nd)
      (us_cons (us_for (ui_row (ue_var (i := 0))) (ug_name (i := 2) nd)
      (us_cons (us_setLc (i := 3) (own := [("one", 4)]) hC nd (ui_row (ue_var (i := 1))) (blkOk_by (own := [("one", 4)]) (N := ["some", "found", "price", "ahead", "one"]) (sc := defScope s_l_sorted_prices) (by decide +kernel)) (fun _ _ _ _ _ => (ug_name (i := 4) nd)) (fun _ _ _ _ _ => (uts_one (ut_cmp opd_gt (ue_op opd_mul (ue_ix (ue_var (i := 4)) ue_int) (ue_ix (ue_var (i := 2)) ue_int)) (ue_op opd_mul (ue_ix (ue_var (i := 2)) ue_int) (ue_ix (ue_var (i := 4)) ue_int))))) (fun _ _ _ _ _ => (ue_var (i := 4))))
      (us_one (us_if (ut_cmp (opd_notInL hu65) (ue_var (i := 2)) (ue_var (i := 1))) (us_one (us_set (i := 1) (ue_op opd_plus (ue_op opd_plus (ue_var (i := 3)) (UL.ue (ul_lst (ua_cons (ue_var (i := 2)) ua_nil)))) (ue_slice (ue_var (i := 1)) (uo_some (ue_callB cd_len z_len (ua_cons (ue_var (i := 3)) ua_nil))) uo_none)) nd)) us_nil))))
      (us_one (us_ret (ue_var (i := 1)))))), ?_⟩
  have sz : sizeLine = 16777216 := sizeLine_eq
  obtain ⟨h1, h2⟩ := hp
  refine ⟨by show 0 ≤ sizeLine; decide, ?_⟩
  refine ⟨fun i ρ k => k = n ∧ ∃ y2 y3 y4, ρ = [.d (.lst (ps.map PU.prD)), .d (.lst ((srtP [] (ps.take i)).map PU.prD)), y2, y3, y4], ⟨rfl, _, _, _, rfl⟩, fun i x ρ k hx hp => ?_, fun ρ k hp => ?_⟩
  · obtain ⟨rfl, y2, y3, y4, rfl⟩ := hp
    obtain ⟨p, ht, rfl⟩ := getmapP hx
    have gp := h2 p (List.mem_of_getElem? ht)
    have tk : ps.take (i + 1) = ps.take i ++ [p] := by
      rw [List.take_succ, ht]
      rfl
    dsimp only
    rw [tk, srtP_snoc]
    have nilS : Srt [] := ⟨List.Pairwise.nil, fun _ m => nomatch m⟩
    have so := (srt_ok (r := ps.take i) nilS fun q m => h2 q (List.mem_of_mem_take m)).1
    have ll : (srtP [] (ps.take i)).length ≤ ps.length := by
      have := srt_len (r := ps.take i) (l := [])
      rw [List.length_take, List.length_nil] at this
      omega
    generalize srtP [] (ps.take i) = l at so ll
    have fl : ∀ e, ((l.take e).filter fun o => ahB o p).length ≤ ps.length := fun e => by
      have := List.length_filter_le (fun o => ahB o p) (l.take e)
      rw [List.length_take] at this
      omega
    refine ⟨fun e acc k' => k' = k ∧ acc = ((l.take e).filter fun o => ahB o p).map PU.prD, ⟨rfl, rfl⟩, fun e x acc k' hx hp => ?_, fun acc k' hp => ?_⟩
    · obtain ⟨rfl, rfl⟩ := hp
      obtain ⟨o, ho, rfl⟩ := getmapP hx
      have go := so.gd o (List.mem_of_getElem? ho)
      refine ix_t0 ?_
      refine ix_t1 ?_
      refine ⟨.inr gp.in64.sm.2, ?_⟩
      refine ix_t0 ?_
      refine ix_t1 ?_
      refine ⟨.inr go.in64.sm.2, ?_⟩
      have fe := fl e
      refine ite_b (b := ahB o p) (fun e3 => ⟨?_, rfl, ?_⟩) fun e3 => ⟨rfl, ?_⟩
      · rw [List.length_map]
        omega
      · rw [filter_next ho, if_pos e3, List.map_append]
        rfl
      · rw [filter_next ho, if_neg (by rw [e3]; exact Bool.false_ne_true)]
    · obtain ⟨rfl, rfl⟩ := hp
      rw [List.length_map, List.take_length]
      have f2 := fl l.length
      rw [List.take_length] at f2
      dsimp only [uIfS, uB, uOp]
      refine var_d (i := 2) (d := PU.prD p) rfl ?_
      refine var_d (i := 1) (d := .lst (l.map PU.prD)) rfl ?_
      refine in_pairs (f := not) (ps := l) (p := p) ?_
      refine ite_b (b := !decide (p ∈ l)) (fun e3 => ?_) fun e3 => ?_
      · have e3 : p ∉ l := of_decide_eq_false (nt e3)
        rw [if_neg e3]
        have fk : (l.filter fun o => ahB o p).length ≤ l.length := List.length_filter_le _ _
        refine ⟨by show 1 ≤ sizeLine; decide, by rw [List.length_map]; show _ + 1 ≤ _; omega, ?_⟩
        have ce : PU.cutD (l.map PU.prD) (some (((l.filter fun o => ahB o p).map PU.prD).length : Int)) none = (l.drop (l.filter fun o => ahB o p).length).map PU.prD := by
          rw [List.length_map, cut_from' (by rw [List.length_map]; exact fk), List.map_drop]
        refine ⟨?_, rfl, .d (PU.prD p), .d (.lst ((l.filter fun o => ahB o p).map PU.prD)), y4, ?_⟩
        · rw [ce, List.length_append, List.length_map, List.length_map, List.length_drop]
          show _ + 1 + _ ≤ _
          omega
        · rw [ce]
          unfold insP
          rw [List.map_append, List.map_append]
          rfl
      · have e3 : p ∈ l := of_decide_eq_true (nf e3)
        rw [if_pos e3]
        exact ⟨rfl, _, _, _, rfl⟩
  · obtain ⟨rfl, y2, y3, y4, rfl⟩ := hp
    rw [List.length_map, List.take_length]
    exact q
end
end L53
set_option maxHeartbeats 2000000
namespace PU
open PySem PySem.Spec PyProof.Rows L2 HG LamX
/-! ### zip of two lists -/
def zipD (as bs : List D) : List D := List.zipWith (fun a b => .tup [a, b]) as bs
def lst2 (ds : List D) (Q : List D → List D → Prop) : Prop := match ds with
  | [.lst a, .lst b] => Q a b
  | _ => False
theorem lst2_of {ds : List D} {Q : List D → List D → Prop} (h : lst2 ds Q) : ∃ a b, ds = [.lst a, .lst b] ∧ Q a b := by
  unfold lst2 at h
  split at h
  · exact ⟨_, _, rfl, h⟩
  · exact h.elim
def uZip (us : TDa) : TDi := fun ρ n Q => us ρ n fun ds m => lst2 ds fun a b => Q (zipD a b) m
theorem ui_zip {X : Cx} {C : Cn} {us : TDa} {a b : Expr} {p pos tpos : Pos} {elts : List Expr} {kk : Nat} (h : UA X C [a, b] us) (hm : X.mg "zip" = none) (hg : Gl X "zip" := by rfl)
    (hs : starEach [a, b] X.env = (false, eval a X.env) :: starEach [b] X.env := by rfl) (hp : ((backTo pos (starEach [b] X.env)).any fun x => x.1) = false := by rfl) :
    UI X C (.Tuple elts kk tpos) (.Call (.Name "zip" p) [a, b] [] pos) (uZip us) := by
  refine ⟨PIw (pi_zip hg hm h.run hs hp) fun σ H R ⟨F, ρ, n, rel, q⟩ => ⟨F, ρ, n, rel, h.mo _ _ _ _ (fun ds m q vs F1 H1 x1 m1 d1 => ?_) q⟩, fun ρ n P Q i w => h.mo _ _ _ _ (fun ds m q => ?_) w⟩
  · obtain ⟨as, bs, rfl, q⟩ := lst2_of q
    obtain ⟨v, w, rfl, c1, c2⟩ := dda2 d1
    match v, w, c1, c2 with
    | _, _, .lst q1 a1, .lst q2 a2 =>
      refine ⟨_, _, _, _, rfl, SqL.le x1.le q1, SqL.le x1.le q2, q _ F1 H1 x1 m1 (walkD_pair (as := fun i => as[i]?) (bs := fun i => bs[i]?) (walk_zip rfl) (fun H' l => ⟨SqL.le l q1, SqL.le l q2⟩) ?_ a1.fn a2.fn fun i x y hx hy hi => ?_)⟩
      · unfold zipD
        rw [List.length_zipWith, a1.length, a2.length]
      · unfold zipD
        have hx : as[i]? = some x := hx
        have hy : bs[i]? = some y := hy
        rw [List.getElem?_zipWith, hx, hy]
  · obtain ⟨as, bs, rfl, q⟩ := lst2_of q
    exact i _ _ q
theorem zip_get {as bs : List D} {i : Nat} {x : D} (h : (zipD as bs)[i]? = some x) : ∃ a b, as[i]? = some a ∧ bs[i]? = some b ∧ x = .tup [a, b] := by
  unfold zipD at h
  rw [List.getElem?_zipWith] at h
  cases e1 : as[i]? with
  | none => rw [e1] at h; cases h
  | some a =>
    cases e2 : bs[i]? with
    | none => rw [e1, e2] at h; cases h
    | some b =>
      rw [e1, e2] at h
      cases h
      exact ⟨a, b, rfl, rfl, rfl⟩
end PU
set_option maxHeartbeats 2000000
namespace L53
open PySem PySem.Spec PyProof.Rows L2 HG PU LamX
structure Turn (ts : List P3) (rs : List P2) : Prop where
  gd : ∀ p ∈ rs, (0 ≤ p.1 ∧ 0 ≤ p.2 ∧ InP 44 p) ∧ (p.1 ≠ 0 ∨ p.2 ≠ 0)
  few : rs.length < 20000
  one : (1, 0) ∈ rs
  nil : (0, 1) ∈ rs
  all : ∀ t ∈ ts, t.1 * t.2.1 ≤ 0 → ¬ (t.1, t.2.1) = (0, 0) → redI ((t.2.1.natAbs : Nat) : Int) ((t.1.natAbs : Nat) : Int) ∈ rs
theorem gp10 : GoodP (1, 0) := ⟨by decide, by decide, by decide +kernel, by unfold In; decide, by unfold In; decide⟩
theorem gp01 : GoodP (0, 1) := ⟨by decide, by decide, by decide +kernel, by unfold In; decide, by unfold In; decide⟩
theorem nz_gcd {p : P2} (g : gI p.1 p.2 = 1) : p.1 ≠ 0 ∨ p.2 ≠ 0 := by
  by_cases z : p.1 = 0
  · by_cases y : p.2 = 0
    · exfalso
      rw [z, y] at g
      exact absurd g (by decide +kernel)
    · exact .inr y
  · exact .inl z
theorem GoodP.nz {p : P2} (h : GoodP p) : p.1 ≠ 0 ∨ p.2 ≠ 0 := by
  by_cases z : p.1 = 0
  · by_cases y : p.2 = 0
    · exfalso
      have := h.g
      rw [z, y] at this
      exact absurd this (by decide +kernel)
    · exact .inr y
  · exact .inl z
theorem abs_good {a b : Int} (ha : In 40 a) (hb : In 40 b) (h : ¬ (a, b) = (0, 0)) : GoodP (redI ((b.natAbs : Nat) : Int) ((a.natAbs : Nat) : Int)) := by
  refine good_red (Int.natCast_nonneg _) (Int.natCast_nonneg _) ?_ ?_ ?_
  · by_cases z : b = 0
    · refine .inr fun y => h ?_
      rw [z, show a = 0 by omega]
    · exact .inl (by omega)
  · unfold In at hb ⊢
    rw [Int.natAbs_natCast]
    exact Nat.lt_of_lt_of_le hb (by decide)
  · unfold In at ha ⊢
    rw [Int.natAbs_natCast]
    exact Nat.lt_of_lt_of_le ha (by decide)
theorem sum_good {p q : P2} (hp : GoodP p) (hq : GoodP q) : (p.1 + q.1 ≠ 0 ∨ p.2 + q.2 ≠ 0) ∧ In 43 (p.1 + q.1) ∧ In 43 (p.2 + q.2) := by
  have a := hp.n1
  have b := hp.n2
  have c := hq.n1
  have d := hq.n2
  refine ⟨?_, In.add hp.b.1 hq.b.1, In.add hp.b.2 hq.b.2⟩
  rcases hp.nz with z | z
  · exact .inl (by omega)
  · exact .inr (by omega)
section
variable {P : Program} {w : World} {K : PySem.W.Frag} {mg : Str → Option Value} {base : Heap}
def sp_l_turning : SpD := spN (fun (ts : List P3) => [.tup (ts.map trD)]) (fun ts _ => ts.length < 1000 ∧ ∀ t ∈ ts, Tc t) fun ts n d m => m = n ∧ ∃ rs : List P2, d = .lst (rs.map PU.prD) ∧ Turn ts rs
theorem ok_l_turning (D : Def K mg "_law_turning" s_l_turning ["front"])
    (z_abs : mg "abs" = none)
    (z_zip : mg "zip" = none)
    (c__law_sorted_prices : CalG P w K mg base CX0 1 "_law_sorted_prices" ["some"] (fun _ : Unit => gh0) (fun _ => sp_l_sorted_prices))
    (c__law_terms : CalG P w K mg base CX0 2 "_law_terms" ["one", "two"] (fun _ : Unit => gh0) (fun _ => sp_l_terms))
     :
    CalG P w K mg base CX0 3 "_law_turning" ["front"] (fun _ : Unit => gh0) (fun _ => sp_l_turning) := by
  refine D.uk sc_l_turning (fun i => gh0_ok) (fun _ => mo_N) (fun _ ds n Q E ⟨x, e, _⟩ => by rw [e]; rfl) (fun i f cdv A outer s F H Ev ds n Q E hC hr h => ?_)
  have nd := sc_l_turning.nd
  have hu := hr.units
  obtain ⟨ts, rfl, hp, q⟩ := h
  try dsimp only at q
  refine ⟨_, (us_cons (us_setO (i := 1) hC (ul_lst (ua_cons (ue_tup (ua_cons ue_int (ua_cons ue_int ua_nil))) (ua_cons (ue_tup (ua_cons ue_int (ua_cons ue_int ua_nil))) ua_nil))) nd)
      (us_cons (us_for (ui_row (ue_var (i := 0))) (ug_name (i := 2) nd)
      (us_one (us_if (UW.ut (uw_and (ut_cmp opd_le (ue_op opd_mul (ue_ix (ue_var (i := 2)) ue_int) (ue_ix (ue_var (i := 2)) ue_int)) ue_int) (uw_and1 (ut_cmp (opd_neA hu) (ue_tup (ua_cons (ue_ix (ue_var (i := 2)) ue_int) (ua_cons (ue_ix (ue_var (i := 2)) ue_int) ua_nil))) (ue_tup (ua_cons ue_int (ua_cons ue_int ua_nil))))))) (us_one (us_app (i := 1) (uc_p c__law_terms hr pass0 (ua_cons (ue_callB cd_abs z_abs (ua_cons (ue_ix (ue_var (i := 2)) ue_int) ua_nil)) (ua_cons (ue_callB cd_abs z_abs (ua_cons (ue_ix (ue_var (i := 2)) ue_int) ua_nil)) ua_nil))))) us_nil)))
      (us_cons (us_frz 1 (us_set (i := 3) (uc_p c__law_sorted_prices hr pass0 (ua_cons (ue_var (i := 1)) ua_nil)) nd))
      (us_one (us_ret (ue_op opd_plus (ue_var (i := 3)) (UL.ue (ul_lc (own := [("one", 2), ("two", 4)]) hC nd (ui_zip (ua_cons (ue_var (i := 3)) (ua_cons (ue_slice (ue_var (i := 3)) (uo_some ue_int) uo_none) ua_nil)) z_zip) (blkOk_by (own := [("one", 2), ("two", 4)]) (N := ["front", "some", "one", "found", "two"]) (sc := defScope s_l_turning) (by decide +kernel)) (fun _ _ _ _ _ => (ug_tup (k := 2) (ug_cons (ug_name (i := 2) nd) (ug_cons (ug_name (i := 4) nd) ug_nil)))) (fun _ _ _ _ _ => uts_nil) (fun _ _ _ _ _ => (uc_p c__law_terms hr pass0 (ua_cons (ue_op opd_plus (ue_ix (ue_var (i := 2)) ue_int) (ue_ix (ue_var (i := 4)) ue_int)) (ua_cons (ue_op opd_plus (ue_ix (ue_var (i := 2)) ue_int) (ue_ix (ue_var (i := 4)) ue_int)) ua_nil)))))))))))), ?_⟩
  have sz : sizeLine = 16777216 := sizeLine_eq
  obtain ⟨h1, h2⟩ := hp
  have two : 2 ≤ sizeLine := by omega
  refine ⟨two, two, two, fun al => ?_⟩
  refine ⟨fun i ρ k => k = n ∧ ∃ (ss : List P2) (y2 y3 y4 : S), ρ = [.d (.tup (ts.map trD)), .o al (ss.map PU.prD), y2, y3, y4] ∧ ss.length ≤ i + 2 ∧ (∀ p ∈ ss, GoodP p) ∧ (1, 0) ∈ ss ∧ (0, 1) ∈ ss ∧ ∀ t ∈ ts.take i, t.1 * t.2.1 ≤ 0 → ¬ (t.1, t.2.1) = (0, 0) → redI ((t.2.1.natAbs : Nat) : Int) ((t.1.natAbs : Nat) : Int) ∈ ss, ⟨rfl, [(1, 0), (0, 1)], _, _, _, rfl, Nat.le_refl 2, ?_, by simp, by simp, (fun t m => by simp at m)⟩, fun i x ρ k hx hp => ?_, fun ρ k hp => ?_⟩
  · intro p m
    simp only [List.mem_cons, List.not_mem_nil, or_false] at m
    rcases m with rfl | rfl
    · exact gp10
    · exact gp01
  · obtain ⟨rfl, ss, y2, y3, y4, rfl, sl, sg, s1, s0, sa⟩ := hp
    obtain ⟨t, ht, rfl⟩ := getT hx
    have tc := h2 t (List.mem_of_getElem? ht)
    have il := (List.getElem?_eq_some_iff.mp ht).1
    have tk : ∀ u, u ∈ ts.take (i + 1) → u ∈ ts.take i ∨ u = t := fun u m => by
      rw [List.take_succ, ht] at m
      rcases List.mem_append.mp m with m | m
      · exact .inl m
      · exact .inr (List.mem_singleton.mp m)
    refine ix_t0 ?_
    refine ix_t1 ?_
    refine ⟨.inl (in40_sm tc.a), ?_⟩
    refine ite_b (b := decide (t.1 * t.2.1 ≤ 0)) (fun e1 => ?_) fun e1 => ?_
    · refine ix_t0 ?_
      refine ix_t1 ?_
      refine ⟨two, two, ?_⟩
      refine eqA_pair (f := not) (p := (t.1, t.2.1)) (r := (0, 0)) ?_
      refine ite_b (b := !decide ((t.1, t.2.1) = ((0 : Int), (0 : Int)))) (fun e2 => ?_) fun e2 => ?_
      · have e2 : ¬ (t.1, t.2.1) = (0, 0) := of_decide_eq_false (nt e2)
        have ag := abs_good tc.a tc.b e2
        refine ix_t1 ?_
        refine ix_t0 ?_
        refine ⟨(if t.2.1 < 0 then -t.2.1 else t.2.1, if t.1 < 0 then -t.1 else t.1), rfl, ?_⟩
        dsimp only
        rw [abs_if, abs_if]
        refine ⟨⟨?_, ?_, ?_⟩, by rw [List.length_map]; omega, rfl, ss ++ [redI ((t.2.1.natAbs : Nat) : Int) ((t.1.natAbs : Nat) : Int)], _, _, _, by rw [List.map_append]; rfl, by rw [List.length_append]; show _ + 1 ≤ _; omega, ?_, List.mem_append_left _ s1, List.mem_append_left _ s0, fun u m c1 c2 => ?_⟩
        · by_cases z : t.2.1 = 0
          · refine .inr fun y => e2 ?_
            have y : ((t.1.natAbs : Nat) : Int) = 0 := y
            rw [z, show t.1 = 0 by omega]
          · exact .inl (by show ((t.2.1.natAbs : Nat) : Int) ≠ 0; omega)
        · have := tc.b
          unfold In at this ⊢
          rw [Int.natAbs_natCast]
          exact Nat.lt_of_lt_of_le this (by decide)
        · have := tc.a
          unfold In at this ⊢
          rw [Int.natAbs_natCast]
          exact Nat.lt_of_lt_of_le this (by decide)
        · intro p m
          rcases List.mem_append.mp m with m | m
          · exact sg p m
          · rw [List.mem_singleton.mp m]
            exact ag
        · rcases tk u m with m | rfl
          · exact List.mem_append_left _ (sa u m c1 c2)
          · exact List.mem_append_right _ (by simp)
      · have e2 : (t.1, t.2.1) = (0, 0) := of_decide_eq_true (nf e2)
        refine ⟨rfl, ss, _, _, _, rfl, by omega, sg, s1, s0, fun u m c1 c2 => ?_⟩
        rcases tk u m with m | rfl
        · exact sa u m c1 c2
        · exact absurd e2 c2
    · have e1 := of_decide_eq_false e1
      refine ite_b (b := false) (fun z => nomatch z) fun _ => ?_
      refine ⟨rfl, ss, _, _, _, rfl, by omega, sg, s1, s0, fun u m c1 c2 => ?_⟩
      rcases tk u m with m | rfl
      · exact sa u m c1 c2
      · exact absurd c1 e1
  · obtain ⟨rfl, ss, y2, y3, y4, rfl, sl, sg, s1, s0, sa⟩ := hp
    rw [List.length_map] at sl sa
    rw [List.take_length] at sa
    refine ⟨ss, rfl, ⟨by omega, sg⟩, ?_⟩
    have nilS : Srt [] := ⟨List.Pairwise.nil, fun _ m => nomatch m⟩
    obtain ⟨so, sm⟩ := srt_ok (r := ss) nilS sg
    have ll := srt_len (r := ss) (l := [])
    rw [List.length_nil] at ll
    dsimp only
    generalize srtP [] ss = l at so sm ll
    have lg : ∀ p ∈ l, GoodP p := so.gd
    refine ⟨fun e acc k' => k' = k ∧ ∃ qs : List P2, acc = qs.map PU.prD ∧ qs.length ≤ e ∧ ∀ p ∈ qs, (0 ≤ p.1 ∧ 0 ≤ p.2 ∧ InP 44 p) ∧ (p.1 ≠ 0 ∨ p.2 ≠ 0), ⟨rfl, [], rfl, Nat.le_refl 0, fun p m => nomatch m⟩, fun e x acc k' hx hp => ?_, fun acc k' hp => ?_⟩
    · obtain ⟨rfl, qs, rfl, ql, qg⟩ := hp
      have el := (List.getElem?_eq_some_iff.mp hx).1
      obtain ⟨a, b, ha, hb, rfl⟩ := PU.zip_get hx
      obtain ⟨pa, ha2, rfl⟩ := getmapP ha
      obtain ⟨pb, mb, rfl⟩ := List.mem_map.mp (mem_cut (List.mem_of_getElem? hb))
      have ga := lg pa (List.mem_of_getElem? ha2)
      have gb := lg pb mb
      obtain ⟨nz, b1, b2⟩ := sum_good ga gb
      refine ⟨rfl, ?_⟩
      refine ix_t0 ?_
      refine ix_t0 ?_
      refine ix_t1 ?_
      refine ix_t1 ?_
      have ea : e < l.length := (List.getElem?_eq_some_iff.mp ha2).1
      refine ⟨(pa.1 + pb.1, pa.2 + pb.2), rfl, ⟨nz, b1.up (by decide), b2.up (by decide)⟩, by rw [List.length_map]; omega, rfl, qs ++ [redI (pa.1 + pb.1) (pa.2 + pb.2)], by rw [List.map_append]; rfl, by rw [List.length_append]; show _ + 1 ≤ _; omega, fun p m => ?_⟩
      rcases List.mem_append.mp m with m | m
      · exact qg p m
      · rw [List.mem_singleton.mp m]
        have n1 := ga.n1
        have n2 := ga.n2
        have n3 := gb.n1
        have n4 := gb.n2
        obtain ⟨c0, c1, c2⟩ := red_gcd (p := pa.1 + pb.1) (q := pa.2 + pb.2) (by omega) (by omega) nz
        obtain ⟨i1, i2⟩ := red_in nz b1 b2
        exact ⟨⟨c1, c2, i1.up (by decide), i2.up (by decide)⟩, nz_gcd c0⟩
    · obtain ⟨rfl, qs, rfl, ql, qg⟩ := hp
      have zl : (zipD (l.map PU.prD) (PU.cutD (l.map PU.prD) (some 1) none)).length ≤ l.length := by
        unfold zipD
        rw [List.length_zipWith, List.length_map]
        omega
      have ql : qs.length ≤ (zipD (l.map PU.prD) (PU.cutD (l.map PU.prD) (some 1) none)).length := ql
      have me : ∀ p, p ∈ ss → p ∈ l ++ qs := fun p m => List.mem_append_left _ ((sm p).mpr (.inr m))
      refine ⟨by rw [List.length_map, List.length_map]; omega, q _ _ ⟨rfl, l ++ qs, by rw [List.map_append], fun p m => ?_, by rw [List.length_append]; omega, me _ s1, me _ s0, fun t m c1 c2 => me _ (sa t m c1 c2)⟩⟩
      rcases List.mem_append.mp m with m | m
      · have g := lg p m
        exact ⟨⟨g.n1, g.n2, g.b.1.up (by decide), g.b.2.up (by decide)⟩, g.nz⟩
      · exact qg p m
end
end L53
set_option maxHeartbeats 2000000
namespace L53
open PySem PySem.Spec PyProof.Rows L2 HG PU LamX
/-- x is not ahead of y -/
def LE (x y : P2) : Prop := x.1 * y.2 ≤ y.1 * x.2
theorem le_not {x y : P2} : LE x y ↔ ahB x y = false := by
  unfold LE ahB
  rw [decide_eq_false_iff_not]
  omega
structure Pz (p : P2) : Prop where
  a : 0 ≤ p.1
  b : 0 ≤ p.2
  c : p.1 ≠ 0 ∨ p.2 ≠ 0
theorem LE.tr {x y z : P2} (hx : Pz x) (hy : Pz y) (hz : Pz z) (h1 : LE x y) (h2 : LE y z) : LE x z := by
  unfold LE at *
  obtain ⟨x1, x2⟩ := x
  obtain ⟨y1, y2⟩ := y
  obtain ⟨z1, z2⟩ := z
  have a2 : 0 ≤ x2 := hx.b
  have b1 : 0 ≤ y1 := hy.a
  have b2 : 0 ≤ y2 := hy.b
  have c1 : 0 ≤ z1 := hz.a
  have c2 : 0 ≤ z2 := hz.b
  have nz : y1 ≠ 0 ∨ y2 ≠ 0 := hy.c
  dsimp only at *
  by_cases q : y2 = 0
  · subst q
    have y1p : 0 < y1 := by omega
    rw [Int.mul_zero] at h2
    have z0 : z2 = 0 := by
      rcases Int.lt_or_le 0 z2 with w | w
      · have := Int.mul_pos y1p w
        omega
      · omega
    rw [z0, Int.mul_zero]
    exact Int.mul_nonneg c1 a2
  · have y2p : 0 < y2 := by omega
    have e1 : x1 * y2 * z2 ≤ y1 * x2 * z2 := Int.mul_le_mul_of_nonneg_right h1 c2
    have e2 : y1 * z2 * x2 ≤ z1 * y2 * x2 := Int.mul_le_mul_of_nonneg_right h2 a2
    have f1 : y2 * (x1 * z2) = x1 * y2 * z2 := by simp only [Int.mul_assoc, Int.mul_comm, Int.mul_left_comm]
    have f2 : y1 * x2 * z2 = y1 * z2 * x2 := by simp only [Int.mul_assoc, Int.mul_comm, Int.mul_left_comm]
    have f3 : y2 * (z1 * x2) = z1 * y2 * x2 := by simp only [Int.mul_assoc, Int.mul_comm, Int.mul_left_comm]
    exact Int.le_of_mul_le_mul_left (by rw [f1, f3]; omega) y2p
theorem LE.rf (x : P2) : LE x x := Int.le_refl _
theorem ah_le {x y : P2} (h : ahB x y = true) : LE y x := Int.le_of_lt (ah_of h)
theorem pz_red {p q : Int} (h1 : 0 ≤ p) (h2 : 0 ≤ q) (h : p ≠ 0 ∨ q ≠ 0) : Pz (redI p q) := by
  obtain ⟨g, a, b⟩ := red_gcd h1 h2 h
  exact ⟨a, b, nz_gcd g⟩
theorem le_redR {x : P2} {p q : Int} (h : p ≠ 0 ∨ q ≠ 0) : LE x (redI p q) ↔ x.1 * q ≤ p * x.2 := by
  have g := gI_pos h
  obtain ⟨e1, e2⟩ := red_mul (p := p) (q := q)
  unfold LE
  generalize redI p q = r at *
  generalize gI p q = k at *
  rw [e1, e2]
  have f1 : x.1 * (k * r.2) = k * (x.1 * r.2) := by simp only [Int.mul_assoc, Int.mul_comm, Int.mul_left_comm]
  have f2 : k * r.1 * x.2 = k * (r.1 * x.2) := by simp only [Int.mul_assoc, Int.mul_comm, Int.mul_left_comm]
  rw [f1, f2]
  exact ⟨fun h => Int.mul_le_mul_of_nonneg_left h (Int.le_of_lt g), fun h => Int.le_of_mul_le_mul_left h g⟩
theorem le_redL {x : P2} {p q : Int} (h : p ≠ 0 ∨ q ≠ 0) : LE (redI p q) x ↔ p * x.2 ≤ x.1 * q := by
  have g := gI_pos h
  obtain ⟨e1, e2⟩ := red_mul (p := p) (q := q)
  unfold LE
  generalize redI p q = r at *
  generalize gI p q = k at *
  rw [e1, e2]
  have f1 : x.1 * (k * r.2) = k * (x.1 * r.2) := by simp only [Int.mul_assoc, Int.mul_comm, Int.mul_left_comm]
  have f2 : k * r.1 * x.2 = k * (r.1 * x.2) := by simp only [Int.mul_assoc, Int.mul_comm, Int.mul_left_comm]
  rw [f1, f2]
  exact ⟨fun h => Int.mul_le_mul_of_nonneg_left h (Int.le_of_lt g), fun h => Int.le_of_mul_le_mul_left h g⟩
/-- what a corner asks of the two ends -/
structure Lim (p : P2) (u l : P2) : Prop where
  no : ¬ (0 < p.1 ∧ 0 < p.2)
  up : 0 < p.1 → LE u (redI (-p.2) p.1)
  lo : 0 < p.2 → LE (redI p.2 (-p.1)) l
def fromU (ps : List P2) (u : P2) : Prop := ∃ p ∈ ps, 0 < p.1 ∧ p.2 ≤ 0 ∧ u = redI (-p.2) p.1
def fromL (ps : List P2) (l : P2) : Prop := ∃ p ∈ ps, 0 < p.2 ∧ p.1 ≤ 0 ∧ l = redI p.2 (-p.1)
theorem step_of {lh : P2 × P2} {p : P2} (hu : Pz lh.1) (hl : Pz lh.2) (n : ¬ (0 < p.1 ∧ 0 < p.2)) : ∃ lh', stepS lh p = some lh' ∧ Pz lh'.1 ∧ Pz lh'.2 ∧ LE lh'.1 lh.1 ∧ LE lh.2 lh'.2 ∧ Lim p lh'.1 lh'.2 ∧ (lh'.1 = lh.1 ∨ fromU [p] lh'.1) ∧ (lh'.2 = lh.2 ∨ fromL [p] lh'.2) := by
  unfold stepS
  rw [if_neg n]
  refine ⟨_, rfl, ?_⟩
  have pu : 0 < p.1 → Pz (redI (-p.2) p.1) := fun h => pz_red (by omega) (by omega) (.inr (by omega))
  have pl : 0 < p.2 → Pz (redI p.2 (-p.1)) := fun h => pz_red (by omega) (by omega) (.inl (by omega))
  dsimp only
  by_cases c : 0 < p.1 ∧ ahB lh.1 (redI (-p.2) p.1) = true
  · rw [if_pos c]
    by_cases d : 0 < p.2 ∧ ahB (redI p.2 (-p.1)) lh.2 = true
    · exact absurd ⟨c.1, d.1⟩ n
    · rw [if_neg d]
      refine ⟨pu c.1, hl, ah_le c.2, LE.rf _, ⟨n, fun _ => LE.rf _, fun h => absurd ⟨c.1, h⟩ n⟩, .inr ⟨p, by simp, c.1, by omega, rfl⟩, .inl rfl⟩
  · rw [if_neg c]
    have up : 0 < p.1 → LE lh.1 (redI (-p.2) p.1) := fun h => le_not.mpr (by
      cases z : ahB lh.1 (redI (-p.2) p.1) with
      | false => rfl
      | true => exact absurd ⟨h, z⟩ c)
    by_cases d : 0 < p.2 ∧ ahB (redI p.2 (-p.1)) lh.2 = true
    · rw [if_pos d]
      exact ⟨hu, pl d.1, LE.rf _, ah_le d.2, ⟨n, up, fun _ => LE.rf _⟩, .inl rfl, .inr ⟨p, by simp, d.1, by omega, rfl⟩⟩
    · rw [if_neg d]
      have lo : 0 < p.2 → LE (redI p.2 (-p.1)) lh.2 := fun h => le_not.mpr (by
        cases z : ahB (redI p.2 (-p.1)) lh.2 with
        | false => rfl
        | true => exact absurd ⟨h, z⟩ d)
      exact ⟨hu, hl, LE.rf _, LE.rf _, ⟨n, up, lo⟩, .inl rfl, .inl rfl⟩
theorem fold_none : ∀ {ps : List P2} {lh : P2 × P2}, (∃ p ∈ ps, 0 < p.1 ∧ 0 < p.2) → foldS lh ps = none
  | [], _, h => by
    obtain ⟨_, m, _⟩ := h
    cases m
  | p :: r, lh, h => by
    unfold foldS
    by_cases z : 0 < p.1 ∧ 0 < p.2
    · have : stepS lh p = none := by
        unfold stepS
        rw [if_pos z]
      rw [this]
    · obtain ⟨x, m, hx⟩ := h
      rcases List.mem_cons.mp m with rfl | m
      · exact absurd hx z
      · cases e : stepS lh p with
        | none => rfl
        | some lh' => exact fold_none ⟨x, m, hx⟩
theorem fold_of : ∀ {ps : List P2} {lh : P2 × P2}, Pz lh.1 → Pz lh.2 → (∀ p ∈ ps, ¬ (0 < p.1 ∧ 0 < p.2)) → ∃ lh', foldS lh ps = some lh' ∧ Pz lh'.1 ∧ Pz lh'.2 ∧ LE lh'.1 lh.1 ∧ LE lh.2 lh'.2 ∧ (∀ p ∈ ps, Lim p lh'.1 lh'.2) ∧ (lh'.1 = lh.1 ∨ fromU ps lh'.1) ∧ (lh'.2 = lh.2 ∨ fromL ps lh'.2)
  | [], lh, hu, hl, _ => ⟨lh, rfl, hu, hl, LE.rf _, LE.rf _, (fun _ m => nomatch m), .inl rfl, .inl rfl⟩
  | p :: r, lh, hu, hl, n => by
    obtain ⟨a, e1, u1, l1, d1, d2, k1, o1, o2⟩ := step_of hu hl (n p List.mem_cons_self)
    obtain ⟨b, e2, u2, l2, d3, d4, k2, o3, o4⟩ := fold_of (ps := r) u1 l1 fun q m => n q (List.mem_cons_of_mem _ m)
    refine ⟨b, ?_, u2, l2, LE.tr u2 u1 hu d3 d1, LE.tr hl l1 l2 d2 d4, fun q m => ?_, ?_, ?_⟩
    · unfold foldS
      rw [e1]
      exact e2
    · rcases List.mem_cons.mp m with rfl | m
      · exact ⟨k1.no, fun h => LE.tr u2 u1 (pz_red (by have := k1.no; omega) (by omega) (.inr (by omega))) d3 (k1.up h), fun h => LE.tr (pz_red (by omega) (by have := k1.no; omega) (.inl (by omega))) l1 l2 (k1.lo h) d4⟩
      · exact k2 q m
    · rcases o3 with o3 | ⟨q, m, z⟩
      · rcases o1 with o1 | ⟨q, m, z⟩
        · exact .inl (o3.trans o1)
        · rw [List.mem_singleton.mp m] at z
          exact .inr ⟨p, List.mem_cons_self, z.1, z.2.1, o3.trans z.2.2⟩
      · exact .inr ⟨q, List.mem_cons_of_mem _ m, z⟩
    · rcases o4 with o4 | ⟨q, m, z⟩
      · rcases o2 with o2 | ⟨q, m, z⟩
        · exact .inl (o4.trans o2)
        · rw [List.mem_singleton.mp m] at z
          exact .inr ⟨p, List.mem_cons_self, z.1, z.2.1, o4.trans z.2.2⟩
      · exact .inr ⟨q, List.mem_cons_of_mem _ m, z⟩
theorem pz10 : Pz (1, 0) := ⟨by decide, by decide, .inl (by decide)⟩
theorem pz01 : Pz (0, 1) := ⟨by decide, by decide, .inr (by decide)⟩
theorem nonpos {a b : Int} (h1 : 0 ≤ a) (h2 : b ≤ 0) : a * b ≤ 0 := by
  have := Int.mul_nonneg h1 (show 0 ≤ -b by omega)
  rw [Int.mul_neg] at this
  omega
theorem lim_worth {x p u l : P2} (hx : Pz x) (hu : Pz u) (hl : Pz l) (k : Lim p u l) (h1 : LE x u) (h2 : LE l x) : worthI p x ≤ 0 := by
  have no := k.no
  unfold worthI
  by_cases a : 0 < p.1
  · have nz : -p.2 ≠ 0 ∨ p.1 ≠ 0 := .inr (by omega)
    have := (le_redR nz).mp (LE.tr hx hu (pz_red (by omega) (by omega) nz) h1 (k.up a))
    rw [Int.neg_mul, Int.mul_comm p.2] at this
    omega
  · by_cases b : 0 < p.2
    · have nz : p.2 ≠ 0 ∨ -p.1 ≠ 0 := .inl (by omega)
      have := (le_redL nz).mp (LE.tr (pz_red (by omega) (by omega) nz) hl hx (k.lo b) h2)
      rw [Int.mul_neg, Int.mul_comm p.2] at this
      omega
    · have e1 := nonpos hx.a (show p.1 ≤ 0 by omega)
      have e2 := nonpos hx.b (show p.2 ≤ 0 by omega)
      omega
theorem worth_no {x p : P2} (hx : Pz x) (h : worthI p x ≤ 0) : ¬ (0 < p.1 ∧ 0 < p.2) := fun ⟨a, b⟩ => by
  unfold worthI at h
  have e1 := Int.mul_nonneg hx.a (Int.le_of_lt a)
  have e2 := Int.mul_nonneg hx.b (Int.le_of_lt b)
  rcases hx.c with c | c
  · have := Int.mul_pos (show 0 < x.1 by have := hx.a; omega) a
    omega
  · have := Int.mul_pos (show 0 < x.2 by have := hx.b; omega) b
    omega
theorem stretch_some {ps : List P2} {u l : P2} (h : stretch ps (1, 0) (0, 1) = some (u, l)) : (u = (1, 0) ∨ fromU ps u) ∧ (l = (0, 1) ∨ fromL ps l) ∧ LE l u ∧ Pz u ∧ Pz l ∧ ∀ p ∈ ps, Lim p u l := by
  unfold stretch at h
  by_cases n : ∃ p ∈ ps, 0 < p.1 ∧ 0 < p.2
  · rw [fold_none n] at h
    cases h
  · obtain ⟨b, e, hu, hl, _, _, k, o1, o2⟩ := fold_of (ps := ps) (lh := ((1, 0), (0, 1))) pz10 pz01 fun p m z => n ⟨p, m, z⟩
    rw [e] at h
    dsimp only at h
    by_cases c : ahB b.2 b.1 = true
    · rw [if_pos c] at h
      cases h
    · rw [if_neg c] at h
      cases h
      exact ⟨o1, o2, le_not.mpr (by simpa using c), hu, hl, k⟩
theorem gain_iff {ps : List P2} {x : P2} (hx : Pz x) : (∀ p ∈ ps, worthI p x ≤ 0) ↔ ∃ u l, stretch ps (1, 0) (0, 1) = some (u, l) ∧ LE x u ∧ LE l x := by
  constructor
  · intro h
    obtain ⟨b, e, hu, hl, _, _, k, o1, o2⟩ := fold_of (ps := ps) (lh := ((1, 0), (0, 1))) pz10 pz01 fun p m => worth_no hx (h p m)
    have xu : LE x b.1 := by
      rcases o1 with o | ⟨p, m, a, c, o⟩
      · rw [o]
        show x.1 * 0 ≤ 1 * x.2
        have := hx.b
        omega
      · rw [o]
        refine (le_redR (.inr (by omega))).mpr ?_
        have := h p m
        unfold worthI at this
        rw [Int.neg_mul, Int.mul_comm p.2]
        omega
    have lx : LE b.2 x := by
      rcases o2 with o | ⟨p, m, a, c, o⟩
      · rw [o]
        show 0 * x.2 ≤ x.1 * 1
        have := hx.a
        omega
      · rw [o]
        refine (le_redL (.inl (by omega))).mpr ?_
        have := h p m
        unfold worthI at this
        rw [Int.mul_neg, Int.mul_comm p.2]
        omega
    refine ⟨b.1, b.2, ?_, xu, lx⟩
    unfold stretch
    rw [e]
    dsimp only
    rw [if_neg (by rw [le_not.mp (LE.tr hl hx hu lx xu)]; exact Bool.false_ne_true)]
  · rintro ⟨u, l, e, h1, h2⟩ p m
    obtain ⟨_, _, _, hu, hl, k⟩ := stretch_some e
    exact lim_worth hx hu hl (k p m) h1 h2
theorem best_le : ∀ {r : List P2} {g : P2}, 0 < g.2 → (∀ f ∈ r, 0 < f.2) → ((best g r).1 ≤ 0 ↔ g.1 ≤ 0 ∧ ∀ f ∈ r, f.1 ≤ 0)
  | [], g, _, _ => ⟨fun h => ⟨h, fun _ m => nomatch m⟩, fun h => h.1⟩
  | f :: r, g, hg, hr => by
    have hf := hr f List.mem_cons_self
    have ih := best_le (r := r) (g := if ahB f g = true then f else g) (by split <;> assumption) fun q m => hr q (List.mem_cons_of_mem _ m)
    have st : (if ahB f g = true then f else g).1 ≤ 0 ↔ g.1 ≤ 0 ∧ f.1 ≤ 0 := by
      cases c : ahB f g with
      | true =>
        rw [if_pos rfl]
        have c := ah_of c
        refine ⟨fun h => ⟨?_, h⟩, fun h => h.2⟩
        rcases Int.lt_or_le 0 g.1 with w | w
        · have e1 := Int.mul_pos w hf
          have e2 := nonpos (Int.le_of_lt hg) h
          rw [Int.mul_comm] at e2
          omega
        · exact w
      | false =>
        rw [if_neg Bool.false_ne_true]
        have c : LE f g := le_not.mpr c
        unfold LE at c
        refine ⟨fun h => ⟨h, ?_⟩, fun h => h.1⟩
        rcases Int.lt_or_le 0 f.1 with w | w
        · have e1 := Int.mul_pos w hg
          have e2 := nonpos (Int.le_of_lt hf) h
          rw [Int.mul_comm] at e2
          omega
        · exact w
    show (best (if ahB f g = true then f else g) r).1 ≤ 0 ↔ _
    rw [ih, st, List.forall_mem_cons, and_assoc]
theorem mp_sign {x : P2} {t : P3} (h : 1 ≤ t.2.2) : 0 < (mpI x t).2 ∧ ((mpI x t).1 ≤ 0 ↔ worthI (t.1, t.2.1) x ≤ 0) := by
  unfold mpI
  have g := gI_pos (p := worthI (t.1, t.2.1) x) (q := t.2.2) (.inr (by omega))
  obtain ⟨e1, e2⟩ := red_mul (p := worthI (t.1, t.2.1) x) (q := t.2.2)
  generalize worthI (t.1, t.2.1) x = w at *
  generalize redI w t.2.2 = r at *
  generalize gI w t.2.2 = k at *
  refine ⟨?_, ?_, ?_⟩
  · exact Int.lt_of_mul_lt_mul_left (a := k) (by rw [Int.mul_zero, ← e2]; omega) (Int.le_of_lt g)
  · intro h
    rw [e1]
    exact nonpos (Int.le_of_lt g) h
  · intro h
    exact Int.le_of_mul_le_mul_left (a := k) (by rw [Int.mul_zero, ← e1]; exact h) g
theorem bestOf_sign {x : P2} {ts : List P3} (ne : ts ≠ []) (h : ∀ t ∈ ts, 1 ≤ t.2.2) : (bestOf x ts).1 ≤ 0 ↔ ∀ t ∈ ts, worthI (t.1, t.2.1) x ≤ 0 := by
  cases ts with
  | nil => exact absurd rfl ne
  | cons t r =>
    show (best (mpI x t) (r.map (mpI x))).1 ≤ 0 ↔ _
    rw [best_le (mp_sign (h t List.mem_cons_self)).1 fun f m => by
      obtain ⟨u, hu, rfl⟩ := List.mem_map.mp m
      exact (mp_sign (h u (List.mem_cons_of_mem _ hu))).1]
    rw [List.forall_mem_cons, (mp_sign (h t List.mem_cons_self)).2, List.forall_mem_map]
    refine and_congr Iff.rfl ?_
    exact ⟨fun a u m => (mp_sign (h u (List.mem_cons_of_mem _ m))).2.mp (a u m), fun a u m => (mp_sign (h u (List.mem_cons_of_mem _ m))).2.mpr (a u m)⟩
end L53
set_option maxHeartbeats 2000000
namespace L53
open PySem PySem.Spec PyProof.Rows L2 HG PU LamX
def frP (ts : List P3) : List P2 := ts.map fun t => (t.1, t.2.1)
section
variable {P : Program} {w : World} {K : PySem.W.Frag} {mg : Str → Option Value} {base : Heap}
def sp_l_gain_right : SpD := spF (fun (x : List P3 × List P2) => [.tup (x.1.map trD), ppD (stretch (frP x.1) (1, 0) (0, 1)), .lst (x.2.map PU.prD)]) (fun x => FrontOk x.1 ∧ Turn x.1 x.2) fun _ => .bl true
theorem ok_l_gain_right (D : Def K mg "_law_gain_right" s_l_gain_right ["front", "found", "prices"])
    (c__law_mean : CalG P w K mg base CX0 3 "_law_mean" ["some", "price"] (fun _ : Unit => gh0) (fun _ => sp_l_mean))
     :
    CalG P w K mg base CX0 4 "_law_gain_right" ["front", "found", "prices"] (fun _ : Unit => gh0) (fun _ => sp_l_gain_right) := by
  refine D.uk sc_l_gain_right (fun i => gh0_ok) (fun _ => mo_F) (fun _ ds n Q E ⟨x, e, _⟩ => by rw [e]; rfl) (fun i f cdv A outer s F H Ev ds n Q E hC hr h => ?_)
  have nd := sc_l_gain_right.nd
  have hu := hr.units
  have hu65 : (A.deeper (envOfC "_law_gain_right" (defScope s_l_gain_right) s.heap.objs.size f cdv)).units + 65 < cLine := by
    have := hr.un
    omega
  obtain ⟨⟨ts, rs⟩, rfl, hp, q⟩ := h
  try dsimp only at q
  refine ⟨_, (us_cons (us_for (ui_row (ue_var (i := 2))) (ug_name (i := 3) nd)
      (us_cons (us_set (i := 4) (ue_and (ue_cmp opd_notN (ue_var (i := 1)) ue_non) (ue_and (ue_cmp opd_ge (ue_op opd_mul (ue_ix (ue_ix (ue_var (i := 1)) ue_int) ue_int) (ue_ix (ue_var (i := 3)) ue_int)) (ue_op opd_mul (ue_ix (ue_var (i := 3)) ue_int) (ue_ix (ue_ix (ue_var (i := 1)) ue_int) ue_int))) (ue_one (ue_cmp opd_le (ue_op opd_mul (ue_ix (ue_ix (ue_var (i := 1)) ue_int) ue_int) (ue_ix (ue_var (i := 3)) ue_int)) (ue_op opd_mul (ue_ix (ue_var (i := 3)) ue_int) (ue_ix (ue_ix (ue_var (i := 1)) ue_int) ue_int)))))) nd)
      (us_one (us_if (ut_cmp (opd_neA hu) (ue_var (i := 4)) (ue_cmp opd_le (ue_ix (uc_p c__law_mean hr pass0 (ua_cons (ue_var (i := 0)) (ua_cons (ue_var (i := 3)) ua_nil))) ue_int) ue_int)) (us_one (us_ret ue_bl)) us_nil))))
      (us_one (us_ret (ue_or (ue_cmp opd_isN (ue_var (i := 1)) ue_non) (ue_one (ue_and (ue_cmp (opd_inL hu65) (ue_ix (ue_var (i := 1)) ue_int) (ue_var (i := 2))) (ue_and (ue_cmp (opd_inL hu65) (ue_ix (ue_var (i := 1)) ue_int) (ue_var (i := 2))) (ue_one (ue_cmp opd_ge (ue_op opd_mul (ue_ix (ue_ix (ue_var (i := 1)) ue_int) ue_int) (ue_ix (ue_ix (ue_var (i := 1)) ue_int) ue_int)) (ue_op opd_mul (ue_ix (ue_ix (ue_var (i := 1)) ue_int) ue_int) (ue_ix (ue_ix (ue_var (i := 1)) ue_int) ue_int))))))))))), ?_⟩
  have sz : sizeLine = 16777216 := sizeLine_eq
  obtain ⟨fo, tn⟩ := hp
  dsimp only at fo tn
  have c1 : ∀ t ∈ ts, 1 ≤ t.2.2 := fun t m => (fo.tc t m).c1
  have bs : ∀ x : P2, (bestOf x ts).1 ≤ 0 ↔ ∀ p ∈ frP ts, worthI p x ≤ 0 := fun x => by
    rw [bestOf_sign fo.ne c1]
    unfold frP
    rw [List.forall_mem_map]
  have pz : ∀ x ∈ rs, Pz x := fun x m => ⟨(tn.gd x m).1.1, (tn.gd x m).1.2.1, (tn.gd x m).2⟩
  have p64 : ∀ x ∈ rs, InP 64 x := fun x m => ⟨(tn.gd x m).1.2.2.1.up (by decide), (tn.gd x m).1.2.2.2.up (by decide)⟩
  cases es : stretch (frP ts) (1, 0) (0, 1) with
  | none =>
    refine ⟨fun i ρ k => k = n ∧ ∃ y3 y4, ρ = [.d (.tup (ts.map trD)), .d .non, .d (.lst (rs.map PU.prD)), y3, y4], ⟨rfl, .u, .u, ?_⟩, fun i x ρ k hx hp => ?_, fun ρ k hp => ?_⟩
    · show startD _ [PU.D.tup (List.map trD ts), ppD (stretch (frP ts) (1, 0) (0, 1)), PU.D.lst (List.map PU.prD rs)] = _
      rw [es]
      rfl
    · obtain ⟨rfl, y3, y4, rfl⟩ := hp
      obtain ⟨x, hx2, rfl⟩ := getmapP hx
      have mx := List.mem_of_getElem? hx2
      have kf : decide ((bestOf x ts).1 ≤ 0) = false := decide_eq_false fun z => by
        obtain ⟨u, l, e, _⟩ := (gain_iff (pz x mx)).mp ((bs x).mp z)
        rw [es] at e
        cases e
      refine ⟨rfl, ?_⟩
      refine ⟨(ts, x), rfl, ⟨fo.ne, p64 x mx, fo.tc⟩, ?_⟩
      refine ix_t0 ?_
      exact ite_b (b := !decide (false = decide ((bestOf x ts).1 ≤ 0))) (fun e => by rw [kf] at e; cases e) fun _ => ⟨rfl, _, _, rfl⟩
    · obtain ⟨rfl, y3, y4, rfl⟩ := hp
      exact ⟨rfl, q⟩
  | some ul =>
    obtain ⟨u, l⟩ := ul
    obtain ⟨o1, o2, lu, zu, zl, _⟩ := stretch_some es
    have mu : u ∈ rs := by
      rcases o1 with rfl | ⟨p, m, a, b, rfl⟩
      · exact tn.one
      · obtain ⟨t, mt, rfl⟩ := List.mem_map.mp m
        have a : 0 < t.1 := a
        have b : t.2.1 ≤ 0 := b
        have := tn.all t mt (nonpos (Int.le_of_lt a) b) fun z => by
          have : t.1 = 0 := congrArg (fun z : P2 => z.1) z
          omega
        rw [show ((t.2.1.natAbs : Nat) : Int) = -t.2.1 by omega, show ((t.1.natAbs : Nat) : Int) = t.1 by omega] at this
        exact this
    have ml : l ∈ rs := by
      rcases o2 with rfl | ⟨p, m, a, b, rfl⟩
      · exact tn.nil
      · obtain ⟨t, mt, rfl⟩ := List.mem_map.mp m
        have a : 0 < t.2.1 := a
        have b : t.1 ≤ 0 := b
        have := tn.all t mt (by rw [Int.mul_comm]; exact nonpos (Int.le_of_lt a) b) fun z => by
          have : t.2.1 = 0 := congrArg (fun z : P2 => z.2) z
          omega
        rw [show ((t.2.1.natAbs : Nat) : Int) = t.2.1 by omega, show ((t.1.natAbs : Nat) : Int) = -t.1 by omega] at this
        exact this
    refine ⟨fun i ρ k => k = n ∧ ∃ y3 y4, ρ = [.d (.tup (ts.map trD)), .d (.tup [PU.prD u, PU.prD l]), .d (.lst (rs.map PU.prD)), y3, y4], ⟨rfl, .u, .u, ?_⟩, fun i x ρ k hx hp => ?_, fun ρ k hp => ?_⟩
    · show startD _ [PU.D.tup (List.map trD ts), ppD (stretch (frP ts) (1, 0) (0, 1)), PU.D.lst (List.map PU.prD rs)] = _
      rw [es]
      rfl
    · obtain ⟨rfl, y3, y4, rfl⟩ := hp
      obtain ⟨x, hx2, rfl⟩ := getmapP hx
      have mx := List.mem_of_getElem? hx2
      have sx := (p64 x mx).sm
      have key : decide ((bestOf x ts).1 ≤ 0) = (decide (x.1 * u.2 ≤ u.1 * x.2) && decide (l.1 * x.2 ≤ x.1 * l.2)) := by
        rw [Bool.eq_iff_iff, Bool.and_eq_true, decide_eq_true_eq, decide_eq_true_eq, decide_eq_true_eq, bs x, gain_iff (pz x mx), es]
        constructor
        · rintro ⟨u', l', e, h1, h2⟩
          cases e
          exact ⟨h1, h2⟩
        · rintro ⟨h1, h2⟩
          exact ⟨u, l, rfl, h1, h2⟩
      refine ⟨rfl, ?_⟩
      refine ix_t0 ?_
      refine ix_t0 ?_
      refine ix_t1 ?_
      refine ⟨.inr sx.2, ?_⟩
      refine ix_t0 ?_
      refine ix_t0 ?_
      refine ix_t1 ?_
      refine ⟨.inl sx.1, ?_⟩
      refine ite_b (b := decide (x.1 * u.2 ≤ u.1 * x.2)) (fun e1 => ?_) fun e1 => ?_
      · rw [e1, Bool.true_and] at key
        refine ix_t1 ?_
        refine ix_t0 ?_
        refine ix_t1 ?_
        refine ⟨.inr sx.2, ?_⟩
        refine ix_t0 ?_
        refine ix_t1 ?_
        refine ix_t1 ?_
        refine ⟨.inl sx.1, ?_⟩
        refine ⟨(ts, x), rfl, ⟨fo.ne, p64 x mx, fo.tc⟩, ?_⟩
        refine ix_t0 ?_
        exact ite_b (b := !decide (decide (l.1 * x.2 ≤ x.1 * l.2) = decide ((bestOf x ts).1 ≤ 0))) (fun e => by rw [key] at e; simp at e) fun _ => ⟨rfl, _, _, rfl⟩
      · rw [e1, Bool.false_and] at key
        refine ⟨(ts, x), rfl, ⟨fo.ne, p64 x mx, fo.tc⟩, ?_⟩
        refine ix_t0 ?_
        exact ite_b (b := !decide (false = decide ((bestOf x ts).1 ≤ 0))) (fun e => by rw [key] at e; cases e) fun _ => ⟨rfl, _, _, rfl⟩
    · obtain ⟨rfl, y3, y4, rfl⟩ := hp
      refine ⟨rfl, ?_⟩
      refine ix_t0 ?_
      dsimp only
      refine var_d (i := 2) (d := .lst (rs.map PU.prD)) rfl ?_
      refine in_pairs (f := id) (ps := rs) (p := u) ?_
      refine ite_b (b := decide (u ∈ rs)) (fun _ => ?_) fun e => absurd mu (of_decide_eq_false e)
      refine ix_t1 ?_
      dsimp only
      refine var_d (i := 2) (d := .lst (rs.map PU.prD)) rfl ?_
      refine in_pairs (f := id) (ps := rs) (p := l) ?_
      refine ite_b (b := decide (l ∈ rs)) (fun _ => ?_) fun e => absurd ml (of_decide_eq_false e)
      have su := (p64 u mu).sm
      have sl := (p64 l ml).sm
      refine ix_t0 ?_
      refine ix_t0 ?_
      refine ix_t1 ?_
      refine ix_t1 ?_
      refine ⟨.inr sl.2, ?_⟩
      refine ix_t1 ?_
      refine ix_t0 ?_
      refine ix_t0 ?_
      refine ix_t1 ?_
      refine ⟨.inr su.2, ?_⟩
      show Q (.bl (decide (l.1 * u.2 ≤ u.1 * l.2))) k
      have lu : l.1 * u.2 ≤ u.1 * l.2 := lu
      rw [decide_eq_true lu]
      exact q
end
end L53
set_option maxHeartbeats 2000000
namespace L53
open PySem PySem.Spec PyProof.Rows L2 HG PU LamX
theorem redI_mul {k a b : Int} (h : 0 < k) : redI (k * a) (k * b) = redI a b := by
  have e : gI (k * a) (k * b) = k * gI a b := by
    unfold gI
    rw [Int.natAbs_mul, Int.natAbs_mul, Nat.gcd_mul_left, Int.natCast_mul]
    congr 1
    omega
  unfold redI
  rw [e, Int.mul_ediv_mul_of_pos _ _ h, Int.mul_ediv_mul_of_pos _ _ h]
def dueP : List P2 → List P2
  | x :: y :: r => redI (((y.2 - x.2).natAbs : Nat) : Int) (((x.1 - y.1).natAbs : Nat) : Int) :: dueP (y :: r)
  | _ => []
theorem due_one {M : Int} {x y : P3} (hM : 0 < M) (hx : Mu M x) (hy : Mu M y) (h1 : 0 < (scaleI x y).1) (h2 : (scaleI x y).2 < 0) :
    redI ((((evenI M y).2 - (evenI M x).2).natAbs : Nat) : Int) ((((evenI M x).1 - (evenI M y).1).natAbs : Nat) : Int) = redI (-(scaleI x y).2) (scaleI x y).1 := by
  obtain ⟨a, b⟩ := (ev_fall hM hx hy).mpr ⟨h1, h2⟩
  obtain ⟨e1, e2⟩ := even_sub hx.d hy.d
  have k := Int.mul_pos hx.c hy.c
  rw [show ((((evenI M y).2 - (evenI M x).2).natAbs : Nat) : Int) = (evenI M y).2 - (evenI M x).2 by omega, show ((((evenI M x).1 - (evenI M y).1).natAbs : Nat) : Int) = (evenI M x).1 - (evenI M y).1 by omega]
  rw [← redI_mul (a := (evenI M y).2 - (evenI M x).2) k, e1, ← redI_mul (a := -(scaleI x y).2) hM]
  congr 1
  rw [Int.mul_neg, ← e2, ← Int.mul_neg, Int.neg_sub]
theorem due_meets {M : Int} (hM : 0 < M) : ∀ {ts : List P3} {b : Option P2}, (∀ t ∈ ts, Mu M t) → ordF b ts = true → dueP (ts.map (evenI M)) = meets ts
  | [], _, _, _ => rfl
  | [_], _, _, _ => rfl
  | x :: y :: r, b, h, o => by
    obtain ⟨h1, h2, h3⟩ := ord_next o
    have ih := due_meets hM (ts := y :: r) (fun t m => h t (List.mem_cons_of_mem _ m)) h3
    show redI _ _ :: dueP ((y :: r).map (evenI M)) = redI _ _ :: meets (y :: r)
    rw [ih, due_one hM (h x List.mem_cons_self) (h y (List.mem_cons_of_mem _ List.mem_cons_self)) h1 h2]
theorem due_front {ts : List P3} (fo : FrontOk ts) : dueP (evens ts) = meets ts := due_meets (evens_mu fo.tc).1 (evens_mu fo.tc).2 fo.ord
structure Prc (p : P2) : Prop where
  is : isPrice (PU.prD p) = true
  b : InP 60 p
theorem GoodP.prc {p : P2} (h : GoodP p) : Prc p := ⟨h.is, h.b.1.up (by decide), h.b.2.up (by decide)⟩
theorem meets_prc : ∀ {ts : List P3} {b : Option P2}, (∀ t ∈ ts, Tb t) → ordF b ts = true → ∀ p ∈ meets ts, Prc p
  | [], _, _, _, _, m => nomatch m
  | [_], _, _, _, _, m => nomatch m
  | x :: y :: r, b, h, o, p, m => by
    obtain ⟨h1, h2, h3⟩ := ord_next o
    rcases List.mem_cons.mp m with rfl | m
    · have i := scale_in (h x List.mem_cons_self) (h y (List.mem_cons_of_mem _ List.mem_cons_self))
      have nz : -(scaleI x y).2 ≠ 0 ∨ (scaleI x y).1 ≠ 0 := .inr (by omega)
      obtain ⟨g, a, c⟩ := red_gcd (p := -(scaleI x y).2) (q := (scaleI x y).1) (by omega) (by omega) nz
      obtain ⟨i1, i2⟩ := red_in nz (in_neg i.2) i.1
      refine ⟨?_, i1.up (by decide), i2.up (by decide)⟩
      show (decide (0 ≤ (redI (-(scaleI x y).2) (scaleI x y).1).1) && decide (0 ≤ (redI (-(scaleI x y).2) (scaleI x y).1).2) && decide (gI (redI (-(scaleI x y).2) (scaleI x y).1).1 (redI (-(scaleI x y).2) (scaleI x y).1).2 = 1)) = true
      rw [decide_eq_true a, decide_eq_true c, decide_eq_true g]
      rfl
    · exact meets_prc (ts := y :: r) (fun t m => h t (List.mem_cons_of_mem _ m)) h3 p m
/-! ### fronts and items for the package's own defs -/
theorem mean_of {t : P3} (h1 : 1 ≤ t.2.2) (h2 : g3 t.1 t.2.1 t.2.2 = 1) : isMean (trD t) = true := by
  show (decide (1 ≤ t.2.2) && decide (g3 t.1 t.2.1 t.2.2 = 1)) = true
  rw [decide_eq_true h1, decide_eq_true h2]
  rfl
theorem front_mf {ts : List P3} (fo : FrontOk ts) : isMF (.tup (ts.map trD)) = true := by
  show (!(ts.map trD).isEmpty && (ts.map trD).all isMean && ordF none ((ts.map trD).map trOf)) = true
  rw [trOf_trD, fo.ord]
  have e : (ts.map trD).isEmpty = false := by
    cases ts with
    | nil => exact absurd rfl fo.ne
    | cons _ _ => rfl
  have a : (ts.map trD).all isMean = true := List.all_eq_true.mpr fun x m => by
    obtain ⟨t, mt, rfl⟩ := List.mem_map.mp m
    exact mean_of (fo.tc t mt).c1 (fo.g t mt)
  rw [e, a]
  rfl
theorem OkI.okM {d : D} (h : OkI d) : OkM d := ⟨h.fin, fun xs e x m im => (h.tc xs e x m im).tb⟩
theorem front_okM {ts : List P3} (fo : FrontOk ts) : OkM (.tup (ts.map trD)) := by
  have le : (ts.map trD).length < 1000 := by
    rw [List.length_map]
    have := fo.few
    omega
  exact (okI_tup le fun x m => by
    obtain ⟨t, mt, rfl⟩ := List.mem_map.mp m
    exact itI_tc (fo.tc t mt)).okM
theorem front_prs (ts : List P3) : pairsOf (.tup (ts.map trD)) = frP ts := by
  show (ts.map trD).map _ = _
  rw [List.map_map]
  rfl
end L53
set_option maxHeartbeats 2000000
namespace L53
open PySem PySem.Spec PyProof.Rows L2 HG LamX
theorem caught_gives {X : Cx} {g CE : Addr} {cdg : Value} {q : Str} (m : X.mg "ClockError" = some (.ref CE)) :
    GivesTo X ["task", "caught", "error"] "_law_caught" (defScope s_l_caught) g cdg (defBody s_l_caught) "task" q (PU.TTk X.K CE) := by
  intro f c' s H Q tl act hc h
  have nd := sc_l_caught.nd
  refine ⟨_, pss_cons (ps_set (i := 1) nd rfl (.inl rfl) pe_non)
    (pss_cons (ps_try_keep (i := 2) (c := .ref CE) (X := (cxOf C8.CX0 X.prog X.w X.K X.mg X.base ["task", "caught", "error"] "_law_caught" (defScope s_l_caught) g cdg X.A X.stack s H C8.E0).nox)
      (tb := fun W D σ H => ∃ Ech : XK, (∀ cls d σ' H', Ech cls d H' → W cls d σ' H') ∧ σ[0]? = some (some (.ref f)) ∧ H c' = some (CodeO c' q) ∧ tl Ech H (fun _ H' => D.nx σ H'))
      rfl rfl rfl nd rfl rfl ⟨rfl, by decide, .inl m⟩ (fun W pn xe tk _ => ?_)
      (fun a pn => pss_one (ps_set (i := 1) nd rfl (.inl rfl) (pv 2))))
    (pss_one (ps_ret (pv 1)))), ?_⟩
  · refine ⟨fun pins s' σ H' D I h' => ?_⟩
    obtain ⟨Ech, hW, h1, h2, h3⟩ := h'
    exact (pss_one (ps_expr (act W pn xe Ech _ _ tk hW))).run pins s' σ H' D I ⟨h1, h2, h3⟩
  · refine ⟨fun cls d H' => PySem.W.exmOne X.K cls (.ref CE) = some true ∧ ∀ a, H' a = none → Q (.ref a) (upd H' a (Exn cls d a)), fun cls d σ' H' hE => ⟨hE.1, fun len a na => ?_⟩, rfl, hc, ?_⟩
    · match σ', len with
      | [x0, x1, x2], _ => exact ⟨.ref a, rfl, .ref a, rfl, hE.2 a na⟩
    · exact h
/-- the def that catches -/
structure Catch (K : PySem.W.Frag) (mg : Str → Option Value) (CE : Addr) : Prop where
  ex : ∃ (g : Addr) (oc : Value) (od : Option Addr) (kV doc pm : Value) (an : Option Addr) (cdv ct : Value) (osl : Array (Option Value)),
    K.lookup g = some ⟨oc, od, .func (PySem.W.fnOf "_law_caught" "_law_caught" (defArgs s_l_caught) (defBody s_l_caught) (defScope s_l_caught) .none kV doc pm an cdv ct), osl⟩ ∧
    PySem.W.codeIn K cdv "_law_caught" = true ∧ PySem.W.keepIn K (.ref g) = true ∧ mg "_law_caught" = some (.ref g) ∧
    Binds K (PySem.W.fnOf "_law_caught" "_law_caught" (defArgs s_l_caught) (defBody s_l_caught) (defScope s_l_caught) .none kV doc pm an cdv ct) ["task"] []
  ce : mg "ClockError" = some (.ref CE)
theorem pe_caught {X : Cx} {CE c P : Addr} {T : List (Addr × Str)} {k : Nat} {params : Arguments} {body : Expr} {scope : Scope} {t : XK → TE} {p lpos pos : Pos}
    (G : Catch X.K X.mg CE) (TB : TabB X.base X.mg c P) (hcode : X.env.code = .ref c) (hmT : (P, X.env.qual ++ "<lambda>") ∈ T)
    (hu : ∀ p ∈ T, p.1 = P → p.2 = X.env.qual ++ "<lambda>") (hr : Room (k + 2) X.A) (hg : Gl X "_law_caught") (L : LamS X.env.scope scope)
    (hdef : defaultsOf params X.env = ([], []))
    (hbind : ∀ (q : Str) (cl : List (Str × Addr)) (pm cv ctv : Value), bindArgs (PySem.W.kla_fn "<lambda>" q params body scope cl pm cv ctv) ⟨[], []⟩ = pure [])
    (hbody : ∀ (A : Around) (outer : List Env) (s : Shared) (H : Hp) (E : XK) (f c' : Addr), Room k (A.deeper (lamEnv X scope s.heap.objs.size f c')) → PE (lamCx X A outer s H E scope f c') body (t E)) :
    PE X (.Call (.Name "_law_caught" p) [.Lambda params body scope lpos] [] pos) (tLam T (PU.TTk X.K CE) t) := by
  obtain ⟨g, oc, od, kV, doc, pm, an, cdv, ct, osl, lk, cd, kp, m, b⟩ := G.ex
  exact pe_lamcall hg m kp lk cd b sc_l_caught rfl (.inl rfl) (caught_gives G.ce) TB hcode hmT hu hr L hdef hbind hbody
theorem arg_list {ta : TA} {σ : L2.St} {H : Hp} {Q : List V → Hp → Prop}
    (h : ta σ H fun xs H1 => xs.length ≤ sizeLine ∧ ∀ p, H1 p = none → Q [.ref p] (upd H1 p (.lst xs))) : tCons (tLst ta) tNil σ H Q := h
end L53
namespace L53
open PySem PySem.Spec PyProof.Rows L2 HG PU LamX
abbrev x53 : Str := "_law_caught"
/-- `_law_caught(lambda: body)` over data -/
theorem ue_caught {X : Cx} {C : Cn} {CE c P : Addr} {T : List (Addr × Str)} {k : Nat} {params : Arguments} {body : Expr} {scope : Scope} {xu : XD → TD} {p lpos pos : Pos} (ok : C.Ok) (L : LamOk C T)
    (G : Catch X.K X.mg CE) (TB : TabB X.base X.mg c P) (hcode : X.env.code = .ref c) (hmT : (P, X.env.qual ++ "<lambda>") ∈ T)
    (hu : ∀ p ∈ T, p.1 = P → p.2 = X.env.qual ++ "<lambda>") (hr : Room (k + 2) X.A)
    (mo : ∀ Ed, Mo (xu Ed)) (mx : ∀ E E' ρ n Q, (∀ c ns xs m, E c ns xs m → E' c ns xs m) → xu E ρ n Q → xu E' ρ n Q)
    (hbody : ∀ (A : Around) (outer : List Env) (s : Shared) (H : Hp) (Ev : XK) (f c' : Addr) (F0 H0 : Hp) (E : XD), Room k (A.deeper (lamEnv X scope s.heap.objs.size f c')) → (cnOf C.toGh F0 H0).Ok → XOk X.K (cnOf C.toGh F0 H0) E Ev →
      UE (lamCx X A outer s H Ev scope f c') (cnOf C.toGh F0 H0) body (xu E))
    (hg : Gl X "_law_caught" := by rfl) (Ls : LamS X.env.scope scope := by exact ⟨rfl, rfl, rfl, rfl⟩)
    (hdef : defaultsOf params X.env = ([], []) := by rfl)
    (hbind : ∀ (q : Str) (cl : List (Str × Addr)) (pm cv ctv : Value), bindArgs (PySem.W.kla_fn "<lambda>" q params body scope cl pm cv ctv) ⟨[], []⟩ = pure [] := by intros; rfl) :
    UE X C (.Call (.Name "_law_caught" p) [.Lambda params body scope lpos] [] pos) (uCaught X.K CE xu) :=
  ue_lamcall (c := c) (P := P) (a := x53) (k := k) ok L (fun t hb => pe_caught (t := t) G TB hcode hmT hu hr hg Ls hdef hbind hb) mo mx hbody
end L53
set_option maxHeartbeats 2000000
namespace PU
open PySem PySem.Spec PyProof.Rows L2 HG LamX
section
variable {X : Cx}
theorem opd_isNotB : OpD X (compareOp .IsNot) (rIsB not) := by
  refine ⟨fun x y P Q i h => ?_, fun pins s σ H x y v u Q I rx ry ⟨F, dx, dy, l, h1, h2, q⟩ => ?_⟩
  · unfold rIsB at h
    split at h
    · exact i _ h
    · exact h.elim
  · unfold rIsB at q
    split at q
    · cases h1
      cases h2
      exact op_isnot_bl pins s σ H _ _ v u Q I rx ry ⟨_, _, rfl, rfl, q _ F H (Ex.rfl l) (.bl _)⟩
    · exact q.elim
theorem op_inTD (hu : X.A.units + 65 < cLine) : OpR X (compareOp .In) (fun x y H Q => ∃ d ds, Dp X.K H x d ∧ Dp X.K H y (.tuple ds) ∧ SeqAt.shaped d = true ∧ SeqAt.shaped (.tuple ds) = true ∧ Q (.bl (ds.any fun z => PyData.eqv z d)) H) := by
  intro pins s σ H x y v u Q I rx ry ⟨d, ds, h1, h2, s1, s2, q⟩
  obtain ⟨as, r1⟩ := Dp.reads I d x v h1 rx
  obtain ⟨bs, r2⟩ := Dp.reads I _ y u h2 ry
  have s1 : (PyData.canLay0 d && decide (PyData.depth d ≤ 64)) = true := s1
  have s2 : (PyData.canLay0 (.tuple ds) && decide (PyData.depth (.tuple ds) ≤ 64)) = true := s2
  rw [Bool.and_eq_true, decide_eq_true_eq] at s1 s2
  have l2 := s2.1
  simp only [PyData.canLay0] at l2
  exact SeqAt.in_tuple_reads r2 r1 l2 s1.1 (by have := s1.2; omega) ⟨.bl _, H, I, rfl, q⟩
def rInT (f : Bool → Bool) (x y : D) (Q : D → Prop) : Prop := ∃ (ys : List D) (p : PyData) (ps : List PyData), y = .tup ys ∧ x.py = some p ∧ pyA ys = some ps ∧ SeqAt.shaped p = true ∧ SeqAt.shaped (.tuple ps) = true ∧ Q (.bl (f (ps.any fun z => PyData.eqv z p)))
theorem opd_inT (hu : X.A.units + 65 < cLine) : OpD X (compareOp .In) (rInT id) := by
  refine ⟨fun x y P Q i ⟨ys, p, ps, a1, a2, a3, a4, a5, h⟩ => ⟨ys, p, ps, a1, a2, a3, a4, a5, i _ h⟩, fun pins s σ H x y v u Q I rx ry ⟨F, dx, dy, l, h1, h2, ys, p, ps, a1, a2, a3, a4, a5, q⟩ => ?_⟩
  subst a1
  have py : (D.tup ys).py = some (.tuple ps) := by simp only [D.py, a3, Option.map]
  exact op_inTD hu pins s σ H x y v u Q I rx ry ⟨p, ps, dd_py l dx h1 a2, dd_py l _ h2 py, a4, a5, q _ F H (Ex.rfl l) (.bl _)⟩
end
/-! ### readings that stay, of a choice of three calls -/
theorem mo_Nil : Mo uNil := fun _ _ _ _ h u => h _ _ u
theorem mo_22 : Mo (uTup (uCons (uC (.int 2)) (uCons (uC (.int 2)) uNil))) := mo_Tup (mo_Cons mo_C (mo_Cons mo_C mo_Nil))
theorem mo_If {t : TDb} {a b : TD} (ht : Mo t) (ha : Mo a) (hb : Mo b) : Mo (uIf t a b) := fun ρ n P Q i w => ht _ _ _ _ (fun c m q => by
  by_cases e : c = true
  · rw [if_pos e] at q ⊢
    exact ha _ _ _ _ i q
  · rw [if_neg e] at q ⊢
    exact hb _ _ _ _ i q) w
theorem mx_If {t : TDb} {a a' b b' : TD} (ht : Mo t) {ρ : List S} {n : Nat} {Q : D → Nat → Prop} (ha : ∀ m, a ρ m Q → a' ρ m Q) (hb : ∀ m, b ρ m Q → b' ρ m Q) (w : uIf t a b ρ n Q) : uIf t a' b' ρ n Q := ht _ _ _ _ (fun c m q => by
  by_cases e : c = true
  · rw [if_pos e] at q ⊢
    exact ha _ q
  · rw [if_neg e] at q ⊢
    exact hb _ q) w
end PU
set_option maxHeartbeats 2000000
namespace L53
open PySem PySem.Spec PyProof.Rows L2 HG PU LamX
abbrev qL : Str := (envOfC "law" (defScope s_law) 0 0 .none).qual ++ "<lambda>"
theorem kw_is_mean_front : KwB "is_mean_front" s_is_mean_front ["thing"] ["thing"] := kwb1 fun _ _ _ _ _ _ _ => rfl
theorem kw_mean_prices : KwB "mean_prices" s_mean_prices ["means"] ["means"] := kwb1 fun _ _ _ _ _ _ _ => rfl
theorem kw_no_gain : KwB "no_gain" s_no_gain ["means"] ["means"] := kwb1 fun _ _ _ _ _ _ _ => rfl
theorem kw_mean_worth : KwB "mean_worth" s_mean_worth ["means", "price"] ["price", "means"] := kwb2 fun _ _ _ _ _ _ _ _ => rfl
theorem mo_Var {i : Nat} : Mo (uVar i) := fun ρ n P Q j w => by
  unfold uVar at w ⊢
  split <;> rename_i e <;> simp only [e] at w <;> first | exact j _ _ w | exact w
theorem mo_cpx {a : SpD} {us : TDa} {E : XD} (m : MoSp a) (h : Mo us) : Mo (uCpX a E us) := fun ρ n P Q i w => h _ _ _ _ (fun ds k => m _ _ _ _ _ _ (fun d _ => i d k) fun _ _ _ _ z => z) w
theorem mx_cpx {a : SpD} {us : TDa} {E E' : XD} {ρ : List S} {n : Nat} {Q : D → Nat → Prop} (m : MoSp a) (h : Mo us) (j : ∀ c ns xs m, E c ns xs m → E' c ns xs m) (w : uCpX a E us ρ n Q) : uCpX a E' us ρ n Q :=
  h _ _ _ _ (fun ds k => m _ _ _ _ _ _ (fun _ _ z => z) fun c ns xs _ z => j c ns xs k z) w
abbrev NL : List Str := ["script", "draw", "turn", "front", "pairs", "due", "one", "two", "price", "item", "is_right", "way", "error"]
abbrev P0 : Stmt := .Pass ⟨0, 0, 0, 0⟩
def loopOf : Stmt → List Stmt
  | .For _ _ c _ _ => c
  | _ => []
def bodyL : List Stmt := loopOf ((defBody s_law).getD 2 P0)
structure LawX (P : Program) (w : World) (K : PySem.W.Frag) (mg : Str → Option Value) (base : Heap) (CE B BP cc Pt : Addr) (T : List (Addr × Str)) : Prop where
  D : DefC K mg "law" s_law ["script"] cc
  G : Catch K mg CE
  TB : TabB base mg cc Pt
  hm : (Pt, qL) ∈ T
  hu_ : ∀ p ∈ T, p.1 = Pt → p.2 = qL
  d_is_mean_front : Def K mg "is_mean_front" s_is_mean_front ["thing"]
  d_mean_prices : Def K mg "mean_prices" s_mean_prices ["means"]
  d_mean_worth : Def K mg "mean_worth" s_mean_worth ["means", "price"]
  d_no_gain : Def K mg "no_gain" s_no_gain ["means"]
  z_abs : mg "abs" = none
  z_isinstance : mg "isinstance" = none
  z_len : mg "len" = none
  z_min : mg "min" = none
  z_range : mg "range" = none
  z_zip : mg "zip" = none
  m_BadMeans : mg "BadMeans" = some (.ref B)
  m_BadPrice : mg "BadPrice" = some (.ref BP)
  iB : ExcC K B
  iP : ExcC K BP
  hB : PySem.W.exmOne K (.ref B) (.ref CE) = some true
  hP : PySem.W.exmOne K (.ref BP) (.ref CE) = some true
  oB : PySem.W.kitOne K (.ref B) (.ref B) = some true
  oP : PySem.W.kitOne K (.ref BP) (.ref BP) = some true
  c_begun : Callee P w K mg base CX0 1 "_law_begun" ["script"] (HG.sp_begun K)
  c__law_changed : CalG P w K mg base CX0 5 "_law_changed" ["draw", "front"] gDraw sp_l_changed
  c__law_evened : CalG P w K mg base CX0 2 "_law_evened" ["some"] (fun _ : Unit => gh0) (fun _ => sp_l_evened)
  c__law_front_due : CalG P w K mg base CX0 3 "_law_front_due" ["some"] (fun _ : Unit => gh0) (fun _ => sp_l_front_due)
  c__law_gain_right : CalG P w K mg base CX0 4 "_law_gain_right" ["front", "found", "prices"] (fun _ : Unit => gh0) (fun _ => sp_l_gain_right)
  c__law_is_front : CalG P w K mg base CX0 4 "_law_is_front" ["item"] (fun _ : Unit => gh0) (fun _ => sp_l_is_front)
  c__law_mean : CalG P w K mg base CX0 3 "_law_mean" ["some", "price"] (fun _ : Unit => gh0) (fun _ => sp_l_mean)
  c__law_price : CalG P w K mg base CX0 4 "_law_price" ["draw"] gDraw sp_l_price
  c__law_says : CalG P w K mg base CX0 1 "_law_says" ["found", "due"] (fun _ : Unit => gh0) (fun _ => sp_l_says)
  c__law_terms : CalG P w K mg base CX0 2 "_law_terms" ["one", "two"] (fun _ : Unit => gh0) (fun _ => sp_l_terms)
  c__law_triples : CalG P w K mg base CX0 5 "_law_triples" ["draw"] gDraw sp_l_triples
  c__law_turning : CalG P w K mg base CX0 3 "_law_turning" ["front"] (fun _ : Unit => gh0) (fun _ => sp_l_turning)
  c_is_mean_front : CalG P w K mg base CX0 5 "is_mean_front" ["thing"] (fun _ : Unit => gh0) (fun _ => sp_is_mean_front)
  c_mean_prices : CalG P w K mg base (L2.CX P w) 7 "mean_prices" ["means"] (fun _ : Unit => gh0) (fun _ => sp_mean_prices B)
  c_mean_worth : CalG P w K mg base (L2.CX P w) 7 "mean_worth" ["means", "price"] (fun _ : Unit => gh0) (fun _ => sp_mean_worth B BP)
  c_no_gain : CalG P w K mg base (L2.CX P w) 7 "no_gain" ["means"] (fun _ : Unit => gh0) (fun _ => sp_no_gain B)
abbrev XL (P : Program) (w : World) (K : PySem.W.Frag) (mg : Str → Option Value) (base : Heap) (f cc : Addr) (A : Around) (outer : List Env) (s : Shared) (H : Hp) (E : XK) : Cx := (cxOf CX0 P w K mg base NL "law" (defScope s_law) f (.ref cc) A outer s H E).nox
abbrev AL (f cc : Addr) (A : Around) (s : Shared) : Around := A.deeper (envOfC "law" (defScope s_law) s.heap.objs.size f (.ref cc))
end L53
set_option maxHeartbeats 2000000
namespace L53
open PySem PySem.Spec PyProof.Rows L2 HG PU LamX
@[irreducible] def st_s1 {P : Program} {w : World} {K : PySem.W.Frag} {mg : Str → Option Value} {base : Heap} {CE B BP cc Pt : Addr} {T : List (Addr × Str)} (h : LawX P w K mg base CE B BP cc Pt T) {f : Addr} {A : Around} {outer : List Env} {s : Shared} {H : Hp} {E : XK} (ng : NoG (AL f cc A s)) (hr : Room 10 (AL f cc A s)) (hu66 : (AL f cc A s).units + 66 < cLine) (i : Addr × Addr × Addr) :
    {wd : TDs // ∀ F0 H0, (cnOf (gLaw T i) F0 H0).Ok → US (XL P w K mg base f cc A outer s H E) (cnOf (gLaw T i) F0 H0) ((defBody s_law).getD 1 P0) wd} := by
  have nd : NL.Nodup := sc_law.nd
  have Lm : ∀ {scope : Scope}, lamSB (defScope s_law) scope = true → LamS (defScope s_law) scope := fun h => lamS_by h
  have hu := hr.units
  have hu65 : (AL f cc A s).units + 65 < cLine := by omega
  exact ⟨_, fun F0 H0 hC => have em : Emb (gDraw i) (cnOf (gLaw T i) F0 H0).toGh := emb_law; (us_if (UW.ut (uw_or (ut_cmp (opd_neA hu) (uc_p h.c_mean_prices hr passL (ua_cons ue_non ua_nil)) (UL.ue (ul_lst ua_nil))) (uw_or (ut_cmp (opd_neA hu) (uc_p h.c_mean_prices hr passL (ua_cons ue_str ua_nil)) (UL.ue (ul_lst ua_nil))) (uw_or (ut_cmp (opd_neA hu) (uc_p h.c_no_gain hr passL (ua_cons ue_non ua_nil)) (ue_tup (ua_cons (ue_tup (ua_cons ue_int (ua_cons ue_int ua_nil))) (ua_cons (ue_tup (ua_cons ue_int (ua_cons ue_int ua_nil))) ua_nil)))) (uw_or1 (ut_cmp (opd_neA hu) (uc_p h.c_no_gain hr passL (ua_cons ue_str ua_nil)) (ue_tup (ua_cons (ue_tup (ua_cons ue_int (ua_cons ue_int ua_nil))) (ua_cons (ue_tup (ua_cons ue_int (ua_cons ue_int ua_nil))) ua_nil))))))))) (us_one (us_ret ue_bl)) us_nil)⟩
end L53
set_option maxHeartbeats 2000000
namespace L53
open PySem PySem.Spec PyProof.Rows L2 HG PU LamX
@[irreducible] def st_b0 {P : Program} {w : World} {K : PySem.W.Frag} {mg : Str → Option Value} {base : Heap} {CE B BP cc Pt : Addr} {T : List (Addr × Str)} (h : LawX P w K mg base CE B BP cc Pt T) {f : Addr} {A : Around} {outer : List Env} {s : Shared} {H : Hp} {E : XK} (ng : NoG (AL f cc A s)) (hr : Room 10 (AL f cc A s)) (hu66 : (AL f cc A s).units + 66 < cLine) (i : Addr × Addr × Addr) :
    {wd : TDs // ∀ F0 H0, (cnOf (gLaw T i) F0 H0).Ok → US (XL P w K mg base f cc A outer s H E) (cnOf (gLaw T i) F0 H0) (bodyL.getD 0 P0) wd} := by
  have nd : NL.Nodup := sc_law.nd
  have Lm : ∀ {scope : Scope}, lamSB (defScope s_law) scope = true → LamS (defScope s_law) scope := fun h => lamS_by h
  have hu := hr.units
  have hu65 : (AL f cc A s).units + 65 < cLine := by omega
  exact ⟨_, fun F0 H0 hC => have em : Emb (gDraw i) (cnOf (gLaw T i) F0 H0).toGh := emb_law; (us_set (i := 3) (uc_p h.c__law_front_due hr pass0 (ua_cons (uc_e i em hC h.c__law_triples hr pass0 (ua_cons (ue_var (i := 1)) ua_nil)) ua_nil)) nd)⟩
end L53
set_option maxHeartbeats 2000000
namespace L53
open PySem PySem.Spec PyProof.Rows L2 HG PU LamX
@[irreducible] def st_b1 {P : Program} {w : World} {K : PySem.W.Frag} {mg : Str → Option Value} {base : Heap} {CE B BP cc Pt : Addr} {T : List (Addr × Str)} (h : LawX P w K mg base CE B BP cc Pt T) {f : Addr} {A : Around} {outer : List Env} {s : Shared} {H : Hp} {E : XK} (ng : NoG (AL f cc A s)) (hr : Room 10 (AL f cc A s)) (hu66 : (AL f cc A s).units + 66 < cLine) (i : Addr × Addr × Addr) :
    {wd : TDs // ∀ F0 H0, (cnOf (gLaw T i) F0 H0).Ok → US (XL P w K mg base f cc A outer s H E) (cnOf (gLaw T i) F0 H0) (bodyL.getD 1 P0) wd} := by
  have nd : NL.Nodup := sc_law.nd
  have Lm : ∀ {scope : Scope}, lamSB (defScope s_law) scope = true → LamS (defScope s_law) scope := fun h => lamS_by h
  have hu := hr.units
  have hu65 : (AL f cc A s).units + 65 < cLine := by omega
  exact ⟨_, fun F0 H0 hC => have em : Emb (gDraw i) (cnOf (gLaw T i) F0 H0).toGh := emb_law; (us_if (ut_cmp opd_isNotB (uc_k h.c_is_mean_front h.d_is_mean_front kw_is_mean_front hr pass0 (uk_cons (ue_var (i := 3)) uk_nil)) ue_bl) (us_one (us_ret ue_bl)) us_nil)⟩
end L53
set_option maxHeartbeats 2000000
namespace L53
open PySem PySem.Spec PyProof.Rows L2 HG PU LamX
@[irreducible] def st_b2 {P : Program} {w : World} {K : PySem.W.Frag} {mg : Str → Option Value} {base : Heap} {CE B BP cc Pt : Addr} {T : List (Addr × Str)} (h : LawX P w K mg base CE B BP cc Pt T) {f : Addr} {A : Around} {outer : List Env} {s : Shared} {H : Hp} {E : XK} (ng : NoG (AL f cc A s)) (hr : Room 10 (AL f cc A s)) (hu66 : (AL f cc A s).units + 66 < cLine) (i : Addr × Addr × Addr) :
    {wd : TDs // ∀ F0 H0, (cnOf (gLaw T i) F0 H0).Ok → US (XL P w K mg base f cc A outer s H E) (cnOf (gLaw T i) F0 H0) (bodyL.getD 2 P0) wd} := by
  have nd : NL.Nodup := sc_law.nd
  have Lm : ∀ {scope : Scope}, lamSB (defScope s_law) scope = true → LamS (defScope s_law) scope := fun h => lamS_by h
  have hu := hr.units
  have hu65 : (AL f cc A s).units + 65 < cLine := by omega
  exact ⟨_, fun F0 H0 hC => have em : Emb (gDraw i) (cnOf (gLaw T i) F0 H0).toGh := emb_law; (us_set (i := 4) (uc_p h.c__law_evened hr pass0 (ua_cons (ue_var (i := 3)) ua_nil)) nd)⟩
end L53
set_option maxHeartbeats 2000000
namespace L53
open PySem PySem.Spec PyProof.Rows L2 HG PU LamX
@[irreducible] def st_b3 {P : Program} {w : World} {K : PySem.W.Frag} {mg : Str → Option Value} {base : Heap} {CE B BP cc Pt : Addr} {T : List (Addr × Str)} (h : LawX P w K mg base CE B BP cc Pt T) {f : Addr} {A : Around} {outer : List Env} {s : Shared} {H : Hp} {E : XK} (ng : NoG (AL f cc A s)) (hr : Room 10 (AL f cc A s)) (hu66 : (AL f cc A s).units + 66 < cLine) (i : Addr × Addr × Addr) :
    {wd : TDs // ∀ F0 H0, (cnOf (gLaw T i) F0 H0).Ok → US (XL P w K mg base f cc A outer s H E) (cnOf (gLaw T i) F0 H0) (bodyL.getD 3 P0) wd} := by
  have nd : NL.Nodup := sc_law.nd
  have Lm : ∀ {scope : Scope}, lamSB (defScope s_law) scope = true → LamS (defScope s_law) scope := fun h => lamS_by h
  have hu := hr.units
  have hu65 : (AL f cc A s).units + 65 < cLine := by omega
  exact ⟨_, fun F0 H0 hC => have em : Emb (gDraw i) (cnOf (gLaw T i) F0 H0).toGh := emb_law; (us_setLc (i := 5) (own := [("one", 6), ("two", 7)]) hC nd (ui_zip (ua_cons (ue_var (i := 4)) (ua_cons (ue_slice (ue_var (i := 4)) (uo_some ue_int) uo_none) ua_nil)) h.z_zip) (blkOk_by (own := [("one", 6), ("two", 7)]) (N := ["script", "draw", "turn", "front", "pairs", "due", "one", "two", "price", "item", "is_right", "way", "error"]) (sc := defScope s_law) (by decide +kernel)) (fun _ _ _ _ _ => (ug_tup (k := 2) (ug_cons (ug_name (i := 6) nd) (ug_cons (ug_name (i := 7) nd) ug_nil)))) (fun _ _ _ _ _ => uts_nil) (fun _ _ _ _ _ => (uc_p h.c__law_terms hr pass0 (ua_cons (ue_callB cd_abs h.z_abs (ua_cons (ue_op opd_sub (ue_ix (ue_var (i := 7)) ue_int) (ue_ix (ue_var (i := 6)) ue_int)) ua_nil)) (ua_cons (ue_callB cd_abs h.z_abs (ua_cons (ue_op opd_sub (ue_ix (ue_var (i := 6)) ue_int) (ue_ix (ue_var (i := 7)) ue_int)) ua_nil)) ua_nil)))))⟩
end L53
set_option maxHeartbeats 2000000
namespace L53
open PySem PySem.Spec PyProof.Rows L2 HG PU LamX
@[irreducible] def st_b4 {P : Program} {w : World} {K : PySem.W.Frag} {mg : Str → Option Value} {base : Heap} {CE B BP cc Pt : Addr} {T : List (Addr × Str)} (h : LawX P w K mg base CE B BP cc Pt T) {f : Addr} {A : Around} {outer : List Env} {s : Shared} {H : Hp} {E : XK} (ng : NoG (AL f cc A s)) (hr : Room 10 (AL f cc A s)) (hu66 : (AL f cc A s).units + 66 < cLine) (i : Addr × Addr × Addr) :
    {wd : TDs // ∀ F0 H0, (cnOf (gLaw T i) F0 H0).Ok → US (XL P w K mg base f cc A outer s H E) (cnOf (gLaw T i) F0 H0) (bodyL.getD 4 P0) wd} := by
  have nd : NL.Nodup := sc_law.nd
  have Lm : ∀ {scope : Scope}, lamSB (defScope s_law) scope = true → LamS (defScope s_law) scope := fun h => lamS_by h
  have hu := hr.units
  have hu65 : (AL f cc A s).units + 65 < cLine := by omega
  exact ⟨_, fun F0 H0 hC => have em : Emb (gDraw i) (cnOf (gLaw T i) F0 H0).toGh := emb_law; (us_if (ut_cmp (opd_neA hu) (uc_k h.c_mean_prices h.d_mean_prices kw_mean_prices hr passL (uk_cons (ue_var (i := 3)) uk_nil)) (ue_op opd_plus (ue_op opd_plus (UL.ue (ul_lst (ua_cons (ue_tup (ua_cons ue_int (ua_cons ue_int ua_nil))) ua_nil))) (ue_var (i := 5))) (UL.ue (ul_lst (ua_cons (ue_tup (ua_cons ue_int (ua_cons ue_int ua_nil))) ua_nil))))) (us_one (us_ret ue_bl)) us_nil)⟩
end L53
set_option maxHeartbeats 2000000
namespace L53
open PySem PySem.Spec PyProof.Rows L2 HG PU LamX
@[irreducible] def st_b5 {P : Program} {w : World} {K : PySem.W.Frag} {mg : Str → Option Value} {base : Heap} {CE B BP cc Pt : Addr} {T : List (Addr × Str)} (h : LawX P w K mg base CE B BP cc Pt T) {f : Addr} {A : Around} {outer : List Env} {s : Shared} {H : Hp} {E : XK} (ng : NoG (AL f cc A s)) (hr : Room 10 (AL f cc A s)) (hu66 : (AL f cc A s).units + 66 < cLine) (i : Addr × Addr × Addr) :
    {wd : TDs // ∀ F0 H0, (cnOf (gLaw T i) F0 H0).Ok → US (XL P w K mg base f cc A outer s H E) (cnOf (gLaw T i) F0 H0) (bodyL.getD 5 P0) wd} := by
  have nd : NL.Nodup := sc_law.nd
  have Lm : ∀ {scope : Scope}, lamSB (defScope s_law) scope = true → LamS (defScope s_law) scope := fun h => lamS_by h
  have hu := hr.units
  have hu65 : (AL f cc A s).units + 65 < cLine := by omega
  exact ⟨_, fun F0 H0 hC => have em : Emb (gDraw i) (cnOf (gLaw T i) F0 H0).toGh := emb_law; (us_for (ui_row (ue_op opd_plus (UL.ue (ul_lst (ua_cons (uc_e i em hC h.c__law_price hr pass0 (ua_cons (ue_var (i := 1)) ua_nil)) (ua_cons (uc_e i em hC h.c__law_price hr pass0 (ua_cons (ue_var (i := 1)) ua_nil)) ua_nil)))) (ue_var (i := 5)))) (ug_name (i := 8) nd)
      (us_one (us_if (ut_cmp (opd_neA hu) (uc_k h.c_mean_worth h.d_mean_worth kw_mean_worth hr passL (uk_cons (ue_var (i := 8)) (uk_cons (ue_var (i := 3)) uk_nil))) (uc_p h.c__law_mean hr pass0 (ua_cons (ue_var (i := 3)) (ua_cons (ue_var (i := 8)) ua_nil)))) (us_one (us_ret ue_bl)) us_nil)))⟩
end L53
set_option maxHeartbeats 2000000
namespace L53
open PySem PySem.Spec PyProof.Rows L2 HG PU LamX
@[irreducible] def st_b6 {P : Program} {w : World} {K : PySem.W.Frag} {mg : Str → Option Value} {base : Heap} {CE B BP cc Pt : Addr} {T : List (Addr × Str)} (h : LawX P w K mg base CE B BP cc Pt T) {f : Addr} {A : Around} {outer : List Env} {s : Shared} {H : Hp} {E : XK} (ng : NoG (AL f cc A s)) (hr : Room 10 (AL f cc A s)) (hu66 : (AL f cc A s).units + 66 < cLine) (i : Addr × Addr × Addr) :
    {wd : TDs // ∀ F0 H0, (cnOf (gLaw T i) F0 H0).Ok → US (XL P w K mg base f cc A outer s H E) (cnOf (gLaw T i) F0 H0) (bodyL.getD 6 P0) wd} := by
  have nd : NL.Nodup := sc_law.nd
  have Lm : ∀ {scope : Scope}, lamSB (defScope s_law) scope = true → LamS (defScope s_law) scope := fun h => lamS_by h
  have hu := hr.units
  have hu65 : (AL f cc A s).units + 65 < cLine := by omega
  exact ⟨_, fun F0 H0 hC => have em : Emb (gDraw i) (cnOf (gLaw T i) F0 H0).toGh := emb_law; (us_if (ut_not (ut_val (uc_p h.c__law_gain_right hr pass0 (ua_cons (ue_var (i := 3)) (ua_cons (uc_k h.c_no_gain h.d_no_gain kw_no_gain hr passL (uk_cons (ue_var (i := 3)) uk_nil)) (ua_cons (uc_p h.c__law_turning hr pass0 (ua_cons (ue_var (i := 3)) ua_nil)) ua_nil)))))) (us_one (us_ret ue_bl)) us_nil)⟩
end L53
set_option maxHeartbeats 2000000
namespace L53
open PySem PySem.Spec PyProof.Rows L2 HG PU LamX
@[irreducible] def st_b7 {P : Program} {w : World} {K : PySem.W.Frag} {mg : Str → Option Value} {base : Heap} {CE B BP cc Pt : Addr} {T : List (Addr × Str)} (h : LawX P w K mg base CE B BP cc Pt T) {f : Addr} {A : Around} {outer : List Env} {s : Shared} {H : Hp} {E : XK} (ng : NoG (AL f cc A s)) (hr : Room 10 (AL f cc A s)) (hu66 : (AL f cc A s).units + 66 < cLine) (i : Addr × Addr × Addr) :
    {wd : TDs // ∀ F0 H0, (cnOf (gLaw T i) F0 H0).Ok → US (XL P w K mg base f cc A outer s H E) (cnOf (gLaw T i) F0 H0) (bodyL.getD 7 P0) wd} := by
  have nd : NL.Nodup := sc_law.nd
  have Lm : ∀ {scope : Scope}, lamSB (defScope s_law) scope = true → LamS (defScope s_law) scope := fun h => lamS_by h
  have hu := hr.units
  have hu65 : (AL f cc A s).units + 65 < cLine := by omega
  exact ⟨_, fun F0 H0 hC => have em : Emb (gDraw i) (cnOf (gLaw T i) F0 H0).toGh := emb_law; (us_asg (ue_tup (ua_cons (uc_e i em hC h.c__law_changed hr pass0 (ua_cons (ue_var (i := 1)) (ua_cons (ue_var (i := 3)) ua_nil))) (ua_cons (uc_e i em hC h.c__law_price hr pass0 (ua_cons (ue_var (i := 1)) ua_nil)) ua_nil))) (ug_tup (k := 2) (ug_cons (ug_name (i := 9) nd) (ug_cons (ug_name (i := 8) nd) ug_nil))))⟩
end L53
set_option maxHeartbeats 2000000
namespace L53
open PySem PySem.Spec PyProof.Rows L2 HG PU LamX
@[irreducible] def st_b8 {P : Program} {w : World} {K : PySem.W.Frag} {mg : Str → Option Value} {base : Heap} {CE B BP cc Pt : Addr} {T : List (Addr × Str)} (h : LawX P w K mg base CE B BP cc Pt T) {f : Addr} {A : Around} {outer : List Env} {s : Shared} {H : Hp} {E : XK} (ng : NoG (AL f cc A s)) (hr : Room 10 (AL f cc A s)) (hu66 : (AL f cc A s).units + 66 < cLine) (i : Addr × Addr × Addr) :
    {wd : TDs // ∀ F0 H0, (cnOf (gLaw T i) F0 H0).Ok → US (XL P w K mg base f cc A outer s H E) (cnOf (gLaw T i) F0 H0) (bodyL.getD 8 P0) wd} := by
  have nd : NL.Nodup := sc_law.nd
  have Lm : ∀ {scope : Scope}, lamSB (defScope s_law) scope = true → LamS (defScope s_law) scope := fun h => lamS_by h
  have hu := hr.units
  have hu65 : (AL f cc A s).units + 65 < cLine := by omega
  exact ⟨_, fun F0 H0 hC => have em : Emb (gDraw i) (cnOf (gLaw T i) F0 H0).toGh := emb_law; (us_set (i := 10) (uc_p h.c__law_is_front hr pass0 (ua_cons (ue_var (i := 9)) ua_nil)) nd)⟩
end L53
set_option maxHeartbeats 2000000
namespace L53
open PySem PySem.Spec PyProof.Rows L2 HG PU LamX
@[irreducible] def st_b9 {P : Program} {w : World} {K : PySem.W.Frag} {mg : Str → Option Value} {base : Heap} {CE B BP cc Pt : Addr} {T : List (Addr × Str)} (h : LawX P w K mg base CE B BP cc Pt T) {f : Addr} {A : Around} {outer : List Env} {s : Shared} {H : Hp} {E : XK} (ng : NoG (AL f cc A s)) (hr : Room 10 (AL f cc A s)) (hu66 : (AL f cc A s).units + 66 < cLine) (i : Addr × Addr × Addr) :
    {wd : TDs // ∀ F0 H0, (cnOf (gLaw T i) F0 H0).Ok → US (XL P w K mg base f cc A outer s H E) (cnOf (gLaw T i) F0 H0) (bodyL.getD 9 P0) wd} := by
  have nd : NL.Nodup := sc_law.nd
  have Lm : ∀ {scope : Scope}, lamSB (defScope s_law) scope = true → LamS (defScope s_law) scope := fun h => lamS_by h
  have hu := hr.units
  have hu65 : (AL f cc A s).units + 65 < cLine := by omega
  exact ⟨_, fun F0 H0 hC => have em : Emb (gDraw i) (cnOf (gLaw T i) F0 H0).toGh := emb_law; (us_if (ut_not (ut_val (uc_p h.c__law_says hr pass0 (ua_cons (uc_p h.c_is_mean_front hr pass0 (ua_cons (ue_var (i := 9)) ua_nil)) (ua_cons (ue_var (i := 10)) ua_nil))))) (us_one (us_ret ue_bl)) us_nil)⟩
end L53
set_option maxHeartbeats 2000000
namespace L53
open PySem PySem.Spec PyProof.Rows L2 HG PU LamX
@[irreducible] def st_b10 {P : Program} {w : World} {K : PySem.W.Frag} {mg : Str → Option Value} {base : Heap} {CE B BP cc Pt : Addr} {T : List (Addr × Str)} (h : LawX P w K mg base CE B BP cc Pt T) {f : Addr} {A : Around} {outer : List Env} {s : Shared} {H : Hp} {E : XK} (ng : NoG (AL f cc A s)) (hr : Room 10 (AL f cc A s)) (hu66 : (AL f cc A s).units + 66 < cLine) (i : Addr × Addr × Addr) :
    {wd : TDs // ∀ F0 H0, (cnOf (gLaw T i) F0 H0).Ok → US (XL P w K mg base f cc A outer s H E) (cnOf (gLaw T i) F0 H0) (bodyL.getD 10 P0) wd} := by
  have nd : NL.Nodup := sc_law.nd
  have Lm : ∀ {scope : Scope}, lamSB (defScope s_law) scope = true → LamS (defScope s_law) scope := fun h => lamS_by h
  have hu := hr.units
  have hu65 : (AL f cc A s).units + 65 < cLine := by omega
  exact ⟨_, fun F0 H0 hC => have em : Emb (gDraw i) (cnOf (gLaw T i) F0 H0).toGh := emb_law; (us_if (ut_val (ue_var (i := 10))) (us_cons (us_if (ut_cmp (opd_neA hu) (uc_p h.c_mean_worth hr passL (ua_cons (ue_var (i := 9)) (ua_cons (ue_var (i := 8)) ua_nil))) (ue_ifExp (ut_cmp (opd_inT hu65) (ue_var (i := 9)) (ue_tup (ua_cons ue_non (ua_cons ue_str ua_nil)))) (ue_var (i := 9)) (uc_p h.c__law_mean hr pass0 (ua_cons (ue_var (i := 9)) (ua_cons (ue_var (i := 8)) ua_nil))))) (us_one (us_ret ue_bl)) us_nil)
      (us_one us_continue)) us_nil)⟩
end L53
set_option maxHeartbeats 2000000
namespace L53
open PySem PySem.Spec PyProof.Rows L2 HG PU LamX
@[irreducible] def st_b11 {P : Program} {w : World} {K : PySem.W.Frag} {mg : Str → Option Value} {base : Heap} {CE B BP cc Pt : Addr} {T : List (Addr × Str)} (h : LawX P w K mg base CE B BP cc Pt T) {f : Addr} {A : Around} {outer : List Env} {s : Shared} {H : Hp} {E : XK} (ng : NoG (AL f cc A s)) (hr : Room 10 (AL f cc A s)) (hu66 : (AL f cc A s).units + 66 < cLine) (i : Addr × Addr × Addr) :
    {wd : TDs // ∀ F0 H0, (cnOf (gLaw T i) F0 H0).Ok → US (XL P w K mg base f cc A outer s H E) (cnOf (gLaw T i) F0 H0) (bodyL.getD 11 P0) wd} := by
  have nd : NL.Nodup := sc_law.nd
  have Lm : ∀ {scope : Scope}, lamSB (defScope s_law) scope = true → LamS (defScope s_law) scope := fun h => lamS_by h
  have hu := hr.units
  have hu65 : (AL f cc A s).units + 65 < cLine := by omega
  exact ⟨_, fun F0 H0 hC => have em : Emb (gDraw i) (cnOf (gLaw T i) F0 H0).toGh := emb_law; (us_for (ui_range1 (ua_cons ue_int ua_nil) h.z_range) (ug_name (i := 11) nd)
      (us_cons (us_set (i := 12) (ue_caught (k := 8) hC gLaw_lam h.G h.TB rfl h.hm h.hu_ hr (fun _ => (mo_If (mo_B (mo_Op mo_eqA mo_Var mo_C)) (mo_cpx (h.c_mean_worth.mo ()) (mo_Cons mo_Var (mo_Cons mo_22 mo_Nil))) (mo_If (mo_B (mo_Op mo_eqA mo_Var mo_C)) (mo_cpx (h.c_mean_prices.mo ()) (mo_Cons mo_Var mo_Nil)) (mo_cpx (h.c_no_gain.mo ()) (mo_Cons mo_Var mo_Nil))))) (fun _ _ _ _ _ j w => (mx_If (mo_B (mo_Op mo_eqA mo_Var mo_C)) (fun _ w => (mx_cpx (h.c_mean_worth.mo ()) (mo_Cons mo_Var (mo_Cons mo_22 mo_Nil)) j w)) (fun _ w => mx_If (mo_B (mo_Op mo_eqA mo_Var mo_C)) (fun _ w => (mx_cpx (h.c_mean_prices.mo ()) (mo_Cons mo_Var mo_Nil) j w)) (fun _ w => (mx_cpx (h.c_no_gain.mo ()) (mo_Cons mo_Var mo_Nil) j w)) w) w)) (fun A outer s H Ev f c2 F0 H0 Ed hr2 ok2 xo => have hu := hr2.units; (ue_ifExp (ut_cmp (opd_eqA hu) (ue_var (i := 11)) ue_int) (uc_pX xo h.c_mean_worth hr2 passL2 (ua_cons (ue_var (i := 9)) (ua_cons (ue_tup (ua_cons ue_int (ua_cons ue_int ua_nil))) ua_nil))) (ue_ifExp (ut_cmp (opd_eqA hu) (ue_var (i := 11)) ue_int) (uc_pX xo h.c_mean_prices hr2 passL2 (ua_cons (ue_var (i := 9)) ua_nil)) (uc_pX xo h.c_no_gain hr2 passL2 (ua_cons (ue_var (i := 9)) ua_nil))))) rfl (Lm (by decide +kernel))) nd)
      (us_one (us_if (ut_not (ut_val (ue_isx (ue_var (i := 12)) h.z_isinstance h.m_BadMeans))) (us_one (us_ret ue_bl)) us_nil))))⟩
end L53
set_option maxHeartbeats 2000000
namespace L53
open PySem PySem.Spec PyProof.Rows L2 HG PU LamX
@[irreducible] def st_b12 {P : Program} {w : World} {K : PySem.W.Frag} {mg : Str → Option Value} {base : Heap} {CE B BP cc Pt : Addr} {T : List (Addr × Str)} (h : LawX P w K mg base CE B BP cc Pt T) {f : Addr} {A : Around} {outer : List Env} {s : Shared} {H : Hp} {E : XK} (ng : NoG (AL f cc A s)) (hr : Room 10 (AL f cc A s)) (hu66 : (AL f cc A s).units + 66 < cLine) (i : Addr × Addr × Addr) :
    {wd : TDs // ∀ F0 H0, (cnOf (gLaw T i) F0 H0).Ok → US (XL P w K mg base f cc A outer s H E) (cnOf (gLaw T i) F0 H0) (bodyL.getD 12 P0) wd} := by
  have nd : NL.Nodup := sc_law.nd
  have Lm : ∀ {scope : Scope}, lamSB (defScope s_law) scope = true → LamS (defScope s_law) scope := fun h => lamS_by h
  have hu := hr.units
  have hu65 : (AL f cc A s).units + 65 < cLine := by omega
  exact ⟨_, fun F0 H0 hC => have em : Emb (gDraw i) (cnOf (gLaw T i) F0 H0).toGh := emb_law; (us_if (ut_not (ut_val (ue_isx (ue_caught (k := 8) hC gLaw_lam h.G h.TB rfl h.hm h.hu_ hr (fun _ => (mo_cpx (h.c_mean_worth.mo ()) (mo_Cons mo_Var (mo_Cons mo_22 mo_Nil)))) (fun _ _ _ _ _ j w => (mx_cpx (h.c_mean_worth.mo ()) (mo_Cons mo_Var (mo_Cons mo_22 mo_Nil)) j w)) (fun A outer s H Ev f c2 F0 H0 Ed hr2 ok2 xo => have hu := hr2.units; (uc_pX xo h.c_mean_worth hr2 passL2 (ua_cons (ue_var (i := 3)) (ua_cons (ue_tup (ua_cons ue_int (ua_cons ue_int ua_nil))) ua_nil)))) rfl (Lm (by decide +kernel))) h.z_isinstance h.m_BadPrice))) (us_one (us_ret ue_bl)) us_nil)⟩
end L53
set_option maxHeartbeats 2000000
namespace L53
open PySem PySem.Spec PyProof.Rows L2 HG PU LamX
theorem p22 : ¬ isPrice (.tup [.int 2, .int 2]) = true := by decide +kernel
theorem due_len : ∀ l : List P2, (dueP l).length ≤ l.length
  | [] => Nat.le_refl _
  | [_] => Nat.zero_le _
  | x :: y :: r => by
    show (dueP (y :: r)).length + 1 ≤ (y :: r).length + 1
    exact Nat.succ_le_succ (due_len (y :: r))
theorem var_fro {i : Nat} {ρ : List S} {n : Nat} {d : PU.D} {Q : PU.D → Nat → Prop} (e : gt ρ i = .d d) (q : Q d n) : uVar i (fro ρ) n Q := by
  rcases gt_fro ρ i with ⟨x, e1, e2⟩ | e2
  · rw [e] at e1
    cases e1
    exact var_d e2 q
  · exfalso
    have : ∀ (ρ : List S) (i : Nat) (d : PU.D), gt ρ i = .d d → gt (fro ρ) i = .d d := by
      intro ρ
      induction ρ with
      | nil => intro i d e; cases e
      | cons s r ih =>
        intro i d e
        cases i with
        | zero =>
          have e : s = .d d := e
          subst e
          rfl
        | succ i => cases s <;> exact ih i d e
    rw [this ρ i d e] at e2
    cases e2
section
variable {P : Program} {w : World} {K : PySem.W.Frag} {mg : Str → Option Value} {base : Heap} {CE B BP cc Pt : Addr} {T : List (Addr × Str)} (h : LawX P w K mg base CE B BP cc Pt T) {f : Addr} {A : Around} {outer : List Env} {s : Shared} {H : Hp} {E : XK} (ng : NoG (AL f cc A s)) (hr : Room 10 (AL f cc A s)) (hu66 : (AL f cc A s).units + 66 < cLine) (i : Addr × Addr × Addr)
include h ng hr hu66
theorem rd_b0 {Ed : EndD} {n : Nat} {x0 x2 x3 x4 x5 x6 x7 x8 x9 x10 x11 x12 : S} (hn : n < 999960000)
    (q : ∀ (ts : List P3) (m : Nat), m ≤ n + 100 → FrontOk ts → Ed.nx [x0, .d (.ref i.1), x2, .d (.tup (ts.map trD)), x4, x5, x6, x7, x8, x9, x10, x11, x12] m) : (st_b0 h (outer := outer) (H := H) (E := E) ng hr hu66 i).1 Ed [x0, .d (.ref i.1), x2, x3, x4, x5, x6, x7, x8, x9, x10, x11, x12] n := by
  unfold st_b0
  dsimp only
  refine ⟨(), rfl, by show n < 999970000; omega, fun d m hd => ?_⟩
  obtain ⟨mb, ts, rfl, ne, few, tc, sm⟩ := hd
  refine ⟨ts, rfl, ⟨ne, few, tc, sm⟩, fun d m2 hd => ?_⟩
  obtain ⟨rfl, Rs, rfl, fo⟩ := hd
  exact q Rs _ mb fo
theorem rd_b1 {Ed : EndD} {n : Nat} {x0 x2 x4 x5 x6 x7 x8 x9 x10 x11 x12 : S} {ts : List P3} (fo : FrontOk ts)
    (q : Ed.nx [x0, .d (.ref i.1), x2, .d (.tup (ts.map trD)), x4, x5, x6, x7, x8, x9, x10, x11, x12] n) : (st_b1 h (outer := outer) (H := H) (E := E) ng hr hu66 i).1 Ed [x0, .d (.ref i.1), x2, .d (.tup (ts.map trD)), x4, x5, x6, x7, x8, x9, x10, x11, x12] n := by
  unfold st_b1
  dsimp only
  refine ⟨.tup (ts.map trD), rfl, front_okM fo, ?_⟩
  refine ite_b (b := !decide (isMF (.tup (ts.map trD)) = true)) (fun e => ?_) fun _ => q
  rw [front_mf fo] at e
  cases e
theorem rd_b2 {Ed : EndD} {n : Nat} {x0 x2 x4 x5 x6 x7 x8 x9 x10 x11 x12 : S} {ts : List P3} (fo : FrontOk ts)
    (q : Ed.nx [x0, .d (.ref i.1), x2, .d (.tup (ts.map trD)), .d (.lst ((evens ts).map PU.prD)), x5, x6, x7, x8, x9, x10, x11, x12] n) : (st_b2 h (outer := outer) (H := H) (E := E) ng hr hu66 i).1 Ed [x0, .d (.ref i.1), x2, .d (.tup (ts.map trD)), x4, x5, x6, x7, x8, x9, x10, x11, x12] n := by
  unfold st_b2
  dsimp only
  exact ⟨(.tup (ts.map trD), ts), rfl, ⟨.inr rfl, by show ts.length < 1000; have := fo.few; omega, fo.tc⟩, q⟩
theorem rd_b6 {Ed : EndD} {n : Nat} {x0 x2 x4 x5 x6 x7 x8 x9 x10 x11 x12 : S} {ts : List P3} (fo : FrontOk ts)
    (q : Ed.nx [x0, .d (.ref i.1), x2, .d (.tup (ts.map trD)), x4, x5, x6, x7, x8, x9, x10, x11, x12] n) : (st_b6 h (outer := outer) (H := H) (E := E) ng hr hu66 i).1 Ed [x0, .d (.ref i.1), x2, .d (.tup (ts.map trD)), x4, x5, x6, x7, x8, x9, x10, x11, x12] n := by
  unfold st_b6
  dsimp only
  refine ⟨.tup (ts.map trD), rfl, front_okM fo, ?_⟩
  dsimp only
  rw [if_pos (front_mf fo), front_prs]
  refine ⟨ts, rfl, ⟨by show ts.length < 1000; have := fo.few; omega, fo.tc⟩, fun d m hd => ?_⟩
  obtain ⟨rfl, rs, rfl, tn⟩ := hd
  exact ⟨(ts, rs), rfl, ⟨fo, tn⟩, q⟩
theorem rd_b7 {Ed : EndD} {n : Nat} {x0 x2 x4 x5 x6 x7 x8 x9 x10 x11 x12 : S} {ts : List P3} (fo : FrontOk ts) (hn : n < 999950000)
    (q : ∀ (d : PU.D) (p : P2) (m : Nat), m ≤ n + 110 → OkI d → GoodP p → Ed.nx [x0, .d (.ref i.1), x2, .d (.tup (ts.map trD)), x4, x5, x6, x7, .d (PU.prD p), .d d, x10, x11, x12] m) : (st_b7 h (outer := outer) (H := H) (E := E) ng hr hu66 i).1 Ed [x0, .d (.ref i.1), x2, .d (.tup (ts.map trD)), x4, x5, x6, x7, x8, x9, x10, x11, x12] n := by
  unfold st_b7
  dsimp only
  refine ⟨ts, rfl, ⟨by omega, fo⟩, fun d m hd => ?_⟩
  obtain ⟨mb, ok⟩ := hd
  refine ⟨(), rfl, by show m < 999990000; omega, fun d2 m2 hd => ?_⟩
  obtain ⟨mb2, p, rfl, gp⟩ := hd
  exact ⟨by show 2 ≤ sizeLine; have := sizeLine_eq; omega, rfl, q d p m2 (by omega) ok gp⟩
theorem rd_b4 {Ed : EndD} {n : Nat} {x0 x2 x4 x6 x7 x8 x9 x10 x11 x12 : S} {ts : List P3} (fo : FrontOk ts)
    (q : Ed.nx [x0, .d (.ref i.1), x2, .d (.tup (ts.map trD)), x4, .d (.lst ((dueP (evens ts)).map PU.prD)), x6, x7, x8, x9, x10, x11, x12] n) : (st_b4 h (outer := outer) (H := H) (E := E) ng hr hu66 i).1 Ed [x0, .d (.ref i.1), x2, .d (.tup (ts.map trD)), x4, .d (.lst ((dueP (evens ts)).map PU.prD)), x6, x7, x8, x9, x10, x11, x12] n := by
  unfold st_b4
  dsimp only
  have sz : sizeLine = 16777216 := sizeLine_eq
  refine ⟨.tup (ts.map trD), rfl, front_okM fo, ?_⟩
  dsimp only
  rw [if_pos (front_mf fo)]
  have two : 2 ≤ sizeLine := by omega
  have one : 1 ≤ sizeLine := by omega
  have dl := due_len (evens ts)
  have el : (evens ts).length = ts.length := by unfold evens; rw [List.length_map]
  have few := fo.few
  refine ⟨two, one, by rw [List.length_map]; show 1 + _ ≤ _; omega, two, one, by rw [List.length_append, List.length_map]; show 1 + _ + 1 ≤ _; omega, ?_⟩
  have e1 : turnsD (.tup (ts.map trD)) = .lst (((1, 0) :: meets ts ++ [(0, 1)]).map PU.prD) := by
    show PU.D.lst (((1, 0) :: meets ((ts.map trD).map trOf) ++ [(0, 1)]).map PU.prD) = _
    rw [trOf_trD]
  have e2 : PU.D.lst ([PU.D.tup [.int 1, .int 0]] ++ (dueP (evens ts)).map PU.prD ++ [PU.D.tup [.int 0, .int 1]]) = .lst (((1, 0) :: meets ts ++ [(0, 1)]).map PU.prD) := by
    rw [due_front fo, List.map_append]
    rfl
  rw [e1, e2]
  refine eqA_pairs (f := not) ?_
  rw [decide_eq_true rfl]
  exact q
theorem rd_b12 {Ed : EndD} {n : Nat} {x0 x2 x4 x5 x6 x7 x8 x9 x10 x11 x12 : S} {ts : List P3} (fo : FrontOk ts)
    (q : Ed.nx [x0, .d (.ref i.1), x2, .d (.tup (ts.map trD)), x4, x5, x6, x7, x8, x9, x10, x11, x12] n) : (st_b12 h (outer := outer) (H := H) (E := E) ng hr hu66 i).1 Ed [x0, .d (.ref i.1), x2, .d (.tup (ts.map trD)), x4, x5, x6, x7, x8, x9, x10, x11, x12] n := by
  unfold st_b12
  dsimp only
  have sz : sizeLine = 16777216 := sizeLine_eq
  refine var_fro (i := 3) (d := .tup (ts.map trD)) rfl ?_
  refine ⟨by show 2 ≤ sizeLine; omega, (.tup (ts.map trD), .tup [.int 2, .int 2]), rfl, ⟨front_okM fo, rfl, fun z => absurd z p22⟩, ?_⟩
  dsimp only [worthRes]
  rw [if_pos (front_mf fo), if_neg (show ¬ isPrice (.tup [.int 2, .int 2]) = true by decide +kernel)]
  refine ⟨h.hP, true, h.iP, h.oP, ?_⟩
  exact q
theorem rd_b8 {Ed : EndD} {n : Nat} {x0 x2 x3 x4 x5 x6 x7 x8 x10 x11 x12 : S} {d : PU.D} (ok : OkI d)
    (q : Ed.nx [x0, .d (.ref i.1), x2, x3, x4, x5, x6, x7, x8, .d d, .d (.bl (isMF d)), x11, x12] n) : (st_b8 h (outer := outer) (H := H) (E := E) ng hr hu66 i).1 Ed [x0, .d (.ref i.1), x2, x3, x4, x5, x6, x7, x8, .d d, x10, x11, x12] n := by
  unfold st_b8
  dsimp only
  exact ⟨d, rfl, ok, q⟩
theorem rd_b9 {Ed : EndD} {n : Nat} {x0 x2 x3 x4 x5 x6 x7 x8 x11 x12 : S} {d : PU.D} (ok : OkI d)
    (q : Ed.nx [x0, .d (.ref i.1), x2, x3, x4, x5, x6, x7, x8, .d d, .d (.bl (isMF d)), x11, x12] n) : (st_b9 h (outer := outer) (H := H) (E := E) ng hr hu66 i).1 Ed [x0, .d (.ref i.1), x2, x3, x4, x5, x6, x7, x8, .d d, .d (.bl (isMF d)), x11, x12] n := by
  unfold st_b9
  dsimp only
  refine ⟨d, rfl, ok.okM, ?_⟩
  refine ⟨(isMF d, isMF d), rfl, trivial, ?_⟩
  refine ite_b (b := !(isMF d == isMF d)) (fun e => ?_) fun _ => q
  simp at e
theorem rd_b11 {Ed : EndD} {n : Nat} {x0 x2 x3 x4 x5 x6 x7 x8 x10 x11 x12 : S} {d : PU.D} (ok : OkI d) (no : isMF d = false)
    (q : ∀ (y11 y12 : S), Ed.nx [x0, .d (.ref i.1), x2, x3, x4, x5, x6, x7, x8, .d d, x10, y11, y12] n) : (st_b11 h (outer := outer) (H := H) (E := E) ng hr hu66 i).1 Ed [x0, .d (.ref i.1), x2, x3, x4, x5, x6, x7, x8, .d d, x10, x11, x12] n := by
  unfold st_b11
  dsimp only
  have sz : sizeLine = 16777216 := sizeLine_eq
  have nf : ¬ isMF d = true := by rw [no]; exact Bool.false_ne_true
  refine ⟨⟨by decide, by decide⟩, fun j ρ k => k = n ∧ ∃ y11 y12 : S, ρ = [x0, .d (.ref i.1), x2, x3, x4, x5, x6, x7, x8, .d d, x10, y11, y12], ⟨rfl, _, _, rfl⟩, fun j x ρ k hx hp => ?_, fun ρ k hp => ?_⟩
  · obtain ⟨rfl, y11, y12, rfl⟩ := hp
    obtain ⟨hj, rfl⟩ := rg_get hx
    dsimp only [uGn, PU.st, uSeq, uSet, uCaught, uIf, uB, uOp]
    refine var_fro (i := 11) (d := .int (0 + (j : Int))) rfl ?_
    refine ite_b (b := decide (0 + (j : Int) = 0)) (fun _ => ?_) fun _ => ?_
    · refine var_fro (i := 9) (d := d) rfl ?_
      refine ⟨by show 2 ≤ sizeLine; omega, (d, .tup [.int 2, .int 2]), rfl, ⟨ok.okM, rfl, fun z => absurd z p22⟩, ?_⟩
      dsimp only [worthRes]
      rw [if_neg nf]
      refine ⟨h.hB, true, h.iB, h.oB, ?_⟩
      exact ⟨rfl, _, _, rfl⟩
    refine var_fro (i := 11) (d := .int (0 + (j : Int))) rfl ?_
    refine ite_b (b := decide (0 + (j : Int) = 1)) (fun _ => ?_) fun _ => ?_
    · refine var_fro (i := 9) (d := d) rfl ?_
      refine ⟨d, rfl, ok.okM, ?_⟩
      dsimp only
      rw [if_neg nf]
      refine ⟨h.hB, true, h.iB, h.oB, ?_⟩
      exact ⟨rfl, _, _, rfl⟩
    · refine var_fro (i := 9) (d := d) rfl ?_
      refine ⟨d, rfl, ok.okM, ?_⟩
      dsimp only
      rw [if_neg nf]
      refine ⟨h.hB, true, h.iB, h.oB, ?_⟩
      exact ⟨rfl, _, _, rfl⟩
  · obtain ⟨rfl, y11, y12, rfl⟩ := hp
    exact q _ _
end
end L53
set_option maxHeartbeats 2000000
namespace L53
open PySem PySem.Spec PyProof.Rows L2 HG PU LamX
theorem okM_non : OkM .non := ⟨rfl, fun xs e => nomatch e⟩
theorem okM_short : OkM (.str short) := ⟨by decide +kernel, fun xs e => nomatch e⟩
theorem mf_short : isMF (.str short) = true := by decide +kernel
theorem ne_pp {Q : PU.D → Prop} (q : Q (.bl false)) : PU.rEqA not (.tup [.tup [.int 1, .int 0], .tup [.int 0, .int 1]]) (.tup [.tup [.int 1, .int 0], .tup [.int 0, .int 1]]) Q := by
  have e : (PU.D.tup [.tup [.int 1, .int 0], .tup [.int 0, .int 1]]).py = some (.tuple [.tuple [.int 1, .int 0], .tuple [.int 0, .int 1]]) := by simp only [D.py, pyA, Option.map]
  show PU.rEqD not (.tup [.tup [.int 1, .int 0], .tup [.int 0, .int 1]]) (.tup [.tup [.int 1, .int 0], .tup [.int 0, .int 1]]) Q
  unfold PU.rEqD
  rw [e]
  refine ⟨by decide +kernel, by decide +kernel, ?_⟩
  rw [show PyData.eqv (.tuple [.tuple [.int 1, .int 0], .tuple [.int 0, .int 1]]) (.tuple [.tuple [.int 1, .int 0], .tuple [.int 0, .int 1]]) = true by decide +kernel]
  exact q
section
variable {P : Program} {w : World} {K : PySem.W.Frag} {mg : Str → Option Value} {base : Heap} {CE B BP cc Pt : Addr} {T : List (Addr × Str)} (h : LawX P w K mg base CE B BP cc Pt T) {f : Addr} {A : Around} {outer : List Env} {s : Shared} {H : Hp} {E : XK} (ng : NoG (AL f cc A s)) (hr : Room 10 (AL f cc A s)) (hu66 : (AL f cc A s).units + 66 < cLine) (i : Addr × Addr × Addr)
include h ng hr hu66
theorem rd_s1 {Ed : EndD} {n : Nat} {x0 x2 x3 x4 x5 x6 x7 x8 x9 x10 x11 x12 : S} 
    (q : Ed.nx [x0, .d (.ref i.1), x2, x3, x4, x5, x6, x7, x8, x9, x10, x11, x12] n) : (st_s1 h (outer := outer) (H := H) (E := E) ng hr hu66 i).1 Ed [x0, .d (.ref i.1), x2, x3, x4, x5, x6, x7, x8, x9, x10, x11, x12] n := by
  unfold st_s1
  dsimp only
  have sz : sizeLine = 16777216 := sizeLine_eq
  have two : 2 ≤ sizeLine := by omega
  refine ⟨.non, rfl, okM_non, ?_⟩
  dsimp only
  rw [if_pos (show isMF .non = true from rfl)]
  refine ⟨by show 0 ≤ sizeLine; omega, ?_⟩
  refine eq_nil_trs (f := not) (ts := []) ?_
  simp only [List.isEmpty_nil, Bool.not_true, bOf]
  rw [if_neg Bool.false_ne_true]
  refine ⟨.str short, rfl, okM_short, ?_⟩
  dsimp only
  rw [if_pos mf_short]
  refine ⟨by show 0 ≤ sizeLine; omega, ?_⟩
  refine eq_nil_trs (f := not) (ts := []) ?_
  simp only [List.isEmpty_nil, Bool.not_true, bOf]
  rw [if_neg Bool.false_ne_true]
  refine ⟨.non, rfl, okM_non, ?_⟩
  dsimp only
  rw [if_pos (show isMF .non = true from rfl)]
  refine ⟨two, two, two, ?_⟩
  refine ne_pp ?_
  simp only [bOf]
  rw [if_neg Bool.false_ne_true]
  refine ⟨.str short, rfl, okM_short, ?_⟩
  dsimp only
  rw [if_pos mf_short]
  refine ⟨two, two, two, ?_⟩
  refine ne_pp ?_
  exact q
theorem rd_b5 {Ed : EndD} {n : Nat} {x0 x2 x4 x6 x7 x8 x9 x10 x11 x12 : S} {ts : List P3} (fo : FrontOk ts) (hn : n < 999980000)
    (q : ∀ (y8 : S) (m : Nat), m ≤ n + 10 → Ed.nx [x0, .d (.ref i.1), x2, .d (.tup (ts.map trD)), x4, .d (.lst ((dueP (evens ts)).map PU.prD)), x6, x7, y8, x9, x10, x11, x12] m) : (st_b5 h (outer := outer) (H := H) (E := E) ng hr hu66 i).1 Ed [x0, .d (.ref i.1), x2, .d (.tup (ts.map trD)), x4, .d (.lst ((dueP (evens ts)).map PU.prD)), x6, x7, x8, x9, x10, x11, x12] n := by
  unfold st_b5
  dsimp only
  have sz : sizeLine = 16777216 := sizeLine_eq
  have two : 2 ≤ sizeLine := by omega
  have dl := due_len (evens ts)
  have el : (evens ts).length = ts.length := by unfold evens; rw [List.length_map]
  have few := fo.few
  refine ⟨(), rfl, by show n < 999990000; omega, fun d1 m1 hd => ?_⟩
  obtain ⟨b1, p1, rfl, g1⟩ := hd
  refine ⟨(), rfl, by show m1 < 999990000; omega, fun d2 m2 hd => ?_⟩
  obtain ⟨b2, p2, rfl, g2⟩ := hd
  refine ⟨two, by rw [List.length_map]; show 2 + _ ≤ _; omega, ?_⟩
  have all : ∀ p ∈ p1 :: p2 :: dueP (evens ts), Prc p := fun p m => by
    rcases List.mem_cons.mp m with rfl | m
    · exact g1.prc
    · rcases List.mem_cons.mp m with rfl | m
      · exact g2.prc
      · rw [due_front fo] at m
        exact meets_prc (fun t m => (fo.tc t m).tb) fo.ord p m
  refine ⟨fun j ρ k => k = m2 ∧ ∃ y8 : S, ρ = [x0, .d (.ref i.1), x2, .d (.tup (ts.map trD)), x4, .d (.lst ((dueP (evens ts)).map PU.prD)), x6, x7, y8, x9, x10, x11, x12], ⟨rfl, _, rfl⟩, fun j x ρ k hx hp => ?_, fun ρ k hp => ?_⟩
  · obtain ⟨rfl, y8, rfl⟩ := hp
    have hx : ((p1 :: p2 :: dueP (evens ts)).map PU.prD)[j]? = some x := hx
    obtain ⟨p, hp2, rfl⟩ := getmapP hx
    have pc := all p (List.mem_of_getElem? hp2)
    have p64 : InP 64 p := ⟨pc.b.1.up (by decide), pc.b.2.up (by decide)⟩
    refine ⟨(.tup (ts.map trD), PU.prD p), rfl, ⟨front_okM fo, rfl, fun _ => p64⟩, ?_⟩
    dsimp only [worthRes]
    rw [if_pos (front_mf fo), if_pos pc.is]
    refine ⟨(ts, p), rfl, ⟨fo.ne, p64, fo.tc⟩, ?_⟩
    have e1 : toldD (prOf (PU.prD p)) (.tup (ts.map trD)) = PU.prD (bestOf p ts) := by
      show PU.prD (bestOf p ((ts.map trD).map trOf)) = _
      rw [trOf_trD]
    rw [e1]
    refine eqA_pair (f := not) ?_
    rw [decide_eq_true rfl]
    exact ⟨rfl, _, rfl⟩
  · obtain ⟨rfl, y8, rfl⟩ := hp
    exact q _ _ (by omega)
theorem rd_b10B {Ed : EndD} {n : Nat} {x0 x2 x3 x4 x5 x6 x7 x8 x11 x12 : S} {d : PU.D} (ok : OkI d) (no : isMF d = false)
    (q : Ed.nx [x0, .d (.ref i.1), x2, x3, x4, x5, x6, x7, x8, .d d, .d (.bl (isMF d)), x11, x12] n) : (st_b10 h (outer := outer) (H := H) (E := E) ng hr hu66 i).1 Ed [x0, .d (.ref i.1), x2, x3, x4, x5, x6, x7, x8, .d d, .d (.bl (isMF d)), x11, x12] n := by
  unfold st_b10
  dsimp only
  refine ite_b (b := isMF d) (fun e => by rw [no] at e; cases e) fun _ => q
theorem rd_b10A {Ed : EndD} {n : Nat} {x0 x2 x3 x4 x5 x6 x7 x11 x12 : S} {d : PU.D} {p : P2} (ok : OkI d) (gp : GoodP p) (ye : isMF d = true)
    (q : Ed.ct [x0, .d (.ref i.1), x2, x3, x4, x5, x6, x7, .d (PU.prD p), .d d, .d (.bl (isMF d)), x11, x12] n) : (st_b10 h (outer := outer) (H := H) (E := E) ng hr hu66 i).1 Ed [x0, .d (.ref i.1), x2, x3, x4, x5, x6, x7, .d (PU.prD p), .d d, .d (.bl (isMF d)), x11, x12] n := by
  unfold st_b10
  dsimp only
  have sz : sizeLine = 16777216 := sizeLine_eq
  have two : 2 ≤ sizeLine := by omega
  refine ite_b (b := isMF d) (fun _ => ?_) fun e => by rw [ye] at e; cases e
  refine ⟨(d, PU.prD p), rfl, ⟨ok.okM, rfl, fun _ => gp.in64⟩, ?_⟩
  dsimp only [worthRes]
  rw [if_pos ye, if_pos gp.is]
  have e0 : prOf (PU.prD p) = p := rfl
  rw [e0]
  obtain ⟨pd, e1, sh⟩ := ok.pd
  have e2 : pyA [PU.D.non, PU.D.str short] = some [.none, .str short] := by simp only [pyA, D.py]
  refine ⟨two, _, pd, [.none, .str short], rfl, e1, e2, sh, by decide +kernel, ?_⟩
  cases d with
  | non =>
    have : pd = .none := by
      simp only [D.py] at e1
      exact (Option.some.inj e1).symm
    subst this
    exact q
  | str z =>
    have : z = short := of_decide_eq_true ye
    subst this
    have : pd = .str short := by
      simp only [D.py] at e1
      exact (Option.some.inj e1).symm
    subst this
    have e4 : ([PyData.none, .str short].any fun z => PyData.eqv z (.str short)) = true := by decide +kernel
    rw [e4]
    exact q
  | tup xs =>
    obtain ⟨ps, rfl⟩ : ∃ ps, pd = .tuple ps := by
      simp only [D.py] at e1
      cases e3 : pyA xs with
      | none => rw [e3] at e1; cases e1
      | some ps => rw [e3] at e1; cases e1; exact ⟨ps, rfl⟩
    have e4 : ([PyData.none, .str short].any fun z => PyData.eqv z (.tuple ps)) = false := by simp [PyData.eqv]
    rw [e4]
    obtain ⟨ts, rfl, co⟩ := corn_of ye ok.okM
    have tc : ∀ t ∈ ts, Tc t := fun t m => ok.tc _ rfl (trD t) (List.mem_map.mpr ⟨t, m, rfl⟩) (by
      have : (!(ts.map trD).isEmpty && (ts.map trD).all isMean && ordF none ((ts.map trD).map trOf)) = true := ye
      rw [Bool.and_eq_true, Bool.and_eq_true] at this
      exact List.all_eq_true.mp this.1.2 _ (List.mem_map.mpr ⟨t, m, rfl⟩))
    refine ⟨(ts, p), rfl, ⟨co.ne, gp.in64, tc⟩, ?_⟩
    have e5 : toldD p (.tup (ts.map trD)) = PU.prD (bestOf p ts) := by
      show PU.prD (bestOf p ((ts.map trD).map trOf)) = _
      rw [trOf_trD]
    rw [e5]
    refine eqA_pair (f := not) ?_
    rw [decide_eq_true rfl]
    exact q
  | _ => cases ye
end
end L53
set_option maxHeartbeats 2000000
namespace L53
open PySem PySem.Spec PyProof.Rows L2 HG PU LamX
theorem due_get : ∀ {l : List P2} {e : Nat} {x y : P2}, l[e]? = some x → l[e + 1]? = some y → (dueP l)[e]? = some (redI (((y.2 - x.2).natAbs : Nat) : Int) (((x.1 - y.1).natAbs : Nat) : Int))
  | [], _, _, _, h, _ => by cases h
  | [a], 0, _, _, _, h => by cases h
  | [a], e + 1, _, _, h, _ => by cases h
  | a :: b :: r, 0, x, y, h, g => by
    cases h
    cases g
    rfl
  | a :: b :: r, e + 1, x, y, h, g => due_get (l := b :: r) (e := e) h g
theorem due_end : ∀ l : List P2, (dueP l).length = l.length - 1
  | [] => rfl
  | [_] => rfl
  | x :: y :: r => by
    show (dueP (y :: r)).length + 1 = _
    rw [due_end (y :: r)]
    rfl
theorem in_nat {k : Nat} {i : Int} (h : In k i) : In k ((i.natAbs : Nat) : Int) := by
  unfold In at h ⊢
  rw [Int.natAbs_natCast]
  exact h
theorem cut_one {l : List P2} (h : 1 ≤ l.length) : PU.cutD (l.map PU.prD) (some 1) none = (l.drop 1).map PU.prD := by
  show PU.cutD (l.map PU.prD) (some ((1 : Nat) : Int)) none = _
  rw [cut_from' (by rw [List.length_map]; exact h), List.map_drop]
section
variable {P : Program} {w : World} {K : PySem.W.Frag} {mg : Str → Option Value} {base : Heap} {CE B BP cc Pt : Addr} {T : List (Addr × Str)} (h : LawX P w K mg base CE B BP cc Pt T) {f : Addr} {A : Around} {outer : List Env} {s : Shared} {H : Hp} {E : XK} (ng : NoG (AL f cc A s)) (hr : Room 10 (AL f cc A s)) (hu66 : (AL f cc A s).units + 66 < cLine) (i : Addr × Addr × Addr)
include h ng hr hu66
theorem rd_b3 {Ed : EndD} {n : Nat} {x0 x2 x5 x6 x7 x8 x9 x10 x11 x12 : S} {ts : List P3} (fo : FrontOk ts)
    (q : Ed.nx [x0, .d (.ref i.1), x2, .d (.tup (ts.map trD)), .d (.lst ((evens ts).map PU.prD)), .d (.lst ((dueP (evens ts)).map PU.prD)), x6, x7, x8, x9, x10, x11, x12] n) : (st_b3 h (outer := outer) (H := H) (E := E) ng hr hu66 i).1 Ed [x0, .d (.ref i.1), x2, .d (.tup (ts.map trD)), .d (.lst ((evens ts).map PU.prD)), x5, x6, x7, x8, x9, x10, x11, x12] n := by
  unfold st_b3
  dsimp only
  have sz : sizeLine = 16777216 := sizeLine_eq
  have few := fo.few
  have el : (evens ts).length = ts.length := by unfold evens; rw [List.length_map]
  have pos : 1 ≤ (evens ts).length := by
    rw [el]
    exact List.length_pos_iff.mpr fo.ne
  have oi := (evens_iff fo.tc).mpr fo.ord
  have ei := evens_in fo.tc
  have de := due_end (evens ts)
  have ce := cut_one (l := evens ts) pos
  generalize evens ts = l at *
  refine ⟨fun e acc k' => k' = n ∧ acc = ((dueP l).take e).map PU.prD, ⟨rfl, rfl⟩, fun e x acc k' hx hp => ?_, fun acc k' hp => ?_⟩
  · obtain ⟨rfl, rfl⟩ := hp
    obtain ⟨a, b, ha, hb, rfl⟩ := PU.zip_get hx
    obtain ⟨x, ha2, rfl⟩ := getmapP ha
    rw [ce] at hb
    obtain ⟨y, hb2, rfl⟩ := getmapP hb
    rw [List.getElem?_drop, Nat.add_comm] at hb2
    have dg := due_get ha2 hb2
    obtain ⟨c1, c2⟩ := oi.c e x y ha2 hb2
    have ix := ei x (List.mem_of_getElem? ha2)
    have iy := ei y (List.mem_of_getElem? hb2)
    have eln := (List.getElem?_eq_some_iff.mp ha2).1
    refine ⟨rfl, ?_⟩
    refine ix_t1 ?_
    refine ix_t1 ?_
    refine ix_t0 ?_
    refine ix_t0 ?_
    refine ⟨(if y.2 - x.2 < 0 then -(y.2 - x.2) else y.2 - x.2, if x.1 - y.1 < 0 then -(x.1 - y.1) else x.1 - y.1), rfl, ?_⟩
    dsimp only
    rw [abs_if, abs_if]
    refine ⟨⟨.inl (by omega), (in_nat (in_sub iy.2 ix.2)).up (by decide), (in_nat (in_sub ix.1 iy.1)).up (by decide)⟩, by rw [List.length_map, List.length_take]; omega, rfl, ?_⟩
    rw [List.take_succ, dg, List.map_append]
    rfl
  · obtain ⟨rfl, rfl⟩ := hp
    have ll : (zipD (l.map PU.prD) (PU.cutD (l.map PU.prD) (some 1) none)).length = (dueP l).length := by
      rw [ce, de]
      unfold zipD
      rw [List.length_zipWith, List.length_map, List.length_map, List.length_drop]
      omega
    rw [ll, List.take_length]
    exact q
end
end L53
set_option maxHeartbeats 2000000
namespace L53
open PySem PySem.Spec PyProof.Rows L2 HG PU LamX
@[irreducible] def st_all {P : Program} {w : World} {K : PySem.W.Frag} {mg : Str → Option Value} {base : Heap} {CE B BP cc Pt : Addr} {T : List (Addr × Str)} (h : LawX P w K mg base CE B BP cc Pt T) {f : Addr} {A : Around} {outer : List Env} {s : Shared} {H : Hp} {E : XK} (ng : NoG (AL f cc A s)) (hr : Room 10 (AL f cc A s)) (hu66 : (AL f cc A s).units + 66 < cLine) (i : Addr × Addr × Addr) :
    {wd : TDs // ∀ F0 H0, (cnOf (gLaw T i) F0 H0).Ok → USs (XL P w K mg base f cc A outer s H E) (cnOf (gLaw T i) F0 H0) ((defBody s_law).drop 1) wd} := by
  have nd : NL.Nodup := sc_law.nd
  have Lm : ∀ {scope : Scope}, lamSB (defScope s_law) scope = true → LamS (defScope s_law) scope := fun h => lamS_by h
  have hu := hr.units
  have hu65 : (AL f cc A s).units + 65 < cLine := by omega
  exact ⟨_, fun F0 H0 hC => us_cons ((st_s1 h ng hr hu66 i).2 F0 H0 hC) (us_cons (us_for (ui_range1 (ua_cons (ue_op opd_plus ue_int (ue_callB cd_min2 h.z_min (ua_cons (ue_callB cd_len h.z_len (ua_cons (ue_var (i := 0)) ua_nil)) (ua_cons ue_int ua_nil)))) ua_nil) h.z_range) (ug_name (i := 2) nd)
      (us_cons ((st_b0 h ng hr hu66 i).2 F0 H0 hC)
      (us_cons ((st_b1 h ng hr hu66 i).2 F0 H0 hC)
      (us_cons ((st_b2 h ng hr hu66 i).2 F0 H0 hC)
      (us_cons ((st_b3 h ng hr hu66 i).2 F0 H0 hC)
      (us_cons ((st_b4 h ng hr hu66 i).2 F0 H0 hC)
      (us_cons ((st_b5 h ng hr hu66 i).2 F0 H0 hC)
      (us_cons ((st_b6 h ng hr hu66 i).2 F0 H0 hC)
      (us_cons ((st_b7 h ng hr hu66 i).2 F0 H0 hC)
      (us_cons ((st_b8 h ng hr hu66 i).2 F0 H0 hC)
      (us_cons ((st_b9 h ng hr hu66 i).2 F0 H0 hC)
      (us_cons ((st_b10 h ng hr hu66 i).2 F0 H0 hC)
      (us_cons ((st_b11 h ng hr hu66 i).2 F0 H0 hC)
      (us_one ((st_b12 h ng hr hu66 i).2 F0 H0 hC))))))))))))))) (us_one (us_ret ue_bl)))⟩
section
variable {P : Program} {w : World} {K : PySem.W.Frag} {mg : Str → Option Value} {base : Heap} {CE B BP cc Pt : Addr} {T : List (Addr × Str)} (h : LawX P w K mg base CE B BP cc Pt T) {f : Addr} {A : Around} {outer : List Env} {s : Shared} {H : Hp} {E : XK} (ng : NoG (AL f cc A s)) (hr : Room 10 (AL f cc A s)) (hu66 : (AL f cc A s).units + 66 < cLine) (i : Addr × Addr × Addr)
include h ng hr hu66
theorem rd_all {ns : List Int} (len : ns.length ≤ 63) {z2 z3 z4 z5 z6 z7 z8 z9 z10 z11 z12 : S} :
    (st_all h (outer := outer) (H := H) (E := E) ng hr hu66 i).1 lawE [.d (.lst (ns.map .int)), .d (.ref i.1), z2, z3, z4, z5, z6, z7, z8, z9, z10, z11, z12] 0 := by
  unfold st_all
  dsimp only [uSeq]
  refine rd_s1 h ng hr hu66 i ?_
  refine ⟨by
    have p62 : (2 : Int) ^ 62 = 4611686018427387904 := by decide
    rw [List.length_map]
    dsimp only
    split <;> omega, fun j ρ k => k ≤ 1000 * j ∧ ∃ z2 z3 z4 z5 z6 z7 z8 z9 z10 z11 z12 : S, ρ = [.d (.lst (ns.map .int)), .d (.ref i.1), z2, z3, z4, z5, z6, z7, z8, z9, z10, z11, z12], ⟨by omega, _, _, _, _, _, _, _, _, _, _, _, rfl⟩, fun j x ρ k hx hp => ?_, fun ρ k hp => ?_⟩
  · obtain ⟨hk, z2, z3, z4, z5, z6, z7, z8, z9, z10, z11, z12, rfl⟩ := hp
    obtain ⟨hj, rfl⟩ := rg_get hx
    have hj : j < 7 := by
      rw [List.length_map] at hj
      dsimp only at hj
      split at hj <;> omega
    dsimp only [uGn, uSeq]
    refine rd_b0 h ng hr hu66 i (by omega) fun ts m1 hm1 fo => ?_
    refine rd_b1 h ng hr hu66 i fo ?_
    refine rd_b2 h ng hr hu66 i fo ?_
    refine rd_b3 h ng hr hu66 i fo ?_
    refine rd_b4 h ng hr hu66 i fo ?_
    refine rd_b5 h ng hr hu66 i fo (by omega) fun y8 m2 hm2 => ?_
    refine rd_b6 h ng hr hu66 i fo ?_
    refine rd_b7 h ng hr hu66 i fo (by omega) fun d p m3 hm3 ok gp => ?_
    refine rd_b8 h ng hr hu66 i ok ?_
    refine rd_b9 h ng hr hu66 i ok ?_
    cases mf : isMF d with
    | true =>
      rw [← mf]
      refine rd_b10A h ng hr hu66 i ok gp mf ?_
      exact ⟨by omega, _, _, _, _, _, _, _, _, _, _, _, rfl⟩
    | false =>
      rw [← mf]
      refine rd_b10B h ng hr hu66 i ok mf ?_
      refine rd_b11 h ng hr hu66 i ok mf fun y11 y12 => ?_
      refine rd_b12 h ng hr hu66 i fo ?_
      exact ⟨by omega, _, _, _, _, _, _, _, _, _, _, _, rfl⟩
  · rfl
end
theorem ok_law {P : Program} {w : World} {K : PySem.W.Frag} {mg : Str → Option Value} {base : Heap} {CE B BP cc Pt : Addr} {T : List (Addr × Str)} (h : LawX P w K mg base CE B BP cc Pt T) : CalleeP P w K mg base CX0 11 "law" ["script"] (PU.sp_law K T) := by
  refine h.D.okP sc_law (fun vs H Q E h => ?_) (fun f A outer s H vs Q E ng hr q => ?_)
  · obtain ⟨l, ns, rfl, _⟩ := h
    rfl
  obtain ⟨l, ns, rfl, hl, len, tabs, q⟩ := q
  have nd := sc_law.nd
  have hu66 : (A.deeper (envOfC "law" (defScope s_law) s.heap.objs.size f (.ref cc))).units + 66 < cLine := by
    have := hr.un
    omega
  refine ⟨_, pss_cons (ps_set (i := 1) nd rfl (.inl rfl) (pe_c h.c_begun hr (pa_cons (pv 0) pa_nil))) (pss_lw (T := T) fun i F0 H0 hC => (st_all h ng hr hu66 i).2 F0 H0 hC), ?_⟩
  exact law_run (by decide) hl len tabs q fun i => rd_all h ng hr hu66 i len
end L53
set_option maxHeartbeats 4000000
namespace HG
open PySem PySem.Spec PyProof.Rows L2 LamX
structure ErrX (K : PySem.W.Frag) (mg : Str → Option Value) (CE : Addr) (x : Str) (C : Addr) : Prop extends ErrC K mg x C where
  is : ExcC K C
  hit : PySem.W.exmOne K (.ref C) (.ref CE) = some true
  own : PySem.W.kitOne K (.ref C) (.ref C) = some true
/-! ## from the head's facts -/
def BindN (x : Str) (st : Stmt) (ps : List Str) : Prop :=
  ∀ (kV doc pm : Value) (an : Option Addr) (cdv ct : Value) (us : List Value), us.length = ps.length →
    bindArgs (PySem.W.fnOf x x (defArgs st) (defBody st) (defScope st) .none kV doc pm an cdv ct) ⟨us, []⟩ = pure (ps.zip us)
section
variable {K : PySem.W.Frag} {h : Heap} {mg : Str → Option Value} {x : Str} {st : Stmt} {ps : List Str} {f : Addr} {oc : Value} {od an : Option Addr}
  {osl : Array (Option Value)} {kV doc pm cdv ct : Value}
theorem def_mk (X : K.In h) (G : h.Ns mainGlobals mg) (b : BindN x st ps) (a : PySem.W.nsIn K mainGlobals x = some (some (.ref f)))
    (l : K.lookup f = some ⟨oc, od, .func (PySem.W.fnOf x x (defArgs st) (defBody st) (defScope st) .none kV doc pm an cdv ct), osl⟩)
    (c : PySem.W.codeIn K cdv x = true) (k : PySem.W.keepIn K (.ref f) = true) : Def K mg x st ps :=
  ⟨f, _, fun_mk l c k, PySem.W.mg_of X G a, (fun_mk l c k).binds b⟩
theorem defC_mk {cc : Addr} (X : K.In h) (G : h.Ns mainGlobals mg) (b : BindN x st ps) (a : PySem.W.nsIn K mainGlobals x = some (some (.ref f)))
    (l : K.lookup f = some ⟨oc, od, .func (PySem.W.fnOf x x (defArgs st) (defBody st) (defScope st) .none kV doc pm an (.ref cc) ct), osl⟩)
    (c : PySem.W.codeIn K (.ref cc) x = true) (k : PySem.W.keepIn K (.ref f) = true) : DefC K mg x st ps cc :=
  ⟨f, oc, od, kV, doc, pm, an, ct, osl, l, c, k, PySem.W.mg_of X G a, (fun_mk l c k).binds b⟩
theorem hit_of {C CE : Addr} (h1 : PySem.W.subIn K (.ref CE) (.type "BaseException") = some true) (h2 : PySem.W.isClsIn K CE = true)
    (h3 : PySem.W.typeIn K (.ref CE) = some (.type "type")) (h4 : PySem.W.subIn K (.ref C) (.ref CE) = some true) : PySem.W.exmOne K (.ref C) (.ref CE) = some true := by
  unfold PySem.W.exmOne PySem.W.kitCls
  rw [h1]
  have e : (PySem.W.clsIn K CE).isSome = true := h2
  simp only [beq_self_eq_true, if_true, e, h3, Bool.true_and, Bool.and_self, h4]
theorem own_of {C : Addr} : PySem.W.kitOne K (.ref C) (.ref C) = some true := by
  unfold PySem.W.kitOne
  rw [if_pos (by simp)]
theorem errX_mk {C CE : Addr} (X : K.In h) (G : h.Ns mainGlobals mg) (a : PySem.W.nsIn K mainGlobals x = some (some (.ref C)))
    (e : PySem.W.excIn K C [.type "ValueError", .type "Exception", .type "BaseException", .type "object"] "ValueError.__new__" = true)
    (k : PySem.W.keepIn K (.ref C) = true) (s : PySem.W.subIn K (.ref C) (.type "BaseException") = some true) (t : PySem.W.typeIn K (.ref C) = some (.type "type"))
    (g1 : PySem.W.findIn K (.ref C) "__getattribute__" = some (some (.builtin "BaseException.__getattribute__"))) (g2 : PySem.W.findIn K (.ref C) "__getattr__" = some none)
    (hd : PySem.W.hasDictIn K C = true) (ha : PySem.W.findIn K (.ref C) "__class__" = some (some (.builtin "object.__class__")))
    (hn : PySem.W.specialIn K (.builtin "object.__class__") "__get__" = some (some (.builtin "getset_descriptor.__get__")))
    (ht : PySem.W.takesIn K (.builtin "object.__class__") = some true) (hm : PySem.W.mroIn K C (.type "object") = some true)
    (h1 : PySem.W.subIn K (.ref CE) (.type "BaseException") = some true) (h2 : PySem.W.isClsIn K CE = true)
    (h3 : PySem.W.typeIn K (.ref CE) = some (.type "type")) (h4 : PySem.W.subIn K (.ref C) (.ref CE) = some true) : ErrX K mg CE x C :=
  { at_ := PySem.W.mg_of X G a, exc := e, keep := k, sub := s, ty := t, is := ⟨g1, g2, s, hd, ha, hn, ht, hm⟩, hit := hit_of h1 h2 h3 h4, own := own_of }
end
def BindQ (x q : Str) (st : Stmt) (ps : List Str) : Prop :=
  ∀ (kV doc pm : Value) (an : Option Addr) (cdv ct : Value) (us : List Value), us.length = ps.length →
    bindArgs (PySem.W.fnOf x q (defArgs st) (defBody st) (defScope st) .none kV doc pm an cdv ct) ⟨us, []⟩ = pure (ps.zip us)
theorem kit_no {K : PySem.W.Frag} {T : String} {C : Addr} (h2 : PySem.W.isClsIn K C = true) (h3 : PySem.W.typeIn K (.ref C) = some (.type "type")) (h4 : PySem.W.subIn K (.type T) (.ref C) = some false) :
    PySem.W.kitOne K (.type T) (.ref C) = some false := by
  unfold PySem.W.kitOne PySem.W.kitCls
  have e : (PySem.W.clsIn K C).isSome = true := h2
  rw [if_neg (show ¬ (Value.type T == Value.ref C) = true by simp)]
  simp only [e, h3, beq_self_eq_true, Bool.and_self, if_true]
  exact h4
end HG
namespace L53
open PySem PySem.Spec PyProof.Rows L2 HG PU LamX
theorem cal_up {P : Program} {w : World} {K : PySem.W.Frag} {mg : Str → Option Value} {base : Heap} {CX : CXT} {j k : Nat} {x : Str} {ps : List Str} {ι : Type} {G : ι → Gh} {a : ι → SpD} (c : CalG P w K mg base CX j x ps G a) (h : j ≤ k) : CalG P w K mg base CX k x ps G a := by
  obtain ⟨⟨f, fd, F, m, kp, b, at_⟩, mo⟩ := c
  exact ⟨⟨f, fd, F.mono h, m, kp, b, at_⟩, mo⟩
theorem bn_is_number : BindN "is_number" s_is_number ["thing"] := fun _ _ _ _ _ _ us hl => match us, hl with | [_], _ => rfl
theorem bn_is_tuple_of : BindN "is_tuple_of" s_is_tuple_of ["thing", "many"] := fun _ _ _ _ _ _ us hl => match us, hl with | [_, _], _ => rfl
theorem bn_is_pair : BindN "is_pair" s_is_pair ["thing"] := fun _ _ _ _ _ _ us hl => match us, hl with | [_], _ => rfl
theorem bn_reduced : BindN "reduced" s_reduced ["p", "q"] := fun _ _ _ _ _ _ us hl => match us, hl with | [_, _], _ => rfl
theorem bn_goes_ahead : BindN "goes_ahead" s_goes_ahead ["one", "other"] := fun _ _ _ _ _ _ us hl => match us, hl with | [_, _], _ => rfl
theorem bn_worth_at : BindN "worth_at" s_worth_at ["pair", "price"] := fun _ _ _ _ _ _ us hl => match us, hl with | [_, _], _ => rfl
theorem bn_crossing : BindN "crossing" s_crossing ["one", "other"] := fun _ _ _ _ _ _ us hl => match us, hl with | [_, _], _ => rfl
theorem bn_is_price : BindN "is_price" s_is_price ["thing"] := fun _ _ _ _ _ _ us hl => match us, hl with | [_], _ => rfl
theorem bn_check_price : BindN "check_price" s_check_price ["price"] := fun _ _ _ _ _ _ us hl => match us, hl with | [_], _ => rfl
theorem bn_stretch_without_gain : BindN "stretch_without_gain" s_stretch_without_gain ["pairs", "low", "high"] := fun _ _ _ _ _ _ us hl => match us, hl with | [_, _, _], _ => rfl
theorem bn_fraction_of : BindN "fraction_of" s_fraction_of ["number", "many"] := fun _ _ _ _ _ _ us hl => match us, hl with | [_, _], _ => rfl
theorem bn_is_greater : BindN "is_greater" s_is_greater ["one", "other"] := fun _ _ _ _ _ _ us hl => match us, hl with | [_, _], _ => rfl
theorem bn_greatest_of : BindN "greatest_of" s_greatest_of ["fractions"] := fun _ _ _ _ _ _ us hl => match us, hl with | [_], _ => rfl
theorem bn_mean_at_price : BindN "mean_at_price" s_mean_at_price ["mean", "price"] := fun _ _ _ _ _ _ us hl => match us, hl with | [_, _], _ => rfl
theorem bn_is_mean_front : BindN "is_mean_front" s_is_mean_front ["thing"] := fun _ _ _ _ _ _ us hl => match us, hl with | [_], _ => rfl
theorem bn_is_mean : BindN "is_mean" s_is_mean ["thing"] := fun _ _ _ _ _ _ us hl => match us, hl with | [_], _ => rfl
theorem bn_are_in_order : BindN "are_in_order" s_are_in_order ["corners"] := fun _ _ _ _ _ _ us hl => match us, hl with | [_], _ => rfl
theorem bn_scaled_difference : BindN "scaled_difference" s_scaled_difference ["one", "other"] := fun _ _ _ _ _ _ us hl => match us, hl with | [_, _], _ => rfl
theorem bn_meeting_of : BindN "meeting_of" s_meeting_of ["one", "other"] := fun _ _ _ _ _ _ us hl => match us, hl with | [_, _], _ => rfl
theorem bn_check_means : BindN "check_means" s_check_means ["means"] := fun _ _ _ _ _ _ us hl => match us, hl with | [_], _ => rfl
theorem bn_mean_worth : BindN "mean_worth" s_mean_worth ["means", "price"] := fun _ _ _ _ _ _ us hl => match us, hl with | [_, _], _ => rfl
theorem bn_told_mean : BindN "told_mean" s_told_mean ["means", "price"] := fun _ _ _ _ _ _ us hl => match us, hl with | [_, _], _ => rfl
theorem bn_mean_prices : BindN "mean_prices" s_mean_prices ["means"] := fun _ _ _ _ _ _ us hl => match us, hl with | [_], _ => rfl
theorem bn_prices_of : BindN "prices_of" s_prices_of ["means"] := fun _ _ _ _ _ _ us hl => match us, hl with | [_], _ => rfl
theorem bn_no_gain : BindN "no_gain" s_no_gain ["means"] := fun _ _ _ _ _ _ us hl => match us, hl with | [_], _ => rfl
theorem bn_l_begun : BindN "_law_begun" s_l_begun ["script"] := fun _ _ _ _ _ _ us hl => match us, hl with | [_], _ => rfl
theorem bn_l_mixed : BindN "_law_mixed" s_l_mixed ["draw"] := fun _ _ _ _ _ _ us hl => match us, hl with | [_], _ => rfl
theorem bn_l_take : BindN "_law_take" s_l_take ["draw", "many"] := fun _ _ _ _ _ _ us hl => match us, hl with | [_, _], _ => rfl
theorem bn_l_pick : BindN "_law_pick" s_l_pick ["draw", "some"] := fun _ _ _ _ _ _ us hl => match us, hl with | [_, _], _ => rfl
theorem bn_l_caught : BindN "_law_caught" s_l_caught ["task"] := fun _ _ _ _ _ _ us hl => match us, hl with | [_], _ => rfl
theorem bn_l_is_number : BindN "_law_is_number" s_l_is_number ["item"] := fun _ _ _ _ _ _ us hl => match us, hl with | [_], _ => rfl
theorem bn_l_says : BindN "_law_says" s_l_says ["found", "due"] := fun _ _ _ _ _ _ us hl => match us, hl with | [_, _], _ => rfl
theorem bn_l_cost : BindN "_law_cost" s_l_cost ["draw", "peak"] := fun _ _ _ _ _ _ us hl => match us, hl with | [_, _], _ => rfl
theorem bn_l_gcd : BindN "_law_gcd" s_l_gcd ["one", "two"] := fun _ _ _ _ _ _ us hl => match us, hl with | [_, _], _ => rfl
theorem bn_l_terms : BindN "_law_terms" s_l_terms ["one", "two"] := fun _ _ _ _ _ _ us hl => match us, hl with | [_, _], _ => rfl
theorem bn_l_price : BindN "_law_price" s_l_price ["draw"] := fun _ _ _ _ _ _ us hl => match us, hl with | [_], _ => rfl
theorem bn_l_worth : BindN "_law_worth" s_l_worth ["pair", "price"] := fun _ _ _ _ _ _ us hl => match us, hl with | [_, _], _ => rfl
theorem bn_l_hull : BindN "_law_hull" s_l_hull ["pairs"] := fun _ _ _ _ _ _ us hl => match us, hl with | [_], _ => rfl
theorem bn_l_bends : BindN "_law_bends" s_l_bends ["one", "middle", "two"] := fun _ _ _ _ _ _ us hl => match us, hl with | [_, _, _], _ => rfl
theorem bn_l_reduced : BindN "_law_reduced" s_l_reduced ["one"] := fun _ _ _ _ _ _ us hl => match us, hl with | [_], _ => rfl
theorem bn_l_evened : BindN "_law_evened" s_l_evened ["some"] := fun _ _ _ _ _ _ us hl => match us, hl with | [_], _ => rfl
theorem bn_l_is_triple_so : BindN "_law_is_triple_so" s_l_is_triple_so ["one"] := fun _ _ _ _ _ _ us hl => match us, hl with | [_], _ => rfl
theorem bn_l_is_front : BindN "_law_is_front" s_l_is_front ["item"] := fun _ _ _ _ _ _ us hl => match us, hl with | [_], _ => rfl
theorem bn_l_front_due : BindN "_law_front_due" s_l_front_due ["some"] := fun _ _ _ _ _ _ us hl => match us, hl with | [_], _ => rfl
theorem bn_l_mean : BindN "_law_mean" s_l_mean ["some", "price"] := fun _ _ _ _ _ _ us hl => match us, hl with | [_, _], _ => rfl
theorem bn_l_numbers : BindN "_law_numbers" s_l_numbers ["draw"] := fun _ _ _ _ _ _ us hl => match us, hl with | [_], _ => rfl
theorem bn_l_triples : BindN "_law_triples" s_l_triples ["draw"] := fun _ _ _ _ _ _ us hl => match us, hl with | [_], _ => rfl
theorem bn_l_changed : BindN "_law_changed" s_l_changed ["draw", "front"] := fun _ _ _ _ _ _ us hl => match us, hl with | [_, _], _ => rfl
theorem bn_l_gain_right : BindN "_law_gain_right" s_l_gain_right ["front", "found", "prices"] := fun _ _ _ _ _ _ us hl => match us, hl with | [_, _, _], _ => rfl
theorem bn_l_sorted_prices : BindN "_law_sorted_prices" s_l_sorted_prices ["some"] := fun _ _ _ _ _ _ us hl => match us, hl with | [_], _ => rfl
theorem bn_l_turning : BindN "_law_turning" s_l_turning ["front"] := fun _ _ _ _ _ _ us hl => match us, hl with | [_], _ => rfl
theorem bn_law : BindN "law" s_law ["script"] := fun _ _ _ _ _ _ us hl => match us, hl with | [_], _ => rfl
theorem catch_mk {K : PySem.W.Frag} {h : Heap} {mg : Str → Option Value} {g CE : Addr} {oc : Value} {od an : Option Addr} {osl : Array (Option Value)} {kV doc pm cdv ct : Value}
    (X : K.In h) (G : h.Ns mainGlobals mg) (a : PySem.W.nsIn K mainGlobals "_law_caught" = some (some (.ref g)))
    (l : K.lookup g = some ⟨oc, od, .func (PySem.W.fnOf "_law_caught" "_law_caught" (defArgs s_l_caught) (defBody s_l_caught) (defScope s_l_caught) .none kV doc pm an cdv ct), osl⟩)
    (c : PySem.W.codeIn K cdv "_law_caught" = true) (k : PySem.W.keepIn K (.ref g) = true) (ce : PySem.W.nsIn K mainGlobals "ClockError" = some (some (.ref CE))) : Catch K mg CE :=
  { ex := ⟨g, oc, od, kV, doc, pm, an, cdv, ct, osl, l, c, k, PySem.W.mg_of X G a, (fun_mk l c k).binds bn_l_caught⟩, ce := PySem.W.mg_of X G ce }
theorem tup2_mk {K : PySem.W.Frag} {h : Heap} {mg : Str → Option Value} {x : Str} {a : Addr} {i j : Int} {t1 t2 : Tok} {od : Option Addr} {n : Nat} {osl : Array (Option Value)}
    (X : K.In h) (G : h.Ns mainGlobals mg) (e : PySem.W.nsIn K mainGlobals x = some (some (.ref a))) (l : K.lookup a = some ⟨.type "tuple", od, .seq #[.int i t1, .int j t2] n, osl⟩) : TupK K mg x [i, j] :=
  ⟨a, PySem.W.mg_of X G e, _, _, n, l, rfl, rfl, (by show 2 ≤ sizeLine; decide), .cons ⟨t1, rfl⟩ (.cons ⟨t2, rfl⟩ .nil)⟩
theorem all_mk {l : PySem.W.OpenLaw} {w : World} {K : PySem.W.Frag} {mg : Str → Option Value} {h : Heap} {fa cL tL CE B BP : Addr} (hfa : mg "law" = some (.ref fa))
    (DL : DefC K mg "law" s_law ["script"] cL) (G : Catch K mg CE) (eB : ErrX K mg CE "BadMeans" B) (eP : ErrX K mg CE "BadPrice" BP)
    (D_is_number : Def K mg "is_number" s_is_number ["thing"])
    (D_is_tuple_of : Def K mg "is_tuple_of" s_is_tuple_of ["thing", "many"])
    (D_is_pair : Def K mg "is_pair" s_is_pair ["thing"])
    (D_reduced : Def K mg "reduced" s_reduced ["p", "q"])
    (D_goes_ahead : Def K mg "goes_ahead" s_goes_ahead ["one", "other"])
    (D_worth_at : Def K mg "worth_at" s_worth_at ["pair", "price"])
    (D_crossing : Def K mg "crossing" s_crossing ["one", "other"])
    (D_is_price : Def K mg "is_price" s_is_price ["thing"])
    (D_check_price : Def K mg "check_price" s_check_price ["price"])
    (D_stretch_without_gain : Def K mg "stretch_without_gain" s_stretch_without_gain ["pairs", "low", "high"])
    (D_fraction_of : Def K mg "fraction_of" s_fraction_of ["number", "many"])
    (D_is_greater : Def K mg "is_greater" s_is_greater ["one", "other"])
    (D_greatest_of : Def K mg "greatest_of" s_greatest_of ["fractions"])
    (D_mean_at_price : Def K mg "mean_at_price" s_mean_at_price ["mean", "price"])
    (D_is_mean_front : Def K mg "is_mean_front" s_is_mean_front ["thing"])
    (D_is_mean : Def K mg "is_mean" s_is_mean ["thing"])
    (D_are_in_order : Def K mg "are_in_order" s_are_in_order ["corners"])
    (D_scaled_difference : Def K mg "scaled_difference" s_scaled_difference ["one", "other"])
    (D_meeting_of : Def K mg "meeting_of" s_meeting_of ["one", "other"])
    (D_check_means : Def K mg "check_means" s_check_means ["means"])
    (D_mean_worth : Def K mg "mean_worth" s_mean_worth ["means", "price"])
    (D_told_mean : Def K mg "told_mean" s_told_mean ["means", "price"])
    (D_mean_prices : Def K mg "mean_prices" s_mean_prices ["means"])
    (D_prices_of : Def K mg "prices_of" s_prices_of ["means"])
    (D_no_gain : Def K mg "no_gain" s_no_gain ["means"])
    (D_l_begun : Def K mg "_law_begun" s_l_begun ["script"])
    (D_l_mixed : Def K mg "_law_mixed" s_l_mixed ["draw"])
    (D_l_take : Def K mg "_law_take" s_l_take ["draw", "many"])
    (D_l_pick : Def K mg "_law_pick" s_l_pick ["draw", "some"])
    (D_l_is_number : Def K mg "_law_is_number" s_l_is_number ["item"])
    (D_l_says : Def K mg "_law_says" s_l_says ["found", "due"])
    (D_l_cost : Def K mg "_law_cost" s_l_cost ["draw", "peak"])
    (D_l_gcd : Def K mg "_law_gcd" s_l_gcd ["one", "two"])
    (D_l_terms : Def K mg "_law_terms" s_l_terms ["one", "two"])
    (D_l_price : Def K mg "_law_price" s_l_price ["draw"])
    (D_l_worth : Def K mg "_law_worth" s_l_worth ["pair", "price"])
    (D_l_hull : Def K mg "_law_hull" s_l_hull ["pairs"])
    (D_l_bends : Def K mg "_law_bends" s_l_bends ["one", "middle", "two"])
    (D_l_reduced : Def K mg "_law_reduced" s_l_reduced ["one"])
    (D_l_evened : Def K mg "_law_evened" s_l_evened ["some"])
    (D_l_is_triple_so : Def K mg "_law_is_triple_so" s_l_is_triple_so ["one"])
    (D_l_is_front : Def K mg "_law_is_front" s_l_is_front ["item"])
    (D_l_front_due : Def K mg "_law_front_due" s_l_front_due ["some"])
    (D_l_mean : Def K mg "_law_mean" s_l_mean ["some", "price"])
    (D_l_numbers : Def K mg "_law_numbers" s_l_numbers ["draw"])
    (D_l_triples : Def K mg "_law_triples" s_l_triples ["draw"])
    (D_l_changed : Def K mg "_law_changed" s_l_changed ["draw", "front"])
    (D_l_gain_right : Def K mg "_law_gain_right" s_l_gain_right ["front", "found", "prices"])
    (D_l_sorted_prices : Def K mg "_law_sorted_prices" s_l_sorted_prices ["some"])
    (D_l_turning : Def K mg "_law_turning" s_l_turning ["front"])
    (g_AHEAD_OF_ALL : TupK K mg "AHEAD_OF_ALL" [1, 0]) (g_BEHIND_ALL : TupK K mg "BEHIND_ALL" [0, 1]) (z_gcd : mg "gcd" = some (.builtin "math.gcd"))
    (z_isinstance : mg "isinstance" = none) (z_int : mg "int" = none) (z_bool : mg "bool" = none) (z_str : mg "str" = none) (z_tuple : mg "tuple" = none) (z_len : mg "len" = none) (z_abs : mg "abs" = none) (z_range : mg "range" = none) (z_min : mg "min" = none) (z_list : mg "list" = none) (z_sorted : mg "sorted" = none) (z_zip : mg "zip" = none)
    (t1 : ∀ p ∈ [(cL, tL)], h.get? p.2 = some emptyTab) (t2 : ∀ p ∈ [(cL, tL)], K.lookup p.2 = none)
    (t3 : ∀ p ∈ [(cL, tL)], PySem.W.CodeHd h p.1 p.2) : LawP l w K 11 63 "script" mg fa h := by
  obtain ⟨f, oc, od, kV, doc, pm, an, ct, osl, lk, cd, kp, m, b⟩ := id DL.ex
  have e := hfa.symm.trans m
  cases e
  refine ⟨PySem.W.fnOf "law" "law" (defArgs s_law) (defBody s_law) (defScope s_law) .none kV doc pm an (.ref cL) ct, [(cL, tL)], PU.sp_law K [(tL, qL)], t1, t2, t3, fun s u => ?_, fun H a ns len _ ht hl => ⟨a, ns, rfl, hl, len, ?_, fun _ => rfl⟩, fun base KB GB TB => ?_⟩
  · exact .of_eq rfl
  · intro p hp
    rcases List.mem_cons.mp hp with rfl | hp
    · exact TabS.nil (ht (cL, tL) List.mem_cons_self)
    · cases hp
  have TL := TB (cL, tL) List.mem_cons_self
  have mL : (tL, qL) ∈ [(tL, qL)] := List.mem_cons_self
  have uL : ∀ p ∈ [(tL, qL)], p.1 = tL → p.2 = qL := by
    intro p hp e
    rcases List.mem_cons.mp hp with rfl | hp
    · rfl
    · cases hp
  have e_BadMeans : ErrC K mg "BadMeans" B := eB.toErrC
  have e_BadPrice : ErrC K mg "BadPrice" BP := eP.toErrC
  have c_mixed := ok_mixed (P := l.prog) (w := w) (base := base) D_l_mixed z_int
  have c_take0 := ok_take D_l_take z_int c_mixed
  have c__law_take := cal_take c_take0
  have c_begun := ok_begun (P := l.prog) (w := w) (base := base) D_l_begun z_abs z_int
  have c__law_sorted_prices := ok_l_sorted_prices (P := l.prog) (w := w) (base := base) D_l_sorted_prices z_len
  have c__law_pick := ok_l_pick (P := l.prog) (w := w) (base := base) D_l_pick z_len c__law_take
  have c__law_is_number := ok_l_is_number (P := l.prog) (w := w) (base := base) D_l_is_number z_bool z_int z_isinstance
  have c__law_says := ok_l_says (P := l.prog) (w := w) (base := base) D_l_says 
  have c__law_cost := ok_l_cost (P := l.prog) (w := w) (base := base) D_l_cost c__law_take
  have c__law_gcd := ok_l_gcd (P := l.prog) (w := w) (base := base) D_l_gcd z_abs z_int
  have c__law_terms := ok_l_terms (P := l.prog) (w := w) (base := base) D_l_terms c__law_gcd
  have c__law_price := ok_l_price (P := l.prog) (w := w) (base := base) D_l_price c__law_pick c__law_take c__law_terms
  have c__law_worth := ok_l_worth (P := l.prog) (w := w) (base := base) D_l_worth 
  have c__law_reduced := ok_l_reduced (P := l.prog) (w := w) (base := base) D_l_reduced c__law_gcd
  have c_fraction_of := ok_fraction_of (P := l.prog) (w := w) (base := base) D_fraction_of z_gcd
  have c_is_greater := ok_is_greater (P := l.prog) (w := w) (base := base) D_is_greater 
  have c_greatest_of := ok_greatest_of (P := l.prog) (w := w) (base := base) D_greatest_of c_is_greater
  have c_scaled_difference := ok_scaled_difference (P := l.prog) (w := w) (base := base) D_scaled_difference 
  have c__law_evened := ok_l_evened (P := l.prog) (w := w) (base := base) D_l_evened c__law_gcd
  have c__law_is_triple_so := ok_l_is_triple_so (P := l.prog) (w := w) (base := base) D_l_is_triple_so z_isinstance z_len z_tuple c__law_is_number c__law_reduced
  have c__law_bends := ok_l_bends (P := l.prog) (w := w) (base := base) D_l_bends 
  have c__law_hull := ok_l_hull (P := l.prog) (w := w) (base := base) D_l_hull z_len z_sorted z_tuple c__law_bends
  have c__law_is_front := ok_l_is_front (P := l.prog) (w := w) (base := base) D_l_is_front z_isinstance z_list z_str z_tuple c__law_evened c__law_hull c__law_is_triple_so
  have c__law_front_due := ok_l_front_due (P := l.prog) (w := w) (base := base) D_l_front_due z_tuple c__law_evened c__law_hull c__law_reduced
  have c__law_numbers := ok_l_numbers (P := l.prog) (w := w) (base := base) D_l_numbers c__law_cost c__law_pick
  have c__law_triples := ok_l_triples (P := l.prog) (w := w) (base := base) D_l_triples z_range c__law_numbers c__law_pick c__law_take
  have c_is_number := ok_is_number (P := l.prog) (w := w) (base := base) D_is_number z_bool z_int z_isinstance
  have c_is_tuple_of := ok_is_tuple_of (P := l.prog) (w := w) (base := base) D_is_tuple_of z_isinstance z_len z_tuple
  have c_is_pair := ok_is_pair (P := l.prog) (w := w) (base := base) D_is_pair c_is_number c_is_tuple_of
  have c_reduced := ok_reduced (P := l.prog) (w := w) (base := base) D_reduced z_gcd
  have c_goes_ahead := ok_goes_ahead (P := l.prog) (w := w) (base := base) D_goes_ahead 
  have c_worth_at := ok_worth_at (P := l.prog) (w := w) (base := base) D_worth_at 
  have c_mean_at_price := ok_mean_at_price (P := l.prog) (w := w) (base := base) D_mean_at_price c_fraction_of c_worth_at
  have c_told_mean := ok_told_mean (P := l.prog) (w := w) (base := base) D_told_mean z_isinstance z_tuple c_greatest_of c_mean_at_price
  have c_crossing := ok_crossing (P := l.prog) (w := w) (base := base) D_crossing g_AHEAD_OF_ALL c_reduced
  have c_meeting_of := ok_meeting_of (P := l.prog) (w := w) (base := base) D_meeting_of c_crossing c_scaled_difference
  have c_prices_of := ok_prices_of (P := l.prog) (w := w) (base := base) D_prices_of z_isinstance z_len z_range z_tuple g_AHEAD_OF_ALL g_BEHIND_ALL c_meeting_of
  have c_is_price := ok_is_price (P := l.prog) (w := w) (base := base) D_is_price z_gcd c_is_pair
  have c_check_price := ok_check_price (P := l.prog) (w := w) (base := base) D_check_price c_is_price e_BadPrice
  have c__law_turning := ok_l_turning (P := l.prog) (w := w) (base := base) D_l_turning z_abs z_zip c__law_sorted_prices c__law_terms
  have c__law_changed := ok_l_changed (P := l.prog) (w := w) (base := base) D_l_changed z_len z_list c__law_numbers c__law_pick c__law_reduced c__law_take
  have c_stretch_without_gain := ok_stretch_without_gain (P := l.prog) (w := w) (base := base) D_stretch_without_gain c_goes_ahead c_reduced
  have c_is_mean := ok_is_mean (P := l.prog) (w := w) (base := base) D_is_mean z_gcd c_is_number c_is_tuple_of
  have c_are_in_order := ok_are_in_order (P := l.prog) (w := w) (base := base) D_are_in_order z_len z_range g_AHEAD_OF_ALL c_goes_ahead c_meeting_of c_scaled_difference
  have c_is_mean_front := ok_is_mean_front (P := l.prog) (w := w) (base := base) D_is_mean_front z_isinstance z_len z_str z_tuple c_are_in_order c_is_mean
  have c_check_means := ok_check_means (P := l.prog) (w := w) (base := base) D_check_means c_is_mean_front e_BadMeans
  have c_mean_worth := ok_mean_worth (P := l.prog) (w := w) (base := base) D_mean_worth c_check_means c_check_price c_told_mean
  have c_mean_prices := ok_mean_prices (P := l.prog) (w := w) (base := base) D_mean_prices c_check_means c_prices_of
  have c_no_gain := ok_no_gain (P := l.prog) (w := w) (base := base) D_no_gain z_isinstance z_tuple g_AHEAD_OF_ALL g_BEHIND_ALL c_check_means c_stretch_without_gain
  have c__law_mean := ok_l_mean (P := l.prog) (w := w) (base := base) D_l_mean c__law_terms c__law_worth
  have c__law_gain_right := ok_l_gain_right (P := l.prog) (w := w) (base := base) D_l_gain_right c__law_mean
  have c_law := ok_law (P := l.prog) (w := w) (base := base) { D := DL, G := G, TB := TL, hm := mL, hu_ := uL, d_is_mean_front := D_is_mean_front, d_mean_prices := D_mean_prices, d_mean_worth := D_mean_worth, d_no_gain := D_no_gain, z_abs := z_abs, z_isinstance := z_isinstance, z_len := z_len, z_min := z_min, z_range := z_range, z_zip := z_zip, m_BadMeans := eB.at_, m_BadPrice := eP.at_, iB := eB.is, iP := eP.is, hB := eB.hit, hP := eP.hit, oB := eB.own, oP := eP.own, c_begun := c_begun, c__law_changed := c__law_changed, c__law_evened := c__law_evened, c__law_front_due := c__law_front_due, c__law_gain_right := c__law_gain_right, c__law_is_front := c__law_is_front, c__law_mean := c__law_mean, c__law_price := c__law_price, c__law_says := c__law_says, c__law_terms := c__law_terms, c__law_triples := c__law_triples, c__law_turning := c__law_turning, c_is_mean_front := c_is_mean_front, c_mean_prices := c_mean_prices, c_mean_worth := c_mean_worth, c_no_gain := c_no_gain }
  obtain ⟨f2, fd2, F2, m2, _, _, oc2, od2, osl2, at2⟩ := c_law.ex
  rw [m] at m2
  cases m2
  rw [lk] at at2
  cases at2
  exact F2
end L53
open PySem PySem.W PyProof.Rows
set_option maxHeartbeats 0 in
theorem PySem.Challenge.cw_hitclocks_k53_mean_fronts_by_hand_holds : PySem.Challenge.rw_hitclocks_k53_mean_fronts_by_hand.Holds := by
  w_on; o_law; k_head; (case hw => w_witness2)
  k_fill
  refine HG.walk_ofP (l := PySem.Challenge.rw_hitclocks_k53_mean_fronts_by_hand) (n := 63) (k := 11) (x := "script") rfl (by decide) rfl ⟨rfl, by decide, by decide⟩ (fun w h Y => PySem.W.km_in_of Y) ?F
  case F =>
    intro w mg fa h Y KX G hmg
    have tabs := PySem.W.km_tabs_of Y
    refine' L53.all_mk hmg ?xDL ?xG ?xeB ?xeP ?xD_is_number ?xD_is_tuple_of ?xD_is_pair ?xD_reduced ?xD_goes_ahead ?xD_worth_at ?xD_crossing ?xD_is_price ?xD_check_price ?xD_stretch_without_gain ?xD_fraction_of ?xD_is_greater ?xD_greatest_of ?xD_mean_at_price ?xD_is_mean_front ?xD_is_mean ?xD_are_in_order ?xD_scaled_difference ?xD_meeting_of ?xD_check_means ?xD_mean_worth ?xD_told_mean ?xD_mean_prices ?xD_prices_of ?xD_no_gain ?xD_l_begun ?xD_l_mixed ?xD_l_take ?xD_l_pick ?xD_l_is_number ?xD_l_says ?xD_l_cost ?xD_l_gcd ?xD_l_terms ?xD_l_price ?xD_l_worth ?xD_l_hull ?xD_l_bends ?xD_l_reduced ?xD_l_evened ?xD_l_is_triple_so ?xD_l_is_front ?xD_l_front_due ?xD_l_mean ?xD_l_numbers ?xD_l_triples ?xD_l_changed ?xD_l_gain_right ?xD_l_sorted_prices ?xD_l_turning ?xgA ?xgB ?xzG ?xz0 ?xz1 ?xz2 ?xz3 ?xz4 ?xz5 ?xz6 ?xz7 ?xz8 ?xz9 ?xz10 ?xz11 ?xt1 ?xt2 ?xt3
    case xDL =>
      refine' HG.defC_mk KX G L53.bn_law ?a ?l ?c ?k; (case a => k_is); (case l => k_is); (case c => k_is); (case k => k_is)
    case xG =>
      refine' L53.catch_mk KX G ?a ?l ?c ?k ?ce; (case a => k_is); (case l => k_is); (case c => k_is); (case k => k_is); (case ce => k_is)
    case xeB =>
      refine' HG.errX_mk KX G ?a ?e ?k ?s ?t ?g1 ?g2 ?hd ?ha ?hn ?ht ?hm ?h1 ?h2 ?h3 ?h4; (case a => k_is); (case e => k_exc); (case k => k_is); (case s => k_is); (case t => k_is); (case g1 => k_is); (case g2 => k_is); (case hd => k_is); (case ha => k_is); (case hn => k_is); (case ht => k_is); (case hm => k_is); (case h1 => k_is); (case h2 => k_is); (case h3 => k_is); (case h4 => k_is)
    case xeP =>
      refine' HG.errX_mk KX G ?a ?e ?k ?s ?t ?g1 ?g2 ?hd ?ha ?hn ?ht ?hm ?h1 ?h2 ?h3 ?h4; (case a => k_is); (case e => k_exc); (case k => k_is); (case s => k_is); (case t => k_is); (case g1 => k_is); (case g2 => k_is); (case hd => k_is); (case ha => k_is); (case hn => k_is); (case ht => k_is); (case hm => k_is); (case h1 => k_is); (case h2 => k_is); (case h3 => k_is); (case h4 => k_is)
    case xD_is_number =>
      refine' HG.def_mk KX G L53.bn_is_number ?a ?l ?c ?k; (case a => k_is); (case l => k_is); (case c => k_is); (case k => k_is)
    case xD_is_tuple_of =>
      refine' HG.def_mk KX G L53.bn_is_tuple_of ?a ?l ?c ?k; (case a => k_is); (case l => k_is); (case c => k_is); (case k => k_is)
    case xD_is_pair =>
      refine' HG.def_mk KX G L53.bn_is_pair ?a ?l ?c ?k; (case a => k_is); (case l => k_is); (case c => k_is); (case k => k_is)
    case xD_reduced =>
      refine' HG.def_mk KX G L53.bn_reduced ?a ?l ?c ?k; (case a => k_is); (case l => k_is); (case c => k_is); (case k => k_is)
    case xD_goes_ahead =>
      refine' HG.def_mk KX G L53.bn_goes_ahead ?a ?l ?c ?k; (case a => k_is); (case l => k_is); (case c => k_is); (case k => k_is)
    case xD_worth_at =>
      refine' HG.def_mk KX G L53.bn_worth_at ?a ?l ?c ?k; (case a => k_is); (case l => k_is); (case c => k_is); (case k => k_is)
    case xD_crossing =>
      refine' HG.def_mk KX G L53.bn_crossing ?a ?l ?c ?k; (case a => k_is); (case l => k_is); (case c => k_is); (case k => k_is)
    case xD_is_price =>
      refine' HG.def_mk KX G L53.bn_is_price ?a ?l ?c ?k; (case a => k_is); (case l => k_is); (case c => k_is); (case k => k_is)
    case xD_check_price =>
      refine' HG.def_mk KX G L53.bn_check_price ?a ?l ?c ?k; (case a => k_is); (case l => k_is); (case c => k_is); (case k => k_is)
    case xD_stretch_without_gain =>
      refine' HG.def_mk KX G L53.bn_stretch_without_gain ?a ?l ?c ?k; (case a => k_is); (case l => k_is); (case c => k_is); (case k => k_is)
    case xD_fraction_of =>
      refine' HG.def_mk KX G L53.bn_fraction_of ?a ?l ?c ?k; (case a => k_is); (case l => k_is); (case c => k_is); (case k => k_is)
    case xD_is_greater =>
      refine' HG.def_mk KX G L53.bn_is_greater ?a ?l ?c ?k; (case a => k_is); (case l => k_is); (case c => k_is); (case k => k_is)
    case xD_greatest_of =>
      refine' HG.def_mk KX G L53.bn_greatest_of ?a ?l ?c ?k; (case a => k_is); (case l => k_is); (case c => k_is); (case k => k_is)
    case xD_mean_at_price =>
      refine' HG.def_mk KX G L53.bn_mean_at_price ?a ?l ?c ?k; (case a => k_is); (case l => k_is); (case c => k_is); (case k => k_is)
    case xD_is_mean_front =>
      refine' HG.def_mk KX G L53.bn_is_mean_front ?a ?l ?c ?k; (case a => k_is); (case l => k_is); (case c => k_is); (case k => k_is)
    case xD_is_mean =>
      refine' HG.def_mk KX G L53.bn_is_mean ?a ?l ?c ?k; (case a => k_is); (case l => k_is); (case c => k_is); (case k => k_is)
    case xD_are_in_order =>
      refine' HG.def_mk KX G L53.bn_are_in_order ?a ?l ?c ?k; (case a => k_is); (case l => k_is); (case c => k_is); (case k => k_is)
    case xD_scaled_difference =>
      refine' HG.def_mk KX G L53.bn_scaled_difference ?a ?l ?c ?k; (case a => k_is); (case l => k_is); (case c => k_is); (case k => k_is)
    case xD_meeting_of =>
      refine' HG.def_mk KX G L53.bn_meeting_of ?a ?l ?c ?k; (case a => k_is); (case l => k_is); (case c => k_is); (case k => k_is)
    case xD_check_means =>
      refine' HG.def_mk KX G L53.bn_check_means ?a ?l ?c ?k; (case a => k_is); (case l => k_is); (case c => k_is); (case k => k_is)
    case xD_mean_worth =>
      refine' HG.def_mk KX G L53.bn_mean_worth ?a ?l ?c ?k; (case a => k_is); (case l => k_is); (case c => k_is); (case k => k_is)
    case xD_told_mean =>
      refine' HG.def_mk KX G L53.bn_told_mean ?a ?l ?c ?k; (case a => k_is); (case l => k_is); (case c => k_is); (case k => k_is)
    case xD_mean_prices =>
      refine' HG.def_mk KX G L53.bn_mean_prices ?a ?l ?c ?k; (case a => k_is); (case l => k_is); (case c => k_is); (case k => k_is)
    case xD_prices_of =>
      refine' HG.def_mk KX G L53.bn_prices_of ?a ?l ?c ?k; (case a => k_is); (case l => k_is); (case c => k_is); (case k => k_is)
    case xD_no_gain =>
      refine' HG.def_mk KX G L53.bn_no_gain ?a ?l ?c ?k; (case a => k_is); (case l => k_is); (case c => k_is); (case k => k_is)
    case xD_l_begun =>
      refine' HG.def_mk KX G L53.bn_l_begun ?a ?l ?c ?k; (case a => k_is); (case l => k_is); (case c => k_is); (case k => k_is)
    case xD_l_mixed =>
      refine' HG.def_mk KX G L53.bn_l_mixed ?a ?l ?c ?k; (case a => k_is); (case l => k_is); (case c => k_is); (case k => k_is)
    case xD_l_take =>
      refine' HG.def_mk KX G L53.bn_l_take ?a ?l ?c ?k; (case a => k_is); (case l => k_is); (case c => k_is); (case k => k_is)
    case xD_l_pick =>
      refine' HG.def_mk KX G L53.bn_l_pick ?a ?l ?c ?k; (case a => k_is); (case l => k_is); (case c => k_is); (case k => k_is)
    case xD_l_is_number =>
      refine' HG.def_mk KX G L53.bn_l_is_number ?a ?l ?c ?k; (case a => k_is); (case l => k_is); (case c => k_is); (case k => k_is)
    case xD_l_says =>
      refine' HG.def_mk KX G L53.bn_l_says ?a ?l ?c ?k; (case a => k_is); (case l => k_is); (case c => k_is); (case k => k_is)
    case xD_l_cost =>
      refine' HG.def_mk KX G L53.bn_l_cost ?a ?l ?c ?k; (case a => k_is); (case l => k_is); (case c => k_is); (case k => k_is)
    case xD_l_gcd =>
      refine' HG.def_mk KX G L53.bn_l_gcd ?a ?l ?c ?k; (case a => k_is); (case l => k_is); (case c => k_is); (case k => k_is)
    case xD_l_terms =>
      refine' HG.def_mk KX G L53.bn_l_terms ?a ?l ?c ?k; (case a => k_is); (case l => k_is); (case c => k_is); (case k => k_is)
    case xD_l_price =>
      refine' HG.def_mk KX G L53.bn_l_price ?a ?l ?c ?k; (case a => k_is); (case l => k_is); (case c => k_is); (case k => k_is)
    case xD_l_worth =>
      refine' HG.def_mk KX G L53.bn_l_worth ?a ?l ?c ?k; (case a => k_is); (case l => k_is); (case c => k_is); (case k => k_is)
    case xD_l_hull =>
      refine' HG.def_mk KX G L53.bn_l_hull ?a ?l ?c ?k; (case a => k_is); (case l => k_is); (case c => k_is); (case k => k_is)
    case xD_l_bends =>
      refine' HG.def_mk KX G L53.bn_l_bends ?a ?l ?c ?k; (case a => k_is); (case l => k_is); (case c => k_is); (case k => k_is)
    case xD_l_reduced =>
      refine' HG.def_mk KX G L53.bn_l_reduced ?a ?l ?c ?k; (case a => k_is); (case l => k_is); (case c => k_is); (case k => k_is)
    case xD_l_evened =>
      refine' HG.def_mk KX G L53.bn_l_evened ?a ?l ?c ?k; (case a => k_is); (case l => k_is); (case c => k_is); (case k => k_is)
    case xD_l_is_triple_so =>
      refine' HG.def_mk KX G L53.bn_l_is_triple_so ?a ?l ?c ?k; (case a => k_is); (case l => k_is); (case c => k_is); (case k => k_is)
    case xD_l_is_front =>
      refine' HG.def_mk KX G L53.bn_l_is_front ?a ?l ?c ?k; (case a => k_is); (case l => k_is); (case c => k_is); (case k => k_is)
    case xD_l_front_due =>
      refine' HG.def_mk KX G L53.bn_l_front_due ?a ?l ?c ?k; (case a => k_is); (case l => k_is); (case c => k_is); (case k => k_is)
    case xD_l_mean =>
      refine' HG.def_mk KX G L53.bn_l_mean ?a ?l ?c ?k; (case a => k_is); (case l => k_is); (case c => k_is); (case k => k_is)
    case xD_l_numbers =>
      refine' HG.def_mk KX G L53.bn_l_numbers ?a ?l ?c ?k; (case a => k_is); (case l => k_is); (case c => k_is); (case k => k_is)
    case xD_l_triples =>
      refine' HG.def_mk KX G L53.bn_l_triples ?a ?l ?c ?k; (case a => k_is); (case l => k_is); (case c => k_is); (case k => k_is)
    case xD_l_changed =>
      refine' HG.def_mk KX G L53.bn_l_changed ?a ?l ?c ?k; (case a => k_is); (case l => k_is); (case c => k_is); (case k => k_is)
    case xD_l_gain_right =>
      refine' HG.def_mk KX G L53.bn_l_gain_right ?a ?l ?c ?k; (case a => k_is); (case l => k_is); (case c => k_is); (case k => k_is)
    case xD_l_sorted_prices =>
      refine' HG.def_mk KX G L53.bn_l_sorted_prices ?a ?l ?c ?k; (case a => k_is); (case l => k_is); (case c => k_is); (case k => k_is)
    case xD_l_turning =>
      refine' HG.def_mk KX G L53.bn_l_turning ?a ?l ?c ?k; (case a => k_is); (case l => k_is); (case c => k_is); (case k => k_is)
    case xgA =>
      refine' L53.tup2_mk KX G ?a ?l; (case a => k_is); (case l => k_is)
    case xgB =>
      refine' L53.tup2_mk KX G ?a ?l; (case a => k_is); (case l => k_is)
    case xzG =>
      refine' PySem.W.mg_of KX G ?zq; (case zq => k_is)
    case xz0 =>
      refine' PySem.W.mg_none_of KX G ?a; (case a => k_is)
    case xz1 =>
      refine' PySem.W.mg_none_of KX G ?a; (case a => k_is)
    case xz2 =>
      refine' PySem.W.mg_none_of KX G ?a; (case a => k_is)
    case xz3 =>
      refine' PySem.W.mg_none_of KX G ?a; (case a => k_is)
    case xz4 =>
      refine' PySem.W.mg_none_of KX G ?a; (case a => k_is)
    case xz5 =>
      refine' PySem.W.mg_none_of KX G ?a; (case a => k_is)
    case xz6 =>
      refine' PySem.W.mg_none_of KX G ?a; (case a => k_is)
    case xz7 =>
      refine' PySem.W.mg_none_of KX G ?a; (case a => k_is)
    case xz8 =>
      refine' PySem.W.mg_none_of KX G ?a; (case a => k_is)
    case xz9 =>
      refine' PySem.W.mg_none_of KX G ?a; (case a => k_is)
    case xz10 =>
      refine' PySem.W.mg_none_of KX G ?a; (case a => k_is)
    case xz11 =>
      refine' PySem.W.mg_none_of KX G ?a; (case a => k_is)
    case xt1 =>
      intro p hp
      rcases List.mem_cons.mp hp with rfl | hp
      · exact tabs _ (by k_mem)
      · cases hp
    case xt2 =>
      intro p hp
      rcases List.mem_cons.mp hp with rfl | hp
      · kernel_rfl
      · cases hp
    case xt3 =>
      intro p hp
      rcases List.mem_cons.mp hp with rfl | hp
      · exact PySem.W.codeHd_of_K KX (by kernel_rfl)
      · cases hp
