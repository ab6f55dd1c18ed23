import PyProof.Rows.All
import Wide.All
import OpenK.AllK
import Wide.FinOn
import PyProof.ReprRoads
import KE.KNestM
import HandS.ForMost
import HandS.EndTab
import HandS.ExcIs
import HandS.ExcValue
import HandS.ExcOwn
import HandS.RaiseMore
import HandS.IsInst
import HandS.Gcd
import HandS.Wide
import HandS.WideMore
import HandS.CallLocal
import HandS.WordsExc
import HandS.Style
import HandS.Zip0
import HandS.Walk
import PyProof.InstNe
import PySem.Challenge.RW_hitclocks_k01_words_read
import HandS.Strs
import HandS.ExcInit
import KE.KExcSuper
import PyProof.Rows.StrSigns2
import HandS.ExcField
import KE.KExcIs
import HandS.TupAny
import HandS.Lambda
import HandS.Conv
import PyProof.ReprLen
set_option Elab.async false
set_option linter.all false
set_option maxRecDepth 100000
set_option maxHeartbeats 2000000
namespace HG
open PySem PySem.Spec PyProof.Rows L2

/-! ## repr of data, where no repr runs around -/
abbrev NoG (A : Around) : Prop := A.guards = some []

def rRepr (K : PySem.W.Frag) : List V → Hp → VK → Prop := fun xs H Q =>
  ∃ v d, xs = [v] ∧ Dp K H v d ∧ d.showable = true ∧ d.hasDict = false ∧ d.depth ≤ 64
    ∧ d.shown.length ≤ sizeLine ∧ Q (.str d.shown) H

theorem call_reprD {X : Cx} (hg : NoG X.A) (hu : X.A.units + 66 < cLine) :
    CallR X (.builtin "repr") (rRepr X.K) := by
  intro pins s σ H xs us Q I r h
  obtain ⟨v, d, rfl, hd, hs, hn, hdep, hz, q⟩ := h
  cases r with
  | cons rv rn =>
    rename_i u us'
    cases rn
    obtain ⟨as, hr⟩ := Dp.reads I d v u hd rv
    cases hd with
    | non =>
      cases rv
      simp only [PyData.shown] at q
      exact PySem.P.repr_of_none ⟨.str _, H, I.tok _, ⟨_, rfl⟩, q⟩
    | bl b =>
      cases rv
      simp only [PyData.shown] at q
      exact PySem.P.repr_of_bool ⟨.str _, H, I.tok _, ⟨_, rfl⟩, q⟩
    | int i =>
      obtain ⟨t, rfl⟩ := rv
      simp only [PyData.shown] at q
      exact PySem.P.repr_of_int (by simpa [PyData.showable] using hs) ⟨.str _, H, I.tok _, ⟨_, rfl⟩, q⟩
    | str x =>
      obtain ⟨t, rfl⟩ := rv
      simp only [PyData.shown] at q
      exact PySem.P.repr_of_str ⟨.str _, H, I.tok _, ⟨_, rfl⟩, q⟩ (by simpa only [PyData.shown] using hz)
    | lst hq ha =>
      obtain rfl := (show u = Value.ref _ from rv)
      exact repr_of_reads' hr hs (fun z => by rw [hn] at z; cases z) hg (by omega) (fun _ _ e => e)
        (fun h' u tk hk => ⟨.str _, H, I.kept (t' := tk) hk, ⟨_, rfl⟩, q⟩) hz
    | tup hq ha =>
      obtain rfl := (show u = Value.ref _ from rv)
      exact repr_of_reads' hr hs (fun z => by rw [hn] at z; cases z) hg (by omega) (fun _ _ e => e)
        (fun h' u tk hk => ⟨.str _, H, I.kept (t' := tk) hk, ⟨_, rfl⟩, q⟩) hz

/-! ## defs that may ask repr: promised where no repr runs around -/
structure FnP (P : Program) (w : World) (K : PySem.W.Frag) (mg : Str → Option Value) (base : Heap) (CX : CXT)
    (k : Nat) (f : Addr) (fd : FuncData) (ps : List Str) (sp : Sp) : Prop where
  args : ∀ vs H Q E, sp vs H Q E → vs.length = ps.length
  goes : ∀ (A : Around) (frames : List Env) (s : Shared) (H : Hp) (given : Args) (us : List Value) (vs : List V)
    (Q : VK) (E : XK), Room k A → NoG A → Env0 P w K mg base A frames s H → BindsTo s fd given (ps.zip us) →
    Vals vs us → sp vs H Q E → codeAny (model P w) A (.call (.ref f) given) (CR CX frames P w H s Q E) s

section
variable {P : Program} {w : World} {K : PySem.W.Frag} {mg : Str → Option Value} {base : Heap}
theorem FnP.ofFun {x qual : Str} {st : Stmt} {f : Addr} {fd : FuncData} {N ps : List Str} {k : Nat} {sp : Sp}
    (F : Fun K x qual st f fd) (S : FnScope N ps (defScope st))
    (len : ∀ vs H Q E, sp vs H Q E → vs.length = ps.length)
    (body : ∀ (cdv : Value) (A : Around) (frames : List Env) (s : Shared) (H : Hp) (vs : List V) (Q : VK) (E : XK),
      NoG (A.deeper (envOfC qual (defScope st) s.heap.objs.size f cdv)) →
      Room k (A.deeper (envOfC qual (defScope st) s.heap.objs.size f cdv)) → sp vs H Q E →
      ∃ t, PSs (cxOf CX0 P w K mg base N qual (defScope st) f cdv A frames s H E).nox (defBody st) t ∧
        t { nx := fun _ H' => Q .non H', rt := Q } (start N vs) H) :
    FnP P w K mg base CX0 (k + 1) f fd ps sp := by
  obtain ⟨oc, od, kV, doc, pm, an, cdv, ct, osl, rfl, lk, hcd⟩ := F.ex
  refine ⟨len, fun A frames s H given us vs Q E room ng e0 hb hv hs => ?_⟩
  refine LamX.run_ofS lk hcd S room e0 hb hv (len _ _ _ _ hs) fun room' => ?_
  obtain ⟨t, h, q⟩ := body cdv A frames s H vs Q E ng room' hs
  exact ⟨t, h.nox, q⟩
theorem FnP.ofOk {k : Nat} {f : Addr} {fd : FuncData} {ps : List Str} {sp : Sp} {CX : CXT}
    (F : FnOk P w K mg base CX k f fd ps sp) : FnP P w K mg base CX k f fd ps sp :=
  ⟨F.len, fun A fr s H g us vs Q E r _ e b v h => F.run A fr s H g us vs Q E r e b v h⟩
end

section
variable {X : Cx} {CX : CXT} {k : Nat} {f : Addr} {fd : FuncData} {ps ks : List Str} {sp : Sp} {dvs : List V}
  {ds : List Value} {E : XK} {x : Str} {p pos : Pos} {e : Expr} {es : List Expr} {t tk : TA} {kws : List Keyword}
theorem FnP.goesTo {pins : List (Addr × Obj)} {σ : L2.St} {H : Hp} {s : Shared} {Q : VK} {given : Args} {us : List Value}
    {vs : List V} (F : FnP X.prog X.w X.K X.mg X.base CX k f fd ps sp) (room : Room k X.A) (ng : NoG X.A)
    (lets : Passes CX X E) (I : Inv X pins σ H s) (hb : BindsTo s fd given (ps.zip us)) (r : Vals vs us)
    (h : sp vs H Q E) :
    codeAny (model X.prog X.w) X.A (.call (.ref f) given)
      (fun r s' => match r with
        | .ok (.ret u) => EP X pins σ Q u s'
        | .ok _ => False
        | .error z => X.xe z s') s := by
  refine codeAny_mono (F.goes X.A X.stack s H given us vs Q E room ng I.env0 hb r h) fun res s' hq => ?_
  match res, hq with
  | .error z, hq => exact lets pins σ H s z s' I hq
  | .ok (.ret u), hq => exact I.after hq
  | .ok .next, hq => exact hq.elim
  | .ok .brk, hq => exact hq.elim
  | .ok .cont, hq => exact hq.elim
theorem pe_callP (F : FnP X.prog X.w X.K X.mg X.base CX k f fd ps sp) (room : Room k X.A) (ng : NoG X.A)
    (glob : Gl X x) (at_ : X.mg x = some (.ref f)) (keep : PySem.W.keepIn X.K (.ref f) = true)
    (binds : Binds X.K fd ps []) (lets : Passes CX X E) (args : PA X (e :: es) t)
    (hdb : (x == ("__debug__" : Str)) = false := by decide)
    (he : starEach (e :: es) X.env = (false, eval e X.env) :: starEach es X.env := by rfl)
    (hpl : (backTo pos (starEach es X.env)).any (·.1) = false := by rfl) :
    PE X (.Call (.Name x p) (e :: es) [] pos) (fun σ H Q => t σ H fun vs H1 => sp vs H1 Q E) := by
  refine ⟨fun pins s σ H Q I h => wpAny_Call_Name_kw (ld_glob I glob at_ ?_ hdb)⟩
  refine PySem.W.callWith_K (h₀ := X.base) I.ok.mod.kin keep
    (thn (args.run pos pins s σ H _ I h) fun us s1 ⟨vs, H1, I1, r, q⟩ => ⟨I1.kIn, ?_⟩) he hpl
  have len : us.length = ps.length := by
    rw [← r.length]
    exact F.args _ _ _ _ q
  have b := binds s1 us I1.kIn (by rw [List.append_nil]; exact len)
  rw [List.append_nil] at b
  refine wpAny_call (codeAny_mono (F.goesTo room ng lets I1 b r q) fun res s' hq => ?_)
  match res, hq with
  | .error z, hq => exact hq
  | .ok (.ret u), hq => exact hq
  | .ok .next, hq => exact hq.elim
  | .ok .brk, hq => exact hq.elim
  | .ok .cont, hq => exact hq.elim
end
end HG
set_option maxHeartbeats 2000000
namespace HG
open PySem PySem.Spec PyProof.Rows L2

/-! ## a caught exception that is kept as a value -/
/-- an exception of the class cls, with the own dict d, stands at a -/
def Exn (cls : Value) (d : Option Addr) (a : Addr) : HO :=
  .ext fun h => ∃ (ob : Obj) (fs : Array Value), h.get? a = some ob ∧ Zc cls d ob ∧ ob.data = .fields fs

theorem exn_ok {P : Program} {w : World} {H : Hp} {h : Heap} {a : Addr} {cls : Value} {d : Option Addr} {ob : Obj}
    {fs : Array Value} (e : h.get? a = some ob) (z : Zc cls d ob) (f : ob.data = .fields fs) :
    ObjOk P w H h a (Exn cls d a) :=
  ⟨⟨ob, fs, e, z, f⟩, ⟨ob, e⟩, fun _ _ ⟨o, v, q, r⟩ keep => ⟨o, v, keep o q, r⟩⟩

section
variable {X : Cx} {pins : List (Addr × Obj)} {σ : L2.St} {H : Hp} {s : Shared}
theorem track {a : Addr} {ob : Obj} {fs : Array Value} {cls : Value} {d : Option Addr} (I : Inv X pins σ H s)
    (at_ : s.heap.get? a = some ob) (z : Zc cls d ob) (f : ob.data = .fields fs) (na : H a = none)
    (young : X.s_0.heap.get? a = none) (nL : a ≠ X.env.locals) (np : ∀ p ∈ X.pn ++ pins, p.1 ≠ a) :
    Inv X pins σ (upd H a (Exn cls d a)) s := by
  have other : ∀ b, b ≠ a → upd H a (Exn cls d a) b = H b := fun b nb => upd_ne nb
  have cellNe : ∀ y c, X.env.cells.lookup y = some c → c ≠ a := fun y c hc q => by
    obtain ⟨v, o, ho, hd⟩ := I.cell y c hc
    rw [q, at_] at ho
    cases ho
    rw [f] at hd
    cases hd
  refine { ok := I.ok, os := I.os, bare := I.bare, base := ?_, loc := I.loc, cell := I.cell, free := ?_,
           freeC := ?_, pin := ?_, hok := ?_, len := I.len }
  · refine { keep := I.base.keep, slot := I.base.slot, free := ?_, there := I.base.there, tups := ?_,
             frzs := ?_, tbls := ?_ }
    · intro b o hb hn hx
      rw [other b (fun q => by rw [q, young] at hb; cases hb)]
      exact I.base.free b o hb hn hx
    · intro b xs hb
      have q := I.base.tups b xs hb
      rw [other b (ne_of_none q na)]
      exact q
    · intro b o u hb
      have q := I.base.frzs b o u hb
      rw [other b (ne_of_none q na)]
      exact q
    · intro b ps hb
      obtain ⟨more, q⟩ := I.base.tbls b ps hb
      exact ⟨more, by rw [other b (ne_of_none q na)]; exact q⟩
  · rw [other _ (Ne.symm nL)]
    exact I.free
  · intro y c hc
    rw [other c (cellNe y c hc)]
    exact I.freeC y c hc
  · intro p hp
    obtain ⟨p1, p2, p3, p4, p5⟩ := I.pin p hp
    exact ⟨p1, by rw [other _ (np p hp)]; exact p2, p3, p4, p5⟩
  · exact I.hok.laidN (fun _ _ q => q) na (exn_ok at_ z f)

/-- isinstance(e, C), e a kept exception -/
def rIsX (K : PySem.W.Frag) : List V → Hp → VK → Prop := fun xs H Q =>
  ∃ (a D C : Addr) (b : Bool), xs = [.ref a, .ref C] ∧ H a = some (Exn (.ref D) none a) ∧ ExcC K D
    ∧ PySem.W.kitOne K (.ref D) (.ref C) = some b ∧ Q (.bl b) H
theorem call_isX {X : Cx} : CallR X (.builtin "isinstance") (rIsX X.K) := by
  intro pins s σ H xs us Q I r h
  obtain ⟨a, D, C, b, rfl, ha, cl, hk, q⟩ := h
  obtain ⟨u1, u2, rfl, r1, r2⟩ := vals2 r
  cases r1
  cases r2
  obtain ⟨⟨ob, fs, at_, ⟨z1, z2⟩, f⟩, _, _⟩ := I.hok a _ ha
  have J : PySem.W.InstAt s.heap a ob D none := by
    obtain ⟨oc, od, oda, osl⟩ := ob
    dsimp only at z1 z2 f
    subst z1 z2 f
    exact ⟨at_, rfl, rfl, trivial⟩
  refine PySem.W.kia_one (PySem.W.handS_kitx_exc cl.hg cl.hk cl.hs cl.hd cl.ha cl.hn cl.ht cl.hm) I.kIn J hk
    (fun z => nomatch z) fun tk => ?_
  exact ⟨.bl b, H, I.kept (t' := tk) (fun _ _ z => z), rfl, q⟩
end

section
variable {X : Cx} {x n : Str} {c : Value} {i : Nat} {body suite : List Stmt} {b₀ : Stmt} {np pos pos' : Pos}
  {tb : WX → TS} {ts : Addr → TS}
/-- every exception of the body is one of the clause's class; behind the suite it is kept -/
def wKeep (K : PySem.W.Frag) (len : Nat) (c : Value) (i : Nat) (ts : Addr → TS) (D : Ends) : WX := fun cls d σ H =>
  PySem.W.exmOne K cls c = some true ∧ (σ.length = len → ∀ a, H a = none →
    ts a { nx := fun σ' H' => D.nx (σ'.set i none) (upd H' a (Exn cls d a)), rt := fun _ _ => False }
      (σ.set i (some (.ref a))) H)
theorem ps_try_keep (stack : X.stack = X.env :: X.outer) (frame : X.env.frame = some X.env.locals) (ex0 : X.ex = [])
    (nd : X.N.Nodup) (at_ : X.N[i]? = some n) (loc : X.env.kindOf n = some .local) (names : Names X x c)
    (hb : ∀ (W : WX) (pn : List (Addr × Obj)) (xe : Value → Shared → Prop), Takes (X.tr pn xe) W →
      PassesOwn (model X.prog X.w) X.A X.env xe → PSs (X.tr pn xe) body (tb W))
    (hsu : ∀ (a : Addr) (pn : List (Addr × Obj)), PSs (X.suite a pn) (b₀ :: suite) (ts a)) :
    PS X (.Try body [.ExceptHandler (some (.Name x np)) (some n) (b₀ :: suite) pos'] [] [] pos)
      (fun D σ H => tb (wKeep X.K X.N.length c i ts D) D σ H) := by
  refine ⟨fun pins s σ H D I h => wpAny_Try_except ?_⟩
  have ok := I.ok
  have around : X.A.frames = some (X.env :: X.outer) := by
    rw [ok.frames, stack]
  have isLoc : Loc X.env.scope n := .inl loc
  let after : Value → Shared → Prop := fun e z₁ =>
    wpAny (model X.prog X.w) X.A (noteFrame e X.env) (fun _ z₂ =>
      wpAny (model X.prog X.w) X.A (setFlight e none) (fun _ z₃ =>
        wpAny (model X.prog X.w) X.A
          (handleBy e X.env [.ExceptHandler (some (.Name x np)) (some n) (b₀ :: suite) pos'])
          (SP X pins D) X.xe z₃) X.xe z₂) X.xe z₁
  have takes : Takes (X.tr (X.pn ++ pins) after) (wKeep X.K X.N.length c i ts D) := by
    intro u z air
    obtain ⟨a, B, sI, pins₁, σ₁, H₁, cls, d, rfl, J₁, ground, up, sky, na, os, ag, hit, then_⟩ := air
    have J : Inv X pins σ₁ H₁ sI := J₁.ofTry ok
    have sky₁ : Sky B (X.env :: X.outer) a (Zc cls d) X.env.locals z.heap := by
      rw [← stack]
      exact sky
    show wpAny (model X.prog X.w) X.A (noteFrame (.ref a) X.env) _ _ _
    refine Sky.land Zc.steady around frame sky₁ fun hA flA upA => ?_
    have JA : Inv X pins σ₁ H₁ { z with heap := hA } := J.landed ground flA.1 (up.trans upA) os ag
    obtain ⟨oA, vA, eA, zA, dA⟩ := flA.there
    have notFrame : a ∉ frs (X.env :: X.outer) := fun hm => by
      obtain ⟨_, o₂, e₂, nf⟩ := flA.2.2.1.mem hm
      rw [eA] at e₂
      cases e₂
      exact nf _ dA
    have nL : a ≠ X.env.locals := fun q =>
      notFrame (List.mem_filterMap.mpr ⟨X.env, List.mem_cons_self, by rw [frame, q]⟩)
    have nF : a ∉ X.fs := fun hm => by
      obtain ⟨e, he, q⟩ := List.mem_filterMap.mp hm
      exact notFrame (List.mem_filterMap.mpr ⟨e, List.mem_cons_of_mem _ he, q⟩)
    have notIn : ∀ o, sI.heap.get? a ≠ some o := fun o q => by
      have q₂ := ground a o q (by rw [stack]; exact notFrame)
      rw [flA.2.1] at q₂
      cases q₂
    have young : X.s_0.heap.get? a = none := by
      cases q : X.s_0.heap.get? a with
      | none => rfl
      | some o =>
        obtain ⟨o₂, q₂⟩ := J.base.there a o q (by rw [ex0]; exact fun z => nomatch z)
        exact (notIn o₂ q₂).elim
    have apart : ∀ p ∈ X.pn ++ pins, p.1 ≠ a := fun p hp q => by
      have q₂ := (J.pin p hp).1
      rw [q] at q₂
      exact notIn _ q₂
    have SA := JA.suite eA dA na nL nF
    refine wpAny_handleBy_cons (codeAny_handlers_test ?_) (by intro q; cases q)
    have isOf : PySem.W.Looks (model X.prog X.w) hA (typeOf (.ref a)) cls := fun A' Q' E' s' keep q =>
      wpAny_typeOf_ref (keep _ _ eA) (by rw [zA.1]; exact q)
    have fits := PySem.W.exm_one (M := model X.prog X.w) JA.kIn isOf hit
    have asks : ∀ {Q E : Value → Shared → Prop}, Q c { z with heap := hA } →
        wpAny (model X.prog X.w) (X.A.mark (some (.ref a))) (eval (.Name x np) X.env) Q E { z with heap := hA } := by
      intro Q E q
      obtain ⟨g, dbg, m | ⟨m, v, nn⟩⟩ := names
      · exact ld_glob (X := X.suite a ((a, oA) :: (X.pn ++ pins))) SA g m q dbg
      · exact ld_blt (X := X.suite a ((a, oA) :: (X.pn ++ pins))) SA g m v q nn dbg
    refine asks (fits.here (codeAny_handlers_suite_as ?_))
    refine HandSPX.lands_againZ flA fun hB flB upB => ?_
    have JB : Inv X pins σ₁ H₁ { z with heap := hB } :=
      J.landed ground flB.1 ((up.trans upA).trans upB) os ag
    obtain ⟨oB, vB, eB, zB, dB⟩ := flB.there
    have SB := JB.suite eB dB na nL nF
    refine store_ok (X := X.suite a ((a, oB) :: (X.pn ++ pins))) (v := .ref a) SB nd at_ isLoc rfl
      (fun sC SC => ?_) (.inr loc)
    refine wpAny_mono ((hsu a _).run [] sC _ H₁ _ SC (then_ J.len a na)) (fun f sD hD => ?_) (fun _ _ q => q.elim)
    match f, hD with
    | .next, hD =>
      obtain ⟨σD, HD, SD, qD⟩ := hD
      have own := SD.pin (a, oB) (List.mem_append_left _ List.mem_cons_self)
      have JD : Inv X ((a, oB) :: pins) σD HD sD := by
        have J0 := SD.unsuite ok
        refine { ok := J0.ok, os := J0.os, bare := J0.bare, base := J0.base, loc := J0.loc, cell := J0.cell,
                 free := J0.free, freeC := J0.freeC, pin := ?_, hok := J0.hok, len := J0.len }
        intro p hp
        rcases List.mem_append.mp hp with q | q
        · exact J0.pin p (List.mem_append_left _ q)
        · rcases List.mem_cons.mp q with q | q
          · rw [q]
            exact own
          · exact J0.pin p (List.mem_append_right _ q)
      refine gone_ok JD nd at_ loc fun sE JE => ?_
      have ownE := JE.pin (a, oB) (List.mem_append_right _ List.mem_cons_self)
      have JE' : Inv X pins (σD.set i none) HD sE := by
        refine { ok := JE.ok, os := JE.os, bare := JE.bare, base := JE.base, loc := JE.loc, cell := JE.cell,
                 free := JE.free, freeC := JE.freeC, pin := fun p hp => JE.pin p ?_, hok := JE.hok, len := JE.len }
        rcases List.mem_append.mp hp with q | q
        · exact List.mem_append_left _ q
        · exact List.mem_append_right _ (List.mem_cons_of_mem _ q)
      exact ⟨_, _, track JE' ownE.1 zB dB ownE.2.1 young nL apart, qD⟩
    | .brk, hD =>
      obtain ⟨_, _, _, qD⟩ := hD
      exact qD.elim
    | .cont, hD =>
      obtain ⟨_, _, _, qD⟩ := hD
      exact qD.elim
    | .ret u, hD =>
      obtain ⟨_, _, _, _, _, qD⟩ := hD
      exact qD.elim
  refine wpAny_mono ((hb (wKeep X.K X.N.length c i ts D) (X.pn ++ pins) after takes PassesOwn.looking).run [] s σ H D
    (I.toTry _) h) (fun f s1 hf => ?_) (fun _ _ he => he)
  match f, hf with
  | .next, hf =>
    obtain ⟨σ', H', J', q⟩ := hf
    exact wpAny_execs_nil ⟨σ', H', J'.ofTry ok, q⟩
  | .brk, hf =>
    obtain ⟨σ', H', J', q⟩ := hf
    exact ⟨σ', H', J'.ofTry ok, q⟩
  | .cont, hf =>
    obtain ⟨σ', H', J', q⟩ := hf
    exact ⟨σ', H', J'.ofTry ok, q⟩
  | .ret u, hf =>
    obtain ⟨v, σ', H', J', r, q⟩ := hf
    exact ⟨v, σ', H', J'.ofTry ok, r, q⟩
end
end HG
set_option maxHeartbeats 2000000
namespace HG
open PySem PySem.Spec PyProof.Rows L2 LamX

/-! ## the law's end: a promise that holds where no repr runs around; tables of code objects; the script's bits -/
section
variable {P : Program} {w : World} {K : PySem.W.Frag} {mg mb : Str → Option Value} {CX : CXT} {k : Nat}
  {fa a : Addr} {cs : List (Addr × Addr)} {fd : FuncData} {x : Str} {sp : Sp} {z : Shared} {vs : List Value} {ns : List Int}
abbrev emptyTab : Obj := { cls := .none, data := .fields #[] }
theorem end_call (KX : K.In z.heap) (nsG : z.heap.Ns mainGlobals mg) (nsB : z.heap.Ns builtinsNs mb)
    (boot : ∀ y : Str, y ≠ "__name__" → mb y = bootBuiltins y) (lim : z.heap.NoLimit) (gens : z.gens = #[])
    (tabs : ∀ p ∈ cs, z.heap.get? p.2 = some emptyTab) (notK : ∀ p ∈ cs, K.lookup p.2 = none)
    (code : ∀ p ∈ cs, PySem.W.CodeHd z.heap p.1 p.2)
    (bmod : ∃ (bm : Addr) (ob : Obj), mg "__builtins__" = some (.ref bm) ∧ bm ≠ builtinsNs ∧
      z.heap.get? bm = some ob ∧ ob.cls = .type "module" ∧ ob.dict = some builtinsNs ∧ ob.data = .plain)
    (isList : z.heap.get? a = some { cls := .type "list", data := .seq vs.toArray }) (areInts : IntsAre vs ns)
    (len : ns.length ≤ sizeLine) (room : Room k callerA)
    (F : ∀ base : Heap, K.In base → base.Ns mainGlobals mg → (∀ p ∈ cs, TabB base mg p.1 p.2) →
      FnP P w K mg base CX k fa fd [x] sp)
    (binds : ∀ (s : Shared) (u : Value), BindsTo s fd ⟨[u], []⟩ [(x, u)])
    (want : ∀ H : Hp, (∀ p ∈ cs, H p.2 = some (.tbl #[])) → SqL K H a (ns.map V.int) →
      sp [.ref a] H (fun v _ => v = .bl true) fun _ _ _ => False)
    (none_ : ∀ H e s', CX [] H z (fun _ _ _ => False) e s' → False) :
    codeAny (model P w) callerA (.call (.ref fa) ⟨[.ref a], []⟩)
      (fun r s' => r = .ok (.ret (.bool true)) ∧ OldK z.heap s'.heap ∧ s'.os = z.os ∧ AllBare s'.gens) z := by
  have rv := vals_ints areInts
  have lenV := areInts.length
  have tabAt : ∀ b : Addr, b ∈ cs.map (·.2) → z.heap.get? b = some emptyTab := by
    intro b hb
    obtain ⟨p, hp, rfl⟩ := List.mem_map.mp hb
    exact tabs p hp
  have aNot : a ∉ cs.map (·.2) := by
    intro hm
    have q := tabAt a hm
    rw [isList] at q
    cases q
  have inT : ∀ p ∈ cs, p.2 ∈ cs.map (·.2) := fun p hp => List.mem_map.mpr ⟨p, hp, rfl⟩
  have main : ∀ H : Hp, (∀ p ∈ cs, H p.2 = some (.tbl #[])) →
      (∀ b, H b = none ∨ b ∈ cs.map (·.2) ∨ ∃ o xs, H b = some (.frz o (.lst xs))) → SqL K H a (ns.map V.int) →
      HOk P w H z.heap → (∀ b, H b ≠ none → b = a ∨ b ∈ cs.map (·.2)) → (H a ≠ none → K.lookup a = none) →
      codeAny (model P w) callerA (.call (.ref fa) ⟨[.ref a], []⟩)
        (fun r s' => r = .ok (.ret (.bool true)) ∧ OldK z.heap s'.heap ∧ s'.os = z.os ∧ AllBare s'.gens) z := by
    intro H hT kinds script hok only freeK
    have keepB : ∀ {b : Addr} {o : Obj}, z.heap.get? b = some o → H b = none →
        (hidT z.heap H).get? b = some o := fun e n => hidT_get e n
    have untracked : ∀ {b : Addr} {o : Obj}, z.heap.get? b = some o → (∀ us n, o.data ≠ .seq us n) →
        o.data ≠ .fields #[] → H b = none := by
      intro b o e h1 h2
      cases q : H b with
      | none => rfl
      | some u =>
        rcases only b (by rw [q]; exact fun c => nomatch c) with e₁ | e₁
        · subst e₁
          rw [isList] at e
          cases e
          exact (h1 _ _ rfl).elim
        · rw [tabAt b e₁] at e
          cases e
          exact (h2 rfl).elim
    have noDict : ∀ {b : Addr} {o : Obj} {es : Array DictEntry} {ep : Nat}, z.heap.get? b = some o →
        o.data = .dict es ep → H b = none := by
      intro b o es ep e d
      refine untracked e (fun us n q => ?_) (fun q => ?_) <;> (rw [d] at q; cases q)
    have nsKeep : ∀ {b : Addr} {m : Str → Option Value}, z.heap.Ns b m → (hidT z.heap H).Ns b m :=
      fun {b m} ⟨o, es, ep, e, d, r⟩ => ⟨o, es, ep, keepB e (noDict e d), d, r⟩
    have Kb : K.In (hidT z.heap H) := by
      intro b o e
      refine keepB (KX b o e) ?_
      cases q : H b with
      | none => rfl
      | some u =>
        rcases only b (by rw [q]; exact fun c => nomatch c) with e₁ | e₁
        · subst e₁
          rw [freeK (by rw [q]; exact fun c => nomatch c)] at e
          cases e
        · obtain ⟨p, hp, rfl⟩ := List.mem_map.mp e₁
          rw [notK p hp] at e
          cases e
    have limits : (hidT z.heap H).NoLimit := by
      obtain ⟨mc, h1, h2⟩ := lim
      exact ⟨mc, nsKeep h1, h2⟩
    have M : L2.Mod K mg (hidT z.heap H) := ⟨Kb, nsKeep nsG, ⟨mb, nsKeep nsB, boot⟩, limits⟩
    have TB : ∀ p ∈ cs, TabB (hidT z.heap H) mg p.1 p.2 := by
      intro p hp
      have here := tabs p hp
      refine ⟨?_, ?_, fun q => ?_⟩
      · obtain ⟨o, us, file, tf, flags, tg, inF, text, tt, e₁, c₁, c₂, c₃, c₄, c₅, c₆, c₇, c₈, ne⟩ := code p hp
        refine ⟨o, us, file, tf, flags, tg, inF, text, tt, keepB e₁ (untracked e₁ (fun vs n q => ?_) fun q => ?_),
          c₁, c₂, c₃, c₄, c₅, c₆, c₇, c₈, ne⟩
        · rw [c₂] at q
          cases q
        · rw [c₂] at q
          cases q
          simp at c₃
      · obtain ⟨bm, ob, m₁, m₂, m₃, m₄, m₅, m₆⟩ := bmod
        refine ⟨bm, ob, m₁, m₂, fun q => ?_, fun q => ?_, keepB m₃ (untracked m₃ (fun vs n q => ?_) fun q => ?_),
          m₄, m₅, m₆⟩
        · obtain ⟨o, es, ep, e, hd, _⟩ := nsG
          rw [q, e] at m₃
          cases m₃
          rw [hd] at m₆
          cases m₆
        · rw [q, here] at m₃
          cases m₃
          cases m₆
        · rw [m₆] at q
          cases q
        · rw [m₆] at q
          cases q
      · obtain ⟨o, es, ep, e, hd, _⟩ := nsG
        rw [q, here] at e
        cases e
        cases hd
    have e0 : Env0 P w K mg (hidT z.heap H) callerA [] z H := by
      refine ⟨rfl, M, fun b o e => of_hidT e, Nat.le_of_eq (hidT_size _ _), trivial, fun b hb => ?_, hok, .of_eq gens⟩
      exact absurd (show b ∈ ([] : List Addr) from hb) (fun c => nomatch c)
    have run := (F _ Kb (nsKeep nsG) TB).goes callerA [] z H ⟨[.ref a], []⟩ [.ref a] [.ref a] _ _ room rfl e0
      (binds z (.ref a)) (.cons rfl .nil) (want H hT script)
    refine codeAny_mono run fun r s' h => ?_
    match r, h with
    | .error e, h => exact (none_ H e s' h).elim
    | .ok .next, h => exact h.elim
    | .ok .brk, h => exact h.elim
    | .ok .cont, h => exact h.elim
    | .ok (.ret u), h =>
      obtain ⟨v, H', os, bare, un, hok', rel, q⟩ := h
      have q₁ : v = .bl true := q
      subst q₁
      obtain rfl : u = Value.bool true := rel
      have same : ∀ b o, b ∉ cs.map (·.2) → z.heap.get? b = some o → s'.heap.get? b = some o := by
        intro b o nb e
        cases q : H b with
        | none =>
          exact un.keep b o e q (fun c => nomatch (show b ∈ ([] : List Addr) from c)) (fun c => nomatch c)
        | some u =>
          rcases kinds b with c | c | ⟨ob, xs, c⟩
          · rw [q] at c
            cases c
          · exact (nb c).elim
          · obtain ⟨e₁, _⟩ := hok b _ c
            obtain ⟨e₂, _⟩ := hok' b _ (un.frzs b ob _ c)
            rw [e] at e₁
            cases e₁
            exact e₂
      have grown : ∀ p ∈ cs, ∃ more : Array Value, s'.heap.get? p.2 = some { cls := .none, data := .fields more } := by
        intro p hp
        obtain ⟨more, c⟩ := un.tbls p.2 #[] (hT p hp)
        exact ⟨_, hok' p.2 _ c⟩
      refine ⟨rfl, ⟨fun b o e => ?_, fun b o e => ?_⟩, os, bare⟩
      · by_cases hb : b ∈ cs.map (·.2)
        · obtain ⟨p, hp, rfl⟩ := List.mem_map.mp hb
          obtain ⟨more, hm⟩ := grown p hp
          rw [tabs p hp] at e
          cases e
          refine .inr (.inl ⟨((code p hp).tab (tabs p hp)).isCodeTable, rfl, #[], more, rfl, ?_⟩)
          rw [Array.empty_append]
          exact hm
        · exact .inl (same b o hb e)
      · by_cases hb : b ∈ cs.map (·.2)
        · obtain ⟨p, hp, rfl⟩ := List.mem_map.mp hb
          obtain ⟨more, hm⟩ := grown p hp
          exact ⟨_, hm⟩
        · exact ⟨o, same b o hb e⟩
  let tabH : Hp := fun b => if b ∈ cs.map (·.2) then some (.tbl #[]) else none
  have tabYes : ∀ b, b ∈ cs.map (·.2) → tabH b = some (.tbl #[]) := fun b hb => if_pos hb
  have tabNo : ∀ b, b ∉ cs.map (·.2) → tabH b = none := fun b hb => if_neg hb
  cases hk : K.lookup a with
  | some o =>
    have e := KX a o hk
    rw [isList] at e
    cases e
    have sizeV : vs.toArray.size ≤ sizeLine := by
      rw [List.size_toArray, lenV]
      exact len
    have relV : Vals (ns.map V.int) vs.toArray.toList := by simpa using rv
    refine main tabH (fun p hp => tabYes _ (inT p hp)) (fun b => ?_)
      (.inr ⟨_, vs.toArray, _, hk, rfl, rfl, rfl, sizeV, relV⟩) (fun b u q => ?_) (fun b q => ?_)
      fun q => absurd (tabNo a aNot) q
    · by_cases hb : b ∈ cs.map (·.2)
      · exact .inr (.inl hb)
      · exact .inl (tabNo b hb)
    · by_cases hb : b ∈ cs.map (·.2)
      · rw [tabYes b hb] at q
        cases q
        exact tabAt b hb
      · rw [tabNo b hb] at q
        cases q
    · by_cases hb : b ∈ cs.map (·.2)
      · exact .inr hb
      · exact absurd (tabNo b hb) q
  | none =>
    let scr : HO := .frz { cls := .type "list", data := .seq vs.toArray } (.lst (ns.map V.int))
    have upA : upd tabH a scr a = some scr := upd_same
    have upN : ∀ b, b ≠ a → upd tabH a scr b = tabH b := fun b nb => upd_ne nb
    refine main (upd tabH a scr) (fun p hp => ?_) (fun b => ?_) (.inl (.inr ⟨_, upA⟩)) (fun b u q => ?_)
      (fun b q => ?_) fun _ => hk
    · rw [upN _ (fun q => aNot (by rw [← q]; exact inT p hp))]
      exact tabYes _ (inT p hp)
    · by_cases hb : b = a
      · subst hb
        exact .inr (.inr ⟨_, _, upA⟩)
      · rw [upN b hb]
        by_cases hb₂ : b ∈ cs.map (·.2)
        · exact .inr (.inl hb₂)
        · exact .inl (tabNo b hb₂)
    · by_cases hb : b = a
      · subst hb
        rw [upA] at q
        cases q
        refine ⟨isList, ?_, vs, _, rv, isList⟩
        rw [List.length_map]
        exact len
      · rw [upN b hb] at q
        by_cases hb₂ : b ∈ cs.map (·.2)
        · rw [tabYes b hb₂] at q
          cases q
          exact tabAt b hb₂
        · rw [tabNo b hb₂] at q
          cases q
    · by_cases hb : b = a
      · exact .inl hb
      · rw [upN b hb] at q
        by_cases hb₂ : b ∈ cs.map (·.2)
        · exact .inr hb₂
        · exact absurd (tabNo b hb₂) q
end

/-- what is to be known of the law's def at the head's heap h -/
def LawP (l : PySem.W.OpenLaw) (w : World) (K : PySem.W.Frag) (k n : Nat) (x : Str) (mg : Str → Option Value)
    (fa : Addr) (h : Heap) : Prop :=
  ∃ (fd : FuncData) (cs : List (Addr × Addr)) (sp : Sp), (∀ p ∈ cs, h.get? p.2 = some emptyTab) ∧
    (∀ p ∈ cs, K.lookup p.2 = none) ∧ (∀ p ∈ cs, PySem.W.CodeHd h p.1 p.2) ∧
    (∀ (s : Shared) (u : Value), BindsTo s fd ⟨[u], []⟩ [(x, u)]) ∧
    (∀ (H : Hp) (a : Addr) (ns : List Int), ns.length ≤ n → (∀ i ∈ ns, Builtin.Int.intBits i ≤ 1048576) →
      (∀ p ∈ cs, H p.2 = some (.tbl #[])) → SqL K H a (ns.map V.int) →
      sp [.ref a] H (fun v _ => v = .bl true) fun _ _ _ => False) ∧
    ∀ base : Heap, K.In base → base.Ns mainGlobals mg → (∀ p ∈ cs, TabB base mg p.1 p.2) →
      FnP l.prog w K mg base CX0 k fa fd [x] sp
theorem walk_ofP {l : PySem.W.OpenLaw} {n k : Nat} {q : Program} {loose : List Str}
    {XP : (Str → Option Value) → Heap → Prop} {YP : World → Heap → Prop} {d : DefRec} {K : Params → PySem.W.Frag}
    {x : Str} (most : l.most = some n) (small : n ≤ sizeLine) (plain : d.params.defaults = []) (room : Room k callerA)
    (inK : ∀ (w : World) (h : Heap), YP w h → (K w.params).In h)
    (F : ∀ (w : World) (mg : Str → Option Value) (fa : Addr) (h : Heap), YP w h → (K w.params).In h →
      h.Ns mainGlobals mg → mg d.name = some (.ref fa) → LawP l w (K w.params) k n x mg fa h) :
    PySem.W.WalkO q loose XP YP l.row.toRowW d [] (fun f vs => PySem.call f vs) := by
  refine Att.attach_callB most plain fun w s₀ z mg mb fa o pm cd doc a vs ns G Y ho hd hcd at_ list areInts many bits gens => ?_
  obtain ⟨fd, cs, sp, t1, t2, t3, b, want, fn⟩ := F w mg fa _ Y (inK w _ Y) G.T.g at_
  exact end_call (inK w _ Y) G.T.g G.T.b G.T.builtins G.T.nolimit gens t1 t2 t3 G.T.bmain list areInts
    (Nat.le_trans many small) room fn b (fun H h1 h2 => want H a ns many bits h1 h2) fun _ _ _ c => c.elim
end HG
set_option maxHeartbeats 2000000
namespace HG
open PySem PySem.Spec PyProof.Rows L2

/-! ## what stays -/
/-- but for the addresses ex, and for the tables of code objects -/
structure KeepW (ex : List Addr) (H H' : Hp) : Prop where
  all : ∀ a o, H a = some o → a ∉ ex → (∀ ps, o ≠ .tbl ps) → H' a = some o
  tup : ∀ a xs, H a = some (.tup xs) → H' a = some (.tup xs)
  frz : ∀ a o u, H a = some (.frz o u) → H' a = some (.frz o u)
  dom : ∀ a o, H a = some o → (∀ ps, o ≠ .tbl ps) → ∃ o', H' a = some o' ∧ ∀ ps, o' ≠ .tbl ps
/-- the tables too -/
structure Keep (ex : List Addr) (H H' : Hp) : Prop extends KeepW ex H H' where
  tbl : ∀ a ps, H a = some (.tbl ps) → H' a = some (.tbl ps)
instance {ex : List Addr} {H H' : Hp} : Coe (Keep ex H H') (KeepW ex H H') := ⟨fun k => k.toKeepW⟩
theorem KeepW.refl {ex : List Addr} {H : Hp} : KeepW ex H H := ⟨fun _ _ h _ _ => h, fun _ _ h => h, fun _ _ _ h => h, fun _ o h t => ⟨o, h, t⟩⟩
theorem Keep.refl {ex : List Addr} {H : Hp} : Keep ex H H := ⟨KeepW.refl, fun _ _ h => h⟩
theorem KeepW.trans {ex : List Addr} {H H1 H2 : Hp} (a : KeepW ex H H1) (b : KeepW ex H1 H2) : KeepW ex H H2 :=
  ⟨fun x o h n t => b.all x o (a.all x o h n t) n t, fun x o h => b.tup x o (a.tup x o h), fun x o u h => b.frz x o u (a.frz x o u h),
   fun x o h t => by
    obtain ⟨o', h', t'⟩ := a.dom x o h t
    exact b.dom x o' h' t'⟩
theorem Keep.trans {ex : List Addr} {H H1 H2 : Hp} (a : Keep ex H H1) (b : Keep ex H1 H2) : Keep ex H H2 :=
  ⟨a.toKeepW.trans b.toKeepW, fun x ps h => b.tbl x ps (a.tbl x ps h)⟩
theorem KeepW.more {ex ex' : List Addr} {H H' : Hp} (a : KeepW ex H H') (h : ∀ x ∈ ex, x ∈ ex') : KeepW ex' H H' :=
  ⟨fun x o e n t => a.all x o e (fun m => n (h x m)) t, a.tup, a.frz, a.dom⟩
theorem Keep.more {ex ex' : List Addr} {H H' : Hp} (a : Keep ex H H') (h : ∀ x ∈ ex, x ∈ ex') : Keep ex' H H' := ⟨a.toKeepW.more h, a.tbl⟩
theorem KeepW.nil {ex : List Addr} {H H' : Hp} (a : KeepW [] H H') : KeepW ex H H' := a.more fun _ h => nomatch h
theorem Keep.nil {ex : List Addr} {H H' : Hp} (a : Keep [] H H') : Keep ex H H' := a.more fun _ h => nomatch h
theorem KeepW.get {ex : List Addr} {H H' : Hp} {a : Addr} {o : HO} (k : KeepW ex H H') (e : H a = some o) (n : a ∉ ex)
    (t : ∀ ps, o ≠ .tbl ps := by (intro _ z; cases z)) : H' a = some o := k.all a o e n t
/-- an object that wasn't there at first may change -/
theorem KeepW.mut {ex : List Addr} {H H' : Hp} {p : Addr} {o : HO} (k : KeepW ex H H') (h : Fr0 H p) : KeepW ex H (upd H' p o) := by
  have ne : ∀ a u, H a = some u → (∀ ps, u ≠ .tbl ps) → a ≠ p := fun a u e t q => by
    subst q
    obtain ⟨ps, z⟩ := h u e
    exact t ps z
  refine ⟨fun a u e n t => ?_, fun a xs e => ?_, fun a ob u e => ?_, fun a u e t => ?_⟩
  · rw [upd_ne (ne a u e t)]
    exact k.all a u e n t
  · rw [upd_ne (ne a _ e (fun _ z => nomatch z))]
    exact k.tup a xs e
  · rw [upd_ne (ne a _ e (fun _ z => nomatch z))]
    exact k.frz a ob u e
  · rw [upd_ne (ne a u e t)]
    exact k.dom a u e t
theorem Keep.mut {ex : List Addr} {H H' : Hp} {p : Addr} {o : HO} (k : Keep ex H H') (h : H p = none) : Keep ex H (upd H' p o) := by
  refine ⟨k.toKeepW.mut (fr0_none h), fun a ps e => ?_⟩
  rw [upd_ne (ne_of_none e h)]
  exact k.tbl a ps e
theorem Keep.new {ex : List Addr} {H : Hp} {p : Addr} {o : HO} (h : H p = none) : Keep ex H (upd H p o) := Keep.refl.mut h
theorem Keep.ext {ex : List Addr} {H H' : Hp} (h : ∀ a o, H a = some o → H' a = some o) : Keep ex H H' :=
  ⟨⟨fun a o e _ _ => h a o e, fun a o e => h a _ e, fun a o u e => h a _ e, fun a o e t => ⟨o, h a o e, t⟩⟩, fun a ps e => h a _ e⟩
/-- the object at p, no tuple and no table, changes -/
theorem Keep.chg {ex : List Addr} {H : Hp} {p : Addr} {o u : HO} (h : H p = some u) (hp : p ∈ ex)
    (nt : ∀ xs, u ≠ .tup xs) (nf : ∀ o v, u ≠ .frz o v) (no : ∀ ps, o ≠ .tbl ps := by (intro _ z; cases z))
    (nu : ∀ ps, u ≠ .tbl ps := by (intro _ z; cases z)) : Keep ex H (upd H p o) := by
  refine ⟨⟨fun a v e n _ => ?_, fun a xs e => ?_, fun a ob v e => ?_, fun a v e t => ?_⟩, fun a ps e => ?_⟩
  · rw [upd_ne (fun q => n (by rw [q]; exact hp))]
    exact e
  · rw [upd_ne (fun q => nt xs (by rw [q, h] at e; exact Option.some.inj e))]
    exact e
  · rw [upd_ne (fun q => nf ob v (by rw [q, h] at e; exact Option.some.inj e))]
    exact e
  · by_cases q : a = p
    · rw [q, upd_same]
      exact ⟨_, rfl, no⟩
    · rw [upd_ne q]
      exact ⟨_, e, t⟩
  · rw [upd_ne (fun q => nu ps (by rw [q, h] at e; exact Option.some.inj e))]
    exact e
theorem KeepW.none {ex : List Addr} {H H' : Hp} {a : Addr} (k : KeepW ex H H') (h : H' a = none) : Fr0 H a := fun o e => by
  by_cases t : ∃ ps, o = .tbl ps
  · exact t
  · obtain ⟨o', e', _⟩ := k.dom a o e (fun ps z => t ⟨ps, z⟩)
    rw [h] at e'
    cases e'
theorem Keep.none {ex : List Addr} {H H' : Hp} {a : Addr} (k : Keep ex H H') (h : H' a = none) : H a = none := by
  cases q : H a with
  | none => rfl
  | some o =>
    obtain ⟨ps, rfl⟩ := k.toKeepW.none h o q
    rw [k.tbl a ps q] at h
    cases h
theorem sqT_keep {K : PySem.W.Frag} {ex : List Addr} {H H' : Hp} {a : Addr} {xs : List V} (k : KeepW ex H H') (h : SqT K H a xs) : SqT K H' a xs := by
  rcases h with (h | ⟨o, h⟩) | h
  · exact .inl (.inl (k.tup _ _ h))
  · exact .inl (.inr ⟨o, k.frz _ _ _ h⟩)
  · exact .inr h
theorem sqL_keep {K : PySem.W.Frag} {ex : List Addr} {H H' : Hp} {a : Addr} {xs : List V} (k : KeepW ex H H') (n : a ∉ ex) (h : SqL K H a xs) : SqL K H' a xs := by
  rcases h with (h | ⟨o, h⟩) | h
  · exact .inl (.inl (k.get h n))
  · exact .inl (.inr ⟨o, k.frz _ _ _ h⟩)
  · exact .inr h

/-! ## pairs of ints -/
def Pr (K : PySem.W.Frag) (H : Hp) (v : V) (a b : Int) : Prop := ∃ p, v = .ref p ∧ SqT K H p [.int a, .int b]
theorem Pr.keep {K : PySem.W.Frag} {ex : List Addr} {H H' : Hp} {v : V} {a b : Int} (k : KeepW ex H H') (h : Pr K H v a b) : Pr K H' v a b := by
  obtain ⟨p, e, q⟩ := h
  exact ⟨p, e, sqT_keep k q⟩
theorem Pr.new {K : PySem.W.Frag} {H : Hp} {p : Addr} {a b : Int} : Pr K (upd H p (.tup [.int a, .int b])) (.ref p) a b :=
  ⟨p, rfl, .inl (.inl upd_same)⟩

/-! ## defs that are called -/
structure Callee (P : Program) (w : World) (K : PySem.W.Frag) (mg : Str → Option Value) (base : Heap) (CX : CXT)
    (k : Nat) (x : Str) (ps : List Str) (sp : Sp) : Prop where
  ex : ∃ (f : Addr) (fd : FuncData), FnOk P w K mg base CX k f fd ps sp ∧ mg x = some (.ref f) ∧
    PySem.W.keepIn K (.ref f) = true ∧ Binds K fd ps [] ∧ ∃ oc od osl, K.lookup f = some ⟨oc, od, .func fd, osl⟩
structure CalleeP (P : Program) (w : World) (K : PySem.W.Frag) (mg : Str → Option Value) (base : Heap) (CX : CXT)
    (k : Nat) (x : Str) (ps : List Str) (sp : Sp) : Prop where
  ex : ∃ (f : Addr) (fd : FuncData), FnP P w K mg base CX k f fd ps sp ∧ mg x = some (.ref f) ∧
    PySem.W.keepIn K (.ref f) = true ∧ Binds K fd ps [] ∧ ∃ oc od osl, K.lookup f = some ⟨oc, od, .func fd, osl⟩
theorem fun_at {K : PySem.W.Frag} {x q : Str} {st : Stmt} {f : Addr} {fd : FuncData} (F : Fun K x q st f fd) :
    ∃ oc od osl, K.lookup f = some ⟨oc, od, .func fd, osl⟩ := by
  obtain ⟨oc, od, _, _, _, _, _, _, osl, _, lk, _⟩ := F.ex
  exact ⟨oc, od, osl, lk⟩
/-- a def of the text where the module's name x leads to it -/
structure Def (K : PySem.W.Frag) (mg : Str → Option Value) (x : Str) (st : Stmt) (ps : List Str) : Prop where
  ex : ∃ (f : Addr) (fd : FuncData), Fun K x x st f fd ∧ mg x = some (.ref f) ∧ Binds K fd ps []
def tCl (sp : Sp) (E : XK) (t : TA) : TE := fun σ H Q => t σ H fun vs H1 => sp vs H1 Q E
section
variable {X : Cx} {CX : CXT} {k n : Nat} {ps : List Str} {sp : Sp} {E : XK} {x : Str} {p pos : Pos} {e : Expr}
  {es : List Expr} {t : TA}
theorem pe_cE (C : Callee X.prog X.w X.K X.mg X.base CX k x ps sp) (room : Room n X.A) (lets : Passes CX X E)
    (args : PA X (e :: es) t) (hk : k ≤ n := by decide) (glob : Gl X x := by rfl)
    (hdb : (x == ("__debug__" : Str)) = false := by decide)
    (he : starEach (e :: es) X.env = (false, eval e X.env) :: starEach es X.env := by rfl)
    (hpl : (backTo pos (starEach es X.env)).any (·.1) = false := by rfl) :
    PE X (.Call (.Name x p) (e :: es) [] pos) (tCl sp E t) := by
  obtain ⟨f, fd, F, m, kp, b, _⟩ := C.ex
  have h := pe_call (p := p) (pos := pos) F (room.mono hk) glob m kp b .nil lets args hdb he hpl
  have q : tCall sp [] E t = tCl sp E t := by
    funext σ H Q
    show t σ H (fun vs H1 => sp (vs ++ []) H1 Q E) = t σ H fun vs H1 => sp vs H1 Q E
    congr 1
    funext vs H1
    rw [List.append_nil]
  rw [← q]
  exact h
theorem pe_c (C : Callee X.prog X.w X.K X.mg X.base CX0 k x ps sp) (room : Room n X.A) (args : PA X (e :: es) t)
    (hk : k ≤ n := by decide) (glob : Gl X x := by rfl)
    (hdb : (x == ("__debug__" : Str)) = false := by decide)
    (he : starEach (e :: es) X.env = (false, eval e X.env) :: starEach es X.env := by rfl)
    (hpl : (backTo pos (starEach es X.env)).any (·.1) = false := by rfl) :
    PE X (.Call (.Name x p) (e :: es) [] pos) (tCl sp E0 t) := pe_cE C room pass0 args hk glob hdb he hpl
/-- a def that may raise, called where it doesn't -/
theorem pe_cx (C : Callee X.prog X.w X.K X.mg X.base (L2.CX X.prog X.w) k x ps sp) (room : Room n X.A) (args : PA X (e :: es) t)
    (hk : k ≤ n := by decide) (glob : Gl X x := by rfl)
    (hdb : (x == ("__debug__" : Str)) = false := by decide)
    (he : starEach (e :: es) X.env = (false, eval e X.env) :: starEach es X.env := by rfl)
    (hpl : (backTo pos (starEach es X.env)).any (·.1) = false := by rfl) :
    PE X (.Call (.Name x p) (e :: es) [] pos) (tCl sp E0 t) := pe_cE C room passL args hk glob hdb he hpl
end
section
variable {P : Program} {w : World} {K : PySem.W.Frag} {mg : Str → Option Value} {base : Heap}
theorem Def.ok {x : Str} {st : Stmt} {N ps : List Str} {k : Nat} {sp : Sp} (D : Def K mg x st ps) (S : FnScope N ps (defScope st))
    (len : ∀ vs H Q E, sp vs H Q E → vs.length = ps.length)
    (body : ∀ (f : Addr) (cdv : Value) (A : Around) (outer : List Env) (s : Shared) (H : Hp) (vs : List V) (Q : VK) (E : XK),
      Room k (A.deeper (envOfC x (defScope st) s.heap.objs.size f cdv)) → sp vs H Q E →
      ∃ t, PSs (cxOf CX0 P w K mg base N x (defScope st) f cdv A outer s H E).nox (defBody st) t ∧
        t { nx := fun _ H' => Q .non H', rt := Q } (start N vs) H) :
    Callee P w K mg base CX0 (k + 1) x ps sp := by
  obtain ⟨f, fd, F, m, b⟩ := D.ex
  exact ⟨f, fd, F.ok S len fun cdv A outer s H vs Q E hr h => body f cdv A outer s H vs Q E hr h, m, F.kp, b, fun_at F⟩
theorem Def.okX {x : Str} {st : Stmt} {N ps : List Str} {k : Nat} {sp : Sp} (D : Def K mg x st ps) (S : FnScope N ps (defScope st))
    (len : ∀ vs H Q E, sp vs H Q E → vs.length = ps.length)
    (body : ∀ (f : Addr) (cdv : Value) (A : Around) (outer : List Env) (s : Shared) (H : Hp) (vs : List V) (Q : VK) (E : XK),
      Room k (A.deeper (envOfC x (defScope st) s.heap.objs.size f cdv)) → sp vs H Q E →
      ∃ t, PSs (cxOf (L2.CX P w) P w K mg base N x (defScope st) f cdv A outer s H E) (defBody st) t ∧
        t { nx := fun _ H' => Q .non H', rt := Q } (start N vs) H) :
    Callee P w K mg base (L2.CX P w) (k + 1) x ps sp := by
  obtain ⟨f, fd, F, m, b⟩ := D.ex
  exact ⟨f, fd, F.okX S len fun cdv A outer s H vs Q E hr h => body f cdv A outer s H vs Q E hr h, m, F.kp, b, fun_at F⟩
theorem Def.okP {x : Str} {st : Stmt} {N ps : List Str} {k : Nat} {sp : Sp} (D : Def K mg x st ps) (S : FnScope N ps (defScope st))
    (len : ∀ vs H Q E, sp vs H Q E → vs.length = ps.length)
    (body : ∀ (f : Addr) (cdv : Value) (A : Around) (outer : List Env) (s : Shared) (H : Hp) (vs : List V) (Q : VK) (E : XK),
      NoG (A.deeper (envOfC x (defScope st) s.heap.objs.size f cdv)) →
      Room k (A.deeper (envOfC x (defScope st) s.heap.objs.size f cdv)) → sp vs H Q E →
      ∃ t, PSs (cxOf CX0 P w K mg base N x (defScope st) f cdv A outer s H E).nox (defBody st) t ∧
        t { nx := fun _ H' => Q .non H', rt := Q } (start N vs) H) :
    CalleeP P w K mg base CX0 (k + 1) x ps sp := by
  obtain ⟨f, fd, F, m, b⟩ := D.ex
  exact ⟨f, fd, FnP.ofFun F S len fun cdv A outer s H vs Q E ng hr h => body f cdv A outer s H vs Q E ng hr h, m, F.kp, b, fun_at F⟩
end
end HG
set_option maxHeartbeats 2000000
namespace HG
open PySem PySem.Spec PyProof.Rows L2
/-! ## calls whose arguments are all named -/
/-- how the def binds its named arguments -/
def KwB (x : Str) (st : Stmt) (ps ks : List Str) : Prop :=
  ∀ (kV doc pm : Value) (an : Option Addr) (cdv ct : Value) (ws : List Value), ws.length = ps.length →
    bindArgs (PySem.W.fnOf x x (defArgs st) (defBody st) (defScope st) .none kV doc pm an cdv ct) ⟨[], ks.zip ws⟩ = pure (ps.zip ws.reverse)
theorem kwb1 {x p : Str} {st : Stmt} (h : ∀ (kV doc pm : Value) (an : Option Addr) (cdv ct a : Value),
    bindArgs (PySem.W.fnOf x x (defArgs st) (defBody st) (defScope st) .none kV doc pm an cdv ct) ⟨[], [(p, a)]⟩ = pure [(p, a)]) : KwB x st [p] [p] := by
  intro kV doc pm an cdv ct ws l
  match ws, l with
  | [a], _ => exact h kV doc pm an cdv ct a
theorem kwb2 {x p q : Str} {st : Stmt} (h : ∀ (kV doc pm : Value) (an : Option Addr) (cdv ct a b : Value),
    bindArgs (PySem.W.fnOf x x (defArgs st) (defBody st) (defScope st) .none kV doc pm an cdv ct) ⟨[], [(q, b), (p, a)]⟩ = pure [(p, a), (q, b)]) : KwB x st [p, q] [q, p] := by
  intro kV doc pm an cdv ct ws l
  match ws, l with
  | [b, a], _ => exact h kV doc pm an cdv ct a b
theorem vals_rev : ∀ {vs : List V} {us : List Value}, Vals vs us → Vals vs.reverse us.reverse
  | _, _, .nil => .nil
  | _, _, .cons r t => by
    rw [List.reverse_cons, List.reverse_cons]
    exact (vals_rev t).append (.cons r .nil)
section
variable {X : Cx} {CX : CXT} {k n : Nat} {ps ks : List Str} {sp : Sp} {E : XK} {x : Str} {p pos : Pos} {kws : List Keyword} {tk : TA} {st : Stmt}
def tKw (sp : Sp) (E : XK) (tk : TA) : TE := fun σ H Q => tk σ H fun zs H1 => sp zs.reverse H1 Q E
theorem pe_kwE (C : Callee X.prog X.w X.K X.mg X.base CX k x ps sp) (D : Def X.K X.mg x st ps) (B : KwB x st ps ks) (room : Room n X.A) (lets : Passes CX X E)
    (named : PK X kws tk) (hk : k ≤ n := by decide) (glob : Gl X x := by rfl)
    (hall : (backToKw pos (keywordEach kws X.env)).all (·.1.isSome) = true := by rfl)
    (hks : (backToKw pos (keywordEach kws X.env)).filterMap (·.1) = ks := by rfl)
    (hdb : (x == ("__debug__" : Str)) = false := by decide)
    (hpl : ((backTo pos (starEach [] X.env)).any (·.1) || (backToKw pos (keywordEach kws X.env)).any (·.1.isNone)) = false := by rfl) :
    PE X (.Call (.Name x p) [] kws pos) (tKw sp E tk) := by
  obtain ⟨f, fd, F, m, kp, _, c1, d1, s1, at1⟩ := C.ex
  obtain ⟨f2, fd2, F2, m2, _⟩ := D.ex
  rw [m] at m2
  cases m2
  obtain ⟨c2, d2, kV, doc, pm, an, cdv, ct, s2, same, at2, _⟩ := F2.ex
  rw [at1] at at2
  cases at2
  refine ⟨fun pins s σ H Q I h => ?_⟩
  refine wpAny_Call_Name_kw (ld_glob I glob m ?_ hdb)
  refine PySem.W.callWith_KW0 (h₀ := X.base) I.ok.mod.kin kp hall (thn (named.run pos pins s σ H _ I h) fun ws z ⟨zs, H2, I2, rz, q2⟩ => ⟨I2.kIn, ?_⟩) hpl
  rw [hks]
  have rv := vals_rev rz
  have len : ws.length = ps.length := by
    rw [← rz.length, ← List.length_reverse]
    exact F.len _ _ _ _ q2
  have b : BindsTo z fd ⟨[], ks.zip ws⟩ (ps.zip ws.reverse) := by
    rw [same]
    exact .of_eq (B kV doc pm an cdv ct ws len)
  refine wpAny_call (codeAny_mono (F.run X.A X.stack z H2 ⟨[], ks.zip ws⟩ ws.reverse zs.reverse Q E (room.mono hk) I2.env0 b rv q2) fun r s' hq => ?_)
  match r, hq with
  | .error e, hq => exact lets pins σ H2 z e s' I2 hq
  | .ok (.ret u), hq => exact I2.after hq
  | .ok .next, hq => exact False.elim hq
  | .ok .brk, hq => exact False.elim hq
  | .ok .cont, hq => exact False.elim hq
end
end HG
set_option maxHeartbeats 2000000
namespace HN
open PySem PySem.Spec PyProof.Rows L2
open AutoSeq1 (wpAny_loadPart')
/-! ## enumerate of a tuple -/
def itTup (t : Addr) : Obj := { cls := .type "tuple_iterator", data := .fields #[.ref t, .int 0 0] }
def enNew (it : Addr) : Obj :=
  { cls := .type "enumerate", data := .fields #[.none, .bool false, .ref it, rawInt 0, .none, .none] }
theorem en_new (t : Addr) (xs : Array Value) (n : Nat) (dt : Option Addr) (sl : Array (Option Value)) :
    Meets (Builtin.«enumerate.__new__» ⟨[.type "enumerate", .ref t], []⟩) (fun _ R s =>
      s.heap.get? t = some { cls := .type "tuple", dict := dt, data := .seq xs n, slots := sl } ∧
        R (.ok (.ret (.ref (s.heap.push (itTup t)).objs.size)))
          { s with heap := (s.heap.push (itTup t)).push (enNew s.heap.objs.size) }) :=
  .of_wp fun prog w A R s h => by
    obtain ⟨h0, g0, d0, k0, os0⟩ := s
    obtain ⟨ht, h⟩ := h
    have sub := sub_enumerate
    have isT : Heap.IsTuple (Shared.heap ⟨h0, g0, d0, k0, os0⟩) t xs := ⟨_, ht, rfl, n, rfl⟩
    wp_walk using wpAny_loadPart' ht
    refine wpAny_stack_any fun _ => wpAny_pure ?_
    split
    · rename_i cl _ _ _ _ _
      cases (cl == Value.type "enumerate")
      · wp_walk using wpAny_loadPart' ht, wpAny_pyIter_tuple isT
        exact ⟨_, rfl, h⟩
      · wp_walk using wpAny_loadPart' ht, wpAny_pyIter_tuple isT
        exact ⟨_, rfl, h⟩
    · wp_walk using wpAny_loadPart' ht, wpAny_pyIter_tuple isT
      exact ⟨_, rfl, h⟩
section
variable {prog : Program} {w : World} {A : Around} {E : Value → Shared → Prop} {s : Shared}
theorem en_call {t : Addr} {xs : Array Value} {Q : Value → Shared → Prop} (isT : s.heap.IsTuple t xs)
    (h : ∀ h1, IsEnum h1 (s.heap.objs.size + 1) s.heap.objs.size 0 .none → h1.IsTupleIter s.heap.objs.size t 0 →
      h1.objs.size = s.heap.objs.size + 2 → (∀ b o, s.heap.get? b = some o → h1.get? b = some o) →
      Q (.ref (s.heap.objs.size + 1)) { s with heap := h1 }) :
    wpAny (model prog w) A (call (.type "enumerate") [.ref t]) Q E s := by
  obtain ⟨⟨c, dt, da, sl⟩, ht, hc, n, hd⟩ := isT
  have hc : c = .type "tuple" := hc
  have hd : da = .seq xs n := hd
  subst hc hd
  refine callType_new F.called_enumerate (by decide) (F.typeCall_enumerate_1 _) (F.newCall_enumerate_1 _)
    (fun o => F.args_object_init_2 o _) F.entry_enumerate_new (en_new t xs n dt sl) ⟨ht, ?_⟩
  have one : (s.heap.push (itTup t)).objs.size = s.heap.objs.size + 1 := Heap.size_push ..
  show _ ∧ _
  rw [one]
  have en : IsEnum ((s.heap.push (itTup t)).push (enNew s.heap.objs.size)) (s.heap.objs.size + 1) s.heap.objs.size 0 .none := by
    have q := Heap.get?_push_size (s.heap.push (itTup t)) (o := enNew s.heap.objs.size) rfl
    rw [one] at q
    exact q
  refine ⟨⟨_, en, rfl⟩, h _ en ?_ (by rw [Heap.size_push, one]) fun b o x =>
    Heap.get?_push_of_some _ (Heap.get?_push_of_some _ x)⟩
  exact ⟨_, Heap.get?_push_of_some _ (Heap.get?_push_size _ rfl), rfl, rfl⟩
/-- the next pair: the tuple's next item, the number raised, the pair handed out -/
theorem en_step {e it t : Addr} {i : Nat} {xs : Array Value} {x old : Value} {Q : Value → Shared → Prop}
    (en : IsEnum s.heap e it i old) (ti : s.heap.IsTupleIter it t i) (isT : s.heap.IsTuple t xs) (hx : xs[i]? = some x) (ne : e ≠ it)
    (h : ∀ h1, IsEnumOut h1 e it ((i : Int) + 1) x s.heap.objs.size → h1.IsTupleIter it t (i + 1) →
      h1.get? s.heap.objs.size = some { cls := .type "tuple", data := .seq #[.int i s.toks, x] } →
      h1.objs.size = s.heap.objs.size + 1 → (∀ b o, b ≠ e → b ≠ it → s.heap.get? b = some o → h1.get? b = some o) →
      Q (.ref s.heap.objs.size) { s with heap := h1, toks := s.toks + 1 }) :
    wpAny (model prog w) A (Builtin.«enumerate.__next__» ⟨[.ref e], []⟩)
      (fun r z => ∃ v, r = .done (.ret v) ∧ Q v z) E s := by
  obtain ⟨h0, g0, d0, k0, os0⟩ := s
  show wpAny _ _ (field (.ref e) 2 >>= _) _ _ _
  refine wpAny_bind (wpAny_field en rfl (x := .ref it) rfl (wpAny_bind (RZ.nextOf_tuple_item ti isT hx fun a1 ti1 b1 => ?_)))
  have b1 : Heap.SameBut it h0 a1 := b1
  have en1 : IsEnum a1 e it i old := (b1.2 e ne).trans en
  show wpAny _ _ (field (.ref e) 3 >>= _) _ _ ⟨a1, g0, d0, k0, os0⟩
  refine wpAny_bind (wpAny_field en1 rfl (x := rawInt i) rfl ?_)
  show wpAny _ _ (field (.ref e) 4 >>= _) _ _ ⟨a1, g0, d0, k0, os0⟩
  refine wpAny_bind (wpAny_field en1 rfl (x := .none) rfl ?_)
  show wpAny _ _ (mkInt i >>= _) _ _ ⟨a1, g0, d0, k0, os0⟩
  refine wpAny_bind (wpAny_mkInt ?_)
  show wpAny _ _ (setField (.ref e) 3 (rawInt ((i : Int) + 1)) >>= _) _ _ ⟨a1, g0, d0, k0 + 1, os0⟩
  refine wpAny_bind (wpAny_setField_rec en1 (by simp) fun a2 en2 b2 => ?_)
  have b2 : Heap.SameBut e a1 a2 := b2
  have en2 : IsEnum a2 e it ((i : Int) + 1) old := en2
  show wpAny _ _ (setField (.ref e) 4 .none >>= _) _ _ ⟨a2, g0, d0, k0 + 1, os0⟩
  refine wpAny_bind (wpAny_setField_rec en2 (by simp) fun a3 en3 b3 => ?_)
  have b3 : Heap.SameBut e a2 a3 := b3
  have en3 : IsEnum a3 e it ((i : Int) + 1) old := en3
  show wpAny _ _ (newTuple [.int i k0, x] >>= _) _ _ ⟨a3, g0, d0, k0 + 1, os0⟩
  refine wpAny_bind (wpAny_newTuple ?_)
  have size : a3.objs.size = h0.objs.size := by rw [b3.1, b2.1, b1.1]
  have lt : e < h0.objs.size := Heap.lt_size en
  have facts : ∃ a4, a3.push { cls := .type "tuple", data := .seq #[.int i k0, x] } = a4 ∧ IsEnum a4 e it ((i : Int) + 1) old ∧
      a4.get? h0.objs.size = some { cls := .type "tuple", data := .seq #[.int i k0, x] } ∧ a4.objs.size = h0.objs.size + 1 ∧
      (∀ b o, b ≠ e → b ≠ it → h0.get? b = some o → a4.get? b = some o) ∧ a4.IsTupleIter it t (i + 1) := by
    refine ⟨_, rfl, Heap.get?_push_of_some _ en3, ?_, by rw [Heap.size_push, size], fun b o h1 h2 hb => ?_, ?_⟩
    · rw [← size]
      exact Heap.get?_push_size _ rfl
    · exact Heap.get?_push_of_some _ (b3.extBut b o h1 (b2.extBut b o h1 (b1.extBut b o h2 hb)))
    · obtain ⟨o, ho, r⟩ := (ti1.extBut b2.extBut ne.symm).extBut b3.extBut ne.symm
      exact ⟨o, Heap.get?_push_of_some _ ho, r⟩
  obtain ⟨a4, q4, en4, new4, size4, keep4, ti4⟩ := facts
  rw [q4, size]
  clear q4 en3 b3 en2 b2 en1 b1 ti1 size
  show wpAny _ _ (Builtin.SmallTypes.ownedTupleIsFree (.ref e) >>= _) _ _ ⟨a4, g0, d0, k0 + 1, os0⟩
  refine wpAny_bind ?_
  unfold Builtin.SmallTypes.ownedTupleIsFree
  refine wpAny_bind (wpAny_field en4 rfl (x := .none) rfl (wpAny_pure ?_))
  simp only [if_true]
  refine wpAny_bind (wpAny_rule (wpAny_bind (wpAny_field en4 rfl (x := old) rfl ?_)))
  refine wpAny_bind (wpAny_setField_rec en4 (by simp) fun a5 en5 b5 => ?_)
  have b5 : Heap.SameBut e a4 a5 := b5
  have en5 : IsEnum a5 e it ((i : Int) + 1) x := en5
  show wpAny _ _ (Builtin.SmallTypes.ownedTupleHandOut (.ref e) (.ref h0.objs.size) >>= _) _ _ ⟨a5, g0, d0, k0 + 1, os0⟩
  refine wpAny_bind ?_
  unfold Builtin.SmallTypes.ownedTupleHandOut
  refine wpAny_bind (wpAny_setField_rec en5 (by simp) fun a6 en6 b6 => ?_)
  have b6 : Heap.SameBut e a5 a6 := b6
  have en6 : IsEnumOut a6 e it ((i : Int) + 1) x h0.objs.size := en6
  refine wpAny_setField_rec en6 (by simp) fun a7 en7 b7 => ?_
  have b7 : Heap.SameBut e a6 a7 := b7
  have en7 : IsEnumOut a7 e it ((i : Int) + 1) x h0.objs.size := en7
  have far : h0.objs.size ≠ e := Nat.ne_of_gt lt
  refine wpAny_bind (wpAny_letGo (wpAny_pure ⟨_, rfl, h a7 en7 ?_ ?_ ?_ fun b o h1 h2 hb => ?_⟩))
  · exact ((ti4.extBut b5.extBut ne.symm).extBut b6.extBut ne.symm).extBut b7.extBut ne.symm
  · exact b7.extBut _ _ far (b6.extBut _ _ far (b5.extBut _ _ far new4))
  · rw [b7.1, b6.1, b5.1, size4]
  · exact b7.extBut b o h1 (b6.extBut b o h1 (b5.extBut b o h1 (keep4 b o h1 h2 hb)))
theorem en_next {e it t : Addr} {i : Nat} {xs : Array Value} {x old : Value} {Q : Option Value → Shared → Prop}
    (en : IsEnum s.heap e it i old) (ti : s.heap.IsTupleIter it t i) (isT : s.heap.IsTuple t xs) (hx : xs[i]? = some x) (ne : e ≠ it)
    (h : ∀ h1, IsEnumOut h1 e it ((i : Int) + 1) x s.heap.objs.size → h1.IsTupleIter it t (i + 1) →
      h1.get? s.heap.objs.size = some { cls := .type "tuple", data := .seq #[.int i s.toks, x] } →
      h1.objs.size = s.heap.objs.size + 1 → (∀ b o, b ≠ e → b ≠ it → s.heap.get? b = some o → h1.get? b = some o) →
      Q (some (.ref s.heap.objs.size)) { s with heap := h1, toks := s.toks + 1 }) :
    wpAny (model prog w) A (pyNext (.ref e)) Q E s := by
  have ty : s.TypeIs (.ref e) "enumerate" := ⟨_, en, rfl⟩
  unfold pyNext
  refine wpAny_bind (wpAny_attempt (wpAny_callSpecial?_slot (name := Str.ofString "__next__") ty F.slot_enumerate_next ?_))
  refine wpAny_call_entry F.slot_enumerate_next ty F.entry_enumerate_next ?_ (F.args_enumerate_next_1 _)
  exact en_step en ti isT hx ne fun h1 a b c d k => wpAny_pure (h h1 a b c d k)
theorem en_end {e it t : Addr} {i : Nat} {xs : Array Value} {old : Value} {Q : Option Value → Shared → Prop} (hh : A.handled = none)
    (en : IsEnum s.heap e it i old) (ti : s.heap.IsTupleIter it t i) (isT : s.heap.IsTuple t xs) (hx : xs[i]? = none)
    (h : ∀ h1, Heap.ExtBut it s.heap h1 → Q none { s with heap := h1 }) : wpAny (model prog w) A (pyNext (.ref e)) Q E s := by
  have ty : s.TypeIs (.ref e) "enumerate" := ⟨_, en, rfl⟩
  unfold pyNext
  refine wpAny_bind (wpAny_attempt (wpAny_callSpecial?_slot (name := Str.ofString "__next__") ty F.slot_enumerate_next ?_))
  refine wpAny_call_entry F.slot_enumerate_next ty F.entry_enumerate_next ?_ (F.args_enumerate_next_1 _)
  show wpAny _ _ (field (.ref e) 2 >>= _) _ _ _
  refine wpAny_bind (wpAny_field en rfl (x := .ref it) rfl (wpAny_bind (RZ.nextOf_tuple_end hh ti isT hx fun h1 z k1 q => ?_)))
  obtain ⟨o, ho, hc⟩ := q
  exact wpAny_bind (wpAny_isInstance (T := "StopIteration") (b := true) ⟨o, ho, hc⟩ isSubtype_stop (wpAny_pure (h _ k1)))
end
/-- the tuple's items, each in a new pair behind its place -/
def Itet (K : PySem.W.Frag) (a : Addr) : It where
  go := fun i H => ∃ xs x, SqT K H a xs ∧ xs[i]? = some x
  yld := fun i H v H1 => ∃ p x, v = .ref p ∧ H p = none ∧ H1 = upd H p (.tup [.int (i : Nat), x]) ∧ ∀ xs, SqT K H a xs → xs[i]? = some x
  stop := fun i H => ∃ xs, SqT K H a xs ∧ xs.length ≤ i
/-- the state: the enumeration at e over the iterator at it -/
def Ent (a e it : Addr) (i : Nat) (h : Heap) : Prop := (∃ old, IsEnum h e it ((i : Nat) : Int) old) ∧ h.IsTupleIter it a i ∧ e ≠ it
theorem turn_ent {P : Program} {w : World} {K : PySem.W.Frag} {elts : List Expr} {kk : Nat} {tpos : Pos} (a e it : Addr) :
    Turn P w K (.Tuple elts kk tpos) (Itet K a) [e, it] e (Ent a e it) := by
  have two : ∀ b, b ∈ [e, it] → b = e ∨ b = it := fun b m => by
    rcases List.mem_cons.mp m with r | m
    · exact .inl r
    · rcases List.mem_cons.mp m with r | m
      · exact .inr r
      · cases m
  have me : e ∈ [e, it] := List.mem_cons_self
  have mi : it ∈ [e, it] := List.mem_cons_of_mem _ List.mem_cons_self
  refine ⟨me, fun i h st b m => ?_, fun i h h1 st k => ?_, ?_, ?_, fun A i s Q E st h => ?_⟩
  · obtain ⟨⟨old, en⟩, ⟨o, ho, _, hd⟩, _⟩ := st
    rcases two b m with rfl | rfl
    · exact ⟨_, en, fun v z => nomatch z⟩
    · refine ⟨o, ho, fun v z => ?_⟩
      rw [hd] at z
      cases z
  · obtain ⟨⟨old, en⟩, ti, ne⟩ := st
    exact ⟨⟨old, k e me _ en⟩, ti.at fun o q => k it mi o q, ne⟩
  · intro X eP ew eK calm i pins s σ H E I fp st hg
    subst eP ew eK
    obtain ⟨⟨old, en⟩, ti, ne⟩ := st
    obtain ⟨xs, x, hq, hx⟩ := hg
    obtain ⟨its, vals, isT, _⟩ := I.tuple hq
    obtain ⟨u, hu, ru⟩ := vals.get hx
    have le : e < s.heap.objs.size := Heap.lt_size en
    have li : it < s.heap.objs.size := by
      obtain ⟨_, q, _⟩ := ti
      exact Heap.lt_size q
    refine en_next en ti (show s.heap.IsTuple a its.toArray from isT) (x := u) (by simpa using hu) ne fun h1 out ti1 new sz keep => ?_
    refine ⟨_, rfl, wpAny_letOwnedTupleGo_enum (s := { s with heap := h1, toks := s.toks + 1 }) out fun h2 en2 same => ?_⟩
    have new2 := (same.2 _ (Nat.ne_of_gt le)).trans new
    have ok : ObjOk X.prog X.w (upd H s.heap.objs.size (.tup [.int (i : Nat), x])) h2 s.heap.objs.size (.tup [.int (i : Nat), x]) := by
      refine ⟨by show 2 ≤ sizeLine; decide, [.int i s.toks, u], .cons ⟨_, rfl⟩ (.cons ru .nil), ?_⟩
      exact ⟨_, new2, rfl, _, rfl⟩
    have J : Inv X pins σ (upd H s.heap.objs.size (.tup [.int (i : Nat), x])) { s with heap := h2, toks := s.toks + 1 } := by
      refine I.turnedNew (ch := [e, it]) (fun b o nb q => ?_) fp (Nat.le_refl _) ok
      have nbe : b ≠ e := fun z => nb (by rw [z]; exact me)
      have nbi : b ≠ it := fun z => nb (by rw [z]; exact mi)
      exact (same.2 b nbe).trans (keep b o nbe nbi q)
    refine ⟨.ref s.heap.objs.size, _, J, rfl, ⟨_, x, rfl, I.hok.fresh (Nat.le_refl _), rfl, fun ys hy => ?_⟩, ⟨⟨u, ?_⟩, ?_, ne⟩, fun b m => ?_⟩
    · rw [I.tuple_inj hy hq]
      exact hx
    · rw [show ((i + 1 : Nat) : Int) = (i : Int) + 1 by omega]
      exact en2
    · exact ti1.at fun o q => (same.2 it ne.symm).trans q
    · have lt : b < s.heap.objs.size := by
        rcases two b m with rfl | rfl
        · exact le
        · exact li
      rw [upd_ne (Nat.ne_of_lt lt)]
      exact (fp b m).1
  · intro X eP ew eK calm i pins s σ H E I fp st hg
    subst eP ew eK
    obtain ⟨⟨old, en⟩, ti, ne⟩ := st
    obtain ⟨xs, hq, hx⟩ := hg
    obtain ⟨its, vals, isT, _⟩ := I.tuple hq
    obtain ⟨q0, q1, q2, q3, q4, q5⟩ := fp it mi
    have len := vals.length
    refine en_end (I.ok.hd calm) en ti (show s.heap.IsTuple a its.toArray from isT) (by simp; omega) fun h1 ext => ⟨rfl, ?_⟩
    exact I.turned (t' := s.toks) (fun b o nb q => ext b o nb q) q0 q1 q3 q4 q5
  · obtain ⟨⟨_, en⟩, _⟩ := st
    exact wpAny_pyIter_enum en h
def iEnumT (K : PySem.W.Frag) (ta : TA) : TI := fun σ H R => ta σ H fun vs H1 => ∃ a xs, vs = [.ref a] ∧ SqT K H1 a xs ∧ R (Itet K a) H1
theorem pi_enumT {X : Cx} {e : Expr} {ta : TA} {p pos tpos : Pos} {elts : List Expr} {kk : Nat} (glob : Gl X "enumerate") (free : X.mg "enumerate" = none)
    (args : PA X [e] ta) (hs : starEach [e] X.env = [(false, eval e X.env)] := by rfl) :
    PI X (.Tuple elts kk tpos) (.Call (.Name "enumerate" p) [e] [] pos) (iEnumT X.K ta) := by
  refine ⟨fun pins s σ H R I h => ?_⟩
  refine Call_ (ld_blt I glob free boot_enumerate (PyProof.Rows.callWith_type1 (thn (args.run pos pins s σ H _ I h) fun us z ⟨vs, H1, J, rel, q⟩ => ?_) hs rfl))
  obtain ⟨a, xs, rfl, hq, q⟩ := q
  obtain ⟨u, rfl, ru⟩ := vals1 rel
  cases ru
  obtain ⟨its, _, isT, _⟩ := J.tuple hq
  refine en_call (show z.heap.IsTuple a its.toArray from isT) fun h1 en ti sz keep => wpAny_pyIter_enum en ?_
  have J2 : Inv X pins σ H1 { z with heap := h1 } := J.kept (t' := z.toks) keep
  refine ⟨z.heap.objs.size + 1, [z.heap.objs.size + 1, z.heap.objs.size], _, _, H1, rfl, J2, turn_ent a (z.heap.objs.size + 1) z.heap.objs.size, ⟨⟨.none, en⟩, ti, Nat.succ_ne_self _⟩, fun b m => ?_, q⟩
  have ge : z.heap.objs.size ≤ b := by
    rcases List.mem_cons.mp m with rfl | m
    · exact Nat.le_succ _
    · rcases List.mem_cons.mp m with rfl | m
      · exact Nat.le_refl _
      · cases m
  exact J.fpOk ge (J.hok.fresh ge)
theorem walk_ent {K : PySem.W.Frag} {a : Addr} {xs : List V} :
    Walk (Itet K a) xs.length (fun H => SqT K H a xs) (YPair (fun i => some (.int (i : Nat))) (fun i => xs[i]?)) := by
  refine ⟨fun i H lt q => ⟨xs, xs[i], q, by simp [lt]⟩, fun H q => ⟨xs, q, Nat.le_refl _⟩, fun i H v H1 _ q y => ?_⟩
  obtain ⟨p, x, e1, e2, e3, e4⟩ := y
  exact ⟨p, .int (i : Nat), x, e1, e2, e3, rfl, e4 xs q⟩
end HN
set_option maxHeartbeats 2000000
namespace HM
open PySem PySem.Spec PyProof.Rows L2 HG
/-! ## len(o), o != p by the class's own defs -/
section
variable {X : Cx} {k : Nat} {C f : Addr} {fd : FuncData} {sp : Sp}
theorem call_lenO (F : FnOk X.prog X.w X.K X.mg X.base L2.CX0 k f fd ["self"] sp) (slot : PySem.W.findIn X.K (.ref C) "__len__" = some (some (.ref f)))
    (fn : PySem.W.isFn X.K (.ref f) = true) (b : Binds X.K fd ["self"] []) (room : Room (k + 1) X.A) :
    CallR X (.builtin "len") (fun xs H Q => ∃ a dx fs, xs = [.ref a] ∧ H a = some (.ins C dx fs) ∧
      sp [.ref a] H (fun v H1 => ∃ n : Int, v = .int n ∧ 0 ≤ n ∧ n < 2 ^ 63 ∧ Q (.int n) H1) L2.E0) := by
  intro pins s σ H xs us Q I rel h
  obtain ⟨a, dx, fs, rfl, ha, h⟩ := h
  obtain ⟨u, rfl, ru⟩ := vals1 rel
  cases ru
  obtain ⟨mA, J, _⟩ := ins_get I.hok ha
  obtain ⟨od, J, _⟩ := J.look
  obtain ⟨m, fr⟩ := I.fr
  refine PySem.W.len_K fr I.ok.mod.kin J slot fn ?_
  have one := b s [.ref a] I.kIn rfl
  refine wpAny_call (codeAny_mono (F.run X.A.in1 X.stack s H ⟨[.ref a], []⟩ [.ref a] [.ref a] _ L2.E0 room.in1 I.env0.in1 one (.cons rfl .nil) h) fun r z hq => ?_)
  match r, hq with
  | .error e, hq => exact hq.elim
  | .ok (.ret u), hq =>
    obtain ⟨v, H1, I1, ru, n, rfl, n0, n1, q⟩ := I.after hq
    obtain ⟨t, rfl⟩ := ru
    exact ⟨⟨n0, n1⟩, .int n, H1, I1.tok _, ⟨_, rfl⟩, q⟩
  | .ok .next, hq => exact False.elim hq
  | .ok .brk, hq => exact False.elim hq
  | .ok .cont, hq => exact False.elim hq
end
theorem ns_some {K : PySem.W.Frag} {h : Heap} {N : Addr} {m : Str → Option Value} {n : Str} {v : Value} (X : K.In h) (G : h.Ns N m)
    (e : PySem.W.nsIn K N n = some (some v)) : m n = some v := by
  obtain ⟨o, es, ep, ho, hd, _, look⟩ := G
  unfold PySem.W.nsIn at e
  split at e
  · rename_i q
    have same := X _ _ q
    rw [ho] at same
    cases same
    cases hd
    split at e
    · rename_i en he
      cases e
      rw [← look]
      unfold nsFind findBy
      rw [← Array.find?_toList, he]
      rfl
    · split at e <;> cases e
  · cases e
/-- a class over object with its own == and no != -/
structure OwnCmp (K : PySem.W.Frag) (C f : Addr) : Prop where
  cls : ∃ (nm q : Str) (N : Addr) (bs : List Value) (hd : Bool) (sn : List Str) (sub : List Value) (ab : Bool) (col : Option Bool) (dd : Option Addr)
    (k0 k1 k2 k3 k5 : Option Value) (newId : String),
    K.lookup C = some (excClassObj nm q C N bs [.type "object"] hd sn sub ab col dd k0 k1 k2 k3 k5 newId) ∧ PySem.W.nsOkIn K N = true ∧
    PySem.W.nsIn K N "__eq__" = some (some (.ref f)) ∧ PySem.W.nsIn K N "__ne__" = some none
  fn : ∃ o, K.lookup f = some o ∧ o.cls = .type "function"
theorem OwnCmp.none_ne {K : PySem.W.Frag} {h : Heap} {C f a : Addr} {o : Obj} (c : OwnCmp K C f) (X : K.In h) (ha : h.get? a = some o) (hc : o.cls = .ref C) :
    h.OwnEqNoNe a C f "object" [.type "object"] := by
  obtain ⟨nm, q, N, bs, hd, sn, sub, ab, col, dd, k0, k1, k2, k3, k5, newId, lk, ok, e1, e2⟩ := c.cls
  obtain ⟨of, lf, tf⟩ := c.fn
  have G : h.Ns N (h.nsMap N) := .of_isNs (PySem.W.isNs_of_in X ok)
  exact ⟨o, of, nm, q, N, bs, hd, sn, sub, ab, col, dd, k0, k1, k2, k3, k5, newId, h.nsMap N, _, ha, hc, X _ _ lk, G, ns_some X G e1, X _ _ lf, tf,
    PySem.F.cmp_object.mro, PySem.F.cmp_object.eq.lookup, PySem.W.ns_none_of X G e2⟩
section
variable {X : Cx} {k : Nat} {C f : Addr} {fd : FuncData} {sp : Sp}
theorem op_neO (F : FnOk X.prog X.w X.K X.mg X.base L2.CX0 k f fd ["self", "other"] sp) (c : OwnCmp X.K C f) (b : Binds X.K fd ["self", "other"] []) (room : Room (k + 1) X.A) :
    OpR X (compareOp .NotEq) (fun x y H Q => ∃ a b dx dy fs gs, x = .ref a ∧ y = .ref b ∧ H a = some (.ins C dx fs) ∧ H b = some (.ins C dy gs) ∧
      sp [.ref a, .ref b] H (fun v H1 => ∃ t : Bool, v = .bl t ∧ Q (.bl (!t)) H1) L2.E0) := by
  intro pins s σ H x y v u Q I rx ry h
  obtain ⟨a1, a2, dx, dy, fs, gs, rfl, rfl, h1, h2, h⟩ := h
  cases rx
  cases ry
  obtain ⟨mA, J, _⟩ := ins_get I.hok h1
  obtain ⟨mB, J2, _⟩ := ins_get I.hok h2
  obtain ⟨od, J, _⟩ := J.look
  obtain ⟨od2, J2, _⟩ := J2.look
  have two := b s [.ref a1, .ref a2] I.kIn rfl
  have units : X.A.units + 1 < cLine := by
    have := room.un
    omega
  obtain ⟨hp, g, d, t, os⟩ := s
  refine compareOp_ne_ownEq PySem.F.cmp_object (c.none_ne I.kIn J.at_ J.cls) J2.at_ J2.cls units ?_
  refine wpAny_call (codeAny_mono (F.run X.A.in1 X.stack _ H ⟨[.ref a1, .ref a2], []⟩ [.ref a1, .ref a2] [.ref a1, .ref a2] _ L2.E0 room.in1 I.env0.in1 two (.cons rfl (.cons rfl .nil)) h) fun r z hq => ?_)
  match r, hq with
  | .error e, hq => exact hq.elim
  | .ok (.ret u), hq =>
    obtain ⟨v, H1, I1, ru, n, rfl, q⟩ := I.after hq
    cases ru
    exact ⟨n, rfl, .bl (!n), H1, I1, rfl, q⟩
  | .ok .next, hq => exact False.elim hq
  | .ok .brk, hq => exact False.elim hq
  | .ok .cont, hq => exact False.elim hq
end
end HM
set_option maxHeartbeats 2000000
namespace K01
open PySem PySem.Spec PyProof.Rows L2 HG
def topS (i : Nat) : Stmt := PySem.Challenge.pw_hitclocks_k01_words_read.main.body.getD i (.Pass ⟨0, 0, 0, 0⟩)
theorem scope_by {N P : List Str} {sc : Scope} (kind : sc.kind = .function) (co : sc.isCoroutine = false)
    (gen : sc.isGenerator = false) (nd : N.Nodup) (pre : N.take P.length = P)
    (par : ∀ x ∈ P, sc.names.lookup x = some .local ∨ sc.names.lookup x = some .cell)
    (nofree : ∀ y ∈ sc.names, y.2 ≠ .free) : FnScope N P sc := ⟨kind, co, gen, nd, pre, par, nofree⟩
abbrev s_is_number : Stmt := topS 9
theorem sc_is_number : FnScope ["thing"] ["thing"] (defScope s_is_number) := scope_by rfl rfl rfl (by decide +kernel) rfl (by decide +kernel) (by decide +kernel)
abbrev s_is_number_from : Stmt := topS 10
theorem sc_is_number_from : FnScope ["thing", "low", "high"] ["thing", "low", "high"] (defScope s_is_number_from) := scope_by rfl rfl rfl (by decide +kernel) rfl (by decide +kernel) (by decide +kernel)
abbrev s_is_string_of : Stmt := topS 11
theorem sc_is_string_of : FnScope ["thing", "signs", "sign"] ["thing", "signs"] (defScope s_is_string_of) := scope_by rfl rfl rfl (by decide +kernel) rfl (by decide +kernel) (by decide +kernel)
abbrev s_is_letter : Stmt := topS 12
theorem sc_is_letter : FnScope ["thing"] ["thing"] (defScope s_is_letter) := scope_by rfl rfl rfl (by decide +kernel) rfl (by decide +kernel) (by decide +kernel)
abbrev s_is_tuple_of : Stmt := topS 13
theorem sc_is_tuple_of : FnScope ["thing", "many"] ["thing", "many"] (defScope s_is_tuple_of) := scope_by rfl rfl rfl (by decide +kernel) rfl (by decide +kernel) (by decide +kernel)
abbrev s_is_ascending : Stmt := topS 14
theorem sc_is_ascending : FnScope ["things", "at"] ["things"] (defScope s_is_ascending) := scope_by rfl rfl rfl (by decide +kernel) rfl (by decide +kernel) (by decide +kernel)
abbrev s_is_row_of_letters : Stmt := topS 15
theorem sc_is_row_of_letters : FnScope ["thing", "most", "letter"] ["thing", "most"] (defScope s_is_row_of_letters) := scope_by rfl rfl rfl (by decide +kernel) rfl (by decide +kernel) (by decide +kernel)
abbrev s_is_among : Stmt := topS 16
theorem sc_is_among : FnScope ["thing", "letters"] ["thing", "letters"] (defScope s_is_among) := scope_by rfl rfl rfl (by decide +kernel) rfl (by decide +kernel) (by decide +kernel)
abbrev s_is_tuple_among : Stmt := topS 17
theorem sc_is_tuple_among : FnScope ["thing", "letters", "letter"] ["thing", "letters"] (defScope s_is_tuple_among) := scope_by rfl rfl rfl (by decide +kernel) rfl (by decide +kernel) (by decide +kernel)
abbrev s_is_row_of_moves : Stmt := topS 23
theorem sc_is_row_of_moves : FnScope ["row", "letters", "states", "move"] ["row", "letters", "states"] (defScope s_is_row_of_moves) := scope_by rfl rfl rfl (by decide +kernel) rfl (by decide +kernel) (by decide +kernel)
abbrev s_is_move : Stmt := topS 24
theorem sc_is_move : FnScope ["move", "states"] ["move", "states"] (defScope s_is_move) := scope_by rfl rfl rfl (by decide +kernel) rfl (by decide +kernel) (by decide +kernel)
abbrev s_check_memory : Stmt := topS 25
theorem sc_check_memory : FnScope ["memory"] ["memory"] (defScope s_check_memory) := scope_by rfl rfl rfl (by decide +kernel) rfl (by decide +kernel) (by decide +kernel)
abbrev s_is_state : Stmt := topS 26
theorem sc_is_state : FnScope ["memory", "thing"] ["memory", "thing"] (defScope s_is_state) := scope_by rfl rfl rfl (by decide +kernel) rfl (by decide +kernel) (by decide +kernel)
abbrev s_check_state : Stmt := topS 27
theorem sc_check_state : FnScope ["memory", "state"] ["memory", "state"] (defScope s_check_state) := scope_by rfl rfl rfl (by decide +kernel) rfl (by decide +kernel) (by decide +kernel)
abbrev s_check_word : Stmt := topS 28
theorem sc_check_word : FnScope ["memory", "word"] ["memory", "word"] (defScope s_check_word) := scope_by rfl rfl rfl (by decide +kernel) rfl (by decide +kernel) (by decide +kernel)
abbrev s_check_letter : Stmt := topS 29
theorem sc_check_letter : FnScope ["memory", "letter"] ["memory", "letter"] (defScope s_check_letter) := scope_by rfl rfl rfl (by decide +kernel) rfl (by decide +kernel) (by decide +kernel)
abbrev s_stepped : Stmt := topS 30
theorem sc_stepped : FnScope ["memory", "state", "letter"] ["memory", "state", "letter"] (defScope s_stepped) := scope_by rfl rfl rfl (by decide +kernel) rfl (by decide +kernel) (by decide +kernel)
abbrev s_step_of : Stmt := topS 31
theorem sc_step_of : FnScope ["memory", "state", "letter", "place", "a", "b"] ["memory", "state", "letter"] (defScope s_step_of) := scope_by rfl rfl rfl (by decide +kernel) rfl (by decide +kernel) (by decide +kernel)
abbrev s_read : Stmt := topS 32
theorem sc_read : FnScope ["memory", "state", "word"] ["memory", "state", "word"] (defScope s_read) := scope_by rfl rfl rfl (by decide +kernel) rfl (by decide +kernel) (by decide +kernel)
abbrev s_read_along : Stmt := topS 33
theorem sc_read_along : FnScope ["memory", "state", "word", "columns", "place", "first", "second", "letter", "a", "b"] ["memory", "state", "word"] (defScope s_read_along) := scope_by rfl rfl rfl (by decide +kernel) rfl (by decide +kernel) (by decide +kernel)
abbrev s_columns_of : Stmt := topS 34
theorem sc_columns_of : FnScope ["memory", "columns", "column", "letter"] ["memory"] (defScope s_columns_of) := scope_by rfl rfl rfl (by decide +kernel) rfl (by decide +kernel) (by decide +kernel)
abbrev s_negated : Stmt := topS 35
theorem sc_negated : FnScope ["memory", "moves", "row"] ["memory"] (defScope s_negated) := scope_by rfl rfl rfl (by decide +kernel) rfl (by decide +kernel) (by decide +kernel)
abbrev s_l_begun : Stmt := topS 37
theorem sc_l_begun : FnScope ["script", "great", "cell"] ["script"] (defScope s_l_begun) := scope_by rfl rfl rfl (by decide +kernel) rfl (by decide +kernel) (by decide +kernel)
abbrev s_l_mixed : Stmt := topS 38
theorem sc_l_mixed : FnScope ["draw", "turn", "found", "prime", "blend", "cell"] ["draw"] (defScope s_l_mixed) := scope_by rfl rfl rfl (by decide +kernel) rfl (by decide +kernel) (by decide +kernel)
abbrev s_l_take : Stmt := topS 39
theorem sc_l_take : FnScope ["draw", "many", "found"] ["draw", "many"] (defScope s_l_take) := scope_by rfl rfl rfl (by decide +kernel) rfl (by decide +kernel) (by decide +kernel)
abbrev s_l_pick : Stmt := topS 40
theorem sc_l_pick : FnScope ["draw", "some"] ["draw", "some"] (defScope s_l_pick) := scope_by rfl rfl rfl (by decide +kernel) rfl (by decide +kernel) (by decide +kernel)
abbrev s_l_caught : Stmt := topS 41
theorem sc_l_caught : FnScope ["task", "caught", "error"] ["task"] (defScope s_l_caught) := scope_by rfl rfl rfl (by decide +kernel) rfl (by decide +kernel) (by decide +kernel)
abbrev s_l_sign : Stmt := topS 42
theorem sc_l_sign : FnScope ["draw", "wide"] ["draw"] (defScope s_l_sign) := scope_by rfl rfl rfl (by decide +kernel) rfl (by decide +kernel) (by decide +kernel)
abbrev s_l_signs : Stmt := topS 43
theorem sc_l_signs : FnScope ["draw", "many", "found", "turn", "sign", "spare"] ["draw", "many"] (defScope s_l_signs) := scope_by rfl rfl rfl (by decide +kernel) rfl (by decide +kernel) (by decide +kernel)
abbrev s_l_cost : Stmt := topS 44
theorem sc_l_cost : FnScope ["draw", "peak"] ["draw", "peak"] (defScope s_l_cost) := scope_by rfl rfl rfl (by decide +kernel) rfl (by decide +kernel) (by decide +kernel)
abbrev s_l_grid : Stmt := topS 45
theorem sc_l_grid : FnScope ["draw", "many", "wide", "peak", "grid", "turn"] ["draw", "many", "wide", "peak"] (defScope s_l_grid) := scope_by rfl rfl rfl (by decide +kernel) rfl (by decide +kernel) (by decide +kernel)
abbrev s_l_went : Stmt := topS 46
theorem sc_l_went : FnScope ["signs", "grid", "here", "row", "one", "two", "sign", "move"] ["signs", "grid", "here", "row"] (defScope s_l_went) := scope_by rfl rfl rfl (by decide +kernel) rfl (by decide +kernel) (by decide +kernel)
abbrev s_l_text : Stmt := topS 47
theorem sc_l_text : FnScope ["draw", "signs", "some", "many"] ["draw", "signs"] (defScope s_l_text) := scope_by rfl rfl rfl (by decide +kernel) rfl (by decide +kernel) (by decide +kernel)
abbrev s_l_strange : Stmt := topS 48
theorem sc_l_strange : FnScope ["signs"] ["signs"] (defScope s_l_strange) := scope_by rfl rfl rfl (by decide +kernel) rfl (by decide +kernel) (by decide +kernel)
abbrev s_l_refusals : Stmt := topS 49
theorem sc_l_refusals : FnScope ["draw", "store", "signs", "grid", "row", "k", "some", "error", "away", "here", "item", "odd", "sign"] ["draw", "store", "signs", "grid", "row"] (defScope s_l_refusals) := scope_by rfl rfl rfl (by decide +kernel) rfl (by decide +kernel) (by decide +kernel)
abbrev s_law : Stmt := topS 50
theorem sc_law : FnScope ["script", "draw", "lap", "signs", "grid", "store", "row", "turned", "some", "here", "due", "k", "mid", "pair", "far", "more", "spot", "sign", "to", "one", "two"] ["script"] (defScope s_law) := scope_by rfl rfl rfl (by decide +kernel) rfl (by decide +kernel) (by decide +kernel)
end K01
set_option maxHeartbeats 2000000
namespace HG
open PySem PySem.Spec PyProof.Rows L2
/-- one statement behind another, with what holds between -/
theorem seq_join {t1 t2 : TS} {D : Ends} {σ : L2.St} {H : Hp} (P : L2.St → Hp → Prop)
    (h : ∀ NX : L2.St → Hp → Prop, (∀ σ1 H1, P σ1 H1 → NX σ1 H1) → t1 { D with nx := NX } σ H)
    (q : ∀ σ1 H1, P σ1 H1 → t2 D σ1 H1) : tSeq t1 t2 D σ H := h (t2 D) q
theorem dpAll_ints {K : PySem.W.Frag} {H : Hp} : ∀ ns : List Int, DpAll K H (ns.map V.int) (ns.map PyData.int)
  | [] => .nil
  | n :: r => .cons (.int n) (dpAll_ints r)
theorem lay_ints : ∀ ns : List Int, PyData.canLayAll0 (ns.map PyData.int) = true
  | [] => by simp [PyData.canLayAll0]
  | n :: r => by simp [PyData.canLayAll0, PyData.canLay0, lay_ints r]
theorem depth_ints : ∀ ns : List Int, PyData.depthAll (ns.map PyData.int) ≤ 1
  | [] => by simp [PyData.depthAll]
  | n :: r => by
    have := depth_ints r
    simp only [List.map_cons, PyData.depthAll, PyData.depth]
    omega
theorem shaped_ints (ns : List Int) : SeqAt.shaped (.list (ns.map PyData.int)) = true := by
  have h := depth_ints ns
  show (PyData.canLay0 _ && decide (PyData.depth _ ≤ 64)) = true
  rw [Bool.and_eq_true]
  refine ⟨by simp only [PyData.canLay0]; exact lay_ints ns, decide_eq_true ?_⟩
  simp only [PyData.depth]
  omega
theorem eqv_ints_nil (ns : List Int) : PyData.eqv (.list (ns.map PyData.int)) (.list []) = ns.isEmpty := by
  cases ns <;> simp [PyData.eqv, PyData.eqvAll]
/-! ## the drawing -/
def drawK (g c : Addr) (left turn : Int) : List (Key × V) :=
  [(.inr "great", .ref g), (.inr "cells", .ref c), (.inr "left", .int left), (.inr "turn", .int turn)]
theorem drawK_great {g c : Addr} {l t : Int} : valV (drawK g c l t) (.inr "great") = some (.ref g) := rfl
theorem drawK_cells {g c : Addr} {l t : Int} : valV (drawK g c l t) (.inr "cells") = some (.ref c) := rfl
theorem drawK_left {g c : Addr} {l t : Int} : valV (drawK g c l t) (.inr "left") = some (.int l) := rfl
theorem drawK_turn {g c : Addr} {l t : Int} : valV (drawK g c l t) (.inr "turn") = some (.int t) := rfl
theorem drawK_put_left {g c : Addr} {l t m : Int} : putK (drawK g c l t) (.inr "left") (.int m) = drawK g c m t := rfl
theorem drawK_put_turn {g c : Addr} {l t m : Int} : putK (drawK g c l t) (.inr "turn") (.int m) = drawK g c l m := rfl
/-- at p a drawing that has turned at most n times; its lists stand at g and c -/
structure Draw (H : Hp) (p g c : Addr) (n : Int) : Prop where
  ne : g ≠ c
  ex : ∃ (gs cs : List Int) (left turn : Int), H p = some (.dK (drawK g c left turn)) ∧ H g = some (.lst (gs.map V.int)) ∧
    H c = some (.lst (cs.map V.int)) ∧ 0 ≤ turn ∧ turn ≤ n
theorem dget_of {H : Hp} {a : Addr} {kvs : List (Key × V)} {k : Key} {v : V} (e : H a = some (.dK kvs)) (h : valV kvs k = some v) :
    DGet H a (kV k) (some v) := by
  rw [← h]
  exact DGet.k e
theorem dput_of {H : Hp} {a : Addr} {kvs kvs' : List (Key × V)} {k : Key} {v : V} (e : H a = some (.dK kvs)) (h : putK kvs k v = kvs')
    (hl : kvs.length < 1000) : DPut H a (kV k) v (upd H a (.dK kvs')) := by
  rw [← h]
  exact DPut.k e (Nat.lt_trans hl (by decide))
end HG
namespace K01
open PySem PySem.Spec PyProof.Rows L2 HG
section
variable {P : Program} {w : World} {K : PySem.W.Frag} {mg : Str → Option Value} {base : Heap}
def sp_mixed : Sp := fun vs H Q _ => ∃ p g c n, vs = [.ref p] ∧ Draw H p g c n ∧ n < 1000000000 ∧
  ∀ r H', Keep [p] H H' → Draw H' p g c (n + 1) → Q (.int r) H'
theorem ok_mixed (D : Def K mg "_law_mixed" s_l_mixed ["draw"]) (zi : mg "int" = none) :
    Callee P w K mg base CX0 1 "_law_mixed" ["draw"] sp_mixed := by
  refine D.ok sc_l_mixed (fun vs H Q E h => ?_) (fun f cdv A outer s H vs Q E hr h => ?_)
  · obtain ⟨p, g, c, n, rfl, _⟩ := h
    rfl
  · obtain ⟨p, g, c, n, rfl, dr, small, q⟩ := h
    have nd := sc_l_mixed.nd
    have hu := hu_of hr
    refine ⟨_, pss_cons (ps_par (i := 1) (j := 2) rfl nd rfl rfl (by decide) rfl rfl
        (pa_cons (pe_op op_add (pe_dget hu (pv 0) pe_str (fun _ _ => rfl)) pe_int) (pa_cons pe_int pa_nil)) (by rfl))
      (pss_cons (ps_dput hu (pv 0) pe_str (pv 1) rfl)
      (pss_cons (ps_for PassesOwn.never rfl (pi_list (pe_lst (pa_cons pe_int (pa_cons pe_int (pa_cons pe_int (pa_cons pe_int pa_nil))))))
          (pg_name (i := 3) nd rfl (.inl rfl))
        (pss_cons (ps_set (i := 4) nd rfl (.inl rfl) (pe_op op_add (pe_op op_mul pe_int (pv 1)) (pe_op op_fdiv (pv 3) pe_int)))
        (pss_cons (ps_for PassesOwn.never rfl (pi_list (pe_dget hu (pv 0) pe_str (fun _ _ => rfl))) (pg_name (i := 5) nd rfl (.inl rfl))
          (pss_one (ps_set (i := 4) nd rfl (.inl rfl) (pe_op op_mod (pe_callTy call_int1 (by rfl) zi (by decide +kernel)
            (pa_cons (pe_op op_add (pe_op op_add (pe_op op_mul (pv 4) pe_int) (pv 5)) (pv 1)) pa_nil)) (pv 3)))))
        (pss_one (ps_set (i := 2) nd rfl (.inl rfl) (pe_op op_add (pe_op op_mul (pv 2) pe_int)
          (pe_op op_mod (pe_callTy call_int1 (by rfl) zi (by decide +kernel) (pa_cons (pe_op op_pow (pv 4) pe_int) pa_nil)) (pv 3))))))))
      (pss_one (ps_ret (pv 2))))), ?_⟩
    obtain ⟨gs, cs, left, turn, e1, e2, e3, t0, t1⟩ := dr.ex
    have npg : p ≠ g := ne_of e1 e2 (fun z => nomatch z)
    have npc : p ≠ c := ne_of e1 e3 (fun z => nomatch z)
    refine ⟨.ref p, rfl, p, .int turn, rfl, dget_of (k := Sum.inr "turn") e1 drawK_turn, turn, 1, rfl, rfl, .int (turn + 1), .int 0, rfl, ?_⟩
    refine ⟨.int (turn + 1), rfl, .ref p, rfl, p, _, rfl, dput_of (k := Sum.inr "turn") e1 drawK_put_turn (by show 4 < 1000; decide), ?_⟩
    refine ⟨by show 4 ≤ sizeLine; decide, fun l hl => ?_⟩
    have k1 : Keep [p] H (upd H p (.dK (drawK g c left (turn + 1)))) := Keep.chg e1 List.mem_cons_self (fun _ z => nomatch z) (fun _ _ z => nomatch z)
    have k2 := k1.trans (Keep.new (ex := [p]) (o := HO.lst [V.int 2147483647, V.int 2147483629, V.int 2147483587, V.int 2147483579]) hl)
    generalize hH : upd (upd H p (.dK (drawK g c left (turn + 1)))) l (.lst [V.int 2147483647, V.int 2147483629, V.int 2147483587, V.int 2147483579]) = H2 at k2 ⊢
    have nl : l ≠ p := fun z => by
      rw [z, upd_same] at hl
      cases hl
    have eL : SqL K H2 l [V.int 2147483647, V.int 2147483629, V.int 2147483587, V.int 2147483579] := by
      rw [← hH]
      exact .inl (.inl upd_same)
    have eP : H2 p = some (.dK (drawK g c left (turn + 1))) := by
      rw [← hH, upd_ne nl.symm, upd_same]
    have eG : H2 g = some (.lst (gs.map V.int)) := k2.get e2 (by simp [npg.symm])
    have eC : H2 c = some (.lst (cs.map V.int)) := k2.get e3 (by simp [npc.symm])
    have dr2 : Draw H2 p g c (n + 1) := ⟨dr.ne, gs, cs, left, turn + 1, eP, eG, eC, by omega, by omega⟩
    refine ⟨l, rfl, ⟨_, eL⟩, for_list (xs := [V.int 2147483647, V.int 2147483629, V.int 2147483587, V.int 2147483579]) (fun i σ H' => ∃ found y3 y4 y5, σ = [some (.ref p), some (.int (turn + 1)), some (.int found), y3, y4, y5] ∧ H2 = H')
      ⟨0, none, none, none, rfl, rfl⟩ (fun i σ H' _ hh => ?_) (fun i x σ H' hx hh => ?_) (fun σ H' hh => ?_)⟩
    · obtain ⟨_, _, _, _, _, rfl⟩ := hh
      exact eL
    · obtain ⟨found, y3, y4, y5, rfl, rfl⟩ := hh
      obtain ⟨pr, rfl, p0, p1⟩ : ∃ pr : Int, x = .int pr ∧ 0 < pr ∧ pr ≤ 2147483647 := by
        rcases i with _ | _ | _ | _ | i <;> first | (cases hx; exact ⟨_, rfl, by decide, by decide⟩) | cases hx
      refine ⟨_, rfl, _, _, rfl, rfl, .inl ⟨by decide, by decide⟩, _, rfl, _, _, rfl, rfl, ⟨by decide, by decide⟩, _, _, rfl, rfl, ?_⟩
      have b0 : -(2 ^ 64) < 48271 * (turn + 1) + pr / 37 ∧ 48271 * (turn + 1) + pr / 37 < 2 ^ 64 := by omega
      refine ⟨.ref p, rfl, p, .ref c, rfl, dget_of (k := Sum.inr "cells") eP drawK_cells, c, rfl, ⟨_, .inl (.inl eC)⟩,
        for_list (xs := cs.map V.int) (fun j σ H' => ∃ (blend : Int) (y5 : Option V), σ = [some (.ref p), some (.int (turn + 1)), some (.int found), some (.int pr), some (.int blend), y5] ∧ H2 = H' ∧ -(2 ^ 64) < blend ∧ blend < 2 ^ 64)
        ⟨_, y5, rfl, rfl, b0⟩ (fun j σ H' _ hh => ?_) (fun j x σ H' hx hh => ?_) (fun σ H' hh => ?_)⟩
      · obtain ⟨_, _, _, rfl, _⟩ := hh
        exact .inl (.inl eC)
      · obtain ⟨blend, y5, rfl, rfl, b1, b2⟩ := hh
        obtain ⟨cell, rfl⟩ : ∃ cell : Int, x = .int cell := by
          rw [List.getElem?_map] at hx
          cases e : cs[j]? with
          | none => rw [e] at hx; cases hx
          | some z => rw [e] at hx; cases hx; exact ⟨z, rfl⟩
        refine ⟨_, rfl, _, _, rfl, rfl, .inr ⟨by decide, by decide⟩, _, rfl, _, _, rfl, rfl, _, rfl, _, _, rfl, rfl, .inl ⟨_, rfl, _, rfl, _, _, rfl, rfl, p0, ?_⟩⟩
        refine ⟨_, _, rfl, rfl, ?_, ?_⟩
        · have := Int.emod_nonneg (blend * 69621 + cell + (turn + 1)) (show pr ≠ 0 by omega)
          omega
        · have := Int.emod_lt_of_pos (blend * 69621 + cell + (turn + 1)) p0
          omega
      · obtain ⟨blend, y5, rfl, rfl, b1, b2⟩ := hh
        refine ⟨_, rfl, _, _, rfl, rfl, .inr ⟨by decide, by decide⟩, _, rfl, _, _, rfl, rfl, ⟨by decide, by decide, by omega⟩, .inl ⟨_, rfl, _, rfl, _, _, rfl, rfl, p0, _, _, rfl, rfl, ?_⟩⟩
        exact ⟨_, _, _, _, rfl, rfl⟩
    · obtain ⟨found, y3, y4, y5, rfl, rfl⟩ := hh
      exact ⟨.int found, rfl, q found _ k2 dr2⟩
def sp_take : Sp := fun vs H Q _ => ∃ p g c n m, vs = [.ref p, .int m] ∧ Draw H p g c n ∧ n < 1000000000 ∧ 0 < m ∧ m < 2 ^ 64 ∧
  ∀ r H', 0 ≤ r → r < m → Keep [p, g] H H' → Draw H' p g c (n + 1) → Q (.int r) H'
theorem ok_take (D : Def K mg "_law_take" s_l_take ["draw", "many"]) (zi : mg "int" = none)
    (CM : Callee P w K mg base CX0 1 "_law_mixed" ["draw"] sp_mixed) :
    Callee P w K mg base CX0 2 "_law_take" ["draw", "many"] sp_take := by
  refine D.ok sc_l_take (fun vs H Q E h => ?_) (fun f cdv A outer s H vs Q E hr h => ?_)
  · obtain ⟨p, g, c, n, m, rfl, _⟩ := h
    rfl
  · obtain ⟨p, g, c, n, m, rfl, dr, small, m0, m1, q⟩ := h
    have nd := sc_l_take.nd
    have hu := hu_of hr
    refine ⟨_, pss_cons (ps_if (pt_cmpR op_eq (pe_dget hu (pv 0) pe_str (fun _ _ => rfl)) pe_int (nomark _))
        (pss_one (ps_dput hu (pv 0) pe_str (pe_ifExp (pt_cmpR (op_neD hr.units) (pe_dget hu (pv 0) pe_str (fun _ _ => rfl)) (pe_lst pa_nil) (nomark _))
          (pe_bm PySem.F.plainAttrs_list PySem.F.slot_list_pop PySem.F.type_list_pop mt_popAt (pe_dget hu (pv 0) pe_str (fun _ _ => rfl)) (pa_cons pe_int pa_nil))
          (pe_c CM hr (pa_cons (pv 0) pa_nil))) rfl)) pss_nil)
      (pss_cons (ps_set (i := 2) nd rfl (.inl rfl) (pe_op op_mod (pe_callTy call_int1 (by rfl) zi (by decide +kernel) (pa_cons (pe_dget hu (pv 0) pe_str (fun _ _ => rfl)) pa_nil)) (pv 1)))
      (pss_cons (ps_dput hu (pv 0) pe_str (pe_op op_fdivW (pe_dget hu (pv 0) pe_str (fun _ _ => rfl)) (pv 1)) rfl)
      (pss_one (ps_ret (pv 2))))), ?_⟩
    refine seq_join (fun σ H1 => σ = [some (.ref p), some (.int m), none] ∧ Keep [p, g] H H1 ∧ Draw H1 p g c (n + 1)) (fun NX nx => ?_) (fun σ H1 hh => ?_)
    · obtain ⟨gs, cs, left, turn, e1, e2, e3, t0, t1⟩ := dr.ex
      have npg : p ≠ g := ne_of e1 e2 (fun z => nomatch z)
      refine ⟨.ref p, rfl, p, .int left, rfl, dget_of (k := Sum.inr "left") e1 drawK_left, rfl, _, rfl, ite2 (fun z => ?_) (fun z => ?_)⟩
      · refine ⟨.ref p, rfl, p, .ref g, rfl, dget_of (k := Sum.inr "great") e1 drawK_great, by show 0 ≤ sizeLine; decide, fun l hl => ?_⟩
        have kl : Keep [p, g] H (upd H l (.lst [])) := Keep.new hl
        have eP : upd H l (.lst []) p = some (.dK (drawK g c left turn)) := by
          rw [upd_ne (ne_of_none e1 hl)]
          exact e1
        have eG : upd H l (.lst []) g = some (.lst (gs.map V.int)) := by
          rw [upd_ne (ne_of_none e2 hl)]
          exact e2
        have eC : upd H l (.lst []) c = some (.lst (cs.map V.int)) := by
          rw [upd_ne (ne_of_none e3 hl)]
          exact e3
        have eL : upd H l (.lst []) l = some (.lst []) := upd_same
        generalize upd H l (.lst []) = H1 at kl eP eG eC eL ⊢
        refine ⟨.list (gs.map PyData.int), .list [], .lst (.inl (.inl eG)) (dpAll_ints gs), .lst (.inl (.inl eL)) .nil, shaped_ints gs, shaped_ints [], _, rfl, ?_⟩
        rw [eqv_ints_nil]
        cases gs with
        | nil =>
          refine ⟨.ref p, rfl, p, g, c, n, rfl, ⟨dr.ne, [], cs, left, turn, eP, eG, eC, t0, t1⟩, small, fun r H2 k2 d2 => ?_⟩
          obtain ⟨gs2, cs2, left2, turn2, f1, f2, f3, u0, u1⟩ := d2.ex
          refine ⟨.ref p, rfl, p, _, rfl, dput_of (k := Sum.inr "left") f1 drawK_put_left (by show 4 < 1000; decide), ?_⟩
          have k3 : Keep [p, g] H2 (upd H2 p (.dK (drawK g c r turn2))) := Keep.chg f1 List.mem_cons_self (fun _ z => nomatch z) (fun _ _ z => nomatch z)
          refine nx _ _ ⟨rfl, (kl.trans (k2.more (by simp))).trans k3, dr.ne, gs2, cs2, r, turn2, upd_same, ?_, ?_, u0, u1⟩
          · rw [upd_ne npg.symm]
            exact f2
          · rw [upd_ne (ne_of e1 e3 (fun z => nomatch z)).symm]
            exact f3
        | cons x r =>
          refine ⟨.ref p, rfl, p, .ref g, rfl, dget_of (k := Sum.inr "great") eP drawK_great, .inl ⟨rfl, _, .inl (.inl eG)⟩, g, _, 0, 0, .int x, rfl, rfl, eG, by decide, by decide, ?_, rfl, ?_⟩
          · rw [List.map_cons, List.length_cons]
            simp [seqIndex?]
          · have f1 : upd H1 g (.lst ((List.map V.int (x :: r)).eraseIdx 0)) p = some (.dK (drawK g c left turn)) := by
              rw [upd_ne npg]
              exact eP
            refine ⟨.ref p, rfl, p, _, rfl, dput_of (k := Sum.inr "left") f1 drawK_put_left (by show 4 < 1000; decide), ?_⟩
            have k2 : Keep [p, g] H1 (upd H1 g (.lst ((List.map V.int (x :: r)).eraseIdx 0))) := Keep.chg eG (by simp) (fun _ z => nomatch z) (fun _ _ z => nomatch z)
            have k3 : Keep [p, g] _ (upd (upd H1 g (.lst ((List.map V.int (x :: r)).eraseIdx 0))) p (.dK (drawK g c x turn))) :=
              Keep.chg f1 List.mem_cons_self (fun _ z => nomatch z) (fun _ _ z => nomatch z)
            refine nx _ _ ⟨rfl, (kl.trans k2).trans k3, dr.ne, r, cs, x, turn, upd_same, ?_, ?_, t0, by omega⟩
            · rw [upd_ne npg.symm, upd_same]
              rfl
            · rw [upd_ne (ne_of e1 e3 (fun z => nomatch z)).symm, upd_ne dr.ne.symm]
              exact eC
      · exact nx _ _ ⟨rfl, Keep.refl, dr.ne, gs, cs, left, turn, e1, e2, e3, t0, by omega⟩
    · obtain ⟨rfl, k1, d1⟩ := hh
      obtain ⟨gs, cs, left, turn, e1, e2, e3, t0, t1⟩ := d1.ex
      have npg : p ≠ g := ne_of e1 e2 (fun z => nomatch z)
      refine ⟨.ref p, rfl, p, .int left, rfl, dget_of (k := Sum.inr "left") e1 drawK_left, .inl ⟨_, rfl, _, rfl, _, _, rfl, rfl, m0, ?_⟩⟩
      refine ⟨.ref p, rfl, p, .int left, rfl, dget_of (k := Sum.inr "left") e1 drawK_left, _, rfl, _, _, rfl, rfl, wide_div m0 (b := 64) (by omega) (by decide) (by decide), ?_⟩
      refine ⟨.ref p, rfl, p, _, rfl, dput_of (k := Sum.inr "left") e1 drawK_put_left (by show 4 < 1000; decide), ?_⟩
      have k2 : Keep [p, g] H1 (upd H1 p (.dK (drawK g c (left / m) turn))) := Keep.chg e1 List.mem_cons_self (fun _ z => nomatch z) (fun _ _ z => nomatch z)
      refine ⟨_, rfl, q _ _ (Int.emod_nonneg _ (by omega)) (Int.emod_lt_of_pos _ m0) (k1.trans k2) ⟨dr.ne, gs, cs, left / m, turn, upd_same, ?_, ?_, t0, t1⟩⟩
      · rw [upd_ne npg.symm]
        exact e2
      · rw [upd_ne (ne_of e1 e3 (fun z => nomatch z)).symm]
        exact e3
end
end K01
set_option maxHeartbeats 2000000
namespace HG
open PySem PySem.Spec PyProof.Rows L2
theorem atI_of {α : Type} {xs : List α} {r : Int} (h0 : 0 ≤ r) (h1 : r < xs.length) : ∃ v, xs[r.toNat]? = some v ∧ atI xs r = some v := by
  have h2 : r.toNat < xs.length := by omega
  refine ⟨xs[r.toNat], List.getElem?_eq_getElem h2, ?_⟩
  have q := atI_nat (xs := xs) (j := r.toNat) (List.getElem?_eq_getElem h2)
  rw [Int.toNat_of_nonneg h0] at q
  exact q
end HG
namespace K01
open PySem PySem.Spec PyProof.Rows L2 HG
section
variable {P : Program} {w : World} {K : PySem.W.Frag} {mg : Str → Option Value} {base : Heap}
def sp_pick (K : PySem.W.Frag) : Sp := fun vs H Q _ => ∃ p g c n l xs, vs = [.ref p, .ref l] ∧ Draw H p g c n ∧ n < 1000000000 ∧
  SqL K H l xs ∧ l ∉ [p, g] ∧ 0 < xs.length ∧ xs.length < 1000 ∧
  ∀ (i : Nat) v H', xs[i]? = some v → Keep [p, g] H H' → Draw H' p g c (n + 1) → Q v H'
theorem ok_pick (D : Def K mg "_law_pick" s_l_pick ["draw", "some"]) (zl : mg "len" = none)
    (CT : Callee P w K mg base CX0 2 "_law_take" ["draw", "many"] sp_take) :
    Callee P w K mg base CX0 3 "_law_pick" ["draw", "some"] (sp_pick K) := by
  refine D.ok sc_l_pick (fun vs H Q E h => ?_) (fun f cdv A outer s H vs Q E hr h => ?_)
  · obtain ⟨p, g, c, n, l, xs, rfl, _⟩ := h
    rfl
  · obtain ⟨p, g, c, n, l, xs, rfl, dr, small, hl, nl, x0, x1, q⟩ := h
    refine ⟨_, pss_one (ps_ret (pe_ix ix_list (pv 1) (pe_c CT hr (pa_cons (pv 0) (pa_cons (pe_callB call_len_seq (by rfl) zl PySem.boot_len (pa_cons (pv 1) pa_nil)) pa_nil))) (fun _ _ => rfl))), ?_⟩
    refine ⟨.ref l, rfl, .ref p, rfl, .ref l, rfl, l, xs, rfl, .inl hl, p, g, c, n, xs.length, rfl, dr, small, by omega, by omega, fun r H1 r0 r1 k d => ?_⟩
    obtain ⟨v, h1, h2⟩ := atI_of r0 r1
    exact ⟨l, xs, r, v, rfl, rfl, sqL_keep k nl hl, h2, q _ _ _ h1 k d⟩
def sp_begun (K : PySem.W.Frag) : Sp := fun vs H Q _ => ∃ (l : Addr) (ns : List Int), vs = [.ref l] ∧ SqL K H l (ns.map V.int) ∧ ns.length ≤ 63 ∧
  ∀ p g c H', Keep [] H H' → Draw H' p g c 0 → Q (.ref p) H'
theorem ok_begun (D : Def K mg "_law_begun" s_l_begun ["script"]) (za : mg "abs" = none) (zi : mg "int" = none) :
    Callee P w K mg base CX0 1 "_law_begun" ["script"] (sp_begun K) := by
  refine D.ok sc_l_begun (fun vs H Q E h => ?_) (fun f cdv A outer s H vs Q E hr h => ?_)
  · obtain ⟨l, ns, rfl, _⟩ := h
    rfl
  · obtain ⟨l, ns, rfl, hl, len, q⟩ := h
    have nd := sc_l_begun.nd
    have hu := hu_of hr
    refine ⟨_, pss_cons (ps_setLc (i := 1) (own := [("cell", 2)]) (g := gName 2) rfl nd rfl rfl (sw_true rfl rfl rfl (by decide +kernel)) (pi_list (pv 0))
        (blkOk_by (N := ["script", "great", "cell"]) (sc := defScope s_l_begun) (by decide +kernel)) (fun _ _ _ _ _ => pg_name (i := 2) nd rfl (Or.inl rfl))
        (fun _ _ _ _ _ => pts_one (pt_cmpR op_ge (pe_callB call_abs (by rfl) za (by decide +kernel) (pa_cons (pv 2) pa_nil)) (pe_op op_pow pe_int pe_int) (nomark _)))
        (fun _ _ _ _ _ => pe_op op_sub (pe_callB call_abs (by rfl) za (by decide +kernel) (pa_cons (pv 2) pa_nil)) (pe_op op_pow pe_int pe_int)))
      (pss_one (ps_ret (pe_disp (pps_cons pe_str (pv 1) (pps_cons pe_str
        (pe_lc (own := [("cell", 2)]) (g := gName 2) rfl nd (pi_list (pv 0))
          (blkOk_by (N := ["script", "great", "cell"]) (sc := defScope s_l_begun) (by decide +kernel)) (fun _ _ _ _ _ => pg_name (i := 2) nd rfl (Or.inl rfl))
          (fun _ _ _ _ _ => pts_nil)
          (fun _ _ _ _ _ => pe_op op_mod (pe_callTy call_int1 (by rfl) zi (by decide +kernel) (pa_cons (pe_callB call_abs (by rfl) za (by decide +kernel) (pa_cons (pv 2) pa_nil)) pa_nil)) pe_int))
        (pps_cons pe_str pe_int (pps_cons pe_str pe_int pps_nil)))) rfl rfl (fun z => nomatch z) (by decide)))), ?_⟩
    have item : ∀ (i : Nat) (x : V), (ns.map V.int)[i]? = some x → ∃ z : Int, x = .int z := fun i x hx => by
      rw [List.getElem?_map] at hx
      cases e : ns[i]? with
      | none => rw [e] at hx; cases hx
      | some z => rw [e] at hx; cases hx; exact ⟨z, rfl⟩
    have pw : CPow 10 18 := ⟨by decide, by decide, by decide⟩
    refine seq_join (fun σ H1 => ∃ (g : Addr) (gs : List Int), σ = [some (.ref l), some (.ref g), none] ∧ H g = none ∧ Keep [] H H1 ∧ H1 g = some (.lst (gs.map V.int)) ∧ gs.length ≤ 63) (fun NX nx => ?_) (fun σ H1 hh => ?_)
    · refine ⟨.ref l, rfl, l, rfl, ⟨_, hl⟩, fun D nD => ?_⟩
      refine lc_list (xs := ns.map V.int) (fun i H' => Keep [] H H' ∧ ∃ acc : List Int, H' D = some (.lst (acc.map V.int)) ∧ acc.length ≤ i) ⟨Keep.new nD, [], upd_same, Nat.le_refl 0⟩
        (fun i H' _ hh => sqL_keep hh.1.toKeepW (by simp) hl) (fun i x H' hx hh => ?_) (fun H' hh => ?_)
      · obtain ⟨k, acc, eD, len⟩ := hh
        obtain ⟨z, rfl⟩ := item i x hx
        have il : i < 63 := by
          have := (List.getElem?_eq_some_iff.mp hx).1
          rw [List.length_map] at this
          omega
        refine ⟨rfl, .int z, rfl, z, rfl, _, _, rfl, rfl, pw, _, _, rfl, rfl, _, rfl, ite2 (fun _ => ?_) (fun _ => ?_)⟩
        · refine ⟨.int z, rfl, z, rfl, _, _, rfl, rfl, pw, _, _, rfl, rfl, acc.map V.int, eD, ?_, ?_, acc ++ [(if z < 0 then -z else z) - 10 ^ (18 : Int).toNat], ?_, ?_⟩
          · rw [List.length_map]
            exact small1000 (by omega)
          · exact k.mut nD
          · rw [upd_same, List.map_append]
            rfl
          · rw [List.length_append]
            simp only [List.length_singleton]
            omega
        · exact ⟨k, acc, eD, by omega⟩
      · obtain ⟨k, acc, eD, len'⟩ := hh
        rw [List.length_map] at len'
        exact nx _ _ ⟨D, acc, rfl, nD, k, eD, by omega⟩
    · obtain ⟨g, gs, rfl, ng, k, eg, lg⟩ := hh
      refine fun p np => ?_
      have kp : Keep [] H1 (upd H1 p (.dK [])) := Keep.new np
      have npg : g ≠ p := ne_of_none eg np
      refine ⟨.ref g, rfl, .ref l, rfl, l, rfl, ⟨_, sqL_keep (k.trans kp).toKeepW (by simp) hl⟩, fun D nD => ?_⟩
      have npD : p ≠ D := fun z => by
        rw [← z, upd_same] at nD
        cases nD
      have nD1 : H1 D = none := by
        rw [upd_ne npD.symm] at nD
        exact nD
      refine lc_list (xs := ns.map V.int) (fun i H' => (∀ a o, upd H1 p (.dK []) a = some o → H' a = some o) ∧ ∃ acc : List Int, H' D = some (.lst (acc.map V.int)) ∧ acc.length ≤ i) ⟨fun a o e => ?_, [], upd_same, Nat.le_refl 0⟩
        (fun i H' _ hh => sqL_keep ((k.trans kp).trans (Keep.ext hh.1)).toKeepW (by simp) hl) (fun i x H' hx hh => ?_) (fun H' hh => ?_)
      · rw [upd_ne (ne_of_none e nD)]
        exact e
      · obtain ⟨k, acc, eD, len⟩ := hh
        obtain ⟨z, rfl⟩ := item i x hx
        have il : i < 63 := by
          have := (List.getElem?_eq_some_iff.mp hx).1
          rw [List.length_map] at this
          omega
        refine ⟨rfl, .int z, rfl, z, rfl, .inl ⟨_, rfl, _, _, rfl, rfl, (show (0 : Int) < 2147483629 by decide), acc.map V.int, eD, ?_, ?_, acc ++ [(if z < 0 then -z else z) % 2147483629], ?_, ?_⟩⟩
        · rw [List.length_map]
          exact small1000 (by omega)
        · exact fun a o e => by rw [upd_ne (ne_of_none e nD)]; exact k a o e
        · rw [upd_same, List.map_append]
          rfl
        · rw [List.length_append]
          simp only [List.length_singleton]
          omega
      · obtain ⟨kk, acc, eD, len'⟩ := hh
        have eP : H' p = some (.dK []) := kk p _ upd_same
        have eG : H' g = some (.lst (gs.map V.int)) := kk g _ (by rw [upd_ne npg]; exact eg)
        have ngD : g ≠ D := ne_of_none eg nD1
        refine ⟨eP, [(.inr "great", .ref g), (.inr "cells", .ref D), (.inr "left", .int 0), (.inr "turn", .int 0)], rfl, by show 4 ≤ 15; decide, ?_⟩
        have kAll : Keep [] H (upd H' p (.dK (drawK g D 0 0))) := by
          have base : Keep [] H H' := (k.trans kp).trans (Keep.ext kk)
          exact base.mut (k.none np)
        refine q p g D _ kAll ⟨ngD, gs, acc, 0, 0, upd_same, ?_, ?_, by decide, by decide⟩
        · rw [upd_ne npg]
          exact eG
        · rw [upd_ne npD.symm]
          exact eD
end
end K01
set_option maxHeartbeats 2000000
namespace HG
open PySem PySem.Spec PyProof.Rows L2
/-! ## any values: numbers, pairs -/
def Out (ex : List Addr) (v : V) : Prop := ∀ a, v = .ref a → a ∉ ex
theorem Out.flat {ex : List Addr} {v : V} (h : ∀ a, v ≠ .ref a) : Out ex v := fun a e => absurd e (h a)
theorem Out.less {ex ex' : List Addr} {v : V} (o : Out ex v) (h : ∀ x ∈ ex', x ∈ ex) : Out ex' v := fun a e m => o a e (h a m)
theorem tyX_keep {K : PySem.W.Frag} {ex : List Addr} {H H' : Hp} {v : V} {t : Value} (k : KeepW ex H H') (o : Out ex v)
    (h : TyX K H v t) : TyX K H' v t := by
  cases h with
  | base h =>
    refine .base ?_
    cases h with
    | non => exact .non
    | bl x => exact .bl x
    | int i => exact .int i
    | str x => exact .str x
    | flt x => exact .flt x
    | lst e => exact .lst (k.get e (o _ rfl))
    | frz e => exact .frz (k.frz _ _ _ e)
    | tup e => exact .tup (k.tup _ _ e)
    | dK e => exact .dK (k.get e (o _ rfl))
    | dT e => exact .dT (k.get e (o _ rfl))
    | ins e cl ha hn htk hm => exact .ins (k.get e (o _ rfl)) cl ha hn htk hm
  | byt b => exact .byt b
  | set e => exact .set (k.get e (o _ rfl))
  | kList e c => exact .kList e c
  | kTuple e c => exact .kTuple e c
  | kDict e c => exact .kDict e c
  | fTuple e => exact .fTuple (k.frz _ _ _ e)
  | fDict e => exact .fDict (k.frz _ _ _ e)
theorem tyX_tup {K : PySem.W.Frag} {H : Hp} {a : Addr} {xs : List V} (h : SqT K H a xs) : TyX K H (.ref a) (.type "tuple") := by
  rcases h with (h | ⟨o, h⟩) | h
  · exact .base (.tup h)
  · exact .fTuple h
  · obtain ⟨o, vs, n, e, c, _⟩ := h
    exact .kTuple e c
structure NumB (ex : List Addr) (K : PySem.W.Frag) (H : Hp) (x : V) (b : Bool) : Prop where
  out : Out ex x
  ex : ∃ T b1 b2, TyX K H x (.type T) ∧ kitB T "int" = some b1 ∧ kitB T "bool" = some b2 ∧ b = (b1 && !b2)
theorem NumB.keep {ex ex' : List Addr} {K : PySem.W.Frag} {H H' : Hp} {x : V} {b : Bool} (k : KeepW ex H H') (h : NumB ex K H x b) : NumB ex K H' x b := by
  obtain ⟨o, T, b1, b2, t, e⟩ := h
  exact ⟨o, T, b1, b2, tyX_keep k o t, e⟩
theorem NumB.int {ex : List Addr} {K : PySem.W.Frag} {H : Hp} (i : Int) : NumB ex K H (.int i) true :=
  ⟨.flat (fun _ z => nomatch z), "int", true, false, .base (.int i), by decide +kernel, by decide +kernel, rfl⟩
theorem NumB.bl {ex : List Addr} {K : PySem.W.Frag} {H : Hp} (i : Bool) : NumB ex K H (.bl i) false :=
  ⟨.flat (fun _ z => nomatch z), "bool", true, true, .base (.bl i), by decide +kernel, by decide +kernel, rfl⟩
theorem NumB.non {ex : List Addr} {K : PySem.W.Frag} {H : Hp} : NumB ex K H .non false :=
  ⟨.flat (fun _ z => nomatch z), "NoneType", false, false, .base .non, by decide +kernel, by decide +kernel, rfl⟩
theorem NumB.str {ex : List Addr} {K : PySem.W.Frag} {H : Hp} (s : Str) : NumB ex K H (.str s) false :=
  ⟨.flat (fun _ z => nomatch z), "str", false, false, .base (.str s), by decide +kernel, by decide +kernel, rfl⟩
theorem NumB.tup {ex : List Addr} {K : PySem.W.Frag} {H : Hp} {a : Addr} {xs : List V} (h : SqT K H a xs) (o : a ∉ ex) : NumB ex K H (.ref a) false :=
  ⟨(fun b e => by cases e; exact o), "tuple", false, false, tyX_tup h, by decide +kernel, by decide +kernel, rfl⟩
theorem NumB.lst {ex : List Addr} {K : PySem.W.Frag} {H : Hp} {a : Addr} {xs : List V} (h : H a = some (.lst xs)) (o : a ∉ ex) : NumB ex K H (.ref a) false :=
  ⟨(fun b e => by cases e; exact o), "list", false, false, .base (.lst h), by decide +kernel, by decide +kernel, rfl⟩
theorem NumB.less {ex ex' : List Addr} {K : PySem.W.Frag} {H : Hp} {x : V} {b : Bool} (h : NumB ex K H x b) (i : ∀ x ∈ ex', x ∈ ex) : NumB ex' K H x b :=
  ⟨h.out.less i, h.ex⟩
/-- whether it is a tuple of two numbers -/
inductive PairB (ex : List Addr) (K : PySem.W.Frag) (H : Hp) : V → Bool → Prop where
  | no {v : V} {T : String} (o : Out ex v) (t : TyX K H v (.type T)) (h : kitB T "tuple" = some false) : PairB ex K H v false
  | len {a : Addr} {xs : List V} (h : SqT K H a xs) (n : xs.length ≠ 2) : PairB ex K H (.ref a) false
  | first {a : Addr} {x y : V} (h : SqT K H a [x, y]) (hx : NumB ex K H x false) : PairB ex K H (.ref a) false
  | second {a : Addr} {x y : V} (h : SqT K H a [x, y]) (hx : NumB ex K H x true) (hy : NumB ex K H y false) : PairB ex K H (.ref a) false
  | yes {a : Addr} {i j : Int} (h : SqT K H a [.int i, .int j]) : PairB ex K H (.ref a) true
theorem PairB.keep {ex : List Addr} {K : PySem.W.Frag} {H H' : Hp} {v : V} {b : Bool} (k : KeepW ex H H') (h : PairB ex K H v b) : PairB ex K H' v b := by
  cases h with
  | no o t h => exact .no o (tyX_keep k o t) h
  | len h n => exact .len (sqT_keep k h) n
  | first h hx => exact .first (sqT_keep k h) (hx.keep (ex' := ex) k)
  | second h hx hy => exact .second (sqT_keep k h) (hx.keep (ex' := ex) k) (hy.keep (ex' := ex) k)
  | yes h => exact .yes (sqT_keep k h)
theorem PairB.less {ex ex' : List Addr} {K : PySem.W.Frag} {H : Hp} {v : V} {b : Bool} (h : PairB ex K H v b) (i : ∀ x ∈ ex', x ∈ ex) : PairB ex' K H v b := by
  cases h with
  | no o t h => exact .no (o.less i) t h
  | len h n => exact .len h n
  | first h hx => exact .first h (hx.less i)
  | second h hx hy => exact .second h (hx.less i) (hy.less i)
  | yes h => exact .yes h
theorem Pr.pairB {ex : List Addr} {K : PySem.W.Frag} {H : Hp} {v : V} {a b : Int} (h : Pr K H v a b) : PairB ex K H v true := by
  obtain ⟨p, rfl, q⟩ := h
  exact .yes q
theorem kit_some {K : PySem.W.Frag} {T C : String} {b : Bool} (h : kitB T C = some b) : PySem.W.kitOne K (.type T) (.type C) = some b := kit_ty h
end HG
set_option maxHeartbeats 2000000
namespace HG
open PySem PySem.Spec PyProof.Rows L2
/-- a number, or none -/
def NumO (ex : List Addr) (K : PySem.W.Frag) (H : Hp) (v : V) : Option Int → Prop
  | some i => v = .int i
  | none => NumB ex K H v false
def within (lo hi : Int) : Option Int → Bool
  | some i => decide (lo ≤ i) && decide (i ≤ hi)
  | none => false
end HG
namespace K01
open PySem PySem.Spec PyProof.Rows L2 HG
def signsS : Str := "ABCDEFGHIJKLMNOPQRSTUVWXYZabcdefghijklmnopqrstuvwxyz0123456789."
structure Sign (z : Str) : Prop where
  some : 1 ≤ z.length
  few : z.length ≤ 12
  good : ∀ c ∈ z.cps.toList, c ∈ signsS.cps.toList
def Asc (L : List Str) : Prop := ∀ i x y, L[i]? = some x → L[i + 1]? = some y → x.cps.toList < y.cps.toList
structure Letters (L : List Str) : Prop where
  all : ∀ z ∈ L, Sign z
  asc : Asc L
  pos : 1 ≤ L.length
  few : L.length ≤ 72
structure Consts (mg : Str → Option Value) : Prop where
  signs : ∃ t, mg "LETTER_SIGNS" = some (.str signsS t)
  long : ∃ t, mg "LONGEST_SIGNS" = some (.int 12 t)
  letters : ∃ t, mg "MOST_LETTERS" = some (.int 72 t)
  states : ∃ t, mg "MOST_STATES" = some (.int 120 t)
  paid : ∃ t, mg "MOST_PAID" = some (.int 999 t)
section
variable {P : Program} {w : World} {K : PySem.W.Frag} {mg : Str → Option Value} {base : Heap}
def sp_isnum (K : PySem.W.Frag) : Sp := fun vs H Q _ => ∃ v b, vs = [v] ∧ NumB [] K H v b ∧ Q (.bl b) H
theorem ok_isnum (D : Def K mg "is_number" s_is_number ["thing"]) (zs : mg "isinstance" = none) (zi : mg "int" = none) (zb : mg "bool" = none) :
    Callee P w K mg base CX0 1 "is_number" ["thing"] (sp_isnum K) := by
  refine D.ok sc_is_number (fun vs H Q E h => ?_) (fun f cdv A outer s H vs Q E hr h => ?_)
  · obtain ⟨v, b, rfl, _⟩ := h
    rfl
  · obtain ⟨v, b, rfl, ⟨_, T, b1, b2, t, e1, e2, rfl⟩, q⟩ := h
    refine ⟨_, pss_one (ps_ret (pe_and (pe_callB call_isi (by rfl) zs (by decide +kernel) (pa_cons (pv 0) (pa_cons (pe_bltn (v := .ty "int") (by rfl) zi (by decide +kernel) rfl) pa_nil)))
      (pe_one (pe_not (pe_callB call_isi (by rfl) zs (by decide +kernel) (pa_cons (pv 0) (pa_cons (pe_bltn (v := .ty "bool") (by rfl) zb (by decide +kernel) rfl) pa_nil))))))), ?_⟩
    refine ⟨v, rfl, _, _, _, _, b1, rfl, .ty "int", t, kit_some e1, b1, rfl, ?_⟩
    cases b1 with
    | false => exact q
    | true => exact ⟨v, rfl, _, _, _, _, b2, rfl, .ty "bool", t, kit_some e2, b2, rfl, q⟩
def sp_numfrom (K : PySem.W.Frag) : Sp := fun vs H Q _ => ∃ v o lo hi, vs = [v, .int lo, .int hi] ∧ NumO [] K H v o ∧ Q (.bl (within lo hi o)) H
theorem ok_numfrom (D : Def K mg "is_number_from" s_is_number_from ["thing", "low", "high"]) (CN : Callee P w K mg base CX0 1 "is_number" ["thing"] (sp_isnum K)) :
    Callee P w K mg base CX0 2 "is_number_from" ["thing", "low", "high"] (sp_numfrom K) := by
  refine D.ok sc_is_number_from (fun vs H Q E h => ?_) (fun f cdv A outer s H vs Q E hr h => ?_)
  · obtain ⟨v, o, lo, hi, rfl, _⟩ := h
    rfl
  · obtain ⟨v, o, lo, hi, rfl, n, q⟩ := h
    refine ⟨_, pss_one (ps_ret (pe_and (pe_c CN hr (pa_cons (pv 0) pa_nil)) (pe_one (pe_chain op_le op_le (pv 1) (pv 0) (pv 2))))), ?_⟩
    cases o with
    | none => exact ⟨v, rfl, v, false, rfl, n, false, rfl, q⟩
    | some i =>
      have n : v = .int i := n
      subst n
      refine ⟨_, rfl, _, true, rfl, .int i, true, rfl, _, rfl, _, rfl, _, _, rfl, rfl, _, rfl, ?_⟩
      by_cases c : lo ≤ i
      · rw [if_pos (decide_eq_true c)]
        refine ⟨_, rfl, _, _, rfl, rfl, ?_⟩
        have e : within lo hi (some i) = decide (i ≤ hi) := by
          show (decide (lo ≤ i) && decide (i ≤ hi)) = _
          rw [decide_eq_true c]
          rfl
        rw [e] at q
        exact q
      · rw [if_neg (fun z => c (of_decide_eq_true z))]
        have e : within lo hi (some i) = false := by
          show (decide (lo ≤ i) && decide (i ≤ hi)) = _
          rw [decide_eq_false c]
          rfl
        rw [e] at q
        exact q
/-- texts -/
def sp_string : Sp := fun vs H Q _ => ∃ z, vs = [.str z, .str signsS] ∧ Sign z ∧ Q (.bl true) H
theorem ok_string (D : Def K mg "is_string_of" s_is_string_of ["thing", "signs"]) (c : Consts mg) (zs : mg "isinstance" = none) (zt : mg "str" = none) (zl : mg "len" = none) :
    Callee P w K mg base CX0 1 "is_string_of" ["thing", "signs"] sp_string := by
  refine D.ok sc_is_string_of (fun vs H Q E h => ?_) (fun f cdv A outer s H vs Q E hr h => ?_)
  · obtain ⟨z, rfl, _⟩ := h
    rfl
  · obtain ⟨z, rfl, g, q⟩ := h
    have nd := sc_is_string_of.nd
    obtain ⟨tl, ml⟩ := c.long
    refine ⟨_, pss_cons (ps_if (PW.pt (pw_or (pt_not (pt_val (pe_callB call_isi (by rfl) zs (by decide +kernel) (pa_cons (pv 0) (pa_cons (pe_bltn (v := .ty "str") (by rfl) zt (by decide +kernel) rfl) pa_nil)))))
        (pw_or1 (pt_not (pt_chain op_le op_le pe_int (pe_callB call_len_str (by rfl) zl PySem.boot_len (pa_cons (pv 0) pa_nil)) (pe_glob (v := .int 12) rfl ml ⟨tl, rfl⟩))))))
        (pss_one (ps_ret pe_bl)) pss_nil)
      (pss_cons (ps_for PassesOwn.never rfl (pi_str (pv 0)) (pg_name (i := 2) nd rfl (.inl rfl))
        (pss_one (ps_if (pt_cmpR op_notIn_sign (pv 2) (pv 1) (by rfl)) (pss_one (ps_ret pe_bl)) pss_nil)))
      (pss_one (ps_ret pe_bl))), ?_⟩
    have l12 : (z.length : Int) ≤ 12 := by have := g.few; omega
    have l1 : (1 : Int) ≤ z.length := by have := g.some; omega
    refine ⟨_, rfl, _, _, _, _, true, rfl, .ty "str", .base (.str z), kit_some (by decide +kernel), true, rfl, ?_⟩
    refine ⟨_, rfl, z, rfl, Nat.le_trans g.few (by decide), _, _, rfl, rfl, _, rfl, ?_⟩
    rw [if_pos (decide_eq_true l1)]
    refine ⟨_, _, rfl, rfl, _, rfl, ?_⟩
    rw [decide_eq_true l12]
    refine ⟨_, rfl, z, rfl, for_it walk_str (fun i σ H' => ∃ v, σ = [some (.str z), some (.str signsS), v] ∧ H = H') ⟨none, rfl, rfl⟩ (fun _ _ _ _ _ => trivial) (fun i x σ H1 H2 lt hh y => ?_) (fun σ H' hh => ?_)⟩
    · obtain ⟨v, rfl, rfl⟩ := hh
      obtain ⟨rfl, c, at_, rfl⟩ := y
      dsimp only [gName]
      have mem : c ∈ signsS.cps.toList := g.good c (by
        obtain ⟨lt2, e⟩ := Array.getElem?_eq_some_iff.mp at_
        rw [← e]
        exact Array.mem_toList_iff.mpr (Array.getElem_mem lt2))
      refine ⟨_, rfl, _, rfl, c, signsS, rfl, rfl, ?_⟩
      rw [decide_eq_true mem]
      exact ⟨_, rfl, _, rfl, rfl⟩
    · obtain ⟨v, rfl, rfl⟩ := hh
      exact q
def sp_letter : Sp := fun vs H Q _ => ∃ z, vs = [.str z] ∧ Sign z ∧ Q (.bl true) H
theorem ok_letter (D : Def K mg "is_letter" s_is_letter ["thing"]) (c : Consts mg) (CS : Callee P w K mg base CX0 1 "is_string_of" ["thing", "signs"] sp_string) :
    Callee P w K mg base CX0 2 "is_letter" ["thing"] sp_letter := by
  refine D.ok sc_is_letter (fun vs H Q E h => ?_) (fun f cdv A outer s H vs Q E hr h => ?_)
  · obtain ⟨z, rfl, _⟩ := h
    rfl
  · obtain ⟨z, rfl, g, q⟩ := h
    obtain ⟨t, m⟩ := c.signs
    refine ⟨_, pss_one (ps_ret (pe_c CS hr (pa_cons (pv 0) (pa_cons (pe_glob (v := .str signsS) rfl m ⟨t, rfl⟩) pa_nil)))), ?_⟩
    exact ⟨_, rfl, z, rfl, g, q⟩
def sp_tupN (K : PySem.W.Frag) : Sp := fun vs H Q _ => ∃ a xs n, vs = [.ref a, .int n] ∧ SqT K H a xs ∧ Q (.bl (decide ((xs.length : Int) = n))) H
theorem ok_tupN (D : Def K mg "is_tuple_of" s_is_tuple_of ["thing", "many"]) (zs : mg "isinstance" = none) (zt : mg "tuple" = none) (zl : mg "len" = none) :
    Callee P w K mg base CX0 1 "is_tuple_of" ["thing", "many"] (sp_tupN K) := by
  refine D.ok sc_is_tuple_of (fun vs H Q E h => ?_) (fun f cdv A outer s H vs Q E hr h => ?_)
  · obtain ⟨a, xs, n, rfl, _⟩ := h
    rfl
  · obtain ⟨a, xs, n, rfl, hx, q⟩ := h
    refine ⟨_, pss_one (ps_ret (pe_and (pe_callB call_isi (by rfl) zs (by decide +kernel) (pa_cons (pv 0) (pa_cons (pe_bltn (v := .ty "tuple") (by rfl) zt (by decide +kernel) rfl) pa_nil)))
      (pe_one (pe_cmpR op_eq (pe_callB call_len_seq (by rfl) zl PySem.boot_len (pa_cons (pv 0) pa_nil)) (pv 1) (nomark _))))), ?_⟩
    refine ⟨_, rfl, _, _, _, _, true, rfl, .ty "tuple", tyX_tup hx, kit_some (by decide +kernel), true, rfl, _, rfl, _, _, rfl, .inr hx, _, rfl, rfl, ?_⟩
    simpa using q
/-- ascending texts -/
def sp_asc (K : PySem.W.Frag) : Sp := fun vs H Q _ => ∃ a L, vs = [.ref a] ∧ SqT K H a (L.map V.str) ∧ Asc L ∧ L.length ≤ 72 ∧ 1 ≤ L.length ∧ Q (.bl true) H
theorem ok_asc (D : Def K mg "is_ascending" s_is_ascending ["things"]) (zr : mg "range" = none) (zl : mg "len" = none) :
    Callee P w K mg base CX0 1 "is_ascending" ["things"] (sp_asc K) := by
  refine D.ok sc_is_ascending (fun vs H Q E h => ?_) (fun f cdv A outer s H vs Q E hr h => ?_)
  · obtain ⟨a, L, rfl, _⟩ := h
    rfl
  · obtain ⟨a, L, rfl, hx, asc, few, pos, q⟩ := h
    have nd := sc_is_ascending.nd
    refine ⟨_, pss_cons (ps_for PassesOwn.never rfl (pi_range1 rfl zr (pa_cons (pe_op op_sub (pe_callB call_len_seq (by rfl) zl PySem.boot_len (pa_cons (pv 0) pa_nil)) pe_int) pa_nil)) (pg_name (i := 1) nd rfl (.inl rfl))
        (pss_one (ps_if (pt_not (pt_cmpR op_lt_str (pe_ix ix_tup (pv 0) (pv 1) (fun _ _ => rfl)) (pe_ix ix_tup (pv 0) (pe_op op_add (pv 1) pe_int) (fun _ _ => rfl)) (nomark _))) (pss_one (ps_ret pe_bl)) pss_nil)))
      (pss_one (ps_ret pe_bl)), ?_⟩
    refine ⟨_, rfl, _, _, rfl, .inr hx, _, _, rfl, rfl, _, rfl, ?_, ?_, for_range (fun i σ H' => ∃ v, σ = [some (.ref a), v] ∧ H = H') ⟨none, rfl, rfl⟩ (fun i σ H' lt hh => ?_) (fun σ H' hh => ?_)⟩
    · rw [List.length_map]
      omega
    · rw [List.length_map]
      omega
    · obtain ⟨v, rfl, rfl⟩ := hh
      dsimp only [gName]
      rw [List.length_map] at lt
      have i1 : i + 1 < L.length := by omega
      have x1 : L[i]? = some L[i] := List.getElem?_eq_getElem (by omega)
      have x2 : L[i + 1]? = some L[i + 1] := List.getElem?_eq_getElem i1
      have a1 : atI (L.map V.str) (0 + (i : Int)) = some (.str L[i]) := by
        rw [show (0 : Int) + i = (i : Nat) by omega]
        exact atI_nat (by rw [List.getElem?_map, x1]; rfl)
      have a2 : atI (L.map V.str) (0 + (i : Int) + 1) = some (.str L[i + 1]) := by
        rw [show (0 : Int) + i + 1 = ((i + 1 : Nat) : Int) by omega]
        exact atI_nat (by rw [List.getElem?_map, x2]; rfl)
      refine ⟨_, rfl, _, rfl, a, _, _, _, rfl, rfl, hx, a1, _, rfl, _, rfl, _, _, rfl, rfl, a, _, _, _, rfl, rfl, hx, a2, _, _, rfl, rfl, _, rfl, ?_⟩
      rw [decide_eq_true (asc i _ _ x1 x2)]
      exact ⟨_, rfl, rfl⟩
    · obtain ⟨v, rfl, rfl⟩ := hh
      exact q
def sp_row (K : PySem.W.Frag) : Sp := fun vs H Q _ => ∃ a L n, vs = [.ref a, .int n] ∧ SqT K H a (L.map V.str) ∧ Letters L ∧ (L.length : Int) ≤ n ∧ Q (.bl true) H
theorem ok_row (D : Def K mg "is_row_of_letters" s_is_row_of_letters ["thing", "most"]) (zs : mg "isinstance" = none) (zt : mg "tuple" = none) (zl : mg "len" = none)
    (CL : Callee P w K mg base CX0 2 "is_letter" ["thing"] sp_letter) (CA : Callee P w K mg base CX0 1 "is_ascending" ["things"] (sp_asc K)) :
    Callee P w K mg base CX0 3 "is_row_of_letters" ["thing", "most"] (sp_row K) := by
  refine D.ok sc_is_row_of_letters (fun vs H Q E h => ?_) (fun f cdv A outer s H vs Q E hr h => ?_)
  · obtain ⟨a, L, n, rfl, _⟩ := h
    rfl
  · obtain ⟨a, L, n, rfl, hx, g, few, q⟩ := h
    have nd := sc_is_row_of_letters.nd
    refine ⟨_, pss_cons (ps_if (PW.pt (pw_or (pt_not (pt_val (pe_callB call_isi (by rfl) zs (by decide +kernel) (pa_cons (pv 0) (pa_cons (pe_bltn (v := .ty "tuple") (by rfl) zt (by decide +kernel) rfl) pa_nil)))))
        (pw_or1 (pt_not (pt_chain op_le op_le pe_int (pe_callB call_len_seq (by rfl) zl PySem.boot_len (pa_cons (pv 0) pa_nil)) (pv 1))))))
        (pss_one (ps_ret pe_bl)) pss_nil)
      (pss_cons (ps_for PassesOwn.never rfl (pi_tup (pv 0)) (pg_name (i := 2) nd rfl (.inl rfl))
        (pss_one (ps_if (pt_not (pt_val (pe_c CL hr (pa_cons (pv 2) pa_nil)))) (pss_one (ps_ret pe_bl)) pss_nil)))
      (pss_one (ps_ret (pe_c CA hr (pa_cons (pv 0) pa_nil))))), ?_⟩
    have l1 : (1 : Int) ≤ (L.map V.str).length := by have := g.pos; rw [List.length_map]; omega
    have ln : ((L.map V.str).length : Int) ≤ n := by rw [List.length_map]; exact few
    refine ⟨_, rfl, _, _, _, _, true, rfl, .ty "tuple", tyX_tup hx, kit_some (by decide +kernel), true, rfl, ?_⟩
    refine ⟨_, rfl, _, _, rfl, .inr hx, _, _, rfl, rfl, _, rfl, ?_⟩
    rw [if_pos (decide_eq_true l1)]
    refine ⟨_, rfl, _, _, rfl, rfl, _, rfl, ?_⟩
    rw [decide_eq_true ln]
    refine ⟨_, rfl, a, rfl, ⟨_, hx⟩, for_tup (xs := L.map V.str) (fun i σ H' => ∃ v, σ = [some (.ref a), some (.int n), v] ∧ H = H') ⟨none, rfl, rfl⟩ (fun i σ H' _ hh => ?_) (fun i v σ H' hv hh => ?_) (fun σ H' hh => ?_)⟩
    · obtain ⟨_, _, rfl⟩ := hh
      exact hx
    · obtain ⟨u, rfl, rfl⟩ := hh
      rw [List.getElem?_map] at hv
      obtain ⟨z, hz, rfl⟩ := Option.map_eq_some_iff.mp hv
      exact ⟨_, rfl, z, rfl, g.all z (List.mem_of_getElem? hz), true, rfl, _, rfl, rfl⟩
    · obtain ⟨u, rfl, rfl⟩ := hh
      exact ⟨_, rfl, a, L, rfl, hx, g.asc, g.few, g.pos, q⟩
end
end K01
set_option maxHeartbeats 2000000
namespace HG
open PySem PySem.Spec PyProof.Rows L2
/-- defs of a class, by their function object -/
structure CalleeM (P : Program) (w : World) (K : PySem.W.Frag) (mg : Str → Option Value) (base : Heap) (CX : CXT) (k : Nat) (f : Addr) (ps : List Str) (sp : Sp) : Prop where
  ex : ∃ fd, FnOk P w K mg base CX k f fd ps sp ∧ Binds K fd ps []
structure DefM (K : PySem.W.Frag) (x q : Str) (st : Stmt) (ps : List Str) (f : Addr) : Prop where
  ex : ∃ fd, Fun K x q st f fd ∧ Binds K fd ps []
theorem DefM.ok {P : Program} {w : World} {K : PySem.W.Frag} {mg : Str → Option Value} {base : Heap} {x q : Str} {st : Stmt} {N ps : List Str} {k : Nat} {sp : Sp} {f : Addr}
    (D : DefM K x q st ps f) (S : FnScope N ps (defScope st)) (len : ∀ vs H Q E, sp vs H Q E → vs.length = ps.length)
    (body : ∀ (cdv : Value) (A : Around) (outer : List Env) (s : Shared) (H : Hp) (vs : List V) (Q : VK) (E : XK),
      Room k (A.deeper (envOfC q (defScope st) s.heap.objs.size f cdv)) → sp vs H Q E →
      ∃ t, PSs (cxOf CX0 P w K mg base N q (defScope st) f cdv A outer s H E).nox (defBody st) t ∧
        t { nx := fun _ H' => Q .non H', rt := Q } (start N vs) H) : CalleeM P w K mg base CX0 (k + 1) f ps sp := by
  obtain ⟨fd, F, b⟩ := D.ex
  exact ⟨fd, F.ok S len fun cdv A outer s H vs Q E hr h => body cdv A outer s H vs Q E hr h, b⟩
end HG
namespace K01
open PySem PySem.Spec PyProof.Rows L2 HG HN
/-! ## moves -/
abbrev Move := Int × Int × Int
def Mv (K : PySem.W.Frag) (H : Hp) (v : V) (m : Move) : Prop := ∃ p, v = .ref p ∧ SqT K H p [.int m.1, .int m.2.1, .int m.2.2]
def Rw (K : PySem.W.Frag) (H : Hp) (v : V) (r : List Move) : Prop :=
  ∃ p ts, v = .ref p ∧ SqT K H p ts ∧ ts.length = r.length ∧ ∀ (i : Nat) (t : V), ts[i]? = some t → ∃ m : Move, r[i]? = some m ∧ Mv K H t m
def Gr (K : PySem.W.Frag) (H : Hp) (v : V) (g : List (List Move)) : Prop :=
  ∃ p rs, v = .ref p ∧ SqT K H p rs ∧ rs.length = g.length ∧ ∀ (i : Nat) (t : V), rs[i]? = some t → ∃ r : List Move, g[i]? = some r ∧ Rw K H t r
theorem Mv.keep {K : PySem.W.Frag} {ex : List Addr} {H H' : Hp} {v : V} {m : Move} (k : KeepW ex H H') (h : Mv K H v m) : Mv K H' v m := by
  obtain ⟨p, e, q⟩ := h
  exact ⟨p, e, sqT_keep k q⟩
theorem Rw.keep {K : PySem.W.Frag} {ex : List Addr} {H H' : Hp} {v : V} {r : List Move} (k : KeepW ex H H') (h : Rw K H v r) : Rw K H' v r := by
  obtain ⟨p, ts, e, q, l, a⟩ := h
  refine ⟨p, ts, e, sqT_keep k q, l, fun i t ht => ?_⟩
  obtain ⟨m, hm, mv⟩ := a i t ht
  exact ⟨m, hm, mv.keep k⟩
theorem Gr.keep {K : PySem.W.Frag} {ex : List Addr} {H H' : Hp} {v : V} {g : List (List Move)} (k : KeepW ex H H') (h : Gr K H v g) : Gr K H' v g := by
  obtain ⟨p, ts, e, q, l, a⟩ := h
  refine ⟨p, ts, e, sqT_keep k q, l, fun i t ht => ?_⟩
  obtain ⟨m, hm, mv⟩ := a i t ht
  exact ⟨m, hm, mv.keep k⟩
def Lt (K : PySem.W.Frag) (H : Hp) (v : V) (L : List Str) : Prop := ∃ p, v = .ref p ∧ SqT K H p (L.map V.str)
theorem Lt.keep {K : PySem.W.Frag} {ex : List Addr} {H H' : Hp} {v : V} {L : List Str} (k : KeepW ex H H') (h : Lt K H v L) : Lt K H' v L := by
  obtain ⟨p, e, q⟩ := h
  exact ⟨p, e, sqT_keep k q⟩
structure MvOk (n : Nat) (m : Move) : Prop where
  a0 : 0 ≤ m.1
  a1 : m.1 < n
  b0 : -999 ≤ m.2.1
  b1 : m.2.1 ≤ 999
  c0 : -999 ≤ m.2.2
  c1 : m.2.2 ≤ 999
structure GrOk (g : List (List Move)) (k : Nat) : Prop where
  pos : 1 ≤ g.length
  few : g.length ≤ 120
  wide : ∀ r ∈ g, r.length = k
  all : ∀ r ∈ g, ∀ m ∈ r, MvOk g.length m
theorem within_yes {lo hi i : Int} (h0 : lo ≤ i) (h1 : i ≤ hi) : within lo hi (some i) = true := by
  show (decide (lo ≤ i) && decide (i ≤ hi)) = true
  rw [decide_eq_true h0, decide_eq_true h1]
  rfl
section
variable {P : Program} {w : World} {K : PySem.W.Frag} {mg : Str → Option Value} {base : Heap}
def sp_move (K : PySem.W.Frag) : Sp := fun vs H Q _ => ∃ v m n, vs = [v, .int ((n : Nat) : Int)] ∧ Mv K H v m ∧ MvOk n m ∧ n ≤ 120 ∧ Q (.bl true) H
theorem ok_move (D : Def K mg "is_move" s_is_move ["move", "states"]) (c : Consts mg) (CT : Callee P w K mg base CX0 1 "is_tuple_of" ["thing", "many"] (sp_tupN K))
    (CN : Callee P w K mg base CX0 2 "is_number_from" ["thing", "low", "high"] (sp_numfrom K)) : Callee P w K mg base CX0 3 "is_move" ["move", "states"] (sp_move K) := by
  refine D.ok sc_is_move (fun vs H Q E h => ?_) (fun f cdv A outer s H vs Q E hr h => ?_)
  · obtain ⟨v, m, n, rfl, _⟩ := h
    rfl
  · obtain ⟨v, m, n, rfl, ⟨p, rfl, hp⟩, g, few, q⟩ := h
    obtain ⟨t, mp⟩ := c.paid
    refine ⟨_, pss_cons (ps_if (PW.pt (pw_or (pt_not (pt_val (pe_c CT hr (pa_cons (pv 0) (pa_cons pe_int pa_nil)))))
        (pw_or1 (pt_not (pt_val (pe_c CN hr (pa_cons (pe_ix ix_tup (pv 0) pe_int (fun _ _ => rfl)) (pa_cons pe_int (pa_cons (pe_op op_sub (pv 1) pe_int) pa_nil)))))))))
        (pss_one (ps_ret pe_bl)) pss_nil)
      (pss_one (ps_ret (pe_and (pe_c CN hr (pa_cons (pe_ix ix_tup (pv 0) pe_int (fun _ _ => rfl)) (pa_cons (pe_un un_neg (pe_glob (v := .int 999) rfl mp ⟨t, rfl⟩)) (pa_cons (pe_glob (v := .int 999) rfl mp ⟨t, rfl⟩) pa_nil))))
        (pe_one (pe_c CN hr (pa_cons (pe_ix ix_tup (pv 0) pe_int (fun _ _ => rfl)) (pa_cons (pe_un un_neg (pe_glob (v := .int 999) rfl mp ⟨t, rfl⟩)) (pa_cons (pe_glob (v := .int 999) rfl mp ⟨t, rfl⟩) pa_nil)))))))), ?_⟩
    refine ⟨_, rfl, p, _, 3, rfl, hp, true, rfl, ?_⟩
    refine ⟨_, rfl, p, _, 0, .int m.1, rfl, rfl, hp, rfl, _, rfl, _, _, rfl, rfl, .int m.1, some m.1, 0, (n : Int) - 1, rfl, rfl, ?_⟩
    rw [within_yes g.a0 (by have := g.a1; omega)]
    refine ⟨true, rfl, _, rfl, p, _, 1, .int m.2.1, rfl, rfl, hp, rfl, _, rfl, .int m.2.1, some m.2.1, -999, 999, rfl, rfl, ?_⟩
    rw [within_yes g.b0 g.b1]
    refine ⟨true, rfl, _, rfl, p, _, 2, .int m.2.2, rfl, rfl, hp, rfl, _, rfl, .int m.2.2, some m.2.2, -999, 999, rfl, rfl, ?_⟩
    rw [within_yes g.c0 g.c1]
    exact q
def sp_rowm (K : PySem.W.Frag) : Sp := fun vs H Q _ => ∃ v r k n, vs = [v, .int ((k : Nat) : Int), .int ((n : Nat) : Int)] ∧ Rw K H v r ∧ r.length = k ∧ (∀ m ∈ r, MvOk n m) ∧ n ≤ 120 ∧ Q (.bl true) H
theorem ok_rowm (D : Def K mg "is_row_of_moves" s_is_row_of_moves ["row", "letters", "states"]) (CT : Callee P w K mg base CX0 1 "is_tuple_of" ["thing", "many"] (sp_tupN K))
    (CM : Callee P w K mg base CX0 3 "is_move" ["move", "states"] (sp_move K)) : Callee P w K mg base CX0 4 "is_row_of_moves" ["row", "letters", "states"] (sp_rowm K) := by
  refine D.ok sc_is_row_of_moves (fun vs H Q E h => ?_) (fun f cdv A outer s H vs Q E hr h => ?_)
  · obtain ⟨v, r, k, n, rfl, _⟩ := h
    rfl
  · obtain ⟨v, r, k, n, rfl, ⟨p, ts, rfl, hp, len, at_⟩, wide, good, few, q⟩ := h
    have nd := sc_is_row_of_moves.nd
    refine ⟨_, pss_cons (ps_if (pt_not (pt_val (pe_c CT hr (pa_cons (pv 0) (pa_cons (pv 1) pa_nil))))) (pss_one (ps_ret pe_bl)) pss_nil)
      (pss_cons (ps_for PassesOwn.never rfl (pi_tup (pv 0)) (pg_name (i := 3) nd rfl (.inl rfl))
        (pss_one (ps_if (pt_not (pt_val (pe_c CM hr (pa_cons (pv 3) (pa_cons (pv 2) pa_nil))))) (pss_one (ps_ret pe_bl)) pss_nil)))
      (pss_one (ps_ret pe_bl))), ?_⟩
    refine ⟨_, rfl, _, rfl, p, ts, (k : Int), rfl, hp, ?_⟩
    rw [decide_eq_true (show (ts.length : Int) = k by omega)]
    refine ⟨true, rfl, _, rfl, p, rfl, ⟨_, hp⟩, for_tup (xs := ts) (fun i σ H' => ∃ u, σ = [some (.ref p), some (.int (k : Int)), some (.int (n : Int)), u] ∧ H = H') ⟨none, rfl, rfl⟩ (fun i σ H' _ hh => ?_) (fun i v σ H' hv hh => ?_) (fun σ H' hh => ?_)⟩
    · obtain ⟨_, _, rfl⟩ := hh
      exact hp
    · obtain ⟨u, rfl, rfl⟩ := hh
      obtain ⟨m, hm, mv⟩ := at_ i v hv
      exact ⟨_, rfl, _, rfl, v, m, n, rfl, mv, good m (List.mem_of_getElem? hm), few, true, rfl, _, rfl, rfl⟩
    · obtain ⟨u, rfl, rfl⟩ := hh
      exact q
end
end K01
set_option maxHeartbeats 2000000
namespace HG
open PySem PySem.Spec PyProof.Rows L2
/-! ## tuples that are known to be plain: tuple(list), and their methods -/
def Plain (T : String) (H : Hp) (v : V) : Prop := ∃ p o u, v = .ref p ∧ H p = some (.frz o u) ∧ o.cls = .type T ∧ o.dict = none
theorem Plain.keep {T : String} {ex : List Addr} {H H' : Hp} {v : V} (k : KeepW ex H H') (h : Plain T H v) : Plain T H' v := by
  obtain ⟨p, o, u, e, hp, c, d⟩ := h
  exact ⟨p, o, u, e, k.frz _ _ _ hp, c, d⟩
section
variable {X : Cx}
theorem call_tupZ : CallR X (.type "tuple") (fun xs H Q => ∃ a ys, xs = [.ref a] ∧ SqL X.K H a ys ∧
    ∀ p o, H p = none → o.cls = .type "tuple" → o.dict = none → Q (.ref p) (upd H p (.frz o (.tup ys)))) := by
  intro pins s σ H xs us Q I rel h
  obtain ⟨a, ys, rfl, hq, q⟩ := h
  obtain ⟨u, rfl, ru⟩ := vals1 rel
  cases ru
  obtain ⟨its, vals, plain, size⟩ := I.list hq
  have len := vals.length
  refine call_tuple_list plain.isList (fun h1 keep => ?_) (by simp only [List.size_toArray] <;> omega)
  have I1 : Inv X pins σ H { s with heap := h1 } := I.kept (t' := s.toks) keep
  have ok : ObjOk X.prog X.w (upd H h1.objs.size (.frz { cls := .type "tuple", data := .seq its.toArray } (.tup ys)))
      (h1.push { cls := .type "tuple", data := .seq its.toArray }) h1.objs.size (.frz { cls := .type "tuple", data := .seq its.toArray } (.tup ys)) :=
    ⟨Heap.get?_push_size _ rfl, size, its, vals, IsTup.new _ _⟩
  have I2 := I1.laid (t' := s.toks) (fun b o e => Heap.get?_push_of_some _ e) (Nat.le_refl _) ok
  exact ⟨.ref h1.objs.size, _, I2, rfl, q _ _ (I1.hok.fresh (Nat.le_refl _)) rfl rfl⟩
variable {o e : Expr} {es : List Expr} {to : TE} {t : TA} {name : Str} {apos cpos : Pos} {T id : String} {r : V → List V → Hp → VK → Prop}
def tBMZ (T : String) (r : V → List V → Hp → VK → Prop) (to : TE) (t : TA) : TE := fun σ H Q => to σ H fun x H1 => Plain T H1 x ∧ t σ H1 fun xs H2 => r x xs H2 Q
theorem pe_bmZ (pa : PlainAttrs T) (slot : Slot T name id) (ty : typeOf (.builtin id) = pure (.type "method_descriptor")) (rule : MtR X id r) (ho : PE X o to) (args : PA X (e :: es) t)
    (hbase : attributeBase o name X.env (eval o X.env) = eval o X.env := by rfl) (hfew : ((backTo cpos (starEach (e :: es) X.env)).all (fun x => !x.1) && (backToKw cpos (keywordEach [] X.env)).all (fun x => x.1.isSome)
      && decide ((e :: es).length + ([] : List Keyword).length + (if ([] : List Keyword).isEmpty then 0 else 1) < 30)) = true := by rfl)
    (hline : (apos.endLine == cpos.line) = true := by rfl) (hs : starEach (e :: es) X.env = (false, eval e X.env) :: starEach es X.env := by rfl)
    (hplain : (backTo cpos (starEach es X.env)).any (·.1) = false := by rfl) :
    PE X (.Call (.Attribute o name apos) (e :: es) [] cpos) (tBMZ T r to t) := by
  refine ⟨fun pins s σ H Q I h => ?_⟩
  refine wpAny_Call_method_late hbase hfew hline rfl (thn (ho.run pins s σ H _ I h) fun v z ⟨x, H1, J, rx, pl, q⟩ => ?_)
  obtain ⟨p, ob, u, rfl, hp, hc, hd⟩ := pl
  cases rx
  obtain ⟨at_, _⟩ := J.hok p _ hp
  refine ⟨T, id, pa, slot, ty, ⟨ob, at_, hc⟩, fun a ea => ?_, ?_⟩
  · cases ea
    exact ⟨ob, at_, hd⟩
  · have vals := args.run cpos pins z σ H1 _ J q
    rw [hs] at vals ⊢
    refine Calls.callWith_builtin (by show (false || (backTo cpos (starEach es X.env)).any (·.1)) = false; rw [hplain] <;> rfl) (Calls.evalArgs_plain ?_)
    exact thn vals fun us z2 ⟨vs, H2, J2, r2, q2⟩ => rule pins z2 σ H2 (V.ref p) vs (Value.ref p) us Q J2 rfl r2 q2
end
end HG
set_option maxHeartbeats 2000000
namespace K01
open PySem PySem.Spec PyProof.Rows L2 HG HN HM
abbrev s_init : Stmt := inClass (topS 22) 0
abbrev s_len : Stmt := inClass (topS 22) 1
abbrev s_eq : Stmt := inClass (topS 22) 2
theorem sc_init : FnScope ["self", "letters", "moves", "state", "row"] ["self", "letters", "moves"] (defScope s_init) := scope_by rfl rfl rfl (by decide +kernel) rfl (by decide +kernel) (by decide +kernel)
theorem sc_len : FnScope ["self"] ["self"] (defScope s_len) := scope_by rfl rfl rfl (by decide +kernel) rfl (by decide +kernel) (by decide +kernel)
theorem sc_eq : FnScope ["self", "other"] ["self", "other"] (defScope s_eq) := scope_by rfl rfl rfl (by decide +kernel) rfl (by decide +kernel) (by decide +kernel)
def memF (l g : V) : List (Str × V) := [("letters", l), ("moves", g)]
theorem memF_put (l g : V) : putF "moves" g (putF "letters" l []) = memF l g := by
  show (if ("letters" : Str) = "moves" then [(("letters" : Str), g)] else (("letters" : Str), l) :: putF "moves" g []) = memF l g
  rw [if_neg (by decide +kernel)]
  rfl
theorem memF_l (l g : V) : (memF l g).lookup ("letters" : Str) = some l := by
  rw [← memF_put, lookup_putF, if_neg (by decide +kernel), lookup_putF, if_pos rfl]
theorem memF_m (l g : V) : (memF l g).lookup ("moves" : Str) = some g := by
  rw [← memF_put, lookup_putF, if_pos rfl]
structure MemC (K : PySem.W.Frag) (mg : Str → Option Value) (C : Addr) : Prop where
  cl : Cls K C
  nL : NoAttr K C "letters"
  nM : NoAttr K C "moves"
  at_ : mg "Memory" = some (.ref C)
  ha : PySem.W.findIn K (.ref C) "__class__" = some (some (.builtin "object.__class__"))
  hn : PySem.W.specialIn K (.builtin "object.__class__") "__get__" = some (some (.builtin "getset_descriptor.__get__"))
  ht : PySem.W.takesIn K (.builtin "object.__class__") = some true
  hm : PySem.W.mroIn K C (.type "object") = some true
/-- a memory stands at v -/
structure Mem (K : PySem.W.Frag) (C : Addr) (H : Hp) (v : V) (L : List Str) (g : List (List Move)) : Prop where
  ex : ∃ p dx l m, v = .ref p ∧ H p = some (.ins C dx (memF l m)) ∧ Lt K H l L ∧ Gr K H m g
  plain : ∀ p dx l m, v = .ref p → H p = some (.ins C dx (memF l m)) → Plain "tuple" H l
theorem Mem.mk' {K : PySem.W.Frag} {C : Addr} {H : Hp} {L : List Str} {g : List (List Move)} {p dx : Addr} {l m : V} (hp : H p = some (.ins C dx (memF l m))) (hl : Lt K H l L) (pl : Plain "tuple" H l) (hm : Gr K H m g) :
    Mem K C H (.ref p) L g := ⟨⟨p, dx, l, m, rfl, hp, hl, hm⟩, fun p' dx' l' m' e h => by
  cases e
  rw [hp] at h
  cases h
  exact pl⟩
theorem Mem.keep {K : PySem.W.Frag} {C : Addr} {ex : List Addr} {H H' : Hp} {v : V} {L : List Str} {g : List (List Move)} (k : KeepW ex H H') (o : Out ex v) (h : Mem K C H v L g) : Mem K C H' v L g := by
  obtain ⟨p, dx, l, m, rfl, hp, hl, hm⟩ := h.ex
  exact .mk' (k.get hp (o p rfl)) (hl.keep k) ((h.plain p dx l m rfl hp).keep k) (hm.keep k)
section
variable {P : Program} {w : World} {K : PySem.W.Frag} {mg : Str → Option Value} {base : Heap}
def sp_init (K : PySem.W.Frag) (C : Addr) : Sp := fun vs H Q _ => ∃ p dx l m L g, vs = [.ref p, l, m] ∧ H p = some (.ins C dx []) ∧ Lt K H l L ∧ Gr K H m g ∧ Letters L ∧ GrOk g L.length ∧
  ∀ H', Keep [p] H H' → H' p = some (.ins C dx (memF l m)) → Q .non H'
theorem ok_init {C f : Addr} (D : DefM K "__init__" "Memory.__init__" s_init ["self", "letters", "moves"] f) (M : MemC K mg C) (c : Consts mg)
    (zs : mg "isinstance" = none) (zt : mg "tuple" = none) (zl : mg "len" = none) (ze : mg "enumerate" = none)
    (CR : Callee P w K mg base CX0 3 "is_row_of_letters" ["thing", "most"] (sp_row K)) (CM : Callee P w K mg base CX0 4 "is_row_of_moves" ["row", "letters", "states"] (sp_rowm K)) :
    CalleeM P w K mg base CX0 5 f ["self", "letters", "moves"] (sp_init K C) := by
  refine D.ok sc_init (fun vs H Q E h => ?_) (fun cdv A outer s H vs Q E hr h => ?_)
  · obtain ⟨p, dx, l, m, L, g, rfl, _⟩ := h
    rfl
  · obtain ⟨p, dx, l, m, L, g, rfl, hp, ⟨la, rfl, hl⟩, ⟨ma, rs, rfl, hm, len, at_⟩, lok, gok, q⟩ := h
    have nd := sc_init.nd
    obtain ⟨tl, ml⟩ := c.letters
    obtain ⟨ts, ms⟩ := c.states
    refine ⟨_, pss_cons (ps_if (pt_not (pt_val (pe_c CR hr (pa_cons (pv 1) (pa_cons (pe_glob (v := .int 72) rfl ml ⟨tl, rfl⟩) pa_nil))))) (pss_one ps_never) pss_nil)
      (pss_cons (ps_if (PW.pt (pw_or (pt_not (pt_val (pe_callB call_isi (by rfl) zs (by decide +kernel) (pa_cons (pv 2) (pa_cons (pe_bltn (v := .ty "tuple") (by rfl) zt (by decide +kernel) rfl) pa_nil)))))
        (pw_or1 (pt_not (pt_chain op_le op_le pe_int (pe_callB call_len_seq (by rfl) zl PySem.boot_len (pa_cons (pv 2) pa_nil)) (pe_glob (v := .int 120) rfl ms ⟨ts, rfl⟩))))))
        (pss_one ps_never) pss_nil)
      (pss_cons (ps_for PassesOwn.never rfl (pi_enumT rfl ze (pa_cons (pv 2) pa_nil)) (pg_tup rfl (pgs_cons (pg_name (i := 3) nd rfl (.inl rfl)) (pgs_cons (pg_name (i := 4) nd rfl (.inl rfl)) pgs_nil)))
        (pss_one (ps_if (pt_not (pt_val (pe_c CM hr (pa_cons (pv 4) (pa_cons (pe_callB call_len_seq (by rfl) zl PySem.boot_len (pa_cons (pv 1) pa_nil)) (pa_cons (pe_callB call_len_seq (by rfl) zl PySem.boot_len (pa_cons (pv 2) pa_nil)) pa_nil)))))) (pss_one ps_never) pss_nil)))
      (pss_cons (ps_fld (pv 0) (pv 1) rfl) (pss_one (ps_fld (pv 0) (pv 2) rfl))))), ?_⟩
    refine ⟨_, rfl, la, L, 72, rfl, hl, lok, by have := lok.few; omega, true, rfl, ?_⟩
    have l1 : (1 : Int) ≤ rs.length := by have := gok.pos; omega
    have l2 : (rs.length : Int) ≤ 120 := by have := gok.few; omega
    refine ⟨_, rfl, _, _, _, _, true, rfl, .ty "tuple", tyX_tup hm, kit_some (by decide +kernel), true, rfl, ?_⟩
    refine ⟨_, rfl, _, _, rfl, .inr hm, _, _, rfl, rfl, _, rfl, ?_⟩
    rw [if_pos (decide_eq_true l1)]
    refine ⟨_, _, rfl, rfl, _, rfl, ?_⟩
    rw [decide_eq_true l2]
    refine ⟨_, rfl, ma, rs, rfl, hm, for_it (walk_ent (xs := rs)) (fun i σ H' => ∃ u v, σ = [some (.ref p), some (.ref la), some (.ref ma), u, v] ∧ Keep [] H H') ⟨none, none, rfl, Keep.refl⟩ (fun i σ H' _ hh => ?_) (fun i x σ H1 H2 lt hh y => ?_) (fun σ H' hh => ?_)⟩
    · obtain ⟨_, _, _, k⟩ := hh
      exact sqT_keep k.toKeepW hm
    · obtain ⟨u, v, rfl, k⟩ := hh
      obtain ⟨T, a, b, rfl, nT, rfl, ea, eb⟩ := y
      cases ea
      refine ⟨T, [_, _], rfl, .inl (.inl upd_same), rfl, _, [_], rfl, _, [], rfl, rfl, ?_⟩
      have k2 : Keep [] H _ := k.trans (Keep.new (o := .tup [.int (i : Nat), b]) nT)
      obtain ⟨r, hr2, rw_⟩ := at_ i b eb
      have rin := List.mem_of_getElem? hr2
      dsimp only [gName]
      refine ⟨_, rfl, _, rfl, la, L.map V.str, rfl, .inr (sqT_keep k2.toKeepW hl), _, rfl, ma, rs, rfl, .inr (sqT_keep k2.toKeepW hm), b, r, L.length, g.length, ?_, rw_.keep k2.toKeepW, gok.wide r rin, gok.all r rin, gok.few, true, rfl, _, _, rfl, k2⟩
      rw [List.length_map, len]
    · obtain ⟨u, v, rfl, k⟩ := hh
      have hp1 := k.toKeepW.get hp (by simp)
      refine ⟨_, rfl, _, rfl, p, C, dx, [], rfl, hp1, M.cl, M.nL, by show 0 < 1000; decide, ?_⟩
      refine ⟨_, rfl, _, rfl, p, C, dx, _, rfl, upd_same, M.cl, M.nM, by show 1 < 1000; decide, ?_⟩
      rw [memF_put]
      have c1 : Keep [p] H' (upd H' p (.ins C dx (putF "letters" (.ref la) []))) := Keep.chg hp1 List.mem_cons_self (fun _ z => nomatch z) (fun _ _ z => nomatch z)
      have c2 : Keep [p] _ (upd (upd H' p (.ins C dx (putF "letters" (.ref la) []))) p (.ins C dx (memF (.ref la) (.ref ma)))) := Keep.chg upd_same List.mem_cons_self (fun _ z => nomatch z) (fun _ _ z => nomatch z)
      exact q _ ((k.nil.trans c1).trans c2) upd_same
end
end K01
set_option maxHeartbeats 2000000
namespace HG
open PySem PySem.Spec PyProof.Rows L2
/-- an own error class over ValueError, with no more than a text -/
structure ErrC (K : PySem.W.Frag) (mg : Str → Option Value) (x : Str) (C : Addr) : Prop where
  at_ : mg x = some (.ref C)
  exc : PySem.W.excIn K C [.type "ValueError", .type "Exception", .type "BaseException", .type "object"] "ValueError.__new__" = true
  keep : PySem.W.keepIn K (.ref C) = true
  sub : PySem.W.subIn K (.ref C) (.type "BaseException") = some true
  ty : PySem.W.typeIn K (.ref C) = some (.type "type")
theorem pmk_err {X : Cx} {x m : Str} {C : Addr} {j : Nat} {p p2 pos : Pos} (c : ErrC X.K X.mg x C) (hg : Gl X x := by rfl)
    (hdb : (x == ("__debug__" : Str)) = false := by decide) :
    PMk X (.Call (.Name x p) [.Constant (.str m) j p2] [] pos) (fun _ H Q => Q (.ref C) none H) :=
  pmk_own PySem.F.excBase_ValueError c.exc c.at_ c.keep (raises_own c.sub c.ty) hg hdb

theorem passE {P : Program} {w : World} {K : PySem.W.Frag} {mg : Str → Option Value} {base : Heap} {N : List Str} {qual : Str} {scope : Scope} {f : Addr} {cd : Value}
    {A : Around} {outer : List Env} {s : Shared} {H : Hp} {E : XK} : Passes (L2.CX P w) (cxOf (L2.CX P w) P w K mg base N qual scope f cd A outer s H E) E :=
  passes_call (W := fun cls d _ H => E cls d H) (takes_of rfl rfl rfl rfl) (fun _ _ _ _ h => h)
end HG
set_option maxHeartbeats 2000000
namespace K01
open PySem PySem.Spec PyProof.Rows L2 HG HN HM
theorem own_one {K : PySem.W.Frag} {C : Addr} : PySem.W.kitOne K (.ref C) (.ref C) = some true := by
  unfold PySem.W.kitOne
  rw [if_pos (by simp)]
/-- a value that is no memory -/
structure NoMem (K : PySem.W.Frag) (C : Addr) (H : Hp) (v : V) : Prop where
  ex : ∃ t, TyX K H v t ∧ PySem.W.kitOne K t (.ref C) = some false
theorem Mem.ty {K : PySem.W.Frag} {mg : Str → Option Value} {C : Addr} {H : Hp} {v : V} {L : List Str} {g : List (List Move)} (M : MemC K mg C) (h : Mem K C H v L g) : TyX K H v (.ref C) := by
  obtain ⟨p, dx, l, m, rfl, hp, _⟩ := h.ex
  exact .base (.ins hp M.cl M.ha M.hn M.ht M.hm)
section
variable {P : Program} {w : World} {K : PySem.W.Frag} {mg : Str → Option Value} {base : Heap}
/-- the length of a memory -/
def sp_len (K : PySem.W.Frag) (C : Addr) : Sp := fun vs H Q _ => ∃ v L g, vs = [v] ∧ Mem K C H v L g ∧ g.length ≤ 120 ∧ Q (.int g.length) H
theorem ok_len {C f : Addr} (D : DefM K "__len__" "Memory.__len__" s_len ["self"] f) (M : MemC K mg C) (zl : mg "len" = none) :
    CalleeM P w K mg base CX0 1 f ["self"] (sp_len K C) := by
  refine D.ok sc_len (fun vs H Q E h => ?_) (fun cdv A outer s H vs Q E hr h => ?_)
  · obtain ⟨v, L, g, rfl, _⟩ := h
    rfl
  · obtain ⟨v, L, g, rfl, h, _, q⟩ := h
    obtain ⟨p, dx, l, m, rfl, hp, hl, ⟨ma, rs, rfl, hm, len, _⟩⟩ := h.ex
    refine ⟨_, pss_one (ps_ret (pe_callB call_len_seq (by rfl) zl PySem.boot_len (pa_cons (pe_fld (pv 0) rfl) pa_nil))), ?_⟩
    refine ⟨_, rfl, p, C, dx, _, _, rfl, hp, M.cl, M.nM, memF_m _ _, ma, rs, rfl, .inr hm, ?_⟩
    rw [len]
    exact q
/-- what len(memory) wants -/
structure LenC (P : Program) (w : World) (K : PySem.W.Frag) (mg : Str → Option Value) (base : Heap) (C : Addr) : Prop where
  ex : ∃ f, CalleeM P w K mg base CX0 1 f ["self"] (sp_len K C) ∧ PySem.W.findIn K (.ref C) "__len__" = some (some (.ref f)) ∧ PySem.W.isFn K (.ref f) = true
def rLenM (K : PySem.W.Frag) (C : Addr) : List V → Hp → VK → Prop := fun xs H Q => ∃ v L g, xs = [v] ∧ Mem K C H v L g ∧ g.length ≤ 120 ∧ Q (.int g.length) H
theorem call_lenM {X : Cx} {C : Addr} (c : LenC X.prog X.w X.K X.mg X.base C) (room : Room 2 X.A) : CallR X (.builtin "len") (rLenM X.K C) := by
  intro pins s σ H xs us Q I rel h
  obtain ⟨f, ⟨fd, F, b⟩, slot, fn⟩ := c.ex
  obtain ⟨v, L, g, rfl, hm, few, q⟩ := h
  obtain ⟨p, dx, l, m, rfl, hp, _⟩ := id hm.ex
  exact call_lenO F slot fn b room pins s σ H _ us Q I rel ⟨p, dx, _, rfl, hp, _, L, g, rfl, hm, few, _, rfl, by omega, by omega, q⟩
def sp_isstate (K : PySem.W.Frag) (C : Addr) : Sp := fun vs H Q _ => ∃ v L g x o, vs = [v, x] ∧ Mem K C H v L g ∧ g.length ≤ 120 ∧ NumO [] K H x o ∧ Q (.bl (within 0 (g.length - 1) o)) H
theorem ok_isstate {C : Addr} (D : Def K mg "is_state" s_is_state ["memory", "thing"]) (zl : mg "len" = none) (c : LenC P w K mg base C)
    (CN : Callee P w K mg base CX0 2 "is_number_from" ["thing", "low", "high"] (sp_numfrom K)) : Callee P w K mg base CX0 3 "is_state" ["memory", "thing"] (sp_isstate K C) := by
  refine D.ok sc_is_state (fun vs H Q E h => ?_) (fun f cdv A outer s H vs Q E hr h => ?_)
  · obtain ⟨v, L, g, x, o, rfl, _⟩ := h
    rfl
  · obtain ⟨v, L, g, x, o, rfl, hm, few, n, q⟩ := h
    refine ⟨_, pss_one (ps_ret (pe_c CN hr (pa_cons (pv 1) (pa_cons pe_int (pa_cons (pe_op op_sub (pe_callB (call_lenM c (hr.mono (by decide))) (by rfl) zl PySem.boot_len (pa_cons (pv 0) pa_nil)) pe_int) pa_nil))))), ?_⟩
    exact ⟨_, rfl, _, rfl, v, L, g, rfl, hm, few, _, _, rfl, rfl, x, o, 0, (g.length : Int) - 1, rfl, n, q⟩
def sp_ckstate (K : PySem.W.Frag) (C S : Addr) : Sp := fun vs H Q E => ∃ v L g x o, vs = [v, x] ∧ Mem K C H v L g ∧ g.length ≤ 120 ∧ NumO [] K H x o ∧
  (within 0 (g.length - 1) o = true → Q .non H) ∧ (within 0 (g.length - 1) o = false → E (.ref S) none H)
theorem ok_ckstate {C S : Addr} (D : Def K mg "check_state" s_check_state ["memory", "state"]) (eS : ErrC K mg "BadState" S)
    (CI : Callee P w K mg base CX0 3 "is_state" ["memory", "thing"] (sp_isstate K C)) : Callee P w K mg base (L2.CX P w) 4 "check_state" ["memory", "state"] (sp_ckstate K C S) := by
  refine D.okX sc_check_state (fun vs H Q E h => ?_) (fun f cdv A outer s H vs Q E hr h => ?_)
  · obtain ⟨v, L, g, x, o, rfl, _⟩ := h
    rfl
  · obtain ⟨v, L, g, x, o, rfl, hm, few, n, yes, no⟩ := h
    refine ⟨_, pss_one (ps_if (pt_not (pt_val (pe_c CI hr (pa_cons (pv 0) (pa_cons (pv 1) pa_nil))))) (pss_one (ps_raise rfl (takes_of rfl rfl rfl rfl) (pmk_err eS))) pss_nil), ?_⟩
    refine ⟨_, rfl, _, rfl, v, L, g, x, o, rfl, hm, few, n, ?_⟩
    cases e : within 0 ((g.length : Int) - 1) o with
    | true => exact ⟨true, rfl, yes e⟩
    | false => exact ⟨false, rfl, no e⟩
end
end K01
set_option maxHeartbeats 2000000
namespace K01
open PySem PySem.Spec PyProof.Rows L2 HG HN HM
theorem inV_strs (z : Str) (L : List Str) : inV (.str z) (L.map V.str) = decide (z ∈ L) := by
  induction L with
  | nil => rfl
  | cons y r ih =>
    have e : inV (.str z) ((y :: r).map V.str) = ((y == z) || inV (.str z) (r.map V.str)) := rfl
    rw [e, ih]
    by_cases q : z = y
    · subst q
      rw [decide_eq_true (List.mem_cons_self (a := z) (l := r))]
      simp
    · have n : (y == z) = false := by simp [Ne.symm q]
      rw [n, Bool.false_or]
      exact decide_eq_decide.mpr ⟨fun m => List.mem_cons_of_mem _ m, fun m => (List.mem_cons.mp m).resolve_left q⟩
theorem flat_strs (L : List Str) : (L.map V.str).all flatV = true := by
  induction L with
  | nil => rfl
  | cons y r ih => exact ih
/-- a text, or none -/
def ItemO (K : PySem.W.Frag) (H : Hp) (v : V) : Option Str → Prop
  | some z => v = .str z
  | none => ∃ T, TyX K H v (.type T) ∧ kitB T "str" = some false
def itemOk (L : List Str) : Option Str → Bool
  | some z => decide (z ∈ L)
  | none => false
section
variable {P : Program} {w : World} {K : PySem.W.Frag} {mg : Str → Option Value} {base : Heap}
def sp_ckword (K : PySem.W.Frag) (C B : Addr) : Sp := fun vs H Q E => ∃ v L g x, vs = [v, x] ∧ Mem K C H v L g ∧
  ((∃ T, TyX K H x (.type T) ∧ kitB T "tuple" = some false ∧ E (.ref B) none H) ∨
    ∃ (a : Addr) (xs : List V) (os : List (Option Str)), x = .ref a ∧ SqT K H a xs ∧ (∀ (i : Nat) (y : V), xs[i]? = some y → ∃ o : Option Str, os[i]? = some o ∧ ItemO K H y o) ∧ xs.length = os.length ∧
      (os.all (itemOk L) = true → Q .non H) ∧ (os.all (itemOk L) = false → E (.ref B) none H))
def sp_among (K : PySem.W.Frag) : Sp := fun vs H Q _ => ∃ (x : V) (o : Option Str) (la : Addr) (L : List Str), vs = [x, .ref la] ∧ SqT K H la (L.map V.str) ∧ ItemO K H x o ∧ Q (.bl (itemOk L o)) H
theorem ok_among (D : Def K mg "is_among" s_is_among ["thing", "letters"]) (zs : mg "isinstance" = none) (zr : mg "str" = none) : Callee P w K mg base CX0 1 "is_among" ["thing", "letters"] (sp_among K) := by
  refine D.ok sc_is_among (fun vs H Q E h => ?_) (fun f cdv A outer s H vs Q E hr h => ?_)
  · obtain ⟨x, o, la, L, rfl, _⟩ := h
    rfl
  · obtain ⟨x, o, la, L, rfl, hl, io, q⟩ := h
    refine ⟨_, pss_one (ps_ret (pe_and (pe_callB call_isi (by rfl) zs (by decide +kernel) (pa_cons (pv 0) (pa_cons (pe_bltn (v := .ty "str") (by rfl) zr (by decide +kernel) rfl) pa_nil)))
      (pe_one (pe_cmpR op_in_seq (pv 0) (pv 1) (by rfl))))), ?_⟩
    cases o with
    | none =>
      obtain ⟨T, t, k⟩ := io
      exact ⟨_, rfl, _, _, _, _, false, rfl, .ty "str", t, kit_some k, false, rfl, q⟩
    | some z =>
      have io : x = .str z := io
      subst io
      refine ⟨_, rfl, _, _, _, _, true, rfl, .ty "str", .base (.str z), kit_some (by decide +kernel), true, rfl, ?_⟩
      refine ⟨_, rfl, _, rfl, la, _, rfl, .inr hl, rfl, flat_strs L, ?_⟩
      rw [inV_strs]
      exact q
def sp_tupamong (K : PySem.W.Frag) : Sp := fun vs H Q _ => ∃ (x : V) (la : Addr) (L : List Str), vs = [x, .ref la] ∧ SqT K H la (L.map V.str) ∧
  ((∃ T, TyX K H x (.type T) ∧ kitB T "tuple" = some false ∧ Q (.bl false) H) ∨
    ∃ (a : Addr) (xs : List V) (os : List (Option Str)), x = .ref a ∧ SqT K H a xs ∧ (∀ (i : Nat) (y : V), xs[i]? = some y → ∃ o : Option Str, os[i]? = some o ∧ ItemO K H y o) ∧ xs.length = os.length ∧ Q (.bl (os.all (itemOk L))) H)
theorem ok_tupamong (D : Def K mg "is_tuple_among" s_is_tuple_among ["thing", "letters"]) (zs : mg "isinstance" = none) (zt : mg "tuple" = none) (CA : Callee P w K mg base CX0 1 "is_among" ["thing", "letters"] (sp_among K)) :
    Callee P w K mg base CX0 2 "is_tuple_among" ["thing", "letters"] (sp_tupamong K) := by
  refine D.ok sc_is_tuple_among (fun vs H Q E h => ?_) (fun f cdv A outer s H vs Q E hr h => ?_)
  · obtain ⟨x, la, L, rfl, _⟩ := h
    rfl
  · obtain ⟨x, la, L, rfl, hl, h⟩ := h
    have nd := sc_is_tuple_among.nd
    refine ⟨_, pss_cons (ps_if (pt_not (pt_val (pe_callB call_isi (by rfl) zs (by decide +kernel) (pa_cons (pv 0) (pa_cons (pe_bltn (v := .ty "tuple") (by rfl) zt (by decide +kernel) rfl) pa_nil))))) (pss_one (ps_ret pe_bl)) pss_nil)
      (pss_cons (ps_for PassesOwn.never rfl (pi_tup (pv 0)) (pg_name (i := 2) nd rfl (.inl rfl)) (pss_one (ps_if (pt_not (pt_val (pe_c CA hr (pa_cons (pv 2) (pa_cons (pv 1) pa_nil))))) (pss_one (ps_ret pe_bl)) pss_nil)))
      (pss_one (ps_ret pe_bl))), ?_⟩
    rcases h with ⟨T, t, k, q⟩ | ⟨a, xs, os, rfl, hx, at_, len, q⟩
    · exact ⟨_, rfl, _, _, _, _, false, rfl, .ty "tuple", t, kit_some k, false, rfl, q⟩
    · refine ⟨_, rfl, _, _, _, _, true, rfl, .ty "tuple", tyX_tup hx, kit_some (by decide +kernel), true, rfl, ?_⟩
      refine ⟨_, rfl, a, rfl, ⟨_, hx⟩, for_tup (xs := xs) (fun i σ H' => ∃ u, σ = [some (.ref a), some (.ref la), u] ∧ H = H' ∧ ∀ (j : Nat) o, j < i → os[j]? = some o → itemOk L o = true) ⟨none, rfl, rfl, fun j o lt => absurd lt (Nat.not_lt_zero _)⟩ (fun i σ H' _ hh => ?_) (fun i y σ H' hy hh => ?_) (fun σ H' hh => ?_)⟩
      · obtain ⟨_, _, rfl, _⟩ := hh
        exact hx
      · obtain ⟨u, rfl, rfl, done⟩ := hh
        obtain ⟨o, ho, io⟩ := at_ i y hy
        dsimp only [gName]
        refine ⟨_, rfl, _, rfl, y, o, la, L, rfl, hl, io, ?_⟩
        cases e : itemOk L o with
        | true =>
          refine ⟨true, rfl, _, rfl, rfl, fun j o' lt e' => ?_⟩
          by_cases ji : j = i
          · subst ji
            rw [ho] at e'
            cases e'
            exact e
          · exact done j o' (by omega) e'
        | false =>
          have f : os.all (itemOk L) = false := by
            rw [List.all_eq_false]
            exact ⟨o, List.mem_of_getElem? ho, by rw [e]; decide⟩
          rw [f] at q
          exact ⟨false, rfl, q⟩
      · obtain ⟨u, rfl, rfl, done⟩ := hh
        have f : os.all (itemOk L) = true := by
          rw [List.all_eq_true]
          intro o ho
          obtain ⟨j, lt, e⟩ := List.mem_iff_getElem.mp ho
          exact done j o (by omega) (by rw [List.getElem?_eq_getElem lt, e])
        rw [f] at q
        exact q
theorem ok_ckword {C B : Addr} (D : Def K mg "check_word" s_check_word ["memory", "word"]) (M : MemC K mg C) (eB : ErrC K mg "BadWord" B) (CA : Callee P w K mg base CX0 2 "is_tuple_among" ["thing", "letters"] (sp_tupamong K)) :
    Callee P w K mg base (L2.CX P w) 3 "check_word" ["memory", "word"] (sp_ckword K C B) := by
  refine D.okX sc_check_word (fun vs H Q E h => ?_) (fun f cdv A outer s H vs Q E hr h => ?_)
  · obtain ⟨v, L, g, x, rfl, _⟩ := h
    rfl
  · obtain ⟨v, L, g, x, rfl, hm, h⟩ := h
    refine ⟨_, pss_one (ps_if (pt_not (pt_val (pe_c CA hr (pa_cons (pv 1) (pa_cons (pe_fld (pv 0) rfl) pa_nil))))) (pss_one (ps_raise rfl (takes_of rfl rfl rfl rfl) (pmk_err eB))) pss_nil), ?_⟩
    obtain ⟨p, dx, l, m, rfl, hp, ⟨la, rfl, hl⟩, _⟩ := id hm.ex
    refine ⟨_, rfl, _, rfl, p, C, dx, _, _, rfl, hp, M.cl, M.nL, memF_l _ _, x, la, L, rfl, hl, ?_⟩
    rcases h with ⟨T, t, k, e⟩ | ⟨a, xs, os, rfl, hx, at_, len, yes, no⟩
    · exact .inl ⟨T, t, k, false, rfl, e⟩
    · refine .inr ⟨a, xs, os, rfl, hx, at_, len, ?_⟩
      cases e : os.all (itemOk L) with
      | true => exact ⟨true, rfl, yes e⟩
      | false => exact ⟨false, rfl, no e⟩
def sp_ckletter (K : PySem.W.Frag) (C B : Addr) : Sp := fun vs H Q E => ∃ v L g x o, vs = [v, x] ∧ Mem K C H v L g ∧ ItemO K H x o ∧ (itemOk L o = true → Q .non H) ∧ (itemOk L o = false → E (.ref B) none H)
theorem ok_ckletter {C B : Addr} (D : Def K mg "check_letter" s_check_letter ["memory", "letter"]) (M : MemC K mg C) (eB : ErrC K mg "BadLetter" B) (CA : Callee P w K mg base CX0 1 "is_among" ["thing", "letters"] (sp_among K)) :
    Callee P w K mg base (L2.CX P w) 2 "check_letter" ["memory", "letter"] (sp_ckletter K C B) := by
  refine D.okX sc_check_letter (fun vs H Q E h => ?_) (fun f cdv A outer s H vs Q E hr h => ?_)
  · obtain ⟨v, L, g, x, o, rfl, _⟩ := h
    rfl
  · obtain ⟨v, L, g, x, o, rfl, hm, io, yes, no⟩ := h
    refine ⟨_, pss_one (ps_if (pt_not (pt_val (pe_c CA hr (pa_cons (pv 1) (pa_cons (pe_fld (pv 0) rfl) pa_nil))))) (pss_one (ps_raise rfl (takes_of rfl rfl rfl rfl) (pmk_err eB))) pss_nil), ?_⟩
    obtain ⟨p, dx, l, m, rfl, hp, ⟨la, rfl, hl⟩, _⟩ := id hm.ex
    refine ⟨_, rfl, _, rfl, p, C, dx, _, _, rfl, hp, M.cl, M.nL, memF_l _ _, x, o, la, L, rfl, hl, io, ?_⟩
    cases e : itemOk L o with
    | true => exact ⟨true, rfl, yes e⟩
    | false => exact ⟨false, rfl, no e⟩
end
end K01
set_option maxHeartbeats 2000000
namespace K01
open PySem PySem.Spec PyProof.Rows L2 HG HN HM
theorem asc_lt {L : List Str} (a : Asc L) : ∀ (j d : Nat) x y, L[j]? = some x → L[j + (d + 1)]? = some y → x.cps.toList < y.cps.toList := by
  intro j d
  induction d with
  | zero =>
    intro x y hx hy
    exact a j x y hx hy
  | succ d ih =>
    intro x y hx hy
    have lt : j + (d + 1) < L.length := by
      have := (List.getElem?_eq_some_iff.mp hy).1
      omega
    have h1 := ih x L[j + (d + 1)] hx (List.getElem?_eq_getElem lt)
    have h2 := a (j + (d + 1)) L[j + (d + 1)] y (List.getElem?_eq_getElem lt) hy
    exact List.lt_trans h1 h2
theorem asc_ne {L : List Str} (a : Asc L) {i j : Nat} {x y : Str} (lt : j < i) (hx : L[j]? = some x) (hy : L[i]? = some y) : x ≠ y := fun e => by
  have h := asc_lt a j (i - j - 1) x y hx (by rw [show j + (i - j - 1 + 1) = i by omega]; exact hy)
  rw [e] at h
  exact List.lt_irrefl _ h
/-- the dict that tells each letter's place -/
def Cols (L : List Str) (n : Nat) (kvs : List (Key × V)) : Prop := kvs.length ≤ n ∧ ∀ (i : Nat) z, i < n → L[i]? = some z → valV kvs (.inr z) = some (.int i)
section
variable {P : Program} {w : World} {K : PySem.W.Frag} {mg : Str → Option Value} {base : Heap}
def sp_columns (K : PySem.W.Frag) (C : Addr) : Sp := fun vs H Q _ => ∃ v L g, vs = [v] ∧ Mem K C H v L g ∧ Letters L ∧
  ∀ p kvs H', H p = none → Keep [] H H' → H' p = some (.dK kvs) → Cols L L.length kvs → Q (.ref p) H'
theorem ok_columns {C : Addr} (D : Def K mg "columns_of" s_columns_of ["memory"]) (M : MemC K mg C) (ze : mg "enumerate" = none) :
    Callee P w K mg base CX0 1 "columns_of" ["memory"] (sp_columns K C) := by
  refine D.ok sc_columns_of (fun vs H Q E h => ?_) (fun f cdv A outer s H vs Q E hr h => ?_)
  · obtain ⟨v, L, g, rfl, _⟩ := h
    rfl
  · obtain ⟨v, L, g, rfl, hm, lok, q⟩ := h
    have nd := sc_columns_of.nd
    have hu := hu_of hr
    obtain ⟨p, dx, l, m, rfl, hp, ⟨la, rfl, hl⟩, _⟩ := id hm.ex
    refine ⟨_, pss_cons (ps_set (i := 1) nd rfl (.inl rfl) pe_dnewK)
      (pss_cons (ps_for PassesOwn.never rfl (pi_enumT rfl ze (pa_cons (pe_fld (pv 0) rfl) pa_nil)) (pg_tup rfl (pgs_cons (pg_name (i := 2) nd rfl (.inl rfl)) (pgs_cons (pg_name (i := 3) nd rfl (.inl rfl)) pgs_nil)))
        (pss_one (ps_dput hu (pv 1) (pv 3) (pv 2) rfl)))
      (pss_one (ps_ret (pv 1)))), ?_⟩
    refine fun d nd => ?_
    have k1 : Keep [] H (upd H d (.dK [])) := Keep.new nd
    have hp1 := k1.toKeepW.get hp (by simp)
    have hl1 := sqT_keep k1.toKeepW hl
    dsimp only [gName]
    refine ⟨_, rfl, p, C, dx, _, _, rfl, hp1, M.cl, M.nL, memF_l _ _, la, L.map V.str, rfl, hl1, for_it (walk_ent (xs := L.map V.str)) (fun i σ H' => ∃ u v kvs, σ = [some (.ref p), some (.ref d), u, v] ∧ Keep [] H H' ∧ H' d = some (.dK kvs) ∧ Cols L i kvs ∧ i ≤ L.length)
      ⟨none, none, [], rfl, k1, upd_same, ⟨Nat.le_refl _, fun i z lt => absurd lt (Nat.not_lt_zero _)⟩, Nat.zero_le _⟩ (fun i σ H' _ hh => ?_) (fun i x σ H1 H2 lt hh y => ?_) (fun σ H' hh => ?_)⟩
    · obtain ⟨_, _, _, _, k, _⟩ := hh
      exact sqT_keep k.toKeepW hl
    · obtain ⟨u, v, kvs, rfl, k, hd, ⟨len, look⟩, _⟩ := hh
      obtain ⟨T, a, b, rfl, nT, rfl, ea, eb⟩ := y
      cases ea
      have eb : (L.map V.str)[i]? = some b := eb
      rw [List.getElem?_map] at eb
      obtain ⟨z, hz, rfl⟩ := Option.map_eq_some_iff.mp eb
      refine ⟨T, [_, _], rfl, .inl (.inl upd_same), rfl, _, [_], rfl, _, [], rfl, rfl, ?_⟩
      have nTd : d ≠ T := ne_of_none hd nT
      have hd2 : upd H1 T (.tup [.int (i : Nat), .str z]) d = some (.dK kvs) := by
        rw [upd_ne nTd]
        exact hd
      dsimp only [gName]
      have small := lok.few
      refine ⟨_, rfl, _, rfl, _, rfl, d, _, rfl, dput_of (k := Sum.inr z) hd2 rfl (by omega), ?_⟩
      refine ⟨_, _, _, rfl, (k.trans (Keep.new nT)).mut nd, upd_same, ⟨?_, fun j y lt2 hy => ?_⟩, by rw [List.length_map] at lt; omega⟩
      · exact Nat.le_trans (length_putK _ _ _) (by omega)
      · rw [valV_put]
        by_cases e : j = i
        · subst e
          rw [hz] at hy
          cases hy
          rw [if_pos rfl]
        · have ne := asc_ne lok.asc (show j < i by omega) hy hz
          rw [if_neg (fun q => ne (Sum.inr.inj q))]
          exact look j y (by omega) hy
    · obtain ⟨u, v, kvs, rfl, k, hd, cols, _⟩ := hh
      rw [List.length_map] at cols
      exact ⟨_, rfl, q d kvs _ nd k hd cols⟩
end
end K01
set_option maxHeartbeats 2000000
namespace HG
open PySem PySem.Spec PyProof.Rows L2

/-! ## an own exception whose __init__ calls super().__init__(text) and keeps one thing -/
/-- what stands of such a def: fI its address, C its class, q its full name -/
structure SupI (P : Program) (K : PySem.W.Frag) (q : Str) (body : List Stmt) (scope : Scope) (C fI : Addr) (fd : FuncData) : Prop where
  ex : ∃ (oc : Value) (od : Option Addr) (params : Arguments) (dV kV doc pm : Value) (an : Option Addr) (cda cc : Addr) (ct : Value) (osl : Array (Option Value))
      (c1 : Value) (d1 : Option Addr) (vs : Array Value) (s1 : Array (Option Value)) (file : Str) (tf : Tok) (c2 : Value) (d2 : Option Addr) (s2 : Array (Option Value)) (ar : Arg),
    fd = PySem.W.ksFn "__init__" q params body scope dV kV doc pm an (.ref cda) ct cc ∧ K.lookup fI = some ⟨oc, od, .func fd, osl⟩ ∧ PySem.W.codeIn K (.ref cda) q = true
    ∧ K.lookup cda = some ⟨c1, d1, .fields vs, s1⟩ ∧ vs[2]? = some (.str file tf) ∧ ((P.main.file : Str) == file) = true
    ∧ K.lookup cc = some ⟨c2, d2, .cell (some (.ref C)), s2⟩ ∧ (params.posonlyargs ++ params.args).head? = some ar ∧ ar.arg = "self"
  any : PySem.W.nsIn K cStatics "thirdparty.any" = some none
  top : (P.main.scope.names.lookup ("super" : Str)).isSome = false
  sup : PySem.W.ks_superIn K C C "__init__" = some (some (.builtin "ValueError.__init__"))
  is : PySem.W.mroIn K C (.ref C) = some true
  ve : PySem.W.subIn K (.ref C) (.type "ValueError") = some true

/-- the context of such a def -/
def cxS (CX : CXT) (P : Program) (w : World) (K : PySem.W.Frag) (mg : Str → Option Value) (base : Heap) (N : List Str) (qual : Str) (scope : Scope) (f : Addr) (cd : Value) (cc : Addr) (A : Around) (outer : List Env) (s : Shared) (H : Hp) (E : XK) : Cx where
  prog := P
  w := w
  K := K
  mg := mg
  base := base
  A := A.deeper (PySem.W.ksEnv qual scope s.heap.objs.size f cd cc)
  N := N
  s_0 := s
  H_0 := H
  env := PySem.W.ksEnv qual scope s.heap.objs.size f cd cc
  outer := outer
  stack := PySem.W.ksEnv qual scope s.heap.objs.size f cd cc :: outer
  ex := []
  calm := true
  fn := fun _ => false
  pn := []
  xe := fun e s' => wpAny (model P w) (A.deeper (PySem.W.ksEnv qual scope s.heap.objs.size f cd cc)) (leaving (PySem.W.ksEnv qual scope s.heap.objs.size f cd cc) e) (fun _ s'' => CX outer H s E e s'') (fun e' s'' => CX outer H s E e' s'') s'

section
variable {X : Cx} {pins : List (Addr × Obj)} {σ : L2.St} {H : Hp} {s : Shared} {E : Value → Shared → Prop}
/-- the built-in __init__ bound to the exception that is being made, called -/
theorem call_mw {a C u : Addr} {us : List Value} {Q : Value → Shared → Prop} (T : OexC X.K C) (I : Inv X pins σ H s) (e : H a = some (exo a C none))
    (hu : s.heap.get? u = some (PySem.W.kxs_mw "ValueError.__init__" a)) (hl : us.length ≤ sizeLine) (h : ∀ s', Inv X pins σ H s' → Q .none s') :
    wpAny (model X.prog X.w) X.A (call (.ref u) us) Q E s := by
  obtain ⟨nm, q, N, bs, bm, sn, sub, ab, col, dd, k0, k1, k2, k3, k5, hC, hbm⟩ := T.cls
  obtain ⟨t1, ho⟩ := exo_at I.hok e
  have hC' := I.kIn _ _ hC
  obtain ⟨hp, g, d, t, os⟩ := s
  refine wpAny_call (codeAny_of_tree ?_)
  show wpAny _ X.A.in1 (callAny (.ref u) ⟨us, []⟩) _ _ _
  simp only [callAny]
  refine wpAny_bind (wpAny_load hu ?_)
  simp only [PySem.W.kxs_mw, show (Value.type "method-wrapper" == Value.type "method" || Value.type "method-wrapper" == Value.type "builtin_function_or_method" || Value.type "method-wrapper" == Value.type "method-wrapper") = true by decide, if_true]
  refine PySem.W.KFB.if_so (by decide) ?_
  refine wpAny_bind (PySem.W.check_bound_init F.excBase_ValueError.toExcCallFacts hC' ho rfl ?_)
  refine wpAny_bind (wpAny_pure (wpAny_pure ?_))
  refine ⟨plainId_quiet F.excBase_ValueError.init.plain _, codeAny_builtin F.excBase_ValueError.initEntry ?_⟩
  refine PySem.W.exc_init_tree (cls := .ref C) (t0 := t1) (dv := none) (c2 := .none) (c3 := .none) (b4 := .bool false) ho hl fun h' k hx ht => ?_
  have J := I.write (t' := t) (x := a) (e := a) (o := exo a C none) (by rw [e]; exact True.intro) (.inl rfl) k ⟨_, hx⟩ (exo_ok hx)
  have eu : upd H a (exo a C none) = H := by
    funext b
    by_cases hb : b = a
    · rw [hb, upd_same, e]
    · rw [upd_ne hb]
  rw [eu] at J
  exact h _ J
end

section
variable {P : Program} {w : World} {K : PySem.W.Frag} {mg : Str → Option Value} {base : Heap}
/-- super().__init__(text) as a statement -/
theorem super_stmt {CX : CXT} {N : List Str} {q : Str} {scope : Scope} {fI cda cc a C : Addr} {A : Around} {outer : List Env} {s0 s : Shared} {H0 H : Hp} {E : XK} {σ : L2.St} {pins : List (Addr × Obj)} {body : List Stmt}
    {oc : Value} {od : Option Addr} {fd : FuncData} {osl : Array (Option Value)} {ar : Arg}
    {c1 : Value} {d1 : Option Addr} {vs : Array Value} {s1 : Array (Option Value)} {file : Str} {tf : Tok} {c2 : Value} {d2 : Option Addr} {s2 : Array (Option Value)} {txt : Str} {n3 : Nat} {p0 p1 p2 p3 p4 p5 : Pos}
    {X : Cx} (eX : X = cxS CX P w K mg base N q scope fI (.ref cda) cc A outer s0 H0 E)
    (T : OexC K C) (I : Inv X pins σ H s) (e : H a = some (exo a C none))
    (lk : K.lookup fI = some ⟨oc, od, .func fd, osl⟩) (lcd : K.lookup cda = some ⟨c1, d1, .fields vs, s1⟩) (hvs : vs[2]? = some (.str file tf)) (hfile : ((P.main.file : Str) == file) = true)
    (lcc : K.lookup cc = some ⟨c2, d2, .cell (some (.ref C)), s2⟩) (har : (fd.params.posonlyargs ++ fd.params.args).head? = some ar) (hself : ar.arg = "self")
    (any : PySem.W.nsIn K cStatics "thirdparty.any" = some none) (top : (P.main.scope.names.lookup ("super" : Str)).isSome = false)
    (sup : PySem.W.ks_superIn K C C "__init__" = some (some (.builtin "ValueError.__init__"))) (is : PySem.W.mroIn K C (.ref C) = some true) (ve : PySem.W.subIn K (.ref C) (.type "ValueError") = some true)
    (kind : scope.kind = .function) (hs : scope.names.lookup ("super" : Str) = some .globalImplicit) (hc : scope.names.lookup ("__class__" : Str) = some .free) (hl : scope.names.lookup ("self" : Str) = some .local)
    (mS : mg "super" = none) (n0 : N[0]? = some ("self" : Str)) (v0 : σ[0]? = some (some (.ref a)))
    (hsw : swapsWith (.Call (.Attribute (.Call (.Name "super" p0) [] [] p1) "__init__" p2) [.Constant (.str txt) n3 p3] [] p4) none p5.line X.env = pure false) (hi : interactive X.env = false) {pl : Sem Bool}
    (he : eval (.Call (.Attribute (.Call (.Name "super" p0) [] [] p1) "__init__" p2) [.Constant (.str txt) n3 p3] [] p4) X.env = (do
      let ov ← attributeBase (.Call (.Name "super" p0) [] [] p1) "__init__" X.env (eval (.Call (.Name "super" p0) [] [] p1) X.env)
      standAt p2.atName
      let (f, first) ← holding [ov] (getMethod ov "__init__" pl)
      callWith p4 f first (backTo p4 (starEach [.Constant (.str txt) n3 p3] X.env)) [])) :
    PySem.wpAt (model X.prog X.w) X.A (.func body X.env) (exec (.Expr (.Call (.Attribute (.Call (.Name "super" p0) [] [] p1) "__init__" p2) [.Constant (.str txt) n3 p3] [] p4) p5) X.env)
      (fun fl s' => fl = .next ∧ Inv X pins σ H s') X.xe s := by
  subst eX
  have KX := I.kIn
  obtain ⟨nm, qn, Nn, bs, bm, sn, sub, ab, col, dd, k0, k1, k2, k3, k5, hC, hbm⟩ := T.cls
  have hcl : PySem.W.clsIn K C = some { name := nm, bases := bs, mro := .ref C :: bm, ns := Nn, qualname := qn, hasDict := true, slotNames := sn, subclasses := sub, abstract := ab, collection := col, hasDel := false } := by unfold PySem.W.clsIn; rw [hC] <;> rfl
  obtain ⟨t1, ho⟩ := exo_at I.hok e
  refine ks_wpAt_Expr_any ?_ hi hsw
  refine ks_wpAt_MethodCall (pl := pl) ?_ he
  obtain ⟨m, hns, loc⟩ := I.loc
  obtain ⟨u0, r0, look⟩ := loc 0 "self" (.ref a) n0 v0 (.inl hl)
  obtain rfl : u0 = .ref a := r0
  have hm : m "self" = some (.ref a) := by
    rcases look with ⟨_, z⟩ | ⟨z, _⟩
    · exact z
    · rcases z with z | z
      · exact absurd (hl.symm.trans z) (by decide)
      · exact absurd (hl.symm.trans z) (by decide)
  have kf : (cxS CX P w K mg base N q scope fI (.ref cda) cc A outer s0 H0 E).env.scope.kind = .function := kind
  obtain ⟨mb, hb1, hb2⟩ := I.mod.blt
  refine ks_wpAt_super_base (env := PySem.W.ksEnv q scope s0.heap.objs.size fI (.ref cda) cc) hs hc (by decide) rfl (KX _ _ lk) rfl har rfl (KX _ _ lcd) rfl hvs hfile top ?_
  refine PySem.W.ks_loadName_global kind hs (Calls.loadGlobal_builtin (env := PySem.W.ksEnv q scope s0.heap.objs.size fI (.ref cda) cc) (I.mod.glob.keeps I.bk) mS (hb1.keeps I.bk) ((hb2 _ (by decide)).trans (PyProof.Rows.Boot.«super»)) ⟨rfl, ?_⟩)
  refine wpAny_loadName_free kind hc rfl ⟨_, KX _ _ lcc, rfl⟩ ?_
  rw [hself]
  refine wpAny_loadName_local kind hl hns hm ?_
  obtain ⟨hh, g, d, t, os⟩ := s
  refine ks_wpAny_isType_cls (KX _ _ hC) rfl ⟨rfl, ?_⟩
  refine ks_wpAny_call_super (KX _ _ hC) rfl ho rfl (fun c z => nomatch z) (PySem.W.looks_mroIn KX is) (fun h' es k => ?_)
  have I1 := I.kept (t' := t) (h' := h') k
  have ho1 := k _ _ ho
  have Ia : PySem.W.InstAt h' a { cls := .ref C, dict := none, data := .fields #[.ref t1, .none, .none, .none, .bool false, .none] } C none := ⟨ho1, rfl, rfl, trivial⟩
  have hn : PySem.W.Looks (model P w) h' (isInstance (.ref a) (.type "ValueError")) true := Ia.type.andThen (PySem.W.looks_subIn I1.kIn ve)
  have sup' := sup
  unfold PySem.W.ks_superIn at sup'
  rw [hcl] at sup'
  refine PySem.W.kxs_getMethod PySem.W.kxs_ValueError es (PySem.W.looks_opaque I1.kIn any) (l₀ := .ref C :: bm) ((PySem.W.looks_clsIn I1.kIn hcl).andThen .now) rfl I1.kIn sup' hn (PySem.W.ks_ne I1.kIn Ia hcl) (by decide) ?_
  have k2 : ∀ b u, h'.get? b = some u → (h'.push (PySem.W.kxs_mw "ValueError.__init__" a)).get? b = some u := fun b u z => Heap.get?_push_of_some _ z
  have I2 := I1.kept (t' := t + 1) (h' := h'.push (PySem.W.kxs_mw "ValueError.__init__" a)) k2
  have hu : (h'.push (PySem.W.kxs_mw "ValueError.__init__" a)).get? h'.objs.size = some (PySem.W.kxs_mw "ValueError.__init__" a) := Heap.get?_push_at rfl rfl
  refine PySem.W.kxs_callWith (i := "ValueError.__init__") (x := a) rfl ?_
  refine Calls.evalArgs_plain (x := eval (.Constant (.str txt) n3 p3) _) (rest := []) ?_
  refine Calls.spliced_cons (Calls.Constant_str (Calls.spliced_nil ⟨hu, ?_⟩))
  refine call_mw T (I2.tok _) e hu (by rw [sizeLine_eq]; simp) fun s' J => ⟨rfl, J⟩
/-- a def whose body is super().__init__(text), self.f = p -/
def spS (C : Addr) (f : Str) : Sp := fun vs H Q _ => ∃ (a : Addr) (v : V), vs = [.ref a, v] ∧ H a = some (exo a C none) ∧ ∀ dx, H dx = none → dx ≠ a → Q .non (upd (upd H dx (exd dx [(f, v)])) a (exo a C (some dx)))
/-- the look at the names of its scope -/
structure SupSc (scope : Scope) (p : Str) : Prop where
  kind : scope.kind = .function
  co : scope.isCoroutine = false
  gen : scope.isGenerator = false
  nocell : ∀ x ∈ scope.names, x.2 ≠ .cell
  free : ∀ x ∈ scope.names, x.2 = .free → x.1 = "__class__"
  hs : scope.names.lookup ("super" : Str) = some .globalImplicit
  hc : scope.names.lookup ("__class__" : Str) = some .free
  hl : scope.names.lookup ("self" : Str) = some .local
  hp : scope.names.lookup p = some .local
  ne : p ≠ ("self" : Str)
theorem fn_supS {CX : CXT} {q p f : Str} {body : List Stmt} {scope : Scope} {C fI : Addr} {fd : FuncData} {k : Nat} {txt : Str} {n3 : Nat} {p0 p1 p2 p3 p4 p5 p6 p7 p8 p9 : Pos}
    (D : SupI P K q body scope C fI fd) (T : OexC K C) (Sc : SupSc scope p) (mS : mg "super" = none) (hf : PySem.W.findIn K (.ref C) f = some none)
    (hb : body = [.Expr (.Call (.Attribute (.Call (.Name "super" p0) [] [] p1) "__init__" p2) [.Constant (.str txt) n3 p3] [] p4) p5, .Assign [.Attribute (.Name "self" p6) f p7] (.Name p p8) p9])
    (hd1 : (p == ("__debug__" : Str)) = false) (hd2 : (p == ("__classdict__" : Str)) = false)
    (hsw : ∀ cdv cc L, swapsWith (.Call (.Attribute (.Call (.Name "super" p0) [] [] p1) "__init__" p2) [.Constant (.str txt) n3 p3] [] p4) none p5.line (PySem.W.ksEnv q scope L fI cdv cc) = pure false)
    (hsw2 : ∀ cdv cc L, swapsWith (.Name p p8) (some (.Attribute (.Name "self" p6) f p7)) p9.line (PySem.W.ksEnv q scope L fI cdv cc) = pure false)
    (hi : ∀ cdv cc L, interactive (PySem.W.ksEnv q scope L fI cdv cc) = false)
    {pl : Sem Bool}
    (he : ∀ cdv cc L, eval (.Call (.Attribute (.Call (.Name "super" p0) [] [] p1) "__init__" p2) [.Constant (.str txt) n3 p3] [] p4) (PySem.W.ksEnv q scope L fI cdv cc) = (do
      let ov ← attributeBase (.Call (.Name "super" p0) [] [] p1) "__init__" (PySem.W.ksEnv q scope L fI cdv cc) (eval (.Call (.Name "super" p0) [] [] p1) (PySem.W.ksEnv q scope L fI cdv cc))
      standAt p2.atName
      let (f, first) ← holding [ov] (getMethod ov "__init__" pl)
      callWith p4 f first (backTo p4 (starEach [.Constant (.str txt) n3 p3] (PySem.W.ksEnv q scope L fI cdv cc))) [])) :
    FnOk P w K mg base CX (k + 1) fI fd ["self", p] (spS C f) := by
  obtain ⟨oc, od, params, dV, kV, doc, pm, an, cda, cc, ct, osl, c1, d1, vs, s1, file, tf, c2, d2, s2, ar, rfl, lk, hcd, lcd, hvs, hfile, lcc, har, hself⟩ := D.ex
  refine ⟨fun xs H Q E h => by obtain ⟨a, v, rfl, _⟩ := h; rfl, fun A outer s H args us xs Q E hr e0 hbi r hsp => ?_⟩
  obtain ⟨a, v, rfl, hpa, q1⟩ := hsp
  have KX : K.In s.heap := e0.mod.kin.keeps fun b o e => (e0.bs b o e).1
  have lim : s.heap.NoLimit := e0.mod.nolimit.keeps fun b o e => (e0.bs b o e).1
  obtain ⟨u0, u1, rfl, r0, r1⟩ := vals2 r
  obtain rfl : u0 = .ref a := r0
  refine ks_codeAny_call_defAt (binds := [("self", .ref a), (p, u1)]) hr.depth (KX _ _ lk) rfl lim (PySem.W.codeRec_of KX hcd) rfl hbi Sc.nocell (fun y hy => ?_) (fun h0 hns hk => ?_) Sc.co Sc.gen Sc.kind
  · rcases List.mem_cons.mp hy with rfl | hy
    · exact Sc.hl
    · rcases List.mem_cons.mp hy with rfl | hy
      · exact Sc.hp
      · cases hy
  · have I : L2.Inv (cxS CX P w K mg base ["self", p] q scope fI (.ref cda) cc A outer s H E) [] [some (.ref a), some v] H { s with heap := h0, toks := s.toks + 2 } := by
      have cb : base.get? cc = some ⟨c2, d2, .cell (some (.ref C)), s2⟩ := e0.mod.kin _ _ lcc
      have cl : ∀ x c, (cxS CX P w K mg base ["self", p] q scope fI (.ref cda) cc A outer s H E).env.cells.lookup x = some c → x = "__class__" ∧ c = cc := fun x c h => by
        have h' : List.lookup x [(("__class__" : Str), cc)] = some c := h
        by_cases hx : x = "__class__"
        · subst hx
          simp [List.lookup] at h'
          exact ⟨rfl, h'.symm⟩
        · have hx' : (x == ("__class__" : Str)) = false := by simpa using hx
          simp [List.lookup, hx'] at h'
      have nE : ∀ b : Addr, b ∉ (cxS CX P w K mg base ["self", p] q scope fI (.ref cda) cc A outer s H E).ex := fun b z => absurd (show b ∈ ([] : List Addr) from z) (by simp)
      refine ⟨⟨e0.mod, Sc.kind, rfl, rfl, Nat.le_refl _, fun y z c h1 h2 => ?_, fun y hy => ?_, fun y c hf _ => ?_, fun _ => hr.hd, Around.frames_deeper e0.frames, .inr ⟨rfl, rfl⟩, fun b z => absurd z (nE b), e0.bs, e0.bsz, fun b _ _ => nE b, fun b z => absurd z (nE b), e0.funs, e0.frf⟩,
        rfl, e0.bare, Un.kept hk, ⟨_, hns, fun i y v' h1 h2 h3 => ?_⟩, fun y c h => ?_, e0.hok.fresh (Nat.le_refl _), fun y c h => ?_, fun p hp => absurd (show p ∈ ([] : List (Addr × Obj)) from hp) (by simp), e0.hok.kept hk, rfl⟩
      · exact (cl _ _ h1).1.trans (cl _ _ h2).1.symm
      · have hy : scope.names.lookup y = some .cell ∨ scope.names.lookup y = some .free := hy
        rcases hy with hy | hy
        · exact absurd rfl (Sc.nocell _ (PySem.mem_of_lookup hy))
        · obtain rfl : y = "__class__" := Sc.free _ (PySem.mem_of_lookup hy) rfl
          exact ⟨cc, rfl⟩
      · exact absurd hf (by show ¬ (false = true); decide)
      · match i, h1, h2 with
        | 0, h1, h2 =>
          obtain rfl : ("self" : Str) = y := Option.some.inj h1
          obtain rfl : V.ref a = v' := Option.some.inj (Option.some.inj h2)
          refine ⟨.ref a, rfl, .inl ⟨Sc.hl, ?_⟩⟩
          show List.lookup ("self" : Str) [(p, u1), (("self" : Str), Value.ref a)] = _
          have : (("self" : Str) == p) = false := by simpa using Ne.symm Sc.ne
          simp [List.lookup, this]
        | 1, h1, h2 =>
          obtain rfl : p = y := Option.some.inj h1
          obtain rfl : v = v' := Option.some.inj (Option.some.inj h2)
          refine ⟨u1, r1, .inl ⟨Sc.hp, ?_⟩⟩
          show List.lookup p [(p, u1), (("self" : Str), Value.ref a)] = _
          simp [List.lookup]
        | _ + 2, h1, _ => cases h1
      · obtain ⟨rfl, rfl⟩ := cl _ _ h
        exact ⟨_, _, hk _ _ (KX _ _ lcc), rfl⟩
      · obtain ⟨rfl, rfl⟩ := cl _ _ h
        exact (e0.bs _ _ cb).2
    subst hb
    refine ks_wpAt_execs_cons (ks_wpAt_mono (super_stmt (X := cxS CX P w K mg base ["self", p] q scope fI (.ref cda) cc A outer s H E) rfl T I hpa lk lcd hvs hfile lcc har hself D.any D.top D.sup D.is D.ve Sc.kind Sc.hs Sc.hc Sc.hl mS rfl rfl (hsw _ _ _) (hi _ _ _) (pl := pl) (he _ _ _))
      (fun fl s' h => ?_) fun _ _ z => z)
    obtain ⟨rfl, J⟩ := h
    refine wpAt_of_wpAny ?_
    have ht : PSs (cxS CX P w K mg base ["self", p] q scope fI (.ref cda) cc A outer s H E) [.Assign [.Attribute (.Name "self" p6) f p7] (.Name p p8) p9] _ :=
      pss_one (ps_ost (pe_var (i := 0) rfl (.inl Sc.hl)) (pe_var (i := 1) rfl (.inl Sc.hp) hd1 hd2) (hsw2 _ _ _))
    refine wpAny_mono (ht.run [] s' [some (.ref a), some v] H { nx := fun _ H' => Q .non H', rt := Q } J ?_) (fun fl s' hs => ?_) fun e s' hs => hs
    · refine ⟨v, rfl, .ref a, rfl, a, C, rfl, T, hf, .inl ⟨hpa, fun dx n ne => q1 dx n ne⟩⟩
    cases fl with
    | ret u =>
      obtain ⟨v, σ', H', J, rv, q⟩ := hs
      exact ⟨v, H', J.os, J.bare, J.base, J.hok, rv, q⟩
    | next =>
      obtain ⟨σ', H', J, q⟩ := hs
      exact ⟨V.non, H', J.os, J.bare, J.base, J.hok, rfl, q⟩
    | brk =>
      obtain ⟨_, _, _, q⟩ := hs
      exact False.elim q
    | cont =>
      obtain ⟨_, _, _, q⟩ := hs
      exact False.elim q
end

/-- an own exception class that keeps one thing under the name fl -/
structure ErrS (P : Program) (w : World) (K : PySem.W.Frag) (mg : Str → Option Value) (base : Heap) (x p fl : Str) (C : Addr) : Prop where
  ex : ∃ (fI : Addr) (fd : FuncData), FnOk P w K mg base C8.CX0 1 fI fd ["self", p] (spS C fl) ∧ PySem.W.findIn K (.ref C) "__init__" = some (some (.ref fI))
    ∧ PySem.W.typeIn K (.ref fI) = some (.type "function") ∧ Binds K fd ["self", p] []
  own : OexC K C
  at_ : mg x = some (.ref C)
def tS (C : Addr) (fl : Str) (ta : TA) : L2.St → Hp → XK → Prop := fun σ H Q => ta σ H fun vs H1 => ∃ v, vs = [v] ∧ ∀ d H', Keep [] H1 H' → H' d = some (.xd [(fl, v)]) → Q (.ref C) (some d) H'
theorem pmk_s {X : Cx} {x p fl : Str} {C : Addr} {e : Expr} {ta : TA} {pp pos : Pos} (c : ErrS X.prog X.w X.K X.mg X.base x p fl C) (hr : Room 2 X.A) (hg : Gl X x) (ha : PA X [e] ta)
    (mono : ∀ σ H (K1 K2 : List V → Hp → Prop), (∀ vs H', K1 vs H' → K2 vs H') → ta σ H K1 → ta σ H K2)
    (hdb : (x == ("__debug__" : Str)) = false := by decide)
    (he : starEach [e] X.env = (false, eval e X.env) :: starEach [] X.env := by rfl) (hpl : (backTo pos (starEach [] X.env)).any (·.1) = false := by rfl) :
    PMk X (.Call (.Name x pp) [e] [] pos) (tS C fl ta) := by
  obtain ⟨fI, fd, F, iC, tI, b⟩ := c.ex
  intro pins s σ H Q I h
  refine pmk_oex (p := pp) (pos := pos) c.own iC tI F hr b .nil C8.pass0 hg c.at_ ha hdb he hpl pins s σ H Q I ?_
  refine mono _ _ _ _ (fun vs H1 hv => ?_) h
  obtain ⟨v, rfl, q⟩ := hv
  refine ⟨by simp, fun a na => ⟨a, v, rfl, upd_same, fun dx nd ne => ⟨rfl, dx, [(fl, v)], upd_same, ?_, ?_, ?_⟩⟩⟩
  · rw [upd_ne ne, upd_same]
  · rw [upd_ne ne] at nd
    exact nd
  · rw [upd_ne ne] at nd
    refine q dx _ (Keep.ext fun b o hb => ?_) upd_same
    have nb : b ≠ dx := fun z => by rw [z, nd] at hb; cases hb
    have na' : b ≠ a := fun z => by rw [z, na] at hb; cases hb
    rw [upd_ne nb, del_ne na', upd_ne na', upd_ne nb, upd_ne na']
    exact hb
end HG
set_option maxHeartbeats 2000000
namespace K01
open PySem PySem.Spec PyProof.Rows L2 HG HN HM
/-- the way of a word, letter by letter -/
inductive Went (L : List Str) (g : List (List Move)) : Nat → Int → Int → List Str → Nat → Int → Int → Prop where
  | nil {h : Nat} {a b : Int} : Went L g h a b [] h a b
  | cons {h e i t : Nat} {a b c d x y : Int} {z : Str} {r : List Str} {row : List Move} (at_ : L[i]? = some z) (rw_ : g[h]? = some row) (mv : row[i]? = some ((t : Int), x, y))
      (rest : Went L g t (a + x) (b + y) r e c d) : Went L g h a b (z :: r) e c d
section
variable {P : Program} {w : World} {K : PySem.W.Frag} {mg : Str → Option Value} {base : Heap}
def sp_ckmem (K : PySem.W.Frag) (C CB : Addr) : Sp := fun vs H Q E => ∃ v, vs = [v] ∧
  ((∃ L g, Mem K C H v L g ∧ Q .non H) ∨ (NoMem K C H v ∧ ∀ d H', Keep [] H H' → H' d = some (.xd [("part", .non)]) → E (.ref CB) (some d) H'))
theorem ok_ckmem {C CB : Addr} (D : Def K mg "check_memory" s_check_memory ["memory"]) (M : MemC K mg C) (B : ErrS P w K mg base "BadMemory" "part" "part" CB) (zs : mg "isinstance" = none) :
    Callee P w K mg base (L2.CX P w) 5 "check_memory" ["memory"] (sp_ckmem K C CB) := by
  refine D.okX sc_check_memory (fun vs H Q E h => ?_) (fun f cdv A outer s H vs Q E hr h => ?_)
  · obtain ⟨v, rfl, _⟩ := h
    rfl
  · obtain ⟨v, rfl, h⟩ := h
    refine ⟨_, pss_one (ps_if (pt_not (pt_val (pe_callB call_isi (by rfl) zs (by decide +kernel) (pa_cons (pv 0) (pa_cons (pe_glob (v := .ref C) rfl M.at_ rfl) pa_nil)))))
      (pss_one (ps_raise rfl (takes_of rfl rfl rfl rfl) (pmk_s B (hr.mono (by decide)) (by rfl) (pa_cons pe_non pa_nil) (fun _ _ _ _ h k => h _ _ k)))) pss_nil), ?_⟩
    rcases h with ⟨L, g, hm, q⟩ | ⟨hm, e⟩
    · exact ⟨_, rfl, _, _, _, _, true, rfl, .own C, hm.ty M, own_one, true, rfl, q⟩
    · obtain ⟨t, ty, k⟩ := hm.ex
      exact ⟨_, rfl, _, _, _, _, false, rfl, .own C, ty, k, false, rfl, .non, rfl, e⟩
end
end K01
set_option maxHeartbeats 2000000
namespace K01
open PySem PySem.Spec PyProof.Rows L2 HG HN HM
theorem Gr.row {K : PySem.W.Frag} {H : Hp} {v : V} {g : List (List Move)} {h : Nat} {r : List Move} (G : Gr K H v g) (e : g[h]? = some r) :
    ∃ p rs t, v = .ref p ∧ SqT K H p rs ∧ rs[h]? = some t ∧ Rw K H t r := by
  obtain ⟨p, rs, rfl, hp, len, at_⟩ := G
  have lt := (List.getElem?_eq_some_iff.mp e).1
  have q : rs[h]? = some rs[h] := List.getElem?_eq_getElem (by omega)
  obtain ⟨r', e', k⟩ := at_ h _ q
  rw [e] at e'
  cases e'
  exact ⟨p, rs, _, rfl, hp, q, k⟩
theorem Rw.mv {K : PySem.W.Frag} {H : Hp} {v : V} {r : List Move} {i : Nat} {m : Move} (R : Rw K H v r) (e : r[i]? = some m) :
    ∃ p ts t, v = .ref p ∧ SqT K H p ts ∧ ts[i]? = some t ∧ Mv K H t m := by
  obtain ⟨p, rs, rfl, hp, len, at_⟩ := R
  have lt := (List.getElem?_eq_some_iff.mp e).1
  have q : rs[i]? = some rs[i] := List.getElem?_eq_getElem (by omega)
  obtain ⟨r', e', k⟩ := at_ i _ q
  rw [e] at e'
  cases e'
  exact ⟨p, rs, _, rfl, hp, q, k⟩
/-- what is told of a word -/
def Ans (K : PySem.W.Frag) (H : Hp) (v : V) (e : Nat) (a b : Int) : Prop := ∃ p q, v = .ref p ∧ SqT K H p [.int (e : Nat), .ref q] ∧ SqT K H q [.int a, .int b]
theorem Ans.keep {K : PySem.W.Frag} {ex : List Addr} {H H' : Hp} {v : V} {e : Nat} {a b : Int} (k : KeepW ex H H') (h : Ans K H v e a b) : Ans K H' v e a b := by
  obtain ⟨p, q, r, h1, h2⟩ := h
  exact ⟨p, q, r, sqT_keep k h1, sqT_keep k h2⟩
section
variable {P : Program} {w : World} {K : PySem.W.Frag} {mg : Str → Option Value} {base : Heap}
/-- a value that is no word of these letters -/
def NoWord (K : PySem.W.Frag) (H : Hp) (x : V) (L : List Str) : Prop := (∃ T, TyX K H x (.type T) ∧ kitB T "tuple" = some false) ∨
  ∃ (a : Addr) (xs : List V) (os : List (Option Str)), x = .ref a ∧ SqT K H a xs ∧ (∀ (i : Nat) (y : V), xs[i]? = some y → ∃ o : Option Str, os[i]? = some o ∧ ItemO K H y o) ∧ xs.length = os.length ∧ os.all (itemOk L) = false
def sp_read (K : PySem.W.Frag) (C : Addr) : Sp := fun vs H Q _ => ∃ v x L g W h e a b, vs = [v, .int ((h : Nat) : Int), x] ∧ Mem K C H v L g ∧ Letters L ∧ g.length ≤ 120 ∧ h < g.length ∧
  Lt K H x W ∧ (∀ z ∈ W, z ∈ L) ∧ Went L g h 0 0 W e a b ∧ ∀ r H', Keep [] H H' → Ans K H' r e a b → Q r H'
/-- what is refused: no memory, no state, no word -/
def sp_readX (K : PySem.W.Frag) (C CB S B : Addr) : Sp := fun vs H Q E => sp_read K C vs H Q E ∨ ∃ v y x, vs = [v, y, x] ∧
  ((NoMem K C H v ∧ ∀ d H', Keep [] H H' → H' d = some (.xd [("part", .non)]) → E (.ref CB) (some d) H') ∨
   ∃ L g o, Mem K C H v L g ∧ g.length ≤ 120 ∧ NumO [] K H y o ∧
    ((within 0 (g.length - 1) o = false ∧ E (.ref S) none H) ∨ (within 0 (g.length - 1) o = true ∧ Letters L ∧ NoWord K H x L ∧ E (.ref B) none H)))
theorem ok_readalong {C : Addr} (D : Def K mg "read_along" s_read_along ["memory", "state", "word"]) (M : MemC K mg C)
    (CC : Callee P w K mg base CX0 1 "columns_of" ["memory"] (sp_columns K C)) :
    Callee P w K mg base CX0 2 "read_along" ["memory", "state", "word"] (sp_read K C) := by
  refine D.ok sc_read_along (fun vs H Q E h => ?_) (fun f cdv A outer s H vs Q E hr h => ?_)
  · obtain ⟨v, x, L, g, W, h, e, a, b, rfl, _⟩ := h
    rfl
  · have nd := sc_read_along.nd
    have hu := hu_of hr
    refine ⟨_, pss_cons (ps_set (i := 3) nd rfl (.inl rfl) (pe_c CC hr (pa_cons (pv 0) pa_nil)))
      (pss_cons (ps_par3 (i := 4) (j := 5) (l := 6) rfl nd rfl rfl rfl (by decide) (by decide) (by decide) rfl rfl rfl (pa_cons (pv 1) (pa_cons pe_int (pa_cons pe_int pa_nil))) (by rfl))
      (pss_cons (ps_for PassesOwn.never rfl (pi_tup (pv 2)) (pg_name (i := 7) nd rfl (.inl rfl))
        (pss_cons (ps_asg (pe_ix ix_tup (pe_ix ix_tup (pe_fld (pv 0) rfl) (pv 4) (fun _ _ => rfl)) (pe_dget hu (pv 3) (pv 7) (fun _ _ => rfl)) (fun _ _ => rfl))
          (pg_tup rfl (pgs_cons (pg_name (i := 4) nd rfl (.inl rfl)) (pgs_cons (pg_name (i := 8) nd rfl (.inl rfl)) (pgs_cons (pg_name (i := 9) nd rfl (.inl rfl)) pgs_nil)))))
        (pss_cons (ps_aug (i := 5) nd rfl (.inl rfl) (pv 8) ip_add (.inr rfl)) (pss_one (ps_aug (i := 6) nd rfl (.inl rfl) (pv 9) ip_add (.inr rfl))))))
      (pss_one (ps_ret (pe_tup (pa_cons (pv 4) (pa_cons (pe_tup (pa_cons (pv 5) (pa_cons (pv 6) pa_nil))) pa_nil))))))), ?_⟩
    obtain ⟨v, x, L, g, W, h, e, a, b, rfl, hm, lok, few, lt, ⟨wa, rfl, hw⟩, inL, went, q⟩ := h
    refine ⟨_, rfl, v, L, g, rfl, hm, lok, fun d kvs H1 nd1 k1 hd cols => ?_⟩
    refine ⟨_, rfl, _, _, _, rfl, ?_⟩
    obtain ⟨p, dx, l, m, rfl, hp, ⟨la, rfl, hl⟩, hg⟩ := id hm.ex
    have hw1 := sqT_keep k1.toKeepW hw
    have hp1 := k1.toKeepW.get hp (by simp)
    have hg1 := hg.keep k1.toKeepW
    dsimp only [gName]
    refine ⟨_, rfl, wa, rfl, ⟨_, hw1⟩, for_tup (xs := W.map V.str) (fun i σ H' => ∃ (h' : Nat) (a' b' : Int) (u7 u8 u9 : Option V), σ = [some (.ref p), some (.int ((h : Nat) : Int)), some (.ref wa), some (.ref d), some (.int ((h' : Nat) : Int)), some (.int a'), some (.int b'), u7, u8, u9] ∧ H1 = H' ∧ Went L g h' a' b' (W.drop i) e a b)
      ⟨h, 0, 0, none, none, none, rfl, rfl, went⟩ (fun i σ H' _ hh => ?_) (fun i y σ H' hy hh => ?_) (fun σ H' hh => ?_)⟩
    · obtain ⟨_, _, _, _, _, _, _, rfl, _⟩ := hh
      exact hw1
    · obtain ⟨h', a', b', u7, u8, u9, rfl, rfl, wt⟩ := hh
      rw [List.getElem?_map] at hy
      obtain ⟨z, hz, rfl⟩ := Option.map_eq_some_iff.mp hy
      have lt2 := (List.getElem?_eq_some_iff.mp hz).1
      have split_ : W.drop i = z :: W.drop (i + 1) := by
        rw [List.drop_eq_getElem_cons lt2]
        congr 1
        exact (List.getElem?_eq_some_iff.mp hz).2
      rw [split_] at wt
      cases wt with
      | cons at_ rw_ mv rest =>
        rename_i j t x y row
        obtain ⟨ma, rs, rv, em, hma, hrs, R⟩ := hg1.row rw_
        cases em
        obtain ⟨pr, ts, tv, er, hts, htv, T⟩ := R.mv mv
        subst er
        obtain ⟨pm, et, hpm⟩ := T
        subst et
        have look := cols.2 j z (List.getElem?_eq_some_iff.mp at_).1 at_
        refine ⟨_, rfl, p, C, dx, _, _, rfl, hp1, M.cl, M.nM, memF_m _ _, _, rfl, ma, rs, _, _, rfl, rfl, hma, atI_nat hrs, ?_⟩
        refine ⟨_, rfl, _, rfl, d, _, rfl, dget_of (k := Sum.inr z) hd look, pr, ts, _, _, rfl, rfl, hts, atI_nat htv, ?_⟩
        refine ⟨pm, [.int (t : Int), .int x, .int y], rfl, hpm, rfl, _, [_, _], rfl, _, [_], rfl, _, [], rfl, rfl, ?_⟩
        dsimp only [gName]
        refine ⟨_, rfl, _, rfl, _, _, rfl, rfl, _, rfl, _, rfl, _, _, rfl, rfl, ?_⟩
        exact ⟨t, _, _, _, _, _, rfl, rfl, rest⟩
    · obtain ⟨h', a', b', u7, u8, u9, rfl, rfl, wt⟩ := hh
      rw [List.drop_eq_nil_of_le (by rw [List.length_map]; exact Nat.le_refl _)] at wt
      cases wt
      refine ⟨_, rfl, _, rfl, _, rfl, by show 2 ≤ sizeLine; decide, fun t nt => ?_⟩
      refine ⟨by show 2 ≤ sizeLine; decide, fun u nu => ?_⟩
      have k2 : Keep [] H1 (upd H1 t (.tup [.int a, .int b])) := Keep.new nt
      have k3 : Keep [] (upd H1 t (.tup [.int a, .int b])) (upd (upd H1 t (.tup [.int a, .int b])) u (.tup [.int (e : Nat), .ref t])) := Keep.new nu
      refine q _ _ ((k1.trans k2).trans k3) ⟨u, t, rfl, .inl (.inl upd_same), ?_⟩
      exact sqT_keep k3.toKeepW (.inl (.inl upd_same))
theorem ok_read {C CB S B : Addr} (D : Def K mg "read" s_read ["memory", "state", "word"]) (M : MemC K mg C)
    (CK : Callee P w K mg base (L2.CX P w) 5 "check_memory" ["memory"] (sp_ckmem K C CB))
    (CS : Callee P w K mg base (L2.CX P w) 4 "check_state" ["memory", "state"] (sp_ckstate K C S))
    (CW : Callee P w K mg base (L2.CX P w) 3 "check_word" ["memory", "word"] (sp_ckword K C B))
    (CA : Callee P w K mg base CX0 2 "read_along" ["memory", "state", "word"] (sp_read K C)) :
    Callee P w K mg base (L2.CX P w) 6 "read" ["memory", "state", "word"] (sp_readX K C CB S B) := by
  refine D.okX sc_read (fun vs H Q E h => ?_) (fun f cdv A outer s H vs Q E hr h => ?_)
  · rcases h with ⟨v, x, L, g, W, h, e, a, b, rfl, _⟩ | ⟨v, y, x, rfl, _⟩
    · rfl
    · rfl
  · refine ⟨_, pss_cons (ps_expr (pe_cE CK hr passE (pa_cons (pv 0) pa_nil)))
      (pss_cons (ps_expr (pe_cE CS hr passE (pa_cons (pv 0) (pa_cons (pv 1) pa_nil))))
      (pss_cons (ps_expr (pe_cE CW hr passE (pa_cons (pv 0) (pa_cons (pv 2) pa_nil))))
      (pss_one (ps_ret (pe_c CA hr (pa_cons (pv 0) (pa_cons (pv 1) (pa_cons (pv 2) pa_nil)))))))), ?_⟩
    rcases h with h | ⟨v, y, x, rfl, h⟩
    rotate_left
    · rcases h with ⟨nm, e⟩ | ⟨L, g, o, hm, few, no, h⟩
      · exact ⟨_, rfl, v, rfl, .inr ⟨nm, e⟩⟩
      · refine ⟨_, rfl, v, rfl, .inl ⟨L, g, hm, ?_⟩⟩
        rcases h with ⟨f, e⟩ | ⟨t, lok, nw, e⟩
        · exact ⟨_, rfl, _, rfl, v, L, g, y, o, rfl, hm, few, no, fun z => absurd (f.symm.trans z) (by decide), fun _ => e⟩
        · refine ⟨_, rfl, _, rfl, v, L, g, y, o, rfl, hm, few, no, fun _ => ?_, fun z => absurd (t.symm.trans z) (by decide)⟩
          rcases nw with ⟨T, ty, k⟩ | ⟨wa, xs, os, rfl, hw, at_, len, f⟩
          · exact ⟨_, rfl, _, rfl, v, L, g, x, rfl, hm, .inl ⟨T, ty, k, e⟩⟩
          · exact ⟨_, rfl, _, rfl, v, L, g, _, rfl, hm, .inr ⟨wa, xs, os, rfl, hw, at_, len, fun z => absurd (f.symm.trans z) (by decide), fun _ => e⟩⟩
    obtain ⟨v, x, L, g, W, h, e, a, b, rfl, hm, lok, few, lt, ⟨wa, rfl, hw⟩, inL, went, q⟩ := h
    have numb : within 0 ((g.length : Int) - 1) (some (h : Int)) = true := within_yes (by omega) (by omega)
    refine ⟨_, rfl, v, rfl, .inl ⟨L, g, hm, ?_⟩⟩
    refine ⟨_, rfl, _, rfl, v, L, g, _, some (h : Int), rfl, hm, few, rfl, fun _ => ?_, fun z => absurd (numb.symm.trans z) (by decide)⟩
    have allIn : (W.map some).all (itemOk L) = true := by
      rw [List.all_eq_true]
      intro o ho
      obtain ⟨z, hz, rfl⟩ := List.mem_map.mp ho
      exact decide_eq_true (inL z hz)
    refine ⟨_, rfl, _, rfl, v, L, g, _, rfl, hm, .inr ⟨wa, W.map V.str, W.map some, rfl, hw, fun i y hy => ?_, by rw [List.length_map, List.length_map], fun _ => ?_, fun z => absurd (allIn.symm.trans z) (by decide)⟩⟩
    · rw [List.getElem?_map] at hy
      obtain ⟨z, hz, rfl⟩ := Option.map_eq_some_iff.mp hy
      exact ⟨some z, by rw [List.getElem?_map, hz]; rfl, rfl⟩
    exact ⟨_, rfl, _, rfl, _, rfl, v, _, L, g, W, h, e, a, b, rfl, hm, lok, few, lt, ⟨wa, rfl, hw⟩, inL, went, q⟩
end
end K01
set_option maxHeartbeats 2000000
namespace K01
open PySem PySem.Spec PyProof.Rows L2 HG HN HM
section
variable {P : Program} {w : World} {K : PySem.W.Frag} {mg : Str → Option Value} {base : Heap}
def sp_stepped (K : PySem.W.Frag) (C : Addr) : Sp := fun vs H Q _ => ∃ (v : V) (L : List Str) (g : List (List Move)) (h i : Nat) (z : Str) (row : List Move) (t : Nat) (a b : Int), vs = [v, .int ((h : Nat) : Int), .str z] ∧ Mem K C H v L g ∧ Letters L ∧ g.length ≤ 120 ∧
  L[i]? = some z ∧ g[h]? = some row ∧ row[i]? = some (((t : Nat) : Int), a, b) ∧ ∀ r H', Keep [] H H' → Ans K H' r t a b → Q r H'
def sp_steppedX (K : PySem.W.Frag) (C CB S B : Addr) : Sp := fun vs H Q E => sp_stepped K C vs H Q E ∨ ∃ v y x, vs = [v, y, x] ∧
  ((NoMem K C H v ∧ ∀ d H', Keep [] H H' → H' d = some (.xd [("part", .non)]) → E (.ref CB) (some d) H') ∨
   ∃ L g o, Mem K C H v L g ∧ g.length ≤ 120 ∧ NumO [] K H y o ∧
    ((within 0 (g.length - 1) o = false ∧ E (.ref S) none H) ∨ (within 0 (g.length - 1) o = true ∧ (∃ z, ItemO K H x z ∧ itemOk L z = false) ∧ E (.ref B) none H)))
theorem ok_stepof {C : Addr} (D : Def K mg "step_of" s_step_of ["memory", "state", "letter"]) (M : MemC K mg C) :
    Callee P w K mg base CX0 1 "step_of" ["memory", "state", "letter"] (sp_stepped K C) := by
  refine D.ok sc_step_of (fun vs H Q E h => ?_) (fun f cdv A outer s H vs Q E hr h => ?_)
  · obtain ⟨v, L, g, h, i, z, row, t, a, b, rfl, _⟩ := h
    rfl
  · have nd := sc_step_of.nd
    refine ⟨_, pss_cons (ps_asg (pe_ix ix_tup (pe_ix ix_tup (pe_fld (pv 0) rfl) (pv 1) (fun _ _ => rfl))
            (pe_bmZ PySem.F.plainAttrs_tuple PySem.F.slot_tuple_index PySem.F.type_tuple_index mt_tup_index (pe_fld (pv 0) rfl) (pa_cons (pv 2) pa_nil)) (fun _ _ => rfl))
          (pg_tup rfl (pgs_cons (pg_name (i := 3) nd rfl (.inl rfl)) (pgs_cons (pg_name (i := 4) nd rfl (.inl rfl)) (pgs_cons (pg_name (i := 5) nd rfl (.inl rfl)) pgs_nil)))))
      (pss_one (ps_ret (pe_tup (pa_cons (pv 3) (pa_cons (pe_tup (pa_cons (pv 4) (pa_cons (pv 5) pa_nil))) pa_nil))))), ?_⟩
    obtain ⟨v, L, g, h, i, z, row, t, a, b, rfl, hm, lok, few, at_, rw_, mv, q⟩ := h
    obtain ⟨p, dx, l, m, rfl, hp, ⟨la, rfl, hl⟩, hg⟩ := id hm.ex
    obtain ⟨ma, rs, rv, em, hma, hrs, R⟩ := hg.row rw_
    subst em
    obtain ⟨pr, ts, tv, er, hts, htv, T⟩ := R.mv mv
    subst er
    obtain ⟨pm, et, hpm⟩ := T
    subst et
    refine ⟨_, rfl, p, C, dx, _, _, rfl, hp, M.cl, M.nM, memF_m _ _, _, rfl, ma, rs, _, _, rfl, rfl, hma, atI_nat hrs, ?_⟩
    have first : ∀ k, k < i → L[k]? ≠ some z := fun k lt2 e => asc_ne lok.asc lt2 e at_ rfl
    refine ⟨_, rfl, p, C, dx, _, _, rfl, hp, M.cl, M.nL, memF_l _ _, hm.plain p dx _ _ rfl hp, _, rfl, la, L, z, i, rfl, rfl, hl, at_, first, ?_⟩
    refine ⟨pr, ts, _, _, rfl, rfl, hts, atI_nat htv, ?_⟩
    refine ⟨pm, [.int (t : Int), .int a, .int b], rfl, hpm, rfl, _, [_, _], rfl, _, [_], rfl, _, [], rfl, rfl, ?_⟩
    dsimp only [gName]
    refine ⟨_, rfl, _, rfl, _, rfl, by show 2 ≤ sizeLine; decide, fun u nu => ?_⟩
    refine ⟨by show 2 ≤ sizeLine; decide, fun y ny => ?_⟩
    have k2 : Keep [] H (upd H u (.tup [.int a, .int b])) := Keep.new nu
    have k3 : Keep [] (upd H u (.tup [.int a, .int b])) (upd (upd H u (.tup [.int a, .int b])) y (.tup [.int (t : Nat), .ref u])) := Keep.new ny
    exact q _ _ (k2.trans k3) ⟨y, u, rfl, .inl (.inl upd_same), sqT_keep k3.toKeepW (.inl (.inl upd_same))⟩
theorem ok_stepped {C CB S B : Addr} (D : Def K mg "stepped" s_stepped ["memory", "state", "letter"]) (M : MemC K mg C)
    (CK : Callee P w K mg base (L2.CX P w) 5 "check_memory" ["memory"] (sp_ckmem K C CB))
    (CS : Callee P w K mg base (L2.CX P w) 4 "check_state" ["memory", "state"] (sp_ckstate K C S))
    (CL : Callee P w K mg base (L2.CX P w) 2 "check_letter" ["memory", "letter"] (sp_ckletter K C B))
    (CA : Callee P w K mg base CX0 1 "step_of" ["memory", "state", "letter"] (sp_stepped K C)) :
    Callee P w K mg base (L2.CX P w) 6 "stepped" ["memory", "state", "letter"] (sp_steppedX K C CB S B) := by
  refine D.okX sc_stepped (fun vs H Q E h => ?_) (fun f cdv A outer s H vs Q E hr h => ?_)
  · rcases h with ⟨v, L, g, h, i, z, row, t, a, b, rfl, _⟩ | ⟨v, y, x, rfl, _⟩
    · rfl
    · rfl
  · refine ⟨_, pss_cons (ps_expr (pe_cE CK hr passE (pa_cons (pv 0) pa_nil)))
      (pss_cons (ps_expr (pe_cE CS hr passE (pa_cons (pv 0) (pa_cons (pv 1) pa_nil))))
      (pss_cons (ps_expr (pe_cE CL hr passE (pa_cons (pv 0) (pa_cons (pv 2) pa_nil))))
      (pss_one (ps_ret (pe_c CA hr (pa_cons (pv 0) (pa_cons (pv 1) (pa_cons (pv 2) pa_nil)))))))), ?_⟩
    rcases h with h | ⟨v, y, x, rfl, h⟩
    rotate_left
    · rcases h with ⟨nm, e⟩ | ⟨L, g, o, hm, few, no, h⟩
      · exact ⟨_, rfl, v, rfl, .inr ⟨nm, e⟩⟩
      · refine ⟨_, rfl, v, rfl, .inl ⟨L, g, hm, ?_⟩⟩
        rcases h with ⟨f, e⟩ | ⟨t, ⟨z, hz, bad⟩, e⟩
        · exact ⟨_, rfl, _, rfl, v, L, g, y, o, rfl, hm, few, no, fun z => absurd (f.symm.trans z) (by decide), fun _ => e⟩
        · refine ⟨_, rfl, _, rfl, v, L, g, y, o, rfl, hm, few, no, fun _ => ?_, fun z => absurd (t.symm.trans z) (by decide)⟩
          exact ⟨_, rfl, _, rfl, v, L, g, x, z, rfl, hm, hz, fun y => absurd (bad.symm.trans y) (by decide), fun _ => e⟩
    obtain ⟨v, L, g, h, i, z, row, t, a, b, rfl, hm, lok, few, at_, rw_, mv, q⟩ := h
    have lt : h < g.length := (List.getElem?_eq_some_iff.mp rw_).1
    have numb : within 0 ((g.length : Int) - 1) (some (h : Int)) = true := within_yes (by omega) (by omega)
    have yes : itemOk L (some z) = true := decide_eq_true (List.mem_of_getElem? at_)
    refine ⟨_, rfl, v, rfl, .inl ⟨L, g, hm, ?_⟩⟩
    refine ⟨_, rfl, _, rfl, v, L, g, _, some (h : Int), rfl, hm, few, rfl, fun _ => ?_, fun z => absurd (numb.symm.trans z) (by decide)⟩
    refine ⟨_, rfl, _, rfl, v, L, g, _, some z, rfl, hm, rfl, fun _ => ?_, fun y => absurd (yes.symm.trans y) (by decide)⟩
    exact ⟨_, rfl, _, rfl, _, rfl, v, L, g, h, i, z, row, t, a, b, rfl, hm, lok, few, at_, rw_, mv, q⟩
end
end K01
set_option maxHeartbeats 2000000
namespace K01
open PySem PySem.Spec PyProof.Rows L2 HG HN HM
/-! ## letters and moves as data -/
def dL (L : List Str) : PyData := .tuple (L.map PyData.str)
def dM (m : Move) : PyData := .tuple [.int m.1, .int m.2.1, .int m.2.2]
def dR (r : List Move) : PyData := .tuple (r.map dM)
def dG (g : List (List Move)) : PyData := .tuple (g.map dR)
theorem canLay_map {α : Type} (f : α → PyData) : ∀ xs : List α, (∀ x ∈ xs, (f x).canLay0 = true) → PyData.canLayAll0 (xs.map f) = true
  | [], _ => by simp [PyData.canLayAll0]
  | x :: r, h => by
    simp only [List.map_cons, PyData.canLayAll0, Bool.and_eq_true]
    exact ⟨h x List.mem_cons_self, canLay_map f r fun y hy => h y (List.mem_cons_of_mem _ hy)⟩
theorem depth_map {α : Type} {n : Nat} (f : α → PyData) : ∀ xs : List α, (∀ x ∈ xs, (f x).depth ≤ n) → PyData.depthAll (xs.map f) ≤ n
  | [], _ => by simp [PyData.depthAll]
  | x :: r, h => by
    have h1 := h x List.mem_cons_self
    have h2 := depth_map f r fun y hy => h y (List.mem_cons_of_mem _ hy)
    simp only [List.map_cons, PyData.depthAll]
    omega
theorem lay_M (m : Move) : (dM m).canLay0 = true := by simp [dM, PyData.canLay0, PyData.canLayAll0]
theorem lay_R (r : List Move) : (dR r).canLay0 = true := by
  simp only [dR, PyData.canLay0]
  exact canLay_map dM r fun m _ => lay_M m
theorem lay_G (g : List (List Move)) : (dG g).canLay0 = true := by
  simp only [dG, PyData.canLay0]
  exact canLay_map dR g fun m _ => lay_R m
theorem dep_M (m : Move) : (dM m).depth ≤ 1 := by simp [dM, PyData.depth, PyData.depthAll]
theorem dep_R (r : List Move) : (dR r).depth ≤ 2 := by
  have := depth_map dM r fun m _ => dep_M m
  simp only [dR, PyData.depth]
  omega
theorem dep_G (g : List (List Move)) : (dG g).depth ≤ 3 := by
  have := depth_map dR g fun m _ => dep_R m
  simp only [dG, PyData.depth]
  omega
theorem shaped_G (g : List (List Move)) : SeqAt.shaped (dG g) = true := by
  have := dep_G g
  show (PyData.canLay0 _ && decide (PyData.depth _ ≤ 64)) = true
  rw [lay_G, decide_eq_true (by omega)]
  rfl
theorem dp_M {K : PySem.W.Frag} {H : Hp} {v : V} {m : Move} (h : Mv K H v m) : Dp K H v (dM m) := by
  obtain ⟨p, rfl, hp⟩ := h
  exact .tup hp (.cons (.int _) (.cons (.int _) (.cons (.int _) .nil)))
theorem dpAll_of {α : Type} {K : PySem.W.Frag} {H : Hp} (f : α → PyData) : ∀ (vs : List V) (xs : List α), vs.length = xs.length →
    (∀ (i : Nat) (v : V), vs[i]? = some v → ∃ x, xs[i]? = some x ∧ Dp K H v (f x)) → DpAll K H vs (xs.map f)
  | [], [], _, _ => .nil
  | [], _ :: _, l, _ => by cases l
  | _ :: _, [], l, _ => by cases l
  | v :: vs, x :: xs, l, h => by
    obtain ⟨y, e, d⟩ := h 0 v rfl
    cases e
    exact .cons d (dpAll_of f vs xs (Nat.succ.inj l) fun i u hu => h (i + 1) u hu)
theorem dp_R {K : PySem.W.Frag} {H : Hp} {v : V} {r : List Move} (h : Rw K H v r) : Dp K H v (dR r) := by
  obtain ⟨p, ts, rfl, hp, len, at_⟩ := h
  exact .tup hp (dpAll_of dM ts r len fun i t ht => by
    obtain ⟨m, e, k⟩ := at_ i t ht
    exact ⟨m, e, dp_M k⟩)
theorem dp_G {K : PySem.W.Frag} {H : Hp} {v : V} {g : List (List Move)} (h : Gr K H v g) : Dp K H v (dG g) := by
  obtain ⟨p, ts, rfl, hp, len, at_⟩ := h
  exact .tup hp (dpAll_of dR ts g len fun i t ht => by
    obtain ⟨m, e, k⟩ := at_ i t ht
    exact ⟨m, e, dp_R k⟩)
theorem dp_L {K : PySem.W.Frag} {H : Hp} {v : V} {L : List Str} (h : Lt K H v L) : Dp K H v (dL L) := by
  obtain ⟨p, rfl, hp⟩ := h
  refine .tup hp (dpAll_of PyData.str _ L (by rw [List.length_map]) fun i t ht => ?_)
  rw [List.getElem?_map] at ht
  obtain ⟨z, hz, rfl⟩ := Option.map_eq_some_iff.mp ht
  exact ⟨z, hz, .str z⟩
end K01
set_option maxHeartbeats 2000000
namespace K01
open PySem PySem.Spec PyProof.Rows L2 HG HN HM
theorem signs_ok : ∀ c ∈ signsS.cps.toList, c < 1114112 := by decide +kernel
theorem sign_ok {z : Str} (h : Sign z) : (PyData.str z).canLay0 = true := by
  simp only [PyData.canLay0, PyData.strOk]
  rw [← Array.all_toList, List.all_eq_true]
  exact fun c hc => decide_eq_true (signs_ok c (h.good c hc))
theorem shaped_L {L : List Str} (h : Letters L) : SeqAt.shaped (dL L) = true := by
  have lay : (dL L).canLay0 = true := by
    simp only [dL, PyData.canLay0]
    exact canLay_map PyData.str L fun z hz => sign_ok (h.all z hz)
  have dep := depth_map (n := 0) PyData.str L fun z _ => by simp [PyData.depth]
  have dep2 : (dL L).depth ≤ 1 := by
    simp only [dL, PyData.depth]
    omega
  show (PyData.canLay0 _ && decide (PyData.depth _ ≤ 64)) = true
  rw [lay, decide_eq_true (by omega)]
  rfl
section
variable {P : Program} {w : World} {K : PySem.W.Frag} {mg : Str → Option Value} {base : Heap}
def sp_eq (K : PySem.W.Frag) (C : Addr) : Sp := fun vs H Q _ => ∃ v u L g, vs = [v, u] ∧ Mem K C H v L g ∧ Mem K C H u L g ∧ Letters L ∧ Q (.bl true) H
theorem ok_eq {C f : Addr} (D : DefM K "__eq__" "Memory.__eq__" s_eq ["self", "other"] f) (M : MemC K mg C) (zs : mg "isinstance" = none) :
    CalleeM P w K mg base CX0 1 f ["self", "other"] (sp_eq K C) := by
  refine D.ok sc_eq (fun vs H Q E h => ?_) (fun cdv A outer s H vs Q E hr h => ?_)
  · obtain ⟨v, u, L, g, rfl, _⟩ := h
    rfl
  · obtain ⟨v, u, L, g, rfl, hv, hu, lok, q⟩ := h
    refine ⟨_, pss_one (ps_ret (pe_and (pe_callB call_isi (by rfl) zs (by decide +kernel) (pa_cons (pv 1) (pa_cons (pe_glob (v := .ref C) rfl M.at_ rfl) pa_nil)))
      (pe_and (pe_cmpR (op_eqD hr.units) (pe_fld (pv 0) rfl) (pe_fld (pv 1) rfl) (by rfl)) (pe_one (pe_cmpR (op_eqD hr.units) (pe_fld (pv 0) rfl) (pe_fld (pv 1) rfl) (by rfl)))))), ?_⟩
    obtain ⟨p, dx, l, m, rfl, hp, hl, hg⟩ := id hv.ex
    obtain ⟨p', dx', l', m', rfl, hp', hl', hg'⟩ := id hu.ex
    refine ⟨_, rfl, _, _, _, _, true, rfl, .own C, hu.ty M, own_one, true, rfl, ?_⟩
    refine ⟨_, rfl, p, C, dx, _, _, rfl, hp, M.cl, M.nL, memF_l _ _, _, rfl, p', C, dx', _, _, rfl, hp', M.cl, M.nL, memF_l _ _, _, _, dp_L hl, dp_L hl', shaped_L lok, shaped_L lok, ?_⟩
    have e1 : PyData.eqv (dL L) (dL L) = true := SeqAt.eqv_refl _ (SeqAt.canLay_of_shaped (shaped_L lok))
    rw [e1]
    refine ⟨true, rfl, ?_⟩
    refine ⟨_, rfl, p, C, dx, _, _, rfl, hp, M.cl, M.nM, memF_m _ _, _, rfl, p', C, dx', _, _, rfl, hp', M.cl, M.nM, memF_m _ _, _, _, dp_G hg, dp_G hg', shaped_G g, shaped_G g, ?_⟩
    have e2 : PyData.eqv (dG g) (dG g) = true := SeqAt.eqv_refl _ (lay_G g)
    rw [e2]
    exact q
end
end K01
set_option maxHeartbeats 2000000
namespace HG
open PySem PySem.Spec PyProof.Rows L2
/-- what changes but at an address that wasn't there at first -/
theorem Keep.fresh {H H1 H2 : Hp} {x : Addr} (k : Keep [] H H1) (k2 : Keep [x] H1 H2) (nx : H x = Option.none) : Keep [] H H2 := by
  have ne : ∀ a o, H a = some o → a ∉ [x] := fun a o e m => by
    rcases List.mem_cons.mp m with r | m
    · rw [r, nx] at e
      cases e
    · cases m
  refine ⟨⟨fun a o e n t => k2.all a o (k.all a o e n t) (ne a o e) t, fun a xs e => k2.tup a xs (k.tup a xs e), fun a o u e => k2.frz a o u (k.frz a o u e), fun a o e t => ?_⟩, fun a ps e => k2.tbl a ps (k.tbl a ps e)⟩
  obtain ⟨o', e', t'⟩ := k.dom a o e t
  exact k2.dom a o' e' t'
end HG
namespace K01
open PySem PySem.Spec PyProof.Rows L2 HG HN HM
theorem mem_made {K : PySem.W.Frag} {C : Addr} {H : Hp} {l m : V} {L : List Str} {g : List (List Move)} {Q : VK} {E : XK} (hl : Lt K H l L) (pl : Plain "tuple" H l) (hg : Gr K H m g) (lok : Letters L) (gok : GrOk g L.length)
    (q : ∀ x H', Keep [] H H' → H x = none → Mem K C H' (.ref x) L g → Q (.ref x) H') :
    ∀ x dx, H x = none → H dx = none → dx ≠ x → sp_init K C [.ref x, l, m] (upd (upd H dx (.own x)) x (.ins C dx [])) (fun v H2 => v = .non ∧ Q (.ref x) H2) E := by
  intro x dx nx nd ne
  have k : Keep [] H (upd (upd H dx (.own x)) x (.ins C dx [])) := (Keep.new nd).mut nx
  refine ⟨x, dx, l, m, L, g, rfl, upd_same, hl.keep k.toKeepW, hg.keep k.toKeepW, lok, gok, fun H' k2 hx => ⟨rfl, ?_⟩⟩
  have kk := k.fresh k2 nx
  exact q x H' kk nx (.mk' hx (hl.keep kk.toKeepW) (pl.keep kk.toKeepW) (hg.keep kk.toKeepW))
def neg (m : Move) : Move := (m.1, -m.2.1, -m.2.2)
theorem GrOk.neg {g : List (List Move)} {k : Nat} (h : GrOk g k) : GrOk (g.map fun r => r.map neg) k := by
  refine ⟨by rw [List.length_map]; exact h.pos, by rw [List.length_map]; exact h.few, fun r hr => ?_, fun r hr m hm => ?_⟩
  · obtain ⟨r2, h2, rfl⟩ := List.mem_map.mp hr
    rw [List.length_map]
    exact h.wide r2 h2
  · obtain ⟨r2, h2, rfl⟩ := List.mem_map.mp hr
    obtain ⟨m2, h3, rfl⟩ := List.mem_map.mp hm
    have q := h.all r2 h2 m2 h3
    have b0 := q.b0
    have b1 := q.b1
    have c0 := q.c0
    have c1 := q.c1
    exact ⟨q.a0, by rw [List.length_map]; exact q.a1, by show -999 ≤ -m2.2.1; omega, by show -m2.2.1 ≤ 999; omega, by show -999 ≤ -m2.2.2; omega, by show -m2.2.2 ≤ 999; omega⟩
section
variable {P : Program} {w : World} {K : PySem.W.Frag} {mg : Str → Option Value} {base : Heap}
def sp_negated (K : PySem.W.Frag) (C : Addr) : Sp := fun vs H Q _ => ∃ v L g, vs = [v] ∧ Mem K C H v L g ∧ Letters L ∧ GrOk g L.length ∧ L.length ≤ 20 ∧ g.length ≤ 20 ∧
  ∀ x H', Keep [] H H' → H x = none → Mem K C H' (.ref x) L (g.map fun r => r.map neg) → Q (.ref x) H'
def sp_negatedX (K : PySem.W.Frag) (C CB : Addr) : Sp := fun vs H Q E => sp_negated K C vs H Q E ∨ ∃ v, vs = [v] ∧ NoMem K C H v ∧ ∀ d H', Keep [] H H' → H' d = some (.xd [("part", .non)]) → E (.ref CB) (some d) H'
theorem sc_negatedX : FnScope ["memory", "moves", "row", "place", "a", "b"] ["memory"] (defScope s_negated) := scope_by rfl rfl rfl (by decide +kernel) rfl (by decide +kernel) (by decide +kernel)
theorem ok_negated {C CB fI : Addr} (D : Def K mg "negated" s_negated ["memory"]) (M : MemC K mg C) (mk : Mk K C fI) (zt : mg "tuple" = none)
    (CI : CalleeM P w K mg base CX0 5 fI ["self", "letters", "moves"] (sp_init K C))
    (CK : Callee P w K mg base (L2.CX P w) 5 "check_memory" ["memory"] (sp_ckmem K C CB)) :
    Callee P w K mg base (L2.CX P w) 7 "negated" ["memory"] (sp_negatedX K C CB) := by
  obtain ⟨fd, FI, bI⟩ := CI.ex
  refine D.okX sc_negatedX (fun vs H Q E h => ?_) (fun f cdv A outer s H vs Q E hr h => ?_)
  · rcases h with ⟨v, L, g, rfl, _⟩ | ⟨v, rfl, _⟩
    · rfl
    · rfl
  · have nd := sc_negatedX.nd
    refine ⟨_, pss_cons (ps_expr (pe_cE CK hr passE (pa_cons (pv 0) pa_nil)))
      (pss_cons (ps_set (i := 1) nd rfl (.inl rfl) (pe_lst pa_nil))
      (pss_cons (ps_for (passes_of rfl) rfl (pi_tup (pe_fld (pv 0) rfl)) (pg_name (i := 2) nd rfl (.inl rfl))
        (pss_one (ps_expr (pe_bm PySem.F.plainAttrs_list PySem.F.slot_list_append PySem.F.type_list_append mt_append (pv 1) (pa_cons (pe_callTy call_tuple_of (by rfl) zt (by decide +kernel) (pa_cons
          (pe_lc (own := [("place", 3), ("a", 4), ("b", 5)]) (g := gTup K 3 (gCons (gName 3) (gCons (gName 4) (gCons (gName 5) gNil)))) rfl nd (pi_tup (pv 2))
            (blkOk_by (N := ["memory", "moves", "row", "place", "a", "b"]) (sc := defScope s_negated) (by decide +kernel))
            (fun _ _ _ _ _ => pg_tup rfl (pgs_cons (pg_name (i := 3) nd rfl (Or.inl rfl)) (pgs_cons (pg_name (i := 4) nd rfl (Or.inl rfl)) (pgs_cons (pg_name (i := 5) nd rfl (Or.inl rfl)) pgs_nil))))
            (fun _ _ _ _ _ => pts_nil)
            (fun _ _ _ _ _ => pe_tup (pa_cons (pv 3) (pa_cons (pe_un un_neg (pv 4)) (pa_cons (pe_un un_neg (pv 5)) pa_nil))))) pa_nil)) pa_nil)))))
      (pss_one (ps_ret (pe_make mk FI (hr.mono (by decide)) rfl M.at_ bI .nil pass0 (pa_cons (pe_fld (pv 0) rfl) (pa_cons (pe_callTy call_tuple_of (by rfl) zt (by decide +kernel) (pa_cons (pv 1) pa_nil)) pa_nil))))))), ?_⟩
    rcases h with h | ⟨v, rfl, nm, e⟩
    rotate_left
    · exact ⟨_, rfl, v, rfl, .inr ⟨nm, e⟩⟩
    obtain ⟨v, L, g, rfl, hm, lok, gok, fewL, fewG, q⟩ := h
    obtain ⟨p, dx, l, m, rfl, hp, hl, hg⟩ := id hm.ex
    have pl := hm.plain p dx l m rfl hp
    obtain ⟨ma, rs, rfl, hma, len, at_⟩ := id hg
    refine ⟨_, rfl, .ref p, rfl, .inl ⟨L, g, hm, ?_⟩⟩
    refine ⟨Nat.zero_le _, fun ml nml => ?_⟩
    dsimp only [gName]
    have k0 : Keep [] H (upd H ml (.lst [])) := Keep.new nml
    have hp0 := k0.toKeepW.get hp (by simp)
    refine ⟨_, rfl, p, C, dx, _, _, rfl, hp0, M.cl, M.nM, memF_m _ _, ma, rfl, ⟨_, sqT_keep k0.toKeepW hma⟩,
      for_tup (xs := rs) (fun i σ H' => ∃ (u : Option V) (ws : List V), σ = [some (.ref p), some (.ref ml), u, none, none, none] ∧ Keep [] H H' ∧ H' ml = some (.lst ws) ∧ ws.length = i ∧ i ≤ g.length ∧
        ∀ (j : Nat) (x : V), ws[j]? = some x → ∃ r, (g.map fun r => r.map neg)[j]? = some r ∧ Rw K H' x r)
      ⟨none, [], rfl, k0, upd_same, rfl, Nat.zero_le _, fun j x z => by simp at z⟩ (fun i σ H' _ hh => ?_) (fun i y σ H' hy hh => ?_) (fun σ H' hh => ?_)⟩
    · obtain ⟨_, _, _, k, _⟩ := hh
      exact sqT_keep k.toKeepW hma
    · obtain ⟨u, ws, rfl, k, hw, lw, _, all⟩ := hh
      obtain ⟨r, hr2, R⟩ := at_ i y hy
      obtain ⟨pr, ts, rfl, hts, lr, atr⟩ := id (R.keep k.toKeepW)
      have wide : r.length ≤ 20 := by
        rw [gok.wide r (List.mem_of_getElem? hr2)]
        exact fewL
      have ig : i < g.length := (List.getElem?_eq_some_iff.mp hr2).1
      dsimp only [gName]
      refine ⟨_, rfl, .inl ⟨rfl, ws, SqL.of hw⟩, ?_⟩
      refine ⟨_, rfl, pr, rfl, ⟨_, hts⟩, fun D nD => ?_⟩
      refine lc_it (walk_tup (xs := ts)) (fun j Hj => Keep [] H' Hj ∧ j ≤ ts.length ∧ ∃ acc : List V, Hj D = some (.lst acc) ∧ acc.length = j ∧ ∀ (k2 : Nat) (x : V), acc[k2]? = some x → ∃ m, (r.map neg)[k2]? = some m ∧ Mv K Hj x m)
        ⟨Keep.new nD, Nat.zero_le _, [], upd_same, rfl, fun k2 x z => by simp at z⟩ (fun j Hj _ hh => sqT_keep hh.1.toKeepW hts) (fun j x Hj Hy lt hh y => ?_) (fun Hj hh => ?_)
      · obtain ⟨kj, _, acc, hD, la2, mvs⟩ := hh
        obtain ⟨rfl, hx⟩ := y
        obtain ⟨mm, hmm, MV⟩ := atr j x hx
        obtain ⟨pm, rfl, hpm⟩ := MV.keep kj.toKeepW
        refine ⟨pm, _, rfl, hpm, rfl, _, [_, _], rfl, _, [_], rfl, _, [], rfl, rfl, rfl, ?_⟩
        refine ⟨_, rfl, _, rfl, _, rfl, _, rfl, _, rfl, by show 3 ≤ sizeLine; decide, fun t nt => ?_⟩
        have nDt : D ≠ t := ne_of_none hD nt
        refine ⟨acc, by rw [upd_ne nDt]; exact hD, small1000 (by omega), ?_⟩
        have kt : Keep [] Hy (upd Hy t (.tup [.int mm.1, .int (-mm.2.1), .int (-mm.2.2)])) := Keep.new nt
        refine ⟨(kj.trans kt).mut nD, by omega, acc ++ [.ref t], upd_same, by rw [List.length_append, la2]; rfl, fun k2 x hk2 => ?_⟩
        have hD2 : upd Hy t (.tup [.int mm.1, .int (-mm.2.1), .int (-mm.2.2)]) D = some (.lst acc) := by
          rw [upd_ne nDt]
          exact hD
        have kl : KeepW [D] (upd Hy t (.tup [.int mm.1, .int (-mm.2.1), .int (-mm.2.2)])) (upd (upd Hy t (.tup [.int mm.1, .int (-mm.2.1), .int (-mm.2.2)])) D (.lst (acc ++ [.ref t]))) :=
          (Keep.chg hD2 List.mem_cons_self (fun _ z => nomatch z) (fun _ _ z => nomatch z)).toKeepW
        by_cases q2 : k2 < acc.length
        · rw [List.getElem?_append_left q2] at hk2
          obtain ⟨m2, h2, M2⟩ := mvs k2 x hk2
          exact ⟨m2, h2, (M2.keep kt.toKeepW).keep kl⟩
        · have e2 : k2 = acc.length := by
            have := (List.getElem?_eq_some_iff.mp hk2).1
            rw [List.length_append] at this
            simp only [List.length_singleton] at this
            omega
          subst e2
          rw [List.getElem?_append_right (Nat.le_refl _)] at hk2
          simp only [Nat.sub_self, List.getElem?_cons_zero] at hk2
          cases hk2
          refine ⟨neg mm, by rw [List.getElem?_map, la2, hmm]; rfl, t, rfl, ?_⟩
          exact sqT_keep kl (.inl (.inl upd_same))
      · obtain ⟨kj, _, acc, hD, la2, mvs⟩ := hh
        refine ⟨D, acc, rfl, .inl ⟨SqL.of hD, fun tq ntq => ?_⟩⟩
        have kq : Keep [] Hj (upd Hj tq (.tup acc)) := Keep.new ntq
        have R2 : Rw K (upd Hj tq (.tup acc)) (.ref tq) (r.map neg) := by
          refine ⟨tq, acc, rfl, .inl (.inl upd_same), by rw [List.length_map]; omega, fun k2 x hx => ?_⟩
          obtain ⟨m2, h2, M2⟩ := mvs k2 x hx
          exact ⟨m2, h2, M2.keep kq.toKeepW⟩
        have kk := kj.trans kq
        have hw2 := kk.toKeepW.get hw (by simp)
        generalize upd Hj tq (.tup acc) = Hq at kq R2 kk hw2 ⊢
        refine ⟨ml, ws, _, rfl, rfl, hw2, small1000 (by omega), ?_⟩
        have kl : KeepW [ml] Hq (upd Hq ml (.lst (ws ++ [.ref tq]))) := (Keep.chg hw2 List.mem_cons_self (fun _ z => nomatch z) (fun _ _ z => nomatch z)).toKeepW
        refine ⟨_, ws ++ [.ref tq], rfl, (k.trans kk).mut nml, upd_same, by rw [List.length_append, lw]; rfl, by omega, fun j x hx => ?_⟩
        by_cases q2 : j < ws.length
        · rw [List.getElem?_append_left q2] at hx
          obtain ⟨r3, h3, R3⟩ := all j x hx
          exact ⟨r3, h3, (R3.keep kk.toKeepW).keep kl⟩
        · have e2 : j = ws.length := by
            have := (List.getElem?_eq_some_iff.mp hx).1
            rw [List.length_append] at this
            simp only [List.length_singleton] at this
            omega
          subst e2
          rw [List.getElem?_append_right (Nat.le_refl _)] at hx
          simp only [Nat.sub_self, List.getElem?_cons_zero] at hx
          cases hx
          exact ⟨r.map neg, by rw [List.getElem?_map, lw, hr2]; rfl, R2.keep kl⟩
    · obtain ⟨u, ws, rfl, k, hw, lw, _, all⟩ := hh
      have hp1 := k.toKeepW.get hp (by simp)
      refine ⟨_, rfl, p, C, dx, _, _, rfl, hp1, M.cl, M.nL, memF_l _ _, _, rfl, ml, ws, rfl, .inl ⟨SqL.of hw, fun tp ntp => ?_⟩⟩
      have kt : Keep [] H' (upd H' tp (.tup ws)) := Keep.new ntp
      have kk := k.trans kt
      have G2 : Gr K (upd H' tp (.tup ws)) (.ref tp) (g.map fun r => r.map neg) := by
        refine ⟨tp, ws, rfl, .inl (.inl upd_same), by rw [List.length_map]; omega, fun j x hx => ?_⟩
        obtain ⟨r, hr3, R⟩ := all j x hx
        exact ⟨r, hr3, R.keep kt.toKeepW⟩
      exact mem_made (hl.keep kk.toKeepW) (pl.keep kk.toKeepW) G2 lok gok.neg fun x Hx kx nx mem => q x Hx (kk.trans kx) (kk.none nx) mem
end
end K01
set_option maxHeartbeats 2000000
namespace HG
open PySem PySem.Spec PyProof.Rows L2
/-- every address of the list has an object -/
def Known (ex : List Addr) (H : Hp) : Prop := ∀ a ∈ ex, ∃ o, H a = some o ∧ ∀ ps, o ≠ .tbl ps
theorem Known.keep {ex ex' : List Addr} {H H' : Hp} (k : KeepW ex' H H') (h : Known ex H) : Known ex H' := fun a m => by
  obtain ⟨o, e, t⟩ := h a m
  exact k.dom _ _ e t
theorem Known.out {ex : List Addr} {H : Hp} {a : Addr} (h : Known ex H) (n : H a = none) : a ∉ ex := fun m => by
  obtain ⟨o, e, _⟩ := h a m
  rw [n] at e
  cases e
theorem Draw.known {H : Hp} {p g c : Addr} {n : Int} (d : Draw H p g c n) : Known [p, g] H := by
  obtain ⟨_, gs, cs, left, turn, e1, e2, e3, _⟩ := d
  intro a m
  rcases List.mem_cons.mp m with rfl | m
  · exact ⟨_, e1, fun _ z => nomatch z⟩
  · rcases List.mem_cons.mp m with rfl | m
    · exact ⟨_, e2, fun _ z => nomatch z⟩
    · cases m
/-- what can be picked from: a list, a tuple, a text -/
inductive Some (ex : List Addr) (K : PySem.W.Frag) (H : Hp) : V → List V → Prop where
  | lst {a : Addr} {xs : List V} (h : SqL K H a xs) (n : a ∉ ex) : Some ex K H (.ref a) xs
  | tup {a : Addr} {xs : List V} (h : SqT K H a xs) : Some ex K H (.ref a) xs
  | str {z : Str} (s : z.length ≤ 1000) : Some ex K H (.str z) (z.cps.toList.map fun c => V.str ⟨#[c]⟩)
theorem Some.keep {ex : List Addr} {K : PySem.W.Frag} {H H' : Hp} {v : V} {xs : List V} (k : KeepW ex H H') (h : Some ex K H v xs) : Some ex K H' v xs := by
  cases h with
  | lst h n => exact .lst (sqL_keep k n h) n
  | tup h => exact .tup (sqT_keep k h)
  | str s => exact .str s
theorem Some.len {ex : List Addr} {K : PySem.W.Frag} {H : Hp} {v : V} {xs : List V} (h : Some ex K H v xs) : LenV K v H xs.length := by
  cases h with
  | lst h n => exact .inl ⟨_, h, rfl⟩
  | tup h => exact .inr ⟨_, h, rfl⟩
  | str s => exact ⟨Nat.le_trans s (by decide), by rw [List.length_map]; rfl⟩
theorem Some.ix {ex : List Addr} {K : PySem.W.Frag} {H : Hp} {v y : V} {xs : List V} {r : Int} {Q : VK} (h : Some ex K H v xs) (h0 : 0 ≤ r) (e : xs[r.toNat]? = some y) (q : Q y H) : rIx K v (.int r) H Q := by
  have a : atI xs r = some y := by
    have t := atI_nat (xs := xs) (j := r.toNat) e
    rw [show ((r.toNat : Nat) : Int) = r by omega] at t
    exact t
  cases h with
  | lst h n => exact .inl ⟨_, _, _, _, rfl, rfl, h, a, q⟩
  | tup h => exact .inr (.inl ⟨_, _, _, _, rfl, rfl, h, a, q⟩)
  | @str z s =>
    rw [List.getElem?_map] at e
    obtain ⟨c, hc, rfl⟩ := Option.map_eq_some_iff.mp e
    refine .inr (.inr ⟨z, r, c, rfl, rfl, Nat.le_trans s (by decide), ?_, q⟩)
    have t := atI_nat (xs := z.cps.toList) (j := r.toNat) hc
    rw [show ((r.toNat : Nat) : Int) = r by omega] at t
    exact t
theorem Draw.keep {H H' : Hp} {p g c : Addr} {n : Int} (k : KeepW [] H H') (d : Draw H p g c n) : Draw H' p g c n := by
  obtain ⟨ne, gs, cs, left, turn, e1, e2, e3, t0, t1⟩ := d
  exact ⟨ne, gs, cs, left, turn, k.get e1 (by simp), k.get e2 (by simp), k.get e3 (by simp), t0, t1⟩
theorem Draw.mono {H : Hp} {p g c : Addr} {n m : Int} (d : Draw H p g c n) (h : n ≤ m) : Draw H p g c m := by
  obtain ⟨ne, gs, cs, left, turn, e1, e2, e3, t0, t1⟩ := d
  exact ⟨ne, gs, cs, left, turn, e1, e2, e3, t0, by omega⟩
/-- another object changes -/
theorem Draw.other {H0 H : Hp} {p g c D : Addr} {n m : Int} {o : HO} (d0 : Draw H0 p g c m) (nD : H0 D = none) (d : Draw H p g c n) : Draw (upd H D o) p g c n := by
  obtain ⟨_, _, _, _, _, a1, a2, a3, _⟩ := d0
  obtain ⟨ne, gs, cs, left, turn, e1, e2, e3, t0, t1⟩ := d
  refine ⟨ne, gs, cs, left, turn, ?_, ?_, ?_, t0, t1⟩
  · rw [upd_ne (ne_of_none a1 nD)]
    exact e1
  · rw [upd_ne (ne_of_none a2 nD)]
    exact e2
  · rw [upd_ne (ne_of_none a3 nD)]
    exact e3
end HG
namespace K01
open PySem PySem.Spec PyProof.Rows L2 HG HN HM
section
variable {P : Program} {w : World} {K : PySem.W.Frag} {mg : Str → Option Value} {base : Heap}
def sp_some (K : PySem.W.Frag) : Sp := fun vs H Q _ => ∃ p g c n x xs, vs = [.ref p, x] ∧ Draw H p g c n ∧ n < 1000000000 ∧ Some [p, g] K H x xs ∧ 0 < xs.length ∧ xs.length < 10000 ∧
  ∀ (i : Nat) v H', xs[i]? = some v → Keep [p, g] H H' → Draw H' p g c (n + 1) → Q v H'
theorem ok_some (D : Def K mg "_law_pick" s_l_pick ["draw", "some"]) (zl : mg "len" = none) (CT : Callee P w K mg base CX0 2 "_law_take" ["draw", "many"] sp_take) :
    Callee P w K mg base CX0 3 "_law_pick" ["draw", "some"] (sp_some K) := by
  refine D.ok sc_l_pick (fun vs H Q E h => ?_) (fun f cdv A outer s H vs Q E hr h => ?_)
  · obtain ⟨p, g, c, n, x, xs, rfl, _⟩ := h
    rfl
  · obtain ⟨p, g, c, n, x, xs, rfl, dr, small, hx, x0, x1, q⟩ := h
    refine ⟨_, pss_one (ps_ret (pe_ix ix_seq (pv 1) (pe_c CT hr (pa_cons (pv 0) (pa_cons (pe_callB call_len (by rfl) zl PySem.boot_len (pa_cons (pv 1) pa_nil)) pa_nil))) (fun _ _ => rfl))), ?_⟩
    refine ⟨_, rfl, _, rfl, _, rfl, x, _, rfl, hx.len, p, g, c, n, xs.length, rfl, dr, small, by omega, by omega, fun r H1 r0 r1 k d => ?_⟩
    have lt : r.toNat < xs.length := by omega
    exact (hx.keep k.toKeepW).ix r0 (List.getElem?_eq_getElem lt) (q _ _ _ (List.getElem?_eq_getElem lt) k d)
end
end K01
set_option maxHeartbeats 2000000
namespace K01
open PySem PySem.Spec PyProof.Rows L2 HG HN HM
section
variable {P : Program} {w : World} {K : PySem.W.Frag} {mg : Str → Option Value} {base : Heap}
abbrev CTake (P : Program) (w : World) (K : PySem.W.Frag) (mg : Str → Option Value) (base : Heap) : Prop := HG.Callee P w K mg base CX0 2 "_law_take" ["draw", "many"] sp_take
abbrev CSome (P : Program) (w : World) (K : PySem.W.Frag) (mg : Str → Option Value) (base : Heap) : Prop := HG.Callee P w K mg base CX0 3 "_law_pick" ["draw", "some"] (sp_some K)
def sp_cost : Sp := fun vs H Q _ => ∃ p g c n m, vs = [.ref p, .int m] ∧ Draw H p g c n ∧ n < 999999990 ∧ 0 ≤ m ∧ m ≤ 999 ∧
  ∀ i H', -m ≤ i → i ≤ m → Keep [p, g] H H' → Draw H' p g c (n + 1) → Q (.int i) H'
theorem ok_cost (D : Def K mg "_law_cost" s_l_cost ["draw", "peak"]) (CT : CTake P w K mg base) : Callee P w K mg base CX0 3 "_law_cost" ["draw", "peak"] sp_cost := by
  refine D.ok sc_l_cost (fun vs H Q E h => ?_) (fun f cdv A outer s H vs Q E hr h => ?_)
  · obtain ⟨p, g, c, n, m, rfl, _⟩ := h
    rfl
  · obtain ⟨p, g, c, n, m, rfl, dr, small, m0, m1, q⟩ := h
    refine ⟨_, pss_one (ps_ret (pe_op op_sub (pe_c CT hr (pa_cons (pv 0) (pa_cons (pe_op op_add (pe_op op_mul pe_int (pv 1)) pe_int) pa_nil))) (pv 1))), ?_⟩
    refine ⟨_, rfl, _, rfl, _, _, rfl, rfl, .inl ⟨by decide, by decide⟩, _, _, rfl, rfl, p, g, c, n, 2 * m + 1, rfl, dr, by omega, by omega, by omega, fun r H1 r0 r1 k d => ?_⟩
    exact ⟨_, rfl, _, _, rfl, rfl, q _ H1 (by omega) (by omega) k d⟩
def one (c : Nat) : Str := ⟨#[c]⟩
theorem join_one (cs : List Nat) : Txt.join (Str.ofString "") (cs.map one) = ⟨cs.toArray⟩ := by
  have e : cs.map one = PyProof.Rows.signs ⟨cs.toArray⟩ := by
    unfold PyProof.Rows.signs
    rw [List.toList_toArray]
    rfl
  have z : Str.ofString "" = ⟨#[]⟩ := by decide +kernel
  rw [TL.join_eq, z, e]
  exact PyProof.Rows.join_nil_signs _
def sp_sign : Sp := fun vs H Q _ => ∃ p g c n, vs = [.ref p] ∧ Draw H p g c n ∧ n < 999999900 ∧
  ∀ z H', Sign z → Keep [p, g] H H' → Draw H' p g c (n + 13) → Q (.str z) H'
theorem sc_signX : FnScope ["draw", "wide", "turn"] ["draw"] (defScope s_l_sign) := scope_by rfl rfl rfl (by decide +kernel) rfl (by decide +kernel) (by decide +kernel)
theorem ok_sign (D : Def K mg "_law_sign" s_l_sign ["draw"]) (zr : mg "range" = none) (CK : CSome P w K mg base) : Callee P w K mg base CX0 4 "_law_sign" ["draw"] sp_sign := by
  refine D.ok sc_signX (fun vs H Q E h => ?_) (fun f cdv A outer s H vs Q E hr h => ?_)
  · obtain ⟨p, g, c, n, rfl, _⟩ := h
    rfl
  · obtain ⟨p, g, c, n, rfl, dr, small, q⟩ := h
    have nd := sc_signX.nd
    refine ⟨_, pss_cons (ps_set (i := 1) nd rfl (.inl rfl) (pe_c CK hr (pa_cons (pv 0) (pa_cons (pe_lst (pa_cons pe_int (pa_cons pe_int (pa_cons pe_int (pa_cons pe_int (pa_cons pe_int (pa_cons pe_int pa_nil))))))) pa_nil))))
      (pss_one (ps_ret (pe_join pe_str (pe_lc (own := [("turn", 2)]) (g := gName 2) rfl nd (pi_range1 rfl zr (pa_cons (pv 1) pa_nil))
        (blkOk_by (N := ["draw", "wide", "turn"]) (sc := defScope s_l_sign) (by decide +kernel)) (fun _ _ _ _ _ => pg_name (i := 2) nd rfl (Or.inl rfl))
        (fun _ _ _ _ _ => pts_nil)
        (fun _ _ _ _ _ => pe_c CK hr (pa_cons (pv 0) (pa_cons pe_str pa_nil))))))), ?_⟩
    refine ⟨_, rfl, by show 6 ≤ sizeLine; decide, fun l nl => ?_⟩
    have kl : Keep [] H (upd H l (.lst [.int 1, .int 1, .int 1, .int 2, .int 3, .int 12])) := Keep.new nl
    have hl : SqL K (upd H l (.lst [.int 1, .int 1, .int 1, .int 2, .int 3, .int 12])) l [.int 1, .int 1, .int 1, .int 2, .int 3, .int 12] := .inl (.inl upd_same)
    have out := dr.known.out nl
    refine ⟨p, g, c, n, _, _, rfl, dr.keep kl.toKeepW, by omega, .lst hl out, by decide, by decide, fun i v H1 hv k1 d1 => ?_⟩
    obtain ⟨wide, rfl, w0, w1⟩ : ∃ m : Int, v = .int m ∧ 1 ≤ m ∧ m ≤ 12 := by
      rcases i with _ | _ | _ | _ | _ | _ | i <;> first | (cases hv; exact ⟨_, rfl, by decide, by decide⟩) | cases hv
    have K1 : Keep [p, g] H H1 := kl.nil.trans k1
    dsimp only [gName]
    refine ⟨⟨_, rfl⟩, _, rfl, wide, rfl, by omega, by omega, fun D nD => ?_⟩
    refine lc_it (walk_range (lo := 0) (n := wide.toNat)) (fun j Hj => Keep [p, g] H1 Hj ∧ Draw Hj p g c (n + 1 + j) ∧ ∃ cs : List Nat, Hj D = some (.lst ((cs.map one).map V.str)) ∧ cs.length = j ∧ ∀ z ∈ cs, z ∈ signsS.cps.toList)
      ⟨Keep.new nD, (d1.other nD d1).mono (by omega), [], upd_same, rfl, fun z m => nomatch m⟩ (fun _ _ _ _ => trivial) (fun j x Hj Hy lt hh y => ?_) (fun Hj hh => ?_)
    · obtain ⟨kj, dj, cs, hD, lz, good⟩ := hh
      obtain ⟨rfl, rfl⟩ := y
      have outD : D ∉ [p, g] := d1.known.out nD
      refine ⟨rfl, _, rfl, p, g, c, n + 1 + j, _, _, rfl, dj, by omega, .str (by decide +kernel), by decide +kernel, by decide +kernel, fun i2 v2 H4 hv2 k4 d4 => ?_⟩
      rw [List.getElem?_map] at hv2
      obtain ⟨ch, hch, rfl⟩ := Option.map_eq_some_iff.mp hv2
      have hD4 := k4.toKeepW.get hD outD
      refine ⟨_, hD4, small1000 (by rw [List.length_map, List.length_map]; omega), (kj.trans k4).mut nD, (d1.other nD d4).mono (by omega), cs ++ [ch], ?_, ?_, fun z hz => ?_⟩
      · rw [upd_same, List.map_append, List.map_append]
        rfl
      · rw [List.length_append, lz]
        rfl
      · rcases List.mem_append.mp hz with m | m
        · exact good z m
        · rw [List.mem_singleton.mp m]
          exact List.mem_of_getElem? hch
    · obtain ⟨kj, dj, cs, hD, lz, good⟩ := hh
      have len : cs.length ≤ 12 := by omega
      refine ⟨_, D, cs.map one, rfl, rfl, .inl (SqL.of hD), ?_, ?_⟩
      · have e : ((cs.map one).map (·.length)).sum = cs.length := by
          clear lz good hD len
          induction cs with
          | nil => rfl
          | cons a r ih =>
            simp only [List.map_cons, List.sum_cons, List.length_cons, ih]
            show 1 + r.length = _
            omega
        rw [e, List.length_map]
        show cs.length + cs.length * 0 ≤ 16777216
        omega
      · rw [join_one]
        refine q _ _ ⟨?_, ?_, ?_⟩ (K1.trans kj) (dj.mono (by omega))
        · show 1 ≤ cs.toArray.size
          rw [List.size_toArray]
          omega
        · show cs.toArray.size ≤ 12
          rw [List.size_toArray]
          omega
        · exact good
end
end K01
set_option maxHeartbeats 2000000
namespace K01
open PySem PySem.Spec PyProof.Rows L2 HG HN HM
section
variable {P : Program} {w : World} {K : PySem.W.Frag} {mg : Str → Option Value} {base : Heap}
def sp_went (K : PySem.W.Frag) : Sp := fun vs H Q _ => ∃ (l m x : V) (L : List Str) (g : List (List Move)) (W : List Str) (h e : Nat) (a b : Int), vs = [l, m, .int ((h : Nat) : Int), x] ∧
  Lt K H l L ∧ Plain "tuple" H l ∧ Asc L ∧ Gr K H m g ∧ Lt K H x W ∧ Went L g h 0 0 W e a b ∧ ∀ r H', Keep [] H H' → Ans K H' r e a b → Q r H'
theorem ok_went (D : Def K mg "_law_went" s_l_went ["signs", "grid", "here", "row"]) : Callee P w K mg base CX0 1 "_law_went" ["signs", "grid", "here", "row"] (sp_went K) := by
  refine D.ok sc_l_went (fun vs H Q E h => ?_) (fun f cdv A outer s H vs Q E hr h => ?_)
  · obtain ⟨l, m, x, L, g, W, h, e, a, b, rfl, _⟩ := h
    rfl
  · obtain ⟨l, m, x, L, g, W, h, e, a, b, rfl, ⟨la, rfl, hl⟩, pl, asc, hg, ⟨wa, rfl, hw⟩, went, q⟩ := h
    have nd := sc_l_went.nd
    refine ⟨_, pss_cons (ps_asg (pe_tup (pa_cons pe_int (pa_cons pe_int pa_nil))) (pg_tup rfl (pgs_cons (pg_name (i := 4) nd rfl (.inl rfl)) (pgs_cons (pg_name (i := 5) nd rfl (.inl rfl)) pgs_nil))))
      (pss_cons (ps_for PassesOwn.never rfl (pi_tup (pv 3)) (pg_name (i := 6) nd rfl (.inl rfl))
        (pss_cons (ps_set (i := 7) nd rfl (.inl rfl) (pe_ix ix_tup (pe_ix ix_tup (pv 1) (pv 2) (fun _ _ => rfl))
          (pe_bmZ PySem.F.plainAttrs_tuple PySem.F.slot_tuple_index PySem.F.type_tuple_index mt_tup_index (pv 0) (pa_cons (pv 6) pa_nil)) (fun _ _ => rfl)))
        (pss_one (ps_par3 (i := 2) (j := 4) (l := 5) rfl nd rfl rfl rfl (by decide) (by decide) (by decide) rfl rfl rfl (pa_cons (pe_ix ix_tup (pv 7) pe_int (fun _ _ => rfl))
          (pa_cons (pe_op op_add (pv 4) (pe_ix ix_tup (pv 7) pe_int (fun _ _ => rfl))) (pa_cons (pe_op op_add (pv 5) (pe_ix ix_tup (pv 7) pe_int (fun _ _ => rfl))) pa_nil))) (by rfl)))))
      (pss_one (ps_ret (pe_tup (pa_cons (pv 2) (pa_cons (pe_tup (pa_cons (pv 4) (pa_cons (pv 5) pa_nil))) pa_nil)))))), ?_⟩
    refine ⟨by show 2 ≤ sizeLine; decide, fun t0 nt0 => ?_⟩
    refine ⟨t0, [_, _], rfl, .inl (.inl upd_same), rfl, _, [_], rfl, _, [], rfl, rfl, ?_⟩
    have k0 : Keep [] H (upd H t0 (.tup [.int 0, .int 0])) := Keep.new nt0
    generalize upd H t0 (.tup [.int 0, .int 0]) = H0 at k0 ⊢
    replace hl := sqT_keep k0.toKeepW hl
    replace pl := pl.keep k0.toKeepW
    replace hg := hg.keep k0.toKeepW
    replace hw := sqT_keep k0.toKeepW hw
    replace q : ∀ r H', Keep [] H0 H' → Ans K H' r e a b → Q r H' := fun r H' k => q r H' (k0.trans k)
    clear k0
    dsimp only [gName]
    refine ⟨_, rfl, wa, rfl, ⟨_, hw⟩, for_tup (xs := W.map V.str) (fun i σ H' => ∃ (h' : Nat) (a' b' : Int) (u6 u7 : Option V), σ = [some (.ref la), some m, some (.int ((h' : Nat) : Int)), some (.ref wa), some (.int a'), some (.int b'), u6, u7] ∧ H0 = H' ∧ Went L g h' a' b' (W.drop i) e a b)
      ⟨h, 0, 0, none, none, rfl, rfl, went⟩ (fun i σ H' _ hh => ?_) (fun i y σ H' hy hh => ?_) (fun σ H' hh => ?_)⟩
    · obtain ⟨_, _, _, _, _, _, rfl, _⟩ := hh
      exact hw
    · obtain ⟨h', a', b', u6, u7, rfl, rfl, wt⟩ := hh
      rw [List.getElem?_map] at hy
      obtain ⟨z, hz, rfl⟩ := Option.map_eq_some_iff.mp hy
      have lt2 := (List.getElem?_eq_some_iff.mp hz).1
      have split_ : W.drop i = z :: W.drop (i + 1) := by
        rw [List.drop_eq_getElem_cons lt2]
        congr 1
        exact (List.getElem?_eq_some_iff.mp hz).2
      rw [split_] at wt
      cases wt with
      | cons at_ rw_ mv rest =>
        rename_i j t x y row
        obtain ⟨ma, rs, rv, em, hma, hrs, R⟩ := hg.row rw_
        subst em
        obtain ⟨pr, ts, tv, er, hts, htv, T⟩ := R.mv mv
        subst er
        obtain ⟨pm, et, hpm⟩ := T
        subst et
        have first : ∀ k, k < j → L[k]? ≠ some z := fun k lt3 e3 => asc_ne asc lt3 e3 at_ rfl
        dsimp only [gName]
        refine ⟨_, rfl, _, rfl, ma, rs, _, _, rfl, rfl, hma, atI_nat hrs, ?_⟩
        refine ⟨_, rfl, pl, _, rfl, la, L, z, j, rfl, rfl, hl, at_, first, ?_⟩
        refine ⟨pr, ts, _, _, rfl, rfl, hts, atI_nat htv, ?_⟩
        refine ⟨_, rfl, pm, _, 0, .int (t : Int), rfl, rfl, hpm, rfl, ?_⟩
        refine ⟨_, rfl, _, rfl, pm, _, 1, .int x, rfl, rfl, hpm, rfl, _, _, rfl, rfl, ?_⟩
        refine ⟨_, rfl, _, rfl, pm, _, 2, .int y, rfl, rfl, hpm, rfl, _, _, rfl, rfl, ?_⟩
        exact ⟨_, _, _, rfl, t, _, _, _, _, rfl, rfl, rest⟩
    · obtain ⟨h', a', b', u6, u7, rfl, rfl, wt⟩ := hh
      rw [List.drop_eq_nil_of_le (by rw [List.length_map]; exact Nat.le_refl _)] at wt
      cases wt
      refine ⟨_, rfl, _, rfl, _, rfl, by show 2 ≤ sizeLine; decide, fun t nt => ?_⟩
      refine ⟨by show 2 ≤ sizeLine; decide, fun u nu => ?_⟩
      have k2 : Keep [] H0 (upd H0 t (.tup [.int a, .int b])) := Keep.new nt
      have k3 : Keep [] (upd H0 t (.tup [.int a, .int b])) (upd (upd H0 t (.tup [.int a, .int b])) u (.tup [.int (e : Nat), .ref t])) := Keep.new nu
      exact q _ _ (k2.trans k3) ⟨u, t, rfl, .inl (.inl upd_same), sqT_keep k3.toKeepW (.inl (.inl upd_same))⟩
end
end K01
set_option maxHeartbeats 2000000
namespace K01
open PySem PySem.Spec PyProof.Rows L2 HG HN HM
section
variable {P : Program} {w : World} {K : PySem.W.Frag} {mg : Str → Option Value} {base : Heap}
def sp_grid (K : PySem.W.Frag) : Sp := fun vs H Q _ => ∃ (p g c : Addr) (n : Int) (many wide : Nat) (peak : Int), vs = [.ref p, .int (many : Nat), .int (wide : Nat), .int peak] ∧ Draw H p g c n ∧ n < 999990000 ∧ 1 ≤ many ∧ many ≤ 4 ∧ 1 ≤ wide ∧ wide ≤ 4 ∧
  0 ≤ peak ∧ peak ≤ 999 ∧ ∀ (v : V) (G : List (List Move)) (H' : Hp), Gr K H' v G → GrOk G wide → G.length = many → Keep [p, g] H H' → Draw H' p g c (n + 48) → Q v H'
theorem sc_gridX : FnScope ["draw", "many", "wide", "peak", "grid", "turn", "one"] ["draw", "many", "wide", "peak"] (defScope s_l_grid) := scope_by rfl rfl rfl (by decide +kernel) rfl (by decide +kernel) (by decide +kernel)
theorem ok_grid (D : Def K mg "_law_grid" s_l_grid ["draw", "many", "wide", "peak"]) (zr : mg "range" = none) (zt : mg "tuple" = none) (CT : CTake P w K mg base)
    (CC : Callee P w K mg base CX0 3 "_law_cost" ["draw", "peak"] sp_cost) : Callee P w K mg base CX0 4 "_law_grid" ["draw", "many", "wide", "peak"] (sp_grid K) := by
  refine D.ok sc_gridX (fun vs H Q E h => ?_) (fun f cdv A outer s H vs Q E hr h => ?_)
  · obtain ⟨p, g, c, n, many, wide, peak, rfl, _⟩ := h
    rfl
  · obtain ⟨p, g, c, n, many, wide, peak, rfl, dr, small, m0, m1, w0, w1, p0, p1, q⟩ := h
    have nd := sc_gridX.nd
    refine ⟨_, pss_cons (ps_set (i := 4) nd rfl (.inl rfl) (pe_lst pa_nil))
      (pss_cons (ps_for PassesOwn.never rfl (pi_range1 rfl zr (pa_cons (pv 1) pa_nil)) (pg_name (i := 5) nd rfl (.inl rfl))
        (pss_one (ps_expr (pe_bm PySem.F.plainAttrs_list PySem.F.slot_list_append PySem.F.type_list_append mt_append (pv 4) (pa_cons (pe_callTy call_tuple_of (by rfl) zt (by decide +kernel) (pa_cons
          (pe_lc (own := [("one", 6)]) (g := gName 6) rfl nd (pi_range1 rfl zr (pa_cons (pv 2) pa_nil))
            (blkOk_by (N := ["draw", "many", "wide", "peak", "grid", "turn", "one"]) (sc := defScope s_l_grid) (by decide +kernel)) (fun _ _ _ _ _ => pg_name (i := 6) nd rfl (Or.inl rfl))
            (fun _ _ _ _ _ => pts_nil)
            (fun _ _ _ _ _ => pe_tup (pa_cons (pe_c CT hr (pa_cons (pv 0) (pa_cons (pv 1) pa_nil))) (pa_cons (pe_c CC hr (pa_cons (pv 0) (pa_cons (pv 3) pa_nil))) (pa_cons (pe_c CC hr (pa_cons (pv 0) (pa_cons (pv 3) pa_nil))) pa_nil))))) pa_nil)) pa_nil)))))
      (pss_one (ps_ret (pe_callTy call_tuple_of (by rfl) zt (by decide +kernel) (pa_cons (pv 4) pa_nil))))), ?_⟩
    refine ⟨Nat.zero_le _, fun ml nml => ?_⟩
    dsimp only [gName]
    have k0 : Keep [] H (upd H ml (.lst [])) := Keep.new nml
    have outM : ml ∉ [p, g] := dr.known.out nml
    refine ⟨_, rfl, _, rfl, by omega, by omega, for_range (fun i σ H' => ∃ (u : Option V) (ws : List V) (G : List (List Move)), σ = [some (.ref p), some (.int (many : Nat)), some (.int (wide : Nat)), some (.int peak), some (.ref ml), u, none] ∧ Keep [p, g] H H' ∧
        Draw H' p g c (n + 12 * i) ∧ H' ml = some (.lst ws) ∧ ws.length = i ∧ G.length = i ∧ (∀ r ∈ G, r.length = wide ∧ ∀ m ∈ r, MvOk many m) ∧ ∀ (j : Nat) (x : V), ws[j]? = some x → ∃ r, G[j]? = some r ∧ Rw K H' x r)
      ⟨none, [], [], rfl, k0.nil, (dr.keep k0.toKeepW).mono (by omega), upd_same, rfl, rfl, (fun r m => nomatch m), fun j x z => by simp at z⟩ (fun i σ H' lt hh => ?_) (fun σ H' hh => ?_)⟩
    · obtain ⟨u, ws, G, rfl, k, d, hw, lw, lG, good, all⟩ := hh
      have i4 : i < 4 := by omega
      dsimp only [gName]
      refine ⟨_, rfl, .inl ⟨rfl, ws, SqL.of hw⟩, ?_⟩
      refine ⟨_, rfl, _, rfl, by omega, by omega, fun D nD => ?_⟩
      have outD : D ∉ [p, g] := d.known.out nD
      refine lc_it (walk_range (lo := 0) (n := ((wide : Nat) : Int).toNat)) (fun j Hj => Keep [p, g] H' Hj ∧ Draw Hj p g c (n + 12 * i + 3 * j) ∧ ∃ (acc : List V) (r : List Move), Hj D = some (.lst acc) ∧ acc.length = j ∧ r.length = j ∧
          (∀ m ∈ r, MvOk many m) ∧ ∀ (k2 : Nat) (x : V), acc[k2]? = some x → ∃ m, r[k2]? = some m ∧ Mv K Hj x m)
        ⟨Keep.new nD, (d.other nD d).mono (by omega), [], [], upd_same, rfl, rfl, (fun m z => nomatch z), fun k2 x z => by simp at z⟩ (fun _ _ _ _ => trivial) (fun j x Hj Hy lt2 hh y => ?_) (fun Hj hh => ?_)
      · obtain ⟨kj, dj, acc, r, hD, la, lr, ok, mvs⟩ := hh
        obtain ⟨rfl, rfl⟩ := y
        refine ⟨rfl, _, rfl, _, rfl, p, g, c, _, _, rfl, dj, by omega, by omega, by omega, fun t H4 t0 t1 k4 d4 => ?_⟩
        refine ⟨_, rfl, _, rfl, p, g, c, _, _, rfl, d4, by omega, p0, p1, fun a H5 a0 a1 k5 d5 => ?_⟩
        refine ⟨_, rfl, _, rfl, p, g, c, _, _, rfl, d5, by omega, p0, p1, fun b H6 b0 b1 k6 d6 => ?_⟩
        refine ⟨by show 3 ≤ sizeLine; decide, fun tq ntq => ?_⟩
        have K6 : Keep [p, g] Hy H6 := (k4.trans k5).trans k6
        have hD6 := K6.toKeepW.get hD outD
        have nDt : D ≠ tq := ne_of_none hD6 ntq
        have kt : Keep [] H6 (upd H6 tq (.tup [.int t, .int a, .int b])) := Keep.new ntq
        have d7 := d6.keep kt.toKeepW
        have hD7 : upd H6 tq (.tup [.int t, .int a, .int b]) D = some (.lst acc) := by
          rw [upd_ne nDt]
          exact hD6
        have new : Mv K (upd H6 tq (.tup [.int t, .int a, .int b])) (.ref tq) (t, a, b) := ⟨tq, rfl, .inl (.inl upd_same)⟩
        have K7 := K6.trans kt.nil
        generalize upd H6 tq (.tup [.int t, .int a, .int b]) = H7 at kt d7 hD7 new K7 ⊢
        refine ⟨acc, hD7, small1000 (by omega), (kj.trans K7).mut nD, (d.other nD d7).mono (by omega), acc ++ [.ref tq], r ++ [(t, a, b)], upd_same, by rw [List.length_append, la]; rfl, by rw [List.length_append, lr]; rfl, fun m hm => ?_, fun k2 x hk2 => ?_⟩
        · rcases List.mem_append.mp hm with z | z
          · exact ok m z
          · rw [List.mem_singleton.mp z]
            exact ⟨t0, t1, by show -999 ≤ a; omega, by show a ≤ 999; omega, by show -999 ≤ b; omega, by show b ≤ 999; omega⟩
        · have kl : KeepW [D] H7 (upd H7 D (.lst (acc ++ [.ref tq]))) := (Keep.chg hD7 List.mem_cons_self (fun _ z => nomatch z) (fun _ _ z => nomatch z)).toKeepW
          by_cases q2 : k2 < acc.length
          · rw [List.getElem?_append_left q2] at hk2
            obtain ⟨m2, h2, M2⟩ := mvs k2 x hk2
            exact ⟨m2, by rw [List.getElem?_append_left (by omega)]; exact h2, (M2.keep K7.toKeepW).keep kl⟩
          · have e2 : k2 = acc.length := by
              have := (List.getElem?_eq_some_iff.mp hk2).1
              rw [List.length_append] at this
              simp only [List.length_singleton] at this
              omega
            subst e2
            rw [List.getElem?_append_right (Nat.le_refl _)] at hk2
            simp only [Nat.sub_self, List.getElem?_cons_zero] at hk2
            cases hk2
            exact ⟨(t, a, b), by rw [List.getElem?_append_right (by omega), la, lr]; simp, new.keep kl⟩
      · obtain ⟨kj, dj, acc, r, hD, la, lr, ok, mvs⟩ := hh
        refine ⟨D, acc, rfl, .inl ⟨SqL.of hD, fun tq ntq => ?_⟩⟩
        have kq : Keep [] Hj (upd Hj tq (.tup acc)) := Keep.new ntq
        have R2 : Rw K (upd Hj tq (.tup acc)) (.ref tq) r := by
          refine ⟨tq, acc, rfl, .inl (.inl upd_same), by omega, fun k2 x hx => ?_⟩
          obtain ⟨m2, h2, M2⟩ := mvs k2 x hx
          exact ⟨m2, h2, M2.keep kq.toKeepW⟩
        have kk : Keep [p, g] H' _ := kj.trans kq.nil
        have dq := dj.keep kq.toKeepW
        have hw2 := kk.toKeepW.get hw outM
        generalize upd Hj tq (.tup acc) = Hq at kq R2 kk dq hw2 ⊢
        refine ⟨ml, ws, _, rfl, rfl, hw2, small1000 (by omega), ?_⟩
        have kl : KeepW [ml] Hq (upd Hq ml (.lst (ws ++ [.ref tq]))) := (Keep.chg hw2 List.mem_cons_self (fun _ z => nomatch z) (fun _ _ z => nomatch z)).toKeepW
        refine ⟨_, ws ++ [.ref tq], G ++ [r], rfl, (k.trans kk).mut nml, (dr.other nml dq).mono (by omega), upd_same, by rw [List.length_append, lw]; rfl, by rw [List.length_append, lG]; rfl, fun r2 hr2 => ?_, fun j x hx => ?_⟩
        · rcases List.mem_append.mp hr2 with z | z
          · exact good r2 z
          · rw [List.mem_singleton.mp z]
            exact ⟨by omega, ok⟩
        · by_cases q2 : j < ws.length
          · rw [List.getElem?_append_left q2] at hx
            obtain ⟨r3, h3, R3⟩ := all j x hx
            exact ⟨r3, by rw [List.getElem?_append_left (by omega)]; exact h3, (R3.keep kk.toKeepW).keep kl⟩
          · have e2 : j = ws.length := by
              have := (List.getElem?_eq_some_iff.mp hx).1
              rw [List.length_append] at this
              simp only [List.length_singleton] at this
              omega
            subst e2
            rw [List.getElem?_append_right (Nat.le_refl _)] at hx
            simp only [Nat.sub_self, List.getElem?_cons_zero] at hx
            cases hx
            exact ⟨r, by rw [List.getElem?_append_right (by omega), lw, lG]; simp, R2.keep kl⟩
    · obtain ⟨u, ws, G, rfl, k, d, hw, lw, lG, good, all⟩ := hh
      have e : ((many : Nat) : Int).toNat = many := by omega
      rw [e] at lw lG d
      refine ⟨_, rfl, ml, ws, rfl, .inl ⟨SqL.of hw, fun tq ntq => ?_⟩⟩
      have kq : Keep [] H' (upd H' tq (.tup ws)) := Keep.new ntq
      refine q _ G _ ⟨tq, ws, rfl, .inl (.inl upd_same), by omega, fun j x hx => ?_⟩ ⟨by omega, by omega, fun r hr2 => (good r hr2).1, fun r hr2 m hm => by rw [lG]; exact (good r hr2).2 m hm⟩ lG (k.trans kq.nil) ((d.keep kq.toKeepW).mono (by omega))
      obtain ⟨r3, h3, R3⟩ := all j x hx
      exact ⟨r3, h3, R3.keep kq.toKeepW⟩
end
end K01
set_option maxHeartbeats 2000000
namespace K01
open PySem PySem.Spec PyProof.Rows L2 HG HN HM
section
variable {P : Program} {w : World} {K : PySem.W.Frag} {mg : Str → Option Value} {base : Heap}
def sp_text (K : PySem.W.Frag) : Sp := fun vs H Q _ => ∃ (p g c : Addr) (n : Int) (l : V) (L : List Str), vs = [.ref p, l] ∧ Draw H p g c n ∧ n < 999990000 ∧ Lt K H l L ∧ 1 ≤ L.length ∧ L.length ≤ 72 ∧
  ∀ (v : V) (W : List Str) (H' : Hp), Lt K H' v W → (∀ z ∈ W, z ∈ L) → W.length ≤ 6000 → Keep [p, g] H H' → Draw H' p g c (n + 70) → Q v H'
theorem sc_textX : FnScope ["draw", "signs", "some", "many", "turn"] ["draw", "signs"] (defScope s_l_text) := scope_by rfl rfl rfl (by decide +kernel) rfl (by decide +kernel) (by decide +kernel)
/-- what a comprehension of picks does -/
theorem picks {σ : L2.St} {H : Hp} {p g c : Addr} {n : Int} {l : V} {L : List Str} {m : Nat} {Qd : Hp → Prop} {D : Addr} {te : TE} {tt : TT} (dr : Draw H p g c n) (hl : Lt K H l L) (nD : H D = none) (m1 : m ≤ 100)
    (i : Nat) (step : ∀ (x : V) (Hy : Hp) (n2 : Int) (Q : VK), Draw Hy p g c n2 → n2 ≤ n + 100 → Lt K Hy l L → (∀ z H4, z ∈ L → Keep [p, g] Hy H4 → Draw H4 p g c (n2 + 1) → Q (.str z) H4) → te ((wipe σ [i]).set i (some x)) Hy Q) (all : ∀ (x : V) (H2 : Hp) (Q : Bool → Hp → Prop), Q true H2 → tt ((wipe σ [i]).set i (some x)) H2 Q) (wp : ∀ (x : V), wipe ((wipe σ [i]).set i (some x)) [i] = wipe σ [i])
    (fin : ∀ H' (W : List Str), H' D = some (.lst (W.map V.str)) → W.length = m → (∀ z ∈ W, z ∈ L) → Keep [p, g] H H' → Draw H' p g c (n + m) → Qd H') :
    ∃ Wf : Nat → Nat → Hp → Prop, (∃ k, Wf 0 k (upd H D (.lst []))) ∧ ∀ i' k Hk, Wf i' k Hk →
      ((Itr 0 m).stop i' Hk ∧ Qd Hk) ∨ ((Itr 0 m).go i' Hk ∧ ∃ Nx : Hp → Prop, (∀ H', Nx H' → ∃ m', m' < k ∧ Wf (i' + 1) m' H') ∧ ∀ x H', (Itr 0 m).yld i' Hk x H' → gName i x (wipe σ [i]) H' fun σ2 H2 => wipe σ2 [i] = wipe σ [i] ∧ tt σ2 H2 fun b H3 =>
        if b = true then te σ2 H3 fun y H4 => ∃ acc, H4 D = some (.lst acc) ∧ acc.length < sizeLine ∧ Nx (upd H4 D (.lst (acc ++ [y]))) else Nx H3) := by
  have outD : D ∉ [p, g] := dr.known.out nD
  refine lc_it (walk_range (lo := 0) (n := m)) (fun j Hj => Keep [p, g] H Hj ∧ Draw Hj p g c (n + j) ∧ ∃ W : List Str, Hj D = some (.lst (W.map V.str)) ∧ W.length = j ∧ ∀ z ∈ W, z ∈ L)
    ⟨Keep.new nD, (dr.other nD dr).mono (by omega), [], upd_same, rfl, fun z m => nomatch m⟩ (fun _ _ _ _ => trivial) (fun j x Hj Hy lt hh y => ?_) (fun Hj hh => ?_)
  · obtain ⟨kj, dj, W, hD, lW, inL⟩ := hh
    obtain ⟨rfl, rfl⟩ := y
    refine ⟨wp _, all _ _ _ ?_⟩
    rw [if_pos rfl]
    refine step _ _ (n + j) _ dj (by omega) (hl.keep kj.toKeepW) fun z H4 hz k4 d4 => ?_
    have hD4 := k4.toKeepW.get hD outD
    refine ⟨_, hD4, small1000 (by rw [List.length_map]; omega), (kj.trans k4).mut nD, (dr.other nD d4).mono (by omega), W ++ [z], ?_, by rw [List.length_append, lW]; rfl, fun y hy => ?_⟩
    · rw [upd_same, List.map_append]
      rfl
    · rcases List.mem_append.mp hy with m | m
      · exact inL y m
      · rw [List.mem_singleton.mp m]
        exact hz
  · obtain ⟨kj, dj, W, hD, lW, inL⟩ := hh
    exact fin Hj W hD lW inL kj dj
theorem ok_text (D : Def K mg "_law_text" s_l_text ["draw", "signs"]) (zr : mg "range" = none) (zt : mg "tuple" = none) (CT : CTake P w K mg base) (CK : CSome P w K mg base) :
    Callee P w K mg base CX0 4 "_law_text" ["draw", "signs"] (sp_text K) := by
  refine D.ok sc_textX (fun vs H Q E h => ?_) (fun f cdv A outer s H vs Q E hr h => ?_)
  · obtain ⟨p, g, c, n, l, L, rfl, _⟩ := h
    rfl
  · obtain ⟨p, g, c, n, l, L, rfl, dr, small, hl, L1, L72, q⟩ := h
    have nd := sc_textX.nd
    refine ⟨_, pss_cons (ps_if (pt_cmpR op_eq (pe_c CT hr (pa_cons (pv 0) (pa_cons pe_int pa_nil))) pe_int (nomark _))
        (pss_cons (ps_setLc (i := 2) (own := [("turn", 4)]) (g := gName 4) rfl nd rfl rfl (sw_true rfl rfl rfl (by decide +kernel)) (pi_range1 rfl zr (pa_cons (pe_op op_add pe_int (pe_c CT hr (pa_cons (pv 0) (pa_cons pe_int pa_nil)))) pa_nil))
            (blkOk_by (N := ["draw", "signs", "some", "many", "turn"]) (sc := defScope s_l_text) (by decide +kernel)) (fun _ _ _ _ _ => pg_name (i := 4) nd rfl (Or.inl rfl)) (fun _ _ _ _ _ => pts_nil)
            (fun _ _ _ _ _ => pe_c CK hr (pa_cons (pv 0) (pa_cons (pv 1) pa_nil))))
        (pss_one (ps_ret (pe_callTy call_tuple_of (by rfl) zt (by decide +kernel) (pa_cons (pe_slice sl_list (pe_op op_rep (pv 2) pe_int) po_none (po_some pe_int)) pa_nil))))) pss_nil)
      (pss_cons (ps_set (i := 3) nd rfl (.inl rfl) (pe_c CT hr (pa_cons (pv 0) (pa_cons (pe_c CK hr (pa_cons (pv 0) (pa_cons (pe_lst (pa_cons pe_int (pa_cons pe_int (pa_cons pe_int (pa_cons pe_int (pa_cons pe_int pa_nil)))))) pa_nil))) pa_nil))))
      (pss_one (ps_ret (pe_callTy call_tuple_of (by rfl) zt (by decide +kernel) (pa_cons
        (pe_lc (own := [("turn", 4)]) (g := gName 4) rfl nd (pi_range1 rfl zr (pa_cons (pv 3) pa_nil))
          (blkOk_by (N := ["draw", "signs", "some", "many", "turn"]) (sc := defScope s_l_text) (by decide +kernel)) (fun _ _ _ _ _ => pg_name (i := 4) nd rfl (Or.inl rfl)) (fun _ _ _ _ _ => pts_nil)
          (fun _ _ _ _ _ => pe_c CK hr (pa_cons (pv 0) (pa_cons (pv 1) pa_nil)))) pa_nil))))), ?_⟩
    have pick : ∀ (Hy : Hp) (n2 : Int) (Q : VK), Draw Hy p g c n2 → n2 < 999999000 → Lt K Hy l L → (∀ z H4, z ∈ L → Keep [p, g] Hy H4 → Draw H4 p g c (n2 + 1) → Q (.str z) H4) → sp_some K [.ref p, l] Hy Q E0 := by
      intro Hy n2 Q d le hl k
      obtain ⟨la, rfl, hla⟩ := hl
      refine ⟨p, g, c, n2, _, _, rfl, d, by omega, .tup hla, by rw [List.length_map]; omega, by rw [List.length_map]; omega, fun i v H4 hv k4 d4 => ?_⟩
      rw [List.getElem?_map] at hv
      obtain ⟨z, hz, rfl⟩ := Option.map_eq_some_iff.mp hv
      exact k z H4 (List.mem_of_getElem? hz) k4 d4
    refine ⟨_, rfl, p, g, c, n, 12, rfl, dr, by omega, by decide, by decide, fun r H1 r0 r1 k1 d1 => ?_⟩
    refine ⟨rfl, _, rfl, ite2 (fun _ => ?_) (fun _ => ?_)⟩
    · refine ⟨_, rfl, p, g, c, n + 1, 3, rfl, d1, by omega, by decide, by decide, fun t H2 t0 t1 k2 d2 => ?_⟩
      refine ⟨_, _, rfl, rfl, _, rfl, by omega, by omega, fun D nD => ?_⟩
      have hl2 := hl.keep (k1.trans k2).toKeepW
      refine picks (σ := [some (.ref p), some l, none, none, none]) (m := (1 + t).toNat) d2 hl2 nD (by omega) 4 (fun x Hy n2 Q d le h4 k => ?_) (fun x H2 Q q => ?_) (fun x => rfl) (fun H3 W hD lW inL k3 d3 => ?_)
      · exact ⟨_, rfl, _, rfl, pick Hy n2 Q d (by omega) h4 k⟩
      · exact q
      · dsimp only [gName]
        have size : (W.map V.str).length * (2000 : Int).toNat ≤ sizeLine := by
          rw [List.length_map]
          have : W.length ≤ 3 := by omega
          exact Nat.le_trans (Nat.mul_le_mul_right _ this) (by decide)
        refine ⟨_, rfl, D, 2000, _, rfl, rfl, hD, by decide, by decide, size, fun l2 nl2 => ?_⟩
        refine ⟨_, rfl, l2, _, rfl, .inl (.inl upd_same), fun l3 nl3 => ?_⟩
        refine ⟨l3, _, rfl, .inl ⟨.inl (.inl upd_same), fun tq ntq => ?_⟩⟩
        have k4 : Keep [] H3 (upd H3 l2 (.lst (List.replicate (2000 : Int).toNat (W.map V.str)).flatten)) := Keep.new nl2
        have k5 := k4.trans (Keep.new (o := .lst (cutV (List.replicate (2000 : Int).toNat (W.map V.str)).flatten none (some 2000))) nl3)
        have k6 := k5.trans (Keep.new (o := .tup (cutV (List.replicate (2000 : Int).toNat (W.map V.str)).flatten none (some 2000))) ntq)
        have e : (List.replicate (2000 : Int).toNat (W.map V.str)).flatten = ((List.replicate (2000 : Int).toNat W).flatten).map V.str := by
          rw [List.map_flatten, List.map_replicate]
        have cut : ∃ W2 : List Str, cutV (List.replicate (2000 : Int).toNat (W.map V.str)).flatten none (some 2000) = W2.map V.str ∧ (∀ z ∈ W2, z ∈ L) ∧ W2.length ≤ 6000 := by
          rw [e]
          unfold cutV
          refine ⟨_, by rw [← List.map_drop, ← List.map_take], fun z hz => ?_, ?_⟩
          · have h1 := List.mem_of_mem_drop (List.mem_of_mem_take hz)
            obtain ⟨y, hy, hz2⟩ := List.mem_flatten.mp h1
            rw [List.eq_of_mem_replicate hy] at hz2
            exact inL z hz2
          · rw [List.length_take, List.length_drop]
            have : ((List.replicate (2000 : Int).toNat W).flatten).length ≤ 6000 := by
              rw [List.length_flatten, List.map_replicate, List.sum_replicate_nat]
              have : W.length ≤ 3 := by omega
              exact Nat.le_trans (Nat.mul_le_mul_left _ this) (by decide)
            omega
        obtain ⟨W2, eW, in2, len2⟩ := cut
        refine q _ W2 _ ⟨tq, rfl, ?_⟩ in2 len2 ((((k1.trans k2).trans k3)).trans k6.nil) ((d3.keep k6.toKeepW).mono (by omega))
        rw [← eW]
        exact .inl (.inl upd_same)
    · refine ⟨_, rfl, _, rfl, by show 5 ≤ sizeLine; decide, fun ll nll => ?_⟩
      have kl : Keep [] H1 (upd H1 ll (.lst [.int 1, .int 2, .int 4, .int 8, .int 61])) := Keep.new nll
      have hll : SqL K (upd H1 ll (.lst [.int 1, .int 2, .int 4, .int 8, .int 61])) ll [.int 1, .int 2, .int 4, .int 8, .int 61] := .inl (.inl upd_same)
      refine ⟨p, g, c, n + 1, _, _, rfl, d1.keep kl.toKeepW, by omega, .lst hll (d1.known.out nll), by decide, by decide, fun i v H2 hv k2 d2 => ?_⟩
      obtain ⟨top, rfl, w0, w1⟩ : ∃ m : Int, v = .int m ∧ 1 ≤ m ∧ m ≤ 61 := by
        rcases i with _ | _ | _ | _ | _ | i <;> first | (cases hv; exact ⟨_, rfl, by decide, by decide⟩) | cases hv
      refine ⟨p, g, c, _, top, rfl, d2, by omega, by omega, by omega, fun many H3 m0 m1 k3 d3 => ?_⟩
      have K3 : Keep [p, g] H H3 := (k1.trans kl.nil).trans (k2.trans k3)
      dsimp only [gName]
      refine ⟨_, rfl, _, rfl, by omega, by omega, fun D nD => ?_⟩
      have hl3 := hl.keep K3.toKeepW
      refine picks (σ := [some (.ref p), some l, none, some (.int many), none]) (m := many.toNat) d3 hl3 nD (by omega) 4 (fun x Hy n2 Q d le h4 k => ?_) (fun x H2 Q q => ?_) (fun x => rfl) (fun H4 W hD lW inL k4 d4 => ?_)
      · exact ⟨_, rfl, _, rfl, pick Hy n2 Q d (by omega) h4 k⟩
      · exact q
      · refine ⟨D, _, rfl, .inl ⟨.inl (.inl hD), fun tq ntq => ?_⟩⟩
        have k6 : Keep [] H4 (upd H4 tq (.tup (W.map V.str))) := Keep.new ntq
        exact q _ W _ ⟨tq, rfl, .inl (.inl upd_same)⟩ inL (by omega) ((K3.trans k4).trans k6.nil) ((d4.keep k6.toKeepW).mono (by omega))
end
end K01
set_option maxHeartbeats 2000000
namespace K01
open PySem PySem.Spec PyProof.Rows L2 HG HN HM
theorem pig4 {a b c d : Str} (ab : a ≠ b) (ac : a ≠ c) (ad : a ≠ d) (bc : b ≠ c) (bd : b ≠ d) (cd : c ≠ d) {l : List Str} (len : l.length ≤ 3) (ha : a ∈ l) (hb : b ∈ l) (hc : c ∈ l) (hd : d ∈ l) : False := by
  have e1 := List.length_erase_of_mem ha
  have b1 : b ∈ l.erase a := (List.mem_erase_of_ne ab.symm).mpr hb
  have c1 : c ∈ l.erase a := (List.mem_erase_of_ne ac.symm).mpr hc
  have d1 : d ∈ l.erase a := (List.mem_erase_of_ne ad.symm).mpr hd
  have e2 := List.length_erase_of_mem b1
  have c2 : c ∈ (l.erase a).erase b := (List.mem_erase_of_ne bc.symm).mpr c1
  have d2 : d ∈ (l.erase a).erase b := (List.mem_erase_of_ne bd.symm).mpr d1
  have e3 := List.length_erase_of_mem c2
  have d3 : d ∈ ((l.erase a).erase b).erase c := (List.mem_erase_of_ne cd.symm).mpr d2
  have := List.length_pos_of_mem d3
  omega
theorem app_ne {x : Str} {c d : Nat} (h : c ≠ d) : x ++ one c ≠ x ++ one d := fun e => by
  have q : (x ++ one c).cps.toList = (x ++ one d).cps.toList := by rw [e]
  have e1 : ∀ k, (x ++ one k).cps.toList = x.cps.toList ++ [k] := fun k => by
    show (x.cps ++ #[k]).toList = _
    simp
  rw [e1, e1] at q
  have := List.append_cancel_left q
  cases this
  exact h rfl
def marks : List Nat := ("kQ7.zA0mB2cX" : Str).cps.toList
def spare (z : Str) : List Str := z :: marks.map fun c => cutS z none (some 11) ++ one c
theorem spare_free {z : Str} {found : List Str} (len : found.length ≤ 3) : ∃ y r, (spare z).filter (fun y => !decide (y ∈ found)) = y :: r := by
  cases e : (spare z).filter (fun y => !decide (y ∈ found)) with
  | cons y r => exact ⟨y, r, rfl⟩
  | nil =>
    exfalso
    rw [List.filter_eq_nil_iff] at e
    have m : ∀ c ∈ marks, cutS z none (some 11) ++ one c ∈ found := fun c hc => by
      have q := e _ (List.mem_cons_of_mem _ (List.mem_map.mpr ⟨c, hc, rfl⟩))
      simpa using q
    exact pig4 (app_ne (by decide)) (app_ne (by decide)) (app_ne (by decide)) (app_ne (by decide)) (app_ne (by decide)) (app_ne (by decide)) len
      (m 107 (by decide +kernel)) (m 81 (by decide +kernel)) (m 55 (by decide +kernel)) (m 46 (by decide +kernel))
theorem cut_11 (z : Str) : (cutS z none (some 11)).length ≤ 11 ∧ ∀ c ∈ (cutS z none (some 11)).cps.toList, c ∈ z.cps.toList := by
  have b : HT.sIx z.length z.length (some 11) ≤ 11 := by
    have q := HT.sIx_nat z.length z.length 11
    rw [show (((11 : Nat)) : Int) = 11 from rfl] at q
    rw [q]
    exact Nat.min_le_left _ _
  unfold cutS
  refine ⟨?_, fun c hc => ?_⟩
  · show (List.toArray _).size ≤ 11
    rw [List.size_toArray, List.length_take]
    omega
  · rw [List.toList_toArray] at hc
    exact List.mem_of_mem_drop (List.mem_of_mem_take hc)
theorem spare_sign {z : Str} (h : Sign z) : ∀ y ∈ spare z, Sign y := by
  intro y hy
  rcases List.mem_cons.mp hy with rfl | hy
  · exact h
  · obtain ⟨c, hc, rfl⟩ := List.mem_map.mp hy
    obtain ⟨l, m⟩ := cut_11 z
    have size : (cutS z none (some 11) ++ one c).length = (cutS z none (some 11)).length + 1 := by
      show (_ ++ #[c]).size = _
      rw [Array.size_append]
      rfl
    refine ⟨by omega, by omega, fun x hx => ?_⟩
    have e : (cutS z none (some 11) ++ one c).cps.toList = (cutS z none (some 11)).cps.toList ++ [c] := by
      show (_ ++ #[c]).toList = _
      simp
    rw [e] at hx
    rcases List.mem_append.mp hx with q | q
    · exact h.good x (m x q)
    · rw [List.mem_singleton.mp q]
      exact (show ∀ c ∈ marks, c ∈ signsS.cps.toList by decide +kernel) c hc
end K01
set_option maxHeartbeats 2000000
namespace K01
open PySem PySem.Spec PyProof.Rows L2 HG HN HM
theorem lt_of_not {x y : Str} (h : ltCps y.cps.toList x.cps.toList = false) (ne : x ≠ y) : x.cps.toList < y.cps.toList := by
  rw [ltCps_eq] at h
  have q : ¬ y.cps.toList < x.cps.toList := of_decide_eq_false h
  by_cases w : x.cps.toList < y.cps.toList
  · exact w
  · exfalso
    have r := List.le_antisymm (List.not_lt.mp q) (List.not_lt.mp w)
    refine ne ?_
    obtain ⟨a⟩ := x
    obtain ⟨b⟩ := y
    have : a = b := Array.toList_inj.mp r
    rw [this]
theorem asc_rising : ∀ (x : Str) (r : List Str), risingS x r = true → (x :: r).Nodup → Asc (x :: r)
  | x, [], _, _ => fun i a b h1 h2 => by simp at h2
  | x, y :: r, h, n => fun i a b h1 h2 => by
    have e : (!ltCps y.cps.toList x.cps.toList && risingS y r) = true := h
    rw [Bool.and_eq_true] at e
    cases i with
    | zero =>
      cases h1
      cases h2
      refine lt_of_not (by simpa using e.1) fun z => ?_
      rw [z] at n
      exact (List.nodup_cons.mp n).1 List.mem_cons_self
    | succ i => exact asc_rising y r e.2 (List.nodup_cons.mp n).2 i a b h1 h2
theorem asc_sorted {L : List Str} (h : sortedS L = true) (n : L.Nodup) : Asc L := by
  cases L with
  | nil => exact fun i a b h1 h2 => by simp at h1
  | cons x r => exact asc_rising x r h n
section
variable {P : Program} {w : World} {K : PySem.W.Frag} {mg : Str → Option Value} {base : Heap}
def sp_signs (K : PySem.W.Frag) : Sp := fun vs H Q _ => ∃ (p g c : Addr) (n : Int) (many : Nat), vs = [.ref p, .int (many : Nat)] ∧ Draw H p g c n ∧ n < 999990000 ∧ 1 ≤ many ∧ many ≤ 4 ∧
  ∀ (v : V) (L : List Str) (H' : Hp), Lt K H' v L → Plain "tuple" H' v → Letters L → L.length = many → Keep [p, g] H H' → Draw H' p g c (n + 60) → Q v H'
theorem sc_signsX : FnScope ["draw", "many", "found", "turn", "sign", "spare", "mark", "one"] ["draw", "many"] (defScope s_l_signs) := scope_by rfl rfl rfl (by decide +kernel) rfl (by decide +kernel) (by decide +kernel)
theorem ok_signs (D : Def K mg "_law_signs" s_l_signs ["draw", "many"]) (zr : mg "range" = none) (zt : mg "tuple" = none) (zs : mg "sorted" = none) (CS : Callee P w K mg base CX0 4 "_law_sign" ["draw"] sp_sign) :
    Callee P w K mg base CX0 5 "_law_signs" ["draw", "many"] (sp_signs K) := by
  refine D.ok sc_signsX (fun vs H Q E h => ?_) (fun f cdv A outer s H vs Q E hr h => ?_)
  · obtain ⟨p, g, c, n, many, rfl, _⟩ := h
    rfl
  · obtain ⟨p, g, c, n, many, rfl, dr, small, m0, m1, q⟩ := h
    have nd := sc_signsX.nd
    refine ⟨_, pss_cons (ps_set (i := 2) nd rfl (.inr rfl) (pe_lst pa_nil))
      (pss_cons (ps_for PassesOwn.never rfl (pi_range1 rfl zr (pa_cons (pv 1) pa_nil)) (pg_name (i := 3) nd rfl (.inl rfl))
        (pss_cons (ps_set (i := 4) nd rfl (.inr rfl) (pe_c CS hr (pa_cons (pv 0) pa_nil)))
        (pss_cons (ps_set (i := 5) nd rfl (.inl rfl) (pe_op op_cat (pe_lst (pa_cons (pv 4) pa_nil)) (pe_lc (own := [("mark", 6)]) (g := gName 6) rfl nd (pi_str pe_str)
            (blkOk_by (N := ["draw", "many", "found", "turn", "sign", "spare", "mark", "one"]) (sc := defScope s_l_signs) (by decide +kernel)) (fun _ _ _ _ _ => pg_name (i := 6) nd rfl (Or.inl rfl)) (fun _ _ _ _ _ => pts_nil)
            (fun _ _ _ _ _ => pe_op op_add_str (pe_slice sl_str (pv 4) po_none (po_some pe_int)) (pv 6)))))
        (pss_one (ps_expr (pe_bm PySem.F.plainAttrs_list PySem.F.slot_list_append PySem.F.type_list_append mt_append (pv 2) (pa_cons (pe_ix ix_list
          (pe_lc (own := [("one", 7)]) (g := gName 7) rfl nd (pi_list (pv 5))
            (blkOk_by (N := ["draw", "many", "found", "turn", "sign", "spare", "mark", "one"]) (sc := defScope s_l_signs) (by decide +kernel)) (fun _ _ _ _ _ => pg_name (i := 7) nd rfl (Or.inl rfl))
            (fun _ _ _ _ _ => pts_one (pt_cmpR (r := rIn K true) op_notIn_seq (pv 7) (pv 2) (by rfl))) (fun _ _ _ _ _ => pv 7)) pe_int (fun _ _ => rfl)) pa_nil)))))))
      (pss_one (ps_ret (pe_callTy call_tupZ (by rfl) zt (by decide +kernel) (pa_cons (pe_callB cr_sortedS (by rfl) zs (by decide +kernel) (pa_cons (pv 2) pa_nil)) pa_nil))))), ?_⟩
    refine ⟨Nat.zero_le _, fun ml nml => ?_⟩
    dsimp only [gName]
    have k0 : Keep [] H (upd H ml (.lst [])) := Keep.new nml
    have outM : ml ∉ [p, g] := dr.known.out nml
    refine ⟨_, rfl, _, rfl, by omega, by omega, for_range (fun i σ H' => ∃ (u3 u4 u5 : Option V) (F : List Str), σ = [some (.ref p), some (.int (many : Nat)), some (.ref ml), u3, u4, u5, none, none] ∧ Keep [p, g] H H' ∧
        Draw H' p g c (n + 13 * i) ∧ H' ml = some (.lst (F.map V.str)) ∧ F.length = i ∧ F.Nodup ∧ ∀ z ∈ F, Sign z)
      ⟨none, none, none, [], rfl, k0.nil, (dr.keep k0.toKeepW).mono (by omega), upd_same, rfl, List.nodup_nil, fun z m => nomatch m⟩ (fun i σ H' lt hh => ?_) (fun σ H' hh => ?_)⟩
    · obtain ⟨u3, u4, u5, F, rfl, k, d, hF, lF, nF, sF⟩ := hh
      have i4 : i < 4 := by omega
      dsimp only [gName]
      refine ⟨_, rfl, p, g, c, _, rfl, d, by omega, fun z H1 sz k1 d1 => ?_⟩
      have hF1 := k1.toKeepW.get hF outM
      refine ⟨_, rfl, by show 1 ≤ sizeLine; decide, fun a na => ?_⟩
      have ka : Keep [] H1 (upd H1 a (.lst [.str z])) := Keep.new na
      have ha : upd H1 a (.lst [.str z]) a = some (.lst [.str z]) := upd_same
      generalize upd H1 a (.lst [.str z]) = H2 at ka ha ⊢
      refine ⟨_, rfl, fun D nD => ?_⟩
      refine lc_it walk_str (fun j Hj => Keep [] H2 Hj ∧ Hj D = some (.lst (((marks.take j).map fun c => cutS z none (some 11) ++ one c).map V.str))) ⟨Keep.new nD, upd_same⟩ (fun _ _ _ _ => trivial) (fun j x Hj Hy lt2 hh y => ?_) (fun Hj hh => ?_)
      · obtain ⟨kj, hD⟩ := hh
        obtain ⟨rfl, ch, hch, rfl⟩ := y
        have mch : marks[j]? = some ch := by
          unfold marks
          rw [Array.getElem?_toList]
          exact hch
        refine ⟨rfl, _, rfl, _, rfl, z, rfl, Nat.le_trans sz.few (by decide), _, rfl, _, _, rfl, rfl, ?_, ?_⟩
        · have := (cut_11 z).1
          show _ + 1 ≤ sizeLine
          exact Nat.le_trans (Nat.add_le_add_right this 1) (by decide)
        · refine ⟨_, hD, small1000 (by rw [List.length_map, List.length_map, List.length_take]; have : marks.length = 12 := (by decide +kernel); omega), kj.mut nD, ?_⟩
          rw [upd_same, List.take_succ, mch, List.map_append, List.map_append]
          rfl
      · obtain ⟨kj, hD⟩ := hh
        rw [List.take_of_length_le (by decide +kernel)] at hD
        have ha2 := kj.toKeepW.get ha (by simp)
        have len12 : marks.length = 12 := by decide +kernel
        refine ⟨a, D, _, _, rfl, rfl, ha2, hD, by rw [List.length_map, List.length_map, len12]; show 1 + 12 ≤ sizeLine; decide, fun sp nsp => ?_⟩
        have ks : Keep [] Hj (upd Hj sp (.lst ((spare z).map V.str))) := Keep.new nsp
        have hsp : upd Hj sp (.lst ((spare z).map V.str)) sp = some (.lst ((spare z).map V.str)) := upd_same
        have K3 := (ka.trans kj).trans ks
        have hF3 := K3.toKeepW.get hF1 (by simp)
        have d3 := d1.keep K3.toKeepW
        dsimp only [gName]
        show tDrop _ _ _ (upd Hj sp (.lst ((spare z).map V.str)))
        generalize upd Hj sp (.lst ((spare z).map V.str)) = H3 at ks hsp K3 hF3 d3 ⊢
        refine ⟨_, rfl, .inl ⟨rfl, _, SqL.of hF3⟩, ?_⟩
        refine ⟨_, rfl, sp, rfl, ⟨_, .inl (.inl hsp)⟩, fun D2 nD2 => ?_⟩
        refine lc_list (xs := (spare z).map V.str) (fun j Hq => Keep [] H3 Hq ∧ Hq D2 = some (.lst ((((spare z).take j).filter (fun y => !decide (y ∈ F))).map V.str))) ⟨Keep.new nD2, upd_same⟩
          (fun j Hq _ hh => sqL_keep hh.1.toKeepW (fun m => nomatch m) (.inl (.inl hsp))) (fun j x Hq hx hh => ?_) (fun Hq hh => ?_)
        · obtain ⟨kq, hD2⟩ := hh
          rw [List.getElem?_map] at hx
          obtain ⟨y, hy, rfl⟩ := Option.map_eq_some_iff.mp hx
          have hF4 := kq.toKeepW.get hF3 (fun m => nomatch m)
          have step : ((spare z).take (j + 1)).filter (fun y => !decide (y ∈ F)) = ((spare z).take j).filter (fun y => !decide (y ∈ F)) ++ (if y ∈ F then [] else [y]) := by
            rw [List.take_succ, hy, List.filter_append]
            congr 1
            by_cases m : y ∈ F
            · rw [if_pos m]
              simp [m]
            · rw [if_neg m]
              simp [m]
          have small13 : (((spare z).take j).filter (fun y => !decide (y ∈ F))).length ≤ 13 := by
            refine Nat.le_trans (List.length_filter_le _ _) ?_
            rw [List.length_take]
            have : (spare z).length = 13 := by
              show (marks.map _).length + 1 = 13
              rw [List.length_map, len12]
            omega
          refine ⟨rfl, _, rfl, _, rfl, ml, _, rfl, .inl (SqL.of hF4), rfl, flat_strs F, _, rfl, ?_⟩
          rw [inV_strs]
          by_cases m : y ∈ F
          · rw [decide_eq_true m]
            refine ⟨kq, ?_⟩
            rw [step, if_pos m, List.append_nil]
            exact hD2
          · rw [decide_eq_false m]
            refine ⟨_, rfl, _, hD2, small1000 (by rw [List.length_map]; omega), kq.mut nD2, ?_⟩
            rw [step, if_neg m, List.map_append, upd_same]
            rfl
        · obtain ⟨kq, hD2⟩ := hh
          rw [List.length_map, List.take_of_length_le (Nat.le_refl _)] at hD2
          obtain ⟨y, r, ey⟩ := spare_free (z := z) (found := F) (by omega)
          have mem : y ∈ (spare z).filter (fun y => !decide (y ∈ F)) := by
            rw [ey]
            exact List.mem_cons_self
          obtain ⟨inS, notF⟩ := List.mem_filter.mp mem
          have notF : y ∉ F := by simpa using notF
          rw [ey] at hD2
          have hF4 := kq.toKeepW.get hF3 (fun m => nomatch m)
          refine ⟨D2, _, 0, .str y, rfl, rfl, .inl (.inl hD2), atI_nat (j := 0) rfl, ?_⟩
          refine ⟨ml, _, _, rfl, rfl, hF4, small1000 (by rw [List.length_map]; omega), ?_⟩
          have d4 := d3.keep kq.toKeepW
          refine ⟨_, _, _, F ++ [y], rfl, ?_, (dr.other nml d4).mono (by omega), ?_, by rw [List.length_append, lF]; rfl, ?_, fun x hx => ?_⟩
          · exact (k.trans (k1.trans (K3.nil.trans kq.nil))).mut nml
          · rw [upd_same, List.map_append]
            rfl
          · rw [List.nodup_append]
            refine ⟨nF, by simp, fun x hx u hu e => ?_⟩
            rw [List.mem_singleton.mp hu] at e
            rw [e] at hx
            exact notF hx
          · rcases List.mem_append.mp hx with m | m
            · exact sF x m
            · rw [List.mem_singleton.mp m]
              exact spare_sign sz y inS
    · obtain ⟨u3, u4, u5, F, rfl, k, d, hF, lF, nF, sF⟩ := hh
      have e : ((many : Nat) : Int).toNat = many := by omega
      rw [e] at lF d
      refine ⟨_, rfl, ml, F, rfl, SqL.of hF, by omega, fun ys sp perm srt nsp => ?_⟩
      refine ⟨sp, _, rfl, .inl (.inl upd_same), fun tp o ntp oc od => ?_⟩
      have k2 : Keep [] H' (upd H' sp (.lst (ys.map V.str))) := Keep.new nsp
      have k3 := k2.trans (Keep.new (o := .frz o (.tup (ys.map V.str))) ntp)
      have ly : ys.length = many := by rw [perm.length_eq, lF]
      refine q _ ys _ ⟨tp, rfl, .inl (.inr ⟨o, upd_same⟩)⟩ ⟨tp, o, _, rfl, upd_same, oc, od⟩ ⟨fun z hz => sF z (perm.mem_iff.mp hz), asc_sorted srt (perm.nodup_iff.mpr nF), by omega, by omega⟩ ly (k.trans k3.nil) ((d.keep k3.toKeepW).mono (by omega))
end
end K01
set_option maxHeartbeats 2000000
namespace K01
open PySem PySem.Spec PyProof.Rows L2 HG HN HM
def odds : List Str := ["a", "Z", "0", "b.", "k9"]
theorem odd_free {L : List Str} (len : L.length ≤ 4) : ∃ y r, odds.filter (fun y => !decide (y ∈ L)) = y :: r := by
  cases e : odds.filter (fun y => !decide (y ∈ L)) with
  | cons y r => exact ⟨y, r, rfl⟩
  | nil =>
    exfalso
    rw [List.filter_eq_nil_iff] at e
    have m : ∀ y ∈ odds, y ∈ L := fun y hy => by simpa using e y hy
    have ma := m "a" (by decide +kernel)
    have l1 := List.length_erase_of_mem ma
    have go : ∀ y ∈ odds, y ≠ "a" → y ∈ L.erase "a" := fun y hy ne => (List.mem_erase_of_ne ne).mpr (m y hy)
    exact pig4 (a := "Z") (b := "0") (c := "b.") (d := "k9") (by decide +kernel) (by decide +kernel) (by decide +kernel) (by decide +kernel) (by decide +kernel) (by decide +kernel) (l := L.erase "a") (by omega)
      (go _ (by decide +kernel) (by decide +kernel)) (go _ (by decide +kernel) (by decide +kernel)) (go _ (by decide +kernel) (by decide +kernel)) (go _ (by decide +kernel) (by decide +kernel))
section
variable {P : Program} {w : World} {K : PySem.W.Frag} {mg : Str → Option Value} {base : Heap}
def sp_lstrange (K : PySem.W.Frag) : Sp := fun vs H Q _ => ∃ (l : V) (L : List Str), vs = [l] ∧ Lt K H l L ∧ L.length ≤ 4 ∧ ∀ z H', z ∉ L → z ∈ odds → Keep [] H H' → Q (.str z) H'
theorem sc_strangeX : FnScope ["signs", "one"] ["signs"] (defScope s_l_strange) := scope_by rfl rfl rfl (by decide +kernel) rfl (by decide +kernel) (by decide +kernel)
theorem ok_lstrange (D : Def K mg "_law_strange" s_l_strange ["signs"]) : Callee P w K mg base CX0 1 "_law_strange" ["signs"] (sp_lstrange K) := by
  refine D.ok sc_strangeX (fun vs H Q E h => ?_) (fun f cdv A outer s H vs Q E hr h => ?_)
  · obtain ⟨l, L, rfl, _⟩ := h
    rfl
  · obtain ⟨l, L, rfl, ⟨la, rfl, hl⟩, few, q⟩ := h
    have nd := sc_strangeX.nd
    refine ⟨_, pss_one (ps_ret (pe_ix ix_list (pe_lc (own := [("one", 1)]) (g := gName 1) rfl nd (pi_list (pe_lst (pa_cons pe_str (pa_cons pe_str (pa_cons pe_str (pa_cons pe_str (pa_cons pe_str pa_nil)))))))
        (blkOk_by (N := ["signs", "one"]) (sc := defScope s_l_strange) (by decide +kernel)) (fun _ _ _ _ _ => pg_name (i := 1) nd rfl (Or.inl rfl))
        (fun _ _ _ _ _ => pts_one (pt_cmpR (r := rIn K true) op_notIn_seq (pv 1) (pv 0) (by rfl))) (fun _ _ _ _ _ => pv 1)) pe_int (fun _ _ => rfl))), ?_⟩
    refine ⟨by show 5 ≤ sizeLine; decide, fun sp nsp => ?_⟩
    have ks : Keep [] H (upd H sp (.lst (odds.map V.str))) := Keep.new nsp
    have hsp : upd H sp (.lst (odds.map V.str)) sp = some (.lst (odds.map V.str)) := upd_same
    refine ⟨sp, rfl, ⟨_, .inl (.inl hsp)⟩, fun D2 nD2 => ?_⟩
    have hl3 := sqT_keep ks.toKeepW hl
    change upd H sp (.lst (odds.map V.str)) D2 = none at nD2
    refine lc_list (xs := odds.map V.str) (fun j Hq => Keep [] (upd H sp (.lst (odds.map V.str))) Hq ∧ Hq D2 = some (.lst (((odds.take j).filter (fun y => !decide (y ∈ L))).map V.str))) ⟨Keep.new nD2, upd_same⟩
      (fun j Hq _ hh => sqL_keep hh.1.toKeepW (fun m => nomatch m) (.inl (.inl hsp))) (fun j x Hq hx hh => ?_) (fun Hq hh => ?_)
    · obtain ⟨kq, hD2⟩ := hh
      rw [List.getElem?_map] at hx
      obtain ⟨y, hy, rfl⟩ := Option.map_eq_some_iff.mp hx
      have hl4 := sqT_keep kq.toKeepW hl3
      have step : (odds.take (j + 1)).filter (fun y => !decide (y ∈ L)) = (odds.take j).filter (fun y => !decide (y ∈ L)) ++ (if y ∈ L then [] else [y]) := by
        rw [List.take_succ, hy, List.filter_append]
        congr 1
        by_cases m : y ∈ L
        · rw [if_pos m]
          simp [m]
        · rw [if_neg m]
          simp [m]
      have small5 : ((odds.take j).filter (fun y => !decide (y ∈ L))).length ≤ 5 := by
        refine Nat.le_trans (List.length_filter_le _ _) ?_
        rw [List.length_take]
        exact Nat.min_le_right _ _
      refine ⟨rfl, _, rfl, _, rfl, la, _, rfl, .inr hl4, rfl, flat_strs L, _, rfl, ?_⟩
      rw [inV_strs]
      by_cases m : y ∈ L
      · rw [decide_eq_true m]
        refine ⟨kq, ?_⟩
        rw [step, if_pos m, List.append_nil]
        exact hD2
      · rw [decide_eq_false m]
        refine ⟨_, rfl, _, hD2, small1000 (by rw [List.length_map]; omega), kq.mut nD2, ?_⟩
        rw [step, if_neg m, List.map_append, upd_same]
        rfl
    · obtain ⟨kq, hD2⟩ := hh
      rw [List.length_map, List.take_of_length_le (Nat.le_refl _)] at hD2
      obtain ⟨y, r, ey⟩ := odd_free (L := L) few
      have mem : y ∈ odds.filter (fun y => !decide (y ∈ L)) := by
        rw [ey]
        exact List.mem_cons_self
      obtain ⟨inS, notL⟩ := List.mem_filter.mp mem
      have notL : y ∉ L := by simpa using notL
      rw [ey] at hD2
      exact ⟨D2, _, 0, .str y, rfl, rfl, .inl (.inl hD2), atI_nat (j := 0) rfl, q y Hq notL inS (ks.trans kq)⟩
end
end K01
set_option maxHeartbeats 2000000
namespace HG
open PySem PySem.Spec PyProof.Rows L2
/-- a kept exception of class C at a, with its dict or without -/
structure ExK (K : PySem.W.Frag) (H : Hp) (a C : Addr) (fs : List (Str × V)) : Prop where
  is : ExcC K C
  at_ : (H a = some (Exn (.ref C) none a) ∧ fs = []) ∨ ∃ d, H a = some (Exn (.ref C) (some d) a) ∧ H d = some (.xd fs)
theorem ExK.keep {K : PySem.W.Frag} {ex : List Addr} {H H' : Hp} {a C : Addr} {fs : List (Str × V)} (h : ExK K H a C fs) (k : KeepW ex H H') (n : ∀ b ∈ ex, ∃ o, H b = some o ∧ (∀ φ, o ≠ .ext φ) ∧ ∀ fs, o ≠ .xd fs) : ExK K H' a C fs := by
  have na : ∀ {o}, H a = some (.ext o) → a ∉ ex := fun {o} e m => by
    obtain ⟨u, hu, z, _⟩ := n a m
    rw [e] at hu
    exact z _ (Option.some.inj hu).symm
  refine ⟨h.is, ?_⟩
  rcases h.at_ with ⟨e, r⟩ | ⟨d, e, ed⟩
  · exact .inl ⟨k.get e (na e) (fun _ z => nomatch z), r⟩
  · refine .inr ⟨d, k.get e (na e) (fun _ z => nomatch z), k.get ed (fun m => ?_)⟩
    obtain ⟨u, hu, _, z⟩ := n d m
    rw [ed] at hu
    exact z _ (Option.some.inj hu).symm
section
variable {X : Cx} {pins : List (Addr × Obj)} {σ : L2.St} {H : Hp} {s : Shared}
theorem exk_inst {K : PySem.W.Frag} {a C : Addr} {fs : List (Str × V)} (hok : HOk X.prog X.w H s.heap) (h : ExK K H a C fs) :
    ∃ ob od, PySem.W.InstAt s.heap a ob C od ∧ ((od = none ∧ fs = []) ∨ ∃ o d mA, od = some o ∧ s.heap.Ns1 d mA ∧ s.heap.get? d = some o ∧ ∀ f, RelO (fs.lookup f) (mA f)) := by
  rcases h.at_ with ⟨e, rfl⟩ | ⟨d, e, ed⟩
  · obtain ⟨⟨ob, gs, at_, ⟨z1, z2⟩, f⟩, _, _⟩ := hok a _ e
    obtain ⟨oc, od, oda, osl⟩ := ob
    dsimp only at z1 z2 f
    subst z1 z2 f
    exact ⟨_, none, ⟨at_, rfl, rfl, trivial⟩, .inl ⟨rfl, rfl⟩⟩
  · obtain ⟨⟨ob, gs, at_, ⟨z1, z2⟩, f⟩, _, _⟩ := hok a _ e
    obtain ⟨oc, od, oda, osl⟩ := ob
    dsimp only at z1 z2 f
    subst z1 z2 f
    have hx : ObjOk X.prog X.w H s.heap d (.xd fs) := hok d _ ed
    obtain ⟨mA, hns, hr⟩ := hx
    obtain ⟨o, ho, _⟩ := lookIn_ns hns
    exact ⟨_, some o, ⟨at_, rfl, rfl, ho⟩, .inr ⟨o, d, mA, rfl, hns, ho, hr⟩⟩
/-- isinstance(e, C), e a kept exception -/
def rIsK2 (K : PySem.W.Frag) : List V → Hp → VK → Prop := fun xs H Q =>
  ∃ (a D C : Addr) (fs : List (Str × V)) (b : Bool), xs = [.ref a, .ref C] ∧ ExK K H a D fs ∧ PySem.W.kitOne K (.ref D) (.ref C) = some b ∧ Q (.bl b) H
theorem call_isK2 : CallR X (.builtin "isinstance") (rIsK2 X.K) := by
  intro pins s σ H xs us Q I r h
  obtain ⟨a, D, C, fs, b, rfl, ha, hk, q⟩ := h
  obtain ⟨u1, u2, rfl, r1, r2⟩ := vals2 r
  cases r1
  cases r2
  obtain ⟨ob, od, J, _⟩ := exk_inst I.hok ha
  have cl := ha.is
  refine PySem.W.kia_one (PySem.W.kitx_exc (by obtain ⟨cd, hc, _⟩ := PySem.W.any_some cl.hd; rw [hc]; rfl) cl.hg cl.hk cl.hs cl.ha cl.hn cl.ht cl.hm) I.kIn J hk
    (fun z => nomatch z) fun tk => ?_
  exact ⟨.bl b, H, I.kept (t' := tk) (fun _ _ z => z), rfl, q⟩
/-- e.f, e a kept exception -/
def tXk (K : PySem.W.Frag) (f : Str) (te : TE) : TE := fun σ H Q => te σ H fun x H1 => ∃ (a C : Addr) (fs : List (Str × V)) (v : V), x = .ref a ∧ ExK K H1 a C fs ∧ XfC K C ∧ PySem.W.findIn K (.ref C) f = some none ∧ fs.lookup f = some v ∧ Q v H1
theorem pe_xk {e : Expr} {te : TE} {pos : Pos} {n : Str} (he : PE X e te) (hb : attributeBase e n X.env (eval e X.env) = eval e X.env := by rfl) :
    PE X (.Attribute e n pos) (tXk X.K n te) := by
  refine ⟨fun pins s σ H Q I h => ?_⟩
  refine attr_of hb (thn (he.run pins s σ H _ I h) fun u s1 hh => ?_)
  obtain ⟨x, H1, I1, rx, a, C, fs, v, ex, hk, T, hno, l, q⟩ := hh
  subst ex
  obtain rfl : u = Value.ref a := rx
  obtain ⟨ob, od, J, hd⟩ := exk_inst I1.hok hk
  rcases hd with ⟨_, rfl⟩ | ⟨o, d, mA, rfl, hns, ho, hr⟩
  · cases l
  obtain ⟨od2, ho2, hl⟩ := lookIn_ns hns
  rw [ho] at ho2
  cases ho2
  obtain ⟨u, hu, ru⟩ := RelO.some_of (v := v) (o := mA n) (by rw [← l]; exact hr n)
  exact HandSPX.exc_get I1.kIn J T.ga T.gg T.exC (PySem.W.findObj_own T.hdC hno rfl (by rw [hl, hu])) (handed_of ru) ⟨v, H1, I1.tok _, ru, q⟩
end
end HG
set_option maxHeartbeats 2000000
namespace HG
open PySem PySem.Spec PyProof.Rows L2
/-! ## slices and sums of tuples, any values by their types -/
theorem cutA {K : PySem.W.Frag} {H : Hp} {a : Addr} {xs : List V} {lo hi : Option Int} {Q : VK} (h : SqT K H a xs)
    (q : ∀ b H', Keep [] H H' → SqT K H' b (cutV xs lo hi) → Q (.ref b) H') : rSlA K (.ref a) lo hi H Q := by
  refine ⟨a, xs, rfl, h, fun ⟨e0, e1⟩ => ?_, fun _ p np => ?_⟩
  · have e : cutV xs lo hi = xs := by
      unfold cutV
      rw [e0, e1]
      simp
    exact q a H Keep.refl (by rw [e]; exact h)
  · exact q p _ (Keep.new np) (.inl (.inl upd_same))
theorem sumA {K : PySem.W.Frag} {H : Hp} {a b : Addr} {xs ys : List V} {Q : VK} (ha : SqT K H a xs) (hb : SqT K H b ys) (hz : xs.length + ys.length ≤ sizeLine)
    (q : ∀ c H', Keep [] H H' → SqT K H' c (xs ++ ys) → Q (.ref c) H') : rCatA K (.ref a) (.ref b) H Q := by
  refine ⟨a, b, xs, ys, rfl, rfl, ha, hb, hz, fun e => ?_, fun _ e => ?_, fun _ _ p np => ?_⟩
  · subst e
    exact q b H Keep.refl hb
  · subst e
    exact q a H Keep.refl (by rw [List.append_nil]; exact ha)
  · exact q p _ (Keep.new np) (.inl (.inl upd_same))
theorem cut_to {xs : List V} {k : Nat} (h : k ≤ xs.length) : cutV xs none (some (k : Int)) = xs.take k := by
  unfold cutV
  rw [HT.sIx_nat]
  show (xs.drop 0).take (min k xs.length - 0) = _
  rw [Nat.min_eq_left h]
  rfl
theorem cut_from {xs : List V} {k : Nat} (h : k ≤ xs.length) : cutV xs (some (k : Int)) none = xs.drop k := by
  unfold cutV
  rw [HT.sIx_nat]
  show (xs.drop (min k xs.length)).take (xs.length - min k xs.length) = _
  rw [Nat.min_eq_left h, List.take_of_length_le (by rw [List.length_drop]; exact Nat.le_refl _)]
/-- a value by its type -/
inductive Any (ex : List Addr) (K : PySem.W.Frag) (H : Hp) : V → String → Prop where
  | of {v : V} {T : String} (o : Out ex v) (t : TyX K H v (.type T)) : Any ex K H v T
  | tup {a : Addr} {xs : List V} (h : SqT K H a xs) : Any ex K H (.ref a) "tuple"
theorem Any.ty {ex : List Addr} {K : PySem.W.Frag} {H : Hp} {v : V} {T : String} (h : Any ex K H v T) : TyX K H v (.type T) := by
  cases h with
  | of o t => exact t
  | tup h => exact tyX_tup h
theorem Any.keep {ex : List Addr} {K : PySem.W.Frag} {H H' : Hp} {v : V} {T : String} (h : Any ex K H v T) (k : KeepW ex H H') : Any ex K H' v T := by
  cases h with
  | of o t => exact .of o (tyX_keep k o t)
  | tup h => exact .tup (sqT_keep k h)
theorem Any.non {ex : List Addr} {K : PySem.W.Frag} {H : Hp} : Any ex K H .non "NoneType" := .of (.flat (fun _ z => nomatch z)) (.base .non)
theorem Any.int {ex : List Addr} {K : PySem.W.Frag} {H : Hp} (i : Int) : Any ex K H (.int i) "int" := .of (.flat (fun _ z => nomatch z)) (.base (.int i))
theorem Any.str {ex : List Addr} {K : PySem.W.Frag} {H : Hp} (z : Str) : Any ex K H (.str z) "str" := .of (.flat (fun _ z => nomatch z)) (.base (.str z))
theorem Any.bl {ex : List Addr} {K : PySem.W.Frag} {H : Hp} (b : Bool) : Any ex K H (.bl b) "bool" := .of (.flat (fun _ z => nomatch z)) (.base (.bl b))
theorem Any.lst {ex : List Addr} {K : PySem.W.Frag} {H : Hp} {a : Addr} {xs : List V} (h : H a = some (.lst xs)) (o : a ∉ ex) : Any ex K H (.ref a) "list" := .of (fun b e => by cases e; exact o) (.base (.lst h))
theorem Any.num {ex : List Addr} {K : PySem.W.Frag} {H : Hp} {v : V} {T : String} (h : Any ex K H v T) {b1 b2 : Bool} (e1 : kitB T "int" = some b1) (e2 : kitB T "bool" = some b2) : NumB [] K H v (b1 && !b2) := ⟨(fun _ _ m => nomatch m), T, b1, b2, h.ty, e1, e2, rfl⟩
end HG
set_option maxHeartbeats 2000000
namespace K01
open PySem PySem.Spec PyProof.Rows L2 HG HN HM
/-! ## what the law refuses: the values that it picks -/
def plainT : List String := ["NoneType", "int", "tuple", "str"]
def OddV (ex : List Addr) (K : PySem.W.Frag) (H : Hp) (v : V) : Prop := ∃ T ∈ plainT, Any ex K H v T
def AwayV (ex : List Addr) (K : PySem.W.Frag) (H : Hp) (v : V) (n : Nat) : Prop := (∃ i : Int, v = .int i ∧ (i < 0 ∨ (n : Int) ≤ i)) ∨ ∃ T, Any ex K H v T ∧ ((kitB T "int" = some false ∧ kitB T "bool" = some false) ∨ (kitB T "int" = some true ∧ kitB T "bool" = some true))
def SignV (ex : List Addr) (K : PySem.W.Frag) (H : Hp) (L : List Str) (v : V) : Prop := (∃ z, v = .str z ∧ z ∉ L) ∨ ∃ T, Any ex K H v T ∧ kitB T "str" = some false
def ItemV (ex : List Addr) (K : PySem.W.Frag) (H : Hp) (L : List Str) (v : V) : Prop := (∃ T, Any ex K H v T ∧ kitB T "tuple" = some false) ∨
  ∃ (a : Addr) (U W : List Str) (y : V), v = .ref a ∧ SqT K H a (U.map V.str ++ y :: W.map V.str) ∧ SignV ex K H L y
section
variable {ex : List Addr} {K : PySem.W.Frag} {H H' : Hp} {v : V} {L : List Str} {n : Nat}
theorem OddV.keep (h : OddV ex K H v) (k : KeepW ex H H') : OddV ex K H' v := by
  obtain ⟨T, m, h⟩ := h
  exact ⟨T, m, h.keep k⟩
theorem AwayV.keep (h : AwayV ex K H v n) (k : KeepW ex H H') : AwayV ex K H' v n := by
  rcases h with h | ⟨T, h, r⟩
  · exact .inl h
  · exact .inr ⟨T, h.keep k, r⟩
theorem SignV.keep (h : SignV ex K H L v) (k : KeepW ex H H') : SignV ex K H' L v := by
  rcases h with h | ⟨T, h, r⟩
  · exact .inl h
  · exact .inr ⟨T, h.keep k, r⟩
theorem ItemV.keep (h : ItemV ex K H L v) (k : KeepW ex H H') : ItemV ex K H' L v := by
  rcases h with ⟨T, h, r⟩ | ⟨a, U, W, y, rfl, h, r⟩
  · exact .inl ⟨T, h.keep k, r⟩
  · exact .inr ⟨a, U, W, y, rfl, sqT_keep k h, r.keep k⟩
theorem OddV.noMem {C : Addr} (no : ∀ T ∈ plainT, PySem.W.kitOne K (.type T) (.ref C) = some false) (h : OddV ex K H v) : NoMem K C H v := by
  obtain ⟨T, m, h⟩ := h
  exact ⟨.type T, h.ty, no T m⟩
theorem AwayV.num (h : AwayV ex K H v n) : ∃ o, NumO [] K H v o ∧ within 0 ((n : Int) - 1) o = false := by
  rcases h with ⟨i, rfl, h⟩ | ⟨T, h, r⟩
  · refine ⟨some i, rfl, ?_⟩
    show (decide (0 ≤ i) && decide (i ≤ (n : Int) - 1)) = false
    rcases h with h | h
    · rw [decide_eq_false (by omega)]
      rfl
    · rw [decide_eq_false (show ¬ i ≤ (n : Int) - 1 by omega), Bool.and_false]
  · refine ⟨none, ?_, rfl⟩
    rcases r with ⟨e1, e2⟩ | ⟨e1, e2⟩
    · exact h.num e1 e2
    · exact h.num e1 e2
theorem SignV.item (h : SignV ex K H L v) : ∃ z, ItemO K H v z ∧ itemOk L z = false := by
  rcases h with ⟨z, rfl, h⟩ | ⟨T, h, r⟩
  · exact ⟨some z, rfl, decide_eq_false h⟩
  · exact ⟨none, ⟨T, h.ty, r⟩, rfl⟩
theorem ItemV.noWord (h : ItemV ex K H L v) : NoWord K H v L := by
  rcases h with ⟨T, h, r⟩ | ⟨a, U, W, y, rfl, h, r⟩
  · exact .inl ⟨T, h.ty, r⟩
  · obtain ⟨z, hz, bad⟩ := r.item
    refine .inr ⟨a, _, U.map some ++ z :: W.map some, rfl, h, fun i x hx => ?_, by simp, ?_⟩
    · by_cases q : i < U.length
      · rw [List.getElem?_append_left (by rw [List.length_map]; exact q), List.getElem?_map] at hx
        obtain ⟨u, hu, rfl⟩ := Option.map_eq_some_iff.mp hx
        exact ⟨some u, by rw [List.getElem?_append_left (by rw [List.length_map]; exact q), List.getElem?_map, hu]; rfl, rfl⟩
      · rw [List.getElem?_append_right (by rw [List.length_map]; omega), List.length_map] at hx
        have e : (U.map some ++ z :: W.map some)[i]? = (z :: W.map some)[i - U.length]? := by
          rw [List.getElem?_append_right (by rw [List.length_map]; omega), List.length_map]
        rw [e]
        generalize i - U.length = j at hx ⊢
        cases j with
        | zero =>
          cases hx
          exact ⟨z, rfl, hz⟩
        | succ j =>
          have hx : (W.map V.str)[j]? = some x := hx
          rw [List.getElem?_map] at hx
          obtain ⟨u, hu, rfl⟩ := Option.map_eq_some_iff.mp hx
          exact ⟨some u, by show (W.map some)[j]? = _; rw [List.getElem?_map, hu]; rfl, rfl⟩
    · rw [List.all_eq_false]
      exact ⟨z, by simp, by rw [bad]; decide⟩
end
end K01
set_option maxHeartbeats 2000000
namespace HG
open PySem PySem.Spec PyProof.Rows L2 LamX
/-- caught: what the task's exception becomes -/
def TTc (K : PySem.W.Frag) (CE : Addr) : (XK → Hp → VK → Prop) → Hp → VK → Prop := fun tl H Q =>
  tl (fun cls d H' => PySem.W.exmOne K cls (.ref CE) = some true ∧ ∀ a, H' a = none → Q (.ref a) (upd H' a (Exn cls d a))) H
    fun _ H' => ∃ v, (some (some V.non) : Option (Option V)) = some (some v) ∧ Q v H'
theorem extN_keep {ex : List Addr} {H H' : Hp} (e : ExtN H H') : KeepW ex H H' :=
  ⟨fun a o h _ t => e a o h t, fun a xs h => e a _ h (fun _ z => nomatch z), fun a o u h => e a _ h (fun _ z => nomatch z), fun a o h t => ⟨o, e a o h t, t⟩⟩
end HG
namespace K01
open PySem PySem.Spec PyProof.Rows L2 HG LamX
theorem caught_gives {X : Cx} {g CE : Addr} {cdg : Value} {q : Str} (m : X.mg "ClockError" = some (.ref CE)) :
    GivesTo X ["task", "caught", "error"] "_law_caught" (defScope s_l_caught) g cdg (defBody s_l_caught) "task" q (TTc X.K CE) := by
  intro f c' s H Q tl act hc h
  have nd := sc_l_caught.nd
  refine ⟨_, pss_cons (ps_set (i := 1) nd rfl (.inl rfl) pe_non)
    (pss_cons (ps_try_keep (i := 2) (c := .ref CE) (X := (cxOf C8.CX0 X.prog X.w X.K X.mg X.base ["task", "caught", "error"] "_law_caught" (defScope s_l_caught) g cdg X.A X.stack s H C8.E0).nox)
      (tb := fun W D σ H => ∃ Ech : XK, (∀ cls d σ' H', Ech cls d H' → W cls d σ' H') ∧ σ[0]? = some (some (.ref f)) ∧ H c' = some (CodeO c' q) ∧ tl Ech H (fun _ H' => D.nx σ H'))
      rfl rfl rfl nd rfl rfl ⟨rfl, by decide, .inl m⟩ (fun W pn xe tk _ => ?_)
      (fun a pn => pss_one (ps_set (i := 1) nd rfl (.inl rfl) (pv 2))))
    (pss_one (ps_ret (pv 1)))), ?_⟩
  · refine ⟨fun pins s' σ H' D I h' => ?_⟩
    obtain ⟨Ech, hW, h1, h2, h3⟩ := h'
    exact (pss_one (ps_expr (act W pn xe Ech _ _ tk hW))).run pins s' σ H' D I ⟨h1, h2, h3⟩
  · refine ⟨fun cls d H' => PySem.W.exmOne X.K cls (.ref CE) = some true ∧ ∀ a, H' a = none → Q (.ref a) (upd H' a (Exn cls d a)), fun cls d σ' H' hE => ⟨hE.1, fun len a na => ?_⟩, rfl, hc, ?_⟩
    · match σ', len with
      | [x0, x1, x2], _ => exact ⟨.ref a, rfl, .ref a, rfl, hE.2 a na⟩
    · exact h
end K01
namespace HG
open PySem PySem.Spec PyProof.Rows L2 LamX
theorem tabs_keep {T : List (Addr × Str)} {ex : List Addr} {H H' : Hp} (k : Keep ex H H') (nx : ∀ a ∈ ex, ∀ φ, H a ≠ some (.ext φ)) (t : Tabs T H) : Tabs T H' := fun pq m => by
  obtain ⟨ps, e, ok, among⟩ := t pq m
  refine ⟨ps, k.tbl _ _ e, ok, fun pos cv hc => ?_⟩
  obtain ⟨c, ec, hcc⟩ := among pos cv hc
  refine ⟨c, ec, ?_⟩
  unfold CodeO at hcc ⊢
  exact k.get hcc (fun m => nx c m _ hcc)
theorem Draw.noExt {H : Hp} {p g c : Addr} {n : Int} (d : Draw H p g c n) : ∀ a ∈ [p, g], ∀ φ, H a ≠ some (.ext φ) := by
  obtain ⟨_, gs, cs, left, turn, e1, e2, e3, _⟩ := d
  intro a m φ
  rcases List.mem_cons.mp m with rfl | m
  · rw [e1]
    exact fun z => nomatch z
  · rcases List.mem_cons.mp m with rfl | m
    · rw [e2]
      exact fun z => nomatch z
    · cases m
theorem nilExt {H : Hp} : ∀ a ∈ ([] : List Addr), ∀ φ, H a ≠ some (.ext φ) := fun _ m => nomatch m
/-- an own error class: raised, caught by the package's base class, and told apart -/
structure ErrX (K : PySem.W.Frag) (mg : Str → Option Value) (CE : Addr) (x : Str) (C : Addr) : Prop extends ErrC K mg x C where
  is : ExcC K C
  hit : PySem.W.exmOne K (.ref C) (.ref CE) = some true
  own : PySem.W.kitOne K (.ref C) (.ref C) = some true
/-- not isinstance(caught(lambda: ..), C): the task raises C -/
theorem refuse_step {K : PySem.W.Frag} {mg : Str → Option Value} {CE C : Addr} {x : Str} {T : List (Addr × Str)} {t : XK → TE} {D : Ends} {σ : L2.St} {H : Hp} {yes : TS} {ex : List Addr}
    (c : ErrX K mg CE x C) (hT : Tabs T H)
    (run : ∀ H1 Q E, KeepW ex H H1 → (∀ H2, Keep [] H1 H2 → E (.ref C) none H2) → t E σ H1 Q)
    (next : ∀ H', KeepW ex H H' → Tabs T H' → D.nx σ H') :
    tIfS (tNot (tB (tCB (rIsX K) (tCons (tLam T (TTc K CE) t) (tCons (tC (.ref C)) tNil))))) yes tNext D σ H := by
  refine ⟨hT, fun H1 eN T1 => ?_⟩
  refine run H1 _ _ (extN_keep eN) fun H2 k2 => ⟨c.hit, fun a na => ?_⟩
  have k3 : Keep [] H1 (upd H2 a (Exn (.ref C) none a)) := k2.trans (Keep.new na)
  exact ⟨a, C, C, true, rfl, upd_same, c.is, c.own, true, rfl, next _ ((extN_keep eN).trans k3.nil.toKeepW) (tabs_keep k3 nilExt T1)⟩
theorem refuse_seq {K : PySem.W.Frag} {mg : Str → Option Value} {CE C : Addr} {x : Str} {T : List (Addr × Str)} {t : XK → TE} {D : Ends} {σ : L2.St} {H : Hp} {yes rest : TS}
    (c : ErrX K mg CE x C) (hT : Tabs T H)
    (run : ∀ H1 Q E, KeepW [] H H1 → (∀ H2, Keep [] H1 H2 → E (.ref C) none H2) → t E σ H1 Q)
    (next : ∀ H', KeepW [] H H' → Tabs T H' → rest D σ H') :
    tSeq (tIfS (tNot (tB (tCB (rIsX K) (tCons (tLam T (TTc K CE) t) (tCons (tC (.ref C)) tNil))))) yes tNext) rest D σ H :=
  refuse_step (D := { D with nx := rest D }) c hT run next
/-- the same as a value -/
theorem refuse_value {K : PySem.W.Frag} {mg : Str → Option Value} {CE C : Addr} {x : Str} {T : List (Addr × Str)} {t : XK → TE} {σ : L2.St} {H : Hp} {Q : VK} {ex : List Addr}
    (c : ErrX K mg CE x C) (hT : Tabs T H)
    (run : ∀ H1 Q E, KeepW ex H H1 → (∀ H2, Keep [] H1 H2 → E (.ref C) none H2) → t E σ H1 Q)
    (next : ∀ H', KeepW ex H H' → Tabs T H' → Q (.bl true) H') :
    tCB (rIsX K) (tCons (tLam T (TTc K CE) t) (tCons (tC (.ref C)) tNil)) σ H Q := by
  refine ⟨hT, fun H1 eN T1 => ?_⟩
  refine run H1 _ _ (extN_keep eN) fun H2 k2 => ⟨c.hit, fun a na => ?_⟩
  have k3 : Keep [] H1 (upd H2 a (Exn (.ref C) none a)) := k2.trans (Keep.new na)
  exact ⟨a, C, C, true, rfl, upd_same, c.is, c.own, next _ ((extN_keep eN).trans k3.nil.toKeepW) (tabs_keep k3 nilExt T1)⟩
/-- a def that makes lambdas: its code object stands at c -/
structure DefC (K : PySem.W.Frag) (mg : Str → Option Value) (x : Str) (st : Stmt) (ps : List Str) (c : Addr) : Prop where
  ex : ∃ (f : Addr) (oc : Value) (od : Option Addr) (kV doc pm : Value) (an : Option Addr) (ct : Value) (osl : Array (Option Value)),
    K.lookup f = some ⟨oc, od, .func (PySem.W.fnOf x x (defArgs st) (defBody st) (defScope st) .none kV doc pm an (.ref c) ct), osl⟩ ∧
    PySem.W.codeIn K (.ref c) x = true ∧ PySem.W.keepIn K (.ref f) = true ∧ mg x = some (.ref f) ∧
    Binds K (PySem.W.fnOf x x (defArgs st) (defBody st) (defScope st) .none kV doc pm an (.ref c) ct) ps []
section
variable {P : Program} {w : World} {K : PySem.W.Frag} {mg : Str → Option Value} {base : Heap}
theorem DefC.ok {x : Str} {st : Stmt} {N ps : List Str} {k : Nat} {sp : Sp} {c : Addr} (D : DefC K mg x st ps c) (S : FnScope N ps (defScope st))
    (len : ∀ vs H Q E, sp vs H Q E → vs.length = ps.length)
    (body : ∀ (f : Addr) (A : Around) (outer : List Env) (s : Shared) (H : Hp) (vs : List V) (Q : VK) (E : XK),
      Room k (A.deeper (envOfC x (defScope st) s.heap.objs.size f (.ref c))) → sp vs H Q E →
      ∃ t, PSs (cxOf CX0 P w K mg base N x (defScope st) f (.ref c) A outer s H E).nox (defBody st) t ∧
        t { nx := fun _ H' => Q .non H', rt := Q } (start N vs) H) :
    Callee P w K mg base CX0 (k + 1) x ps sp := by
  obtain ⟨f, oc, od, kV, doc, pm, an, ct, osl, lk, cd, kp, m, b⟩ := D.ex
  refine ⟨f, _, fn_of lk cd S len fun A outer s H vs Q E hr h => ?_, m, kp, b, ⟨_, _, _, lk⟩⟩
  obtain ⟨t, ht, q⟩ := body f A outer s H vs Q E hr h
  exact ⟨t, ht.nox, q⟩
theorem DefC.okP {x : Str} {st : Stmt} {N ps : List Str} {k : Nat} {sp : Sp} {c : Addr} (D : DefC K mg x st ps c) (S : FnScope N ps (defScope st))
    (len : ∀ vs H Q E, sp vs H Q E → vs.length = ps.length)
    (body : ∀ (f : Addr) (A : Around) (outer : List Env) (s : Shared) (H : Hp) (vs : List V) (Q : VK) (E : XK),
      NoG (A.deeper (envOfC x (defScope st) s.heap.objs.size f (.ref c))) →
      Room k (A.deeper (envOfC x (defScope st) s.heap.objs.size f (.ref c))) → sp vs H Q E →
      ∃ t, PSs (cxOf CX0 P w K mg base N x (defScope st) f (.ref c) A outer s H E).nox (defBody st) t ∧
        t { nx := fun _ H' => Q .non H', rt := Q } (start N vs) H) :
    CalleeP P w K mg base CX0 (k + 1) x ps sp := by
  obtain ⟨f, oc, od, kV, doc, pm, an, ct, osl, lk, cd, kp, m, b⟩ := D.ex
  refine ⟨f, _, ⟨len, fun A frames s H given us vs Q E room ng e0 hb hv hs => ?_⟩, m, kp, b, ⟨_, _, _, lk⟩⟩
  refine LamX.run_ofS lk cd S room e0 hb hv (len _ _ _ _ hs) fun room' => ?_
  obtain ⟨t, h, q⟩ := body f A frames s H vs Q E ng room' hs
  exact ⟨t, h.nox, q⟩
end
theorem passL2 {X : Cx} {A : Around} {outer : List Env} {s : Shared} {H : Hp} {E : XK} {scope : Scope} {f c' : Addr} :
    Passes (L2.CX X.prog X.w) (lamCx X A outer s H E scope f c') E :=
  passes_call (W := fun cls d _ H => E cls d H) (takes_of rfl rfl rfl rfl) (fun _ _ _ _ h => h)
end HG
namespace K01
open PySem PySem.Spec PyProof.Rows L2 HG LamX
/-- the law's def that catches -/
structure Catch (K : PySem.W.Frag) (mg : Str → Option Value) (CE : Addr) : Prop where
  ex : ∃ (g : Addr) (oc : Value) (od : Option Addr) (kV doc pm : Value) (an : Option Addr) (cdv ct : Value) (osl : Array (Option Value)),
    K.lookup g = some ⟨oc, od, .func (PySem.W.fnOf "_law_caught" "_law_caught" (defArgs s_l_caught) (defBody s_l_caught) (defScope s_l_caught) .none kV doc pm an cdv ct), osl⟩ ∧
    PySem.W.codeIn K cdv "_law_caught" = true ∧ PySem.W.keepIn K (.ref g) = true ∧ mg "_law_caught" = some (.ref g) ∧
    Binds K (PySem.W.fnOf "_law_caught" "_law_caught" (defArgs s_l_caught) (defBody s_l_caught) (defScope s_l_caught) .none kV doc pm an cdv ct) ["task"] []
  ce : mg "ClockError" = some (.ref CE)
theorem pe_caught {X : Cx} {CE c P : Addr} {T : List (Addr × Str)} {k : Nat} {params : Arguments} {body : Expr} {scope : Scope} {t : XK → TE} {p lpos pos : Pos}
    (G : Catch X.K X.mg CE) (TB : TabB X.base X.mg c P) (hcode : X.env.code = .ref c) (hmT : (P, X.env.qual ++ "<lambda>") ∈ T)
    (hu : ∀ p ∈ T, p.1 = P → p.2 = X.env.qual ++ "<lambda>") (hr : Room (k + 2) X.A) (hg : Gl X "_law_caught") (L : LamS X.env.scope scope)
    (hdef : defaultsOf params X.env = ([], []))
    (hbind : ∀ (q : Str) (cl : List (Str × Addr)) (pm cv ctv : Value), bindArgs (PySem.W.kla_fn "<lambda>" q params body scope cl pm cv ctv) ⟨[], []⟩ = pure [])
    (hbody : ∀ (A : Around) (outer : List Env) (s : Shared) (H : Hp) (E : XK) (f c' : Addr), Room k (A.deeper (lamEnv X scope s.heap.objs.size f c')) → PE (lamCx X A outer s H E scope f c') body (t E)) :
    PE X (.Call (.Name "_law_caught" p) [.Lambda params body scope lpos] [] pos) (tLam T (TTc X.K CE) t) := by
  obtain ⟨g, oc, od, kV, doc, pm, an, cdv, ct, osl, lk, cd, kp, m, b⟩ := G.ex
  exact pe_lamcall hg m kp lk cd b sc_l_caught rfl (.inl rfl) (caught_gives G.ce) TB hcode hmT hu hr L hdef hbind hbody
theorem arg_list {ta : TA} {σ : L2.St} {H : Hp} {Q : List V → Hp → Prop}
    (h : ta σ H fun xs H1 => xs.length ≤ sizeLine ∧ ∀ p, H1 p = none → Q [.ref p] (upd H1 p (.lst xs))) : tCons (tLst ta) tNil σ H Q := h
end K01
set_option maxHeartbeats 2000000
namespace HG
open PySem PySem.Spec PyProof.Rows L2 LamX
/-- an own error class: caught by the package's base class, told apart -/
structure ErrZ (K : PySem.W.Frag) (CE C : Addr) : Prop where
  is : ExcC K C
  hit : PySem.W.exmOne K (.ref C) (.ref CE) = some true
  own : PySem.W.kitOne K (.ref C) (.ref C) = some true
def Xd (H : Hp) (d : Option Addr) (fs : List (Str × V)) : Prop := (d = none ∧ fs = []) ∨ ∃ a, d = some a ∧ H a = some (.xd fs)
/-- the task raises C: its exception is kept -/
theorem caught_err {K : PySem.W.Frag} {CE C : Addr} {fs : List (Str × V)} {T : List (Addr × Str)} {t : XK → TE} {σ : L2.St} {H : Hp} {Q : VK}
    (c : ErrZ K CE C) (hT : Tabs T H) (run : ∀ H1 Q E, KeepW [] H H1 → (∀ d H2, Keep [] H1 H2 → Xd H2 d fs → E (.ref C) d H2) → t E σ H1 Q)
    (next : ∀ a H', KeepW [] H H' → Tabs T H' → ExK K H' a C fs → Q (.ref a) H') : tLam T (TTc K CE) t σ H Q := by
  refine ⟨hT, fun H1 eN T1 => ?_⟩
  refine run H1 _ _ (extN_keep eN) fun d H2 k2 hd => ⟨c.hit, fun a na => ?_⟩
  have k3 : Keep [] H1 (upd H2 a (Exn (.ref C) d a)) := k2.trans (Keep.new na)
  refine next a _ ((extN_keep eN).trans k3.toKeepW) (tabs_keep k3 nilExt T1) ⟨c.is, ?_⟩
  rcases hd with ⟨rfl, rfl⟩ | ⟨b, rfl, hb⟩
  · exact .inl ⟨upd_same, rfl⟩
  · exact .inr ⟨b, upd_same, by rw [upd_ne (ne_of_none hb na)]; exact hb⟩
theorem ExK.keep0 {K : PySem.W.Frag} {H H' : Hp} {a C : Addr} {fs : List (Str × V)} (h : ExK K H a C fs) (k : KeepW [] H H') : ExK K H' a C fs := h.keep k (fun _ m => nomatch m)
theorem ExK.keepL {K : PySem.W.Frag} {H H' : Hp} {a C l : Addr} {xs : List V} {fs : List (Str × V)} (h : ExK K H a C fs) (e : H l = some (.lst xs)) (k : KeepW [l] H H') : ExK K H' a C fs := h.keep k (fun b m => by
  rcases List.mem_cons.mp m with rfl | m
  · exact ⟨_, e, (fun _ z => by cases z), (fun _ z => by cases z)⟩
  · cases m)
end HG
namespace K01
open PySem PySem.Spec PyProof.Rows L2 HG HN HM LamX
section
variable {P : Program} {w : World} {K : PySem.W.Frag} {mg : Str → Option Value} {base : Heap}
def sp_refusals (K : PySem.W.Frag) (C : Addr) (T : List (Addr × Str)) : Sp := fun vs H Q _ => ∃ (p g c : Addr) (n : Int) (v l m x : V) (L : List Str) (G : List (List Move)) (W : List Str), vs = [.ref p, v, l, m, x] ∧ Draw H p g c n ∧ n < 999990000 ∧
  Mem K C H v L G ∧ Letters L ∧ GrOk G L.length ∧ L.length ≤ 4 ∧ G.length ≤ 4 ∧ Lt K H l L ∧ Gr K H m G ∧ Lt K H x W ∧ W.length ≤ 6000 ∧ Tabs T H ∧
  ∀ H', KeepW [p, g] H H' → Tabs T H' → Draw H' p g c (n + 30) → Q (.bl true) H'
theorem pick_lst {H : Hp} {p g c m : Addr} {n : Int} {xs : List V} {Q : VK} {E : XK} {Φ : Hp → V → Prop} (dr : Draw H p g c n) (small : n < 1000000000) (nm : H m = none) (x0 : 0 < xs.length) (x1 : xs.length < 10000)
    (hΦ : ∀ H', Keep [p, g] H H' → ∀ x ∈ xs, Φ H' x) (next : ∀ x H', Keep [p, g] H H' → Draw H' p g c (n + 1) → Φ H' x → Q x H') : sp_some K [.ref p, .ref m] (upd H m (.lst xs)) Q E := by
  have k : Keep [] H (upd H m (.lst xs)) := Keep.new nm
  refine ⟨p, g, c, n, .ref m, xs, rfl, dr.keep k.toKeepW, small, .lst (.inl (.inl upd_same)) (dr.known.out nm), x0, x1, fun i v H' hv k2 d2 => ?_⟩
  have kk := k.nil.trans k2
  exact next v H' kk d2 (hΦ H' kk v (List.mem_of_getElem? hv))
theorem all_cons {Φ : V → Prop} {x : V} {xs : List V} (a : Φ x) (b : ∀ y ∈ xs, Φ y) : ∀ y ∈ x :: xs, Φ y := List.forall_mem_cons.mpr ⟨a, b⟩
theorem lenOk {W : List Str} {j : Nat} {ys : List V} (jl : j ≤ (W.map V.str).length) (h1 : ys.length ≤ 1) (lenW : W.length ≤ 6000) : ((W.map V.str).take j).length + ys.length ≤ sizeLine := by
  rw [List.length_map] at jl
  rw [List.length_take, List.length_map]
  refine Nat.le_trans (m := 6001) ?_ (by decide)
  omega
theorem lenOk2 {W : List Str} {j : Nat} {y : V} (jl : j ≤ (W.map V.str).length) (lenW : W.length ≤ 6000) : ((W.map V.str).take j ++ [y]).length + ((W.map V.str).drop j).length ≤ sizeLine := by
  rw [List.length_append, List.length_take, List.length_drop, List.length_map]
  rw [List.length_map] at jl
  refine Nat.le_trans (m := 12001) ?_ (by decide)
  simp only [List.length_singleton]
  omega
theorem _root_.HG.Draw.outMem {K : PySem.W.Frag} {H : Hp} {p g c C : Addr} {n : Int} {v : V} {L : List Str} {G : List (List Move)} (d : Draw H p g c n) (h : Mem K C H v L G) : Out [p, g] v := fun a e m => by
  obtain ⟨b, dx, l, mm, rfl, hb, _⟩ := h.ex
  cases e
  obtain ⟨_, gs, cs, left, turn, e1, e2, e3, _⟩ := d
  rcases List.mem_cons.mp m with rfl | m
  · rw [hb] at e1
    cases e1
  · rcases List.mem_cons.mp m with rfl | m
    · rw [hb] at e2
      cases e2
    · cases m
theorem no_dash {L : List Str} (lok : Letters L) {x : Str} : x ++ (Str.ofString "_") ∉ L := fun m => by
  have q := (lok.all _ m).good 95 (by
    show 95 ∈ (x.cps ++ #[95]).toList
    simp)
  exact absurd q (by decide +kernel)
theorem no_empty {L : List Str} (lok : Letters L) : (Str.ofString "") ∉ L := fun m => by
  have q := (lok.all _ m).some
  exact absurd q (by decide)
theorem all_nil {Φ : V → Prop} : ∀ y ∈ ([] : List V), Φ y := fun _ m => nomatch m
theorem ok_refusals {CE cc Pt C : Addr} (D : DefC K mg "_law_refusals" s_l_refusals ["draw", "store", "signs", "grid", "row"] cc) (G : Catch K mg CE) (M : MemC K mg C)
    (zs : mg "isinstance" = none) (zl : mg "len" = none) (zL : mg "list" = none) (TB : TabB base mg cc Pt) {T : List (Addr × Str)}
    (hm : (Pt, (envOfC "_law_refusals" (defScope s_l_refusals) 0 0 .none).qual ++ "<lambda>") ∈ T)
    (hu : ∀ p ∈ T, p.1 = Pt → p.2 = (envOfC "_law_refusals" (defScope s_l_refusals) 0 0 .none).qual ++ "<lambda>")
    (no : ∀ T ∈ plainT, PySem.W.kitOne K (.type T) (.ref C) = some false)
    {CB CS CW CL : Addr} (zB : ErrZ K CE CB) (zS : ErrZ K CE CS) (zW : ErrZ K CE CW) (zLt : ErrZ K CE CL) (xB : XfC K CB) (xn : PySem.W.findIn K (.ref CB) "part" = some none)
    (mB : mg "BadMemory" = some (.ref CB)) (mS : mg "BadState" = some (.ref CS)) (mW : mg "BadWord" = some (.ref CW)) (mL : mg "BadLetter" = some (.ref CL))
    (CT : CTake P w K mg base) (CK : CSome P w K mg base) (CO : Callee P w K mg base CX0 1 "_law_strange" ["signs"] (sp_lstrange K))
    (CR : Callee P w K mg base (L2.CX P w) 6 "read" ["memory", "state", "word"] (sp_readX K C CB CS CW))
    (CP : Callee P w K mg base (L2.CX P w) 6 "stepped" ["memory", "state", "letter"] (sp_steppedX K C CB CS CL))
    (CN : Callee P w K mg base (L2.CX P w) 7 "negated" ["memory"] (sp_negatedX K C CB)) :
    Callee P w K mg base CX0 10 "_law_refusals" ["draw", "store", "signs", "grid", "row"] (sp_refusals K C T) := by
  refine D.ok sc_l_refusals (fun vs H Q E h => ?_) (fun f A outer s H vs Q E hr h => ?_)
  · obtain ⟨p, g, c, n, v, l, m, x, L, G, W, rfl, _⟩ := h
    rfl
  obtain ⟨p, g, c, n, v, l, m, x, L, Gd, W, rfl, dr, small, hM, lok, gok, fewL, fewG, hl, hg, hw, lenW, tabs, q⟩ := h
  have nd := sc_l_refusals.nd
  have Lm : ∀ {scope : Scope}, lamSB (defScope s_l_refusals) scope = true → LamS (defScope s_l_refusals) scope := fun h => lamS_by h
  refine ⟨_, pss_cons (ps_set (i := 11) nd rfl (.inr rfl) (pe_c CK hr (pa_cons (pv 0) (pa_cons (pe_lst (pa_cons pe_non (pa_cons pe_int (pa_cons (pv 2) (pa_cons (pv 3) (pa_cons (pe_tup (pa_cons (pv 2) (pa_cons (pv 3) pa_nil))) (pa_cons pe_str pa_nil))))))) pa_nil))))
    (pss_cons (ps_set (i := 8) nd rfl (.inr rfl) (pe_c CK hr (pa_cons (pv 0) (pa_cons (pe_lst (pa_cons (pe_un un_neg pe_int) (pa_cons (pe_callB call_len_seq (by rfl) zl PySem.boot_len (pa_cons (pv 3) pa_nil))
        (pa_cons (pe_op op_add (pe_callB call_len_seq (by rfl) zl PySem.boot_len (pa_cons (pv 3) pa_nil)) pe_int) (pa_cons pe_bl (pa_cons pe_non (pa_cons pe_str (pa_cons (pe_tup (pa_cons pe_int pa_nil)) (pa_cons (pe_lst (pa_cons pe_int pa_nil)) pa_nil))))))))) pa_nil))))
    (pss_cons (ps_set (i := 12) nd rfl (.inr rfl) (pe_c CK hr (pa_cons (pv 0) (pa_cons (pe_lst (pa_cons (pe_c CO hr (pa_cons (pv 2) pa_nil)) (pa_cons pe_non (pa_cons pe_int (pa_cons (pe_tup (pa_cons (pe_ix ix_tup (pv 2) pe_int (fun _ _ => rfl)) pa_nil))
        (pa_cons (pe_op op_add_str (pe_ix ix_tup (pv 2) pe_int (fun _ _ => rfl)) pe_str) (pa_cons pe_str (pa_cons (pe_callTy call_list_of (by rfl) zL (by decide +kernel) (pa_cons (pv 2) pa_nil)) pa_nil)))))))) pa_nil))))
    (pss_cons (ps_set (i := 5) nd rfl (.inl rfl) (pe_c CT hr (pa_cons (pv 0) (pa_cons (pe_op op_add (pe_callB call_len_seq (by rfl) zl PySem.boot_len (pa_cons (pv 4) pa_nil)) pe_int) pa_nil))))
    (pss_cons (ps_set (i := 10) nd rfl (.inr rfl) (pe_c CK hr (pa_cons (pv 0) (pa_cons (pe_lst (pa_cons (pe_callTy call_list_of (by rfl) zL (by decide +kernel) (pa_cons (pv 4) pa_nil)) (pa_cons (pe_ix ix_tup (pv 2) pe_int (fun _ _ => rfl)) (pa_cons pe_non
        (pa_cons (pe_op op_catA (pe_op op_catA (pe_slice sl_tupA (pv 4) po_none (po_some (pv 5))) (pe_tup (pa_cons (pe_c CO hr (pa_cons (pv 2) pa_nil)) pa_nil))) (pe_slice sl_tupA (pv 4) (po_some (pv 5)) po_none))
        (pa_cons (pe_op op_catA (pe_op op_catA (pe_slice sl_tupA (pv 4) po_none (po_some (pv 5))) (pe_tup (pa_cons pe_non pa_nil))) (pe_slice sl_tupA (pv 4) (po_some (pv 5)) po_none))
        (pa_cons (pe_op op_catA (pe_op op_catA (pe_slice sl_tupA (pv 4) po_none (po_some (pv 5))) (pe_tup (pa_cons (pe_lst (pa_cons pe_str pa_nil)) pa_nil))) (pe_slice sl_tupA (pv 4) (po_some (pv 5)) po_none))
        (pa_cons pe_int pa_nil)))))))) pa_nil))))
    (pss_cons (ps_set (i := 6) nd rfl (.inl rfl) (pe_lst (pa_cons (pe_caught (T := T) (k := 7) G TB rfl hm hu hr rfl (Lm (by decide +kernel)) rfl (fun _ _ _ _ _ => rfl)
        (fun A outer s H E f c' hr' => pe_cE CR hr' passL2 (pa_cons (pv 11) (pa_cons (pv 8) (pa_cons (pv 10) pa_nil))))) pa_nil)))
    (pss_cons (ps_expr (pe_bm PySem.F.plainAttrs_list PySem.F.slot_list_append PySem.F.type_list_append mt_append (pv 6) (pa_cons (pe_caught (T := T) (k := 7) G TB rfl hm hu hr rfl (Lm (by decide +kernel)) rfl (fun _ _ _ _ _ => rfl)
        (fun A outer s H E f c' hr' => pe_cE CP hr' passL2 (pa_cons (pv 11) (pa_cons pe_int (pa_cons (pv 12) pa_nil))))) pa_nil)))
    (pss_cons (ps_expr (pe_bm PySem.F.plainAttrs_list PySem.F.slot_list_append PySem.F.type_list_append mt_append (pv 6) (pa_cons (pe_caught (T := T) (k := 7) G TB rfl hm hu hr rfl (Lm (by decide +kernel)) rfl (fun _ _ _ _ _ => rfl)
        (fun A outer s H E f c' hr' => pe_cE CN hr' passL2 (pa_cons (pv 11) pa_nil))) pa_nil)))
    (pss_cons (ps_for PassesOwn.never rfl (pi_list (pv 6)) (pg_name (i := 7) nd rfl (.inl rfl)) (pss_one (ps_if (PW.pt (pw_or (pt_not (pt_val (pe_callB call_isK2 (by rfl) zs (by decide +kernel) (pa_cons (pv 7) (pa_cons (pe_glob (v := .ref CB) rfl mB rfl) pa_nil)))))
        (pw_or1 (pt_cmpR op_notN (pe_xk (pv 7)) pe_non (by rfl))))) (pss_one (ps_ret pe_bl)) pss_nil)))
    (pss_cons (ps_set (i := 6) nd rfl (.inl rfl) (pe_lst (pa_cons (pe_caught (T := T) (k := 7) G TB rfl hm hu hr rfl (Lm (by decide +kernel)) rfl (fun _ _ _ _ _ => rfl)
        (fun A outer s H E f c' hr' => pe_cE CR hr' passL2 (pa_cons (pv 1) (pa_cons (pv 8) (pa_cons (pv 10) pa_nil))))) pa_nil)))
    (pss_cons (ps_expr (pe_bm PySem.F.plainAttrs_list PySem.F.slot_list_append PySem.F.type_list_append mt_append (pv 6) (pa_cons (pe_caught (T := T) (k := 7) G TB rfl hm hu hr rfl (Lm (by decide +kernel)) rfl (fun _ _ _ _ _ => rfl)
        (fun A outer s H E f c' hr' => pe_cE CP hr' passL2 (pa_cons (pv 1) (pa_cons (pv 8) (pa_cons (pv 12) pa_nil))))) pa_nil)))
    (pss_cons (ps_expr (pe_bm PySem.F.plainAttrs_list PySem.F.slot_list_append PySem.F.type_list_append mt_append (pv 6) (pa_cons (pe_caught (T := T) (k := 7) G TB rfl hm hu hr rfl (Lm (by decide +kernel)) rfl (fun _ _ _ _ _ => rfl)
        (fun A outer s H E f c' hr' => pe_cE CR hr' passL2 (pa_cons (pv 1) (pa_cons (pv 8) (pa_cons (pv 4) pa_nil))))) pa_nil)))
    (pss_cons (ps_expr (pe_bm PySem.F.plainAttrs_list PySem.F.slot_list_append PySem.F.type_list_append mt_append (pv 6) (pa_cons (pe_caught (T := T) (k := 7) G TB rfl hm hu hr rfl (Lm (by decide +kernel)) rfl (fun _ _ _ _ _ => rfl)
        (fun A outer s H E f c' hr' => pe_cE CP hr' passL2 (pa_cons (pv 1) (pa_cons (pv 8) (pa_cons (pe_ix (r := rIxT K) ix_tup (pv 2) pe_int (fun _ _ => rfl)) pa_nil))))) pa_nil)))
    (pss_cons (ps_if (pt_cmpR (op_neD hr.units) (pe_lc (own := [("error", 7)]) (g := gName 7) rfl nd (pi_list (pv 6))
        (blkOk_by (N := ["draw", "store", "signs", "grid", "row", "k", "some", "error", "away", "here", "item", "odd", "sign"]) (sc := defScope s_l_refusals) (by decide +kernel))
        (fun _ _ _ _ _ => pg_name (i := 7) nd rfl (Or.inl rfl)) (fun _ _ _ _ _ => pts_one (pt_not (pt_val (pe_callB (id := "isinstance") (r := rIsK2 K) call_isK2 (by rfl) zs (by decide +kernel) (pa_cons (pv 7) (pa_cons (pe_glob (v := .ref CS) (u := .ref CS) rfl mS rfl) pa_nil)))))) (fun _ _ _ _ _ => pe_int)) (pe_lst pa_nil) (nomark _))
        (pss_one (ps_ret pe_bl)) pss_nil)
    (pss_cons (ps_set (i := 9) nd rfl (.inr rfl) (pe_c CT hr (pa_cons (pv 0) (pa_cons (pe_callB call_len_seq (by rfl) zl PySem.boot_len (pa_cons (pv 3) pa_nil)) pa_nil))))
    (pss_cons (ps_if (pt_not (pt_val (pe_callB call_isK2 (by rfl) zs (by decide +kernel) (pa_cons (pe_caught (T := T) (k := 7) G TB rfl hm hu hr rfl (Lm (by decide +kernel)) rfl (fun _ _ _ _ _ => rfl)
        (fun A outer s H E f c' hr' => pe_cE CR hr' passL2 (pa_cons (pv 1) (pa_cons (pv 9) (pa_cons (pv 10) pa_nil))))) (pa_cons (pe_glob (v := .ref CW) rfl mW rfl) pa_nil))))) (pss_one (ps_ret pe_bl)) pss_nil)
    (pss_one (ps_ret (pe_callB call_isK2 (by rfl) zs (by decide +kernel) (pa_cons (pe_caught (T := T) (k := 7) G TB rfl hm hu hr rfl (Lm (by decide +kernel)) rfl (fun _ _ _ _ _ => rfl)
        (fun A outer s H E f c' hr' => pe_cE CP hr' passL2 (pa_cons (pv 1) (pa_cons (pv 9) (pa_cons (pv 12) pa_nil))))) (pa_cons (pe_glob (v := .ref CL) rfl mL rfl) pa_nil)))))))))))))))))))), ?_⟩
  obtain ⟨la, rfl, hla⟩ := id hl
  obtain ⟨ma, rs, rfl, hma, lenG, atG⟩ := id hg
  obtain ⟨wa, rfl, hwa⟩ := id hw
  have less : ∀ x ∈ ([] : List Addr), x ∈ [p, g] := fun _ m => nomatch m
  -- odd
  refine ⟨_, rfl, _, rfl, _, rfl, _, rfl, _, rfl, by show 2 ≤ sizeLine; decide, fun tq ntq => ⟨by show 6 ≤ sizeLine; decide, fun m1 nm1 => ?_⟩⟩
  have kt : Keep [] H (upd H tq (.tup [.ref la, .ref ma])) := Keep.new ntq
  show sp_some K [.ref p, .ref m1] _ _ L2.E0
  refine pick_lst (Φ := OddV [p, g] K) (dr.keep kt.toKeepW) (by omega) nm1 (by simp) (by simp) (fun H' k => ?_) (fun odd H1 k1 d1 odd1 => ?_)
  · have kk := (kt.nil.trans k).toKeepW
    exact all_cons ⟨"NoneType", by decide +kernel, .non⟩ (all_cons ⟨"int", by decide +kernel, .int _⟩ (all_cons ⟨"tuple", by decide +kernel, .tup (sqT_keep kk hla)⟩ (all_cons ⟨"tuple", by decide +kernel, .tup (sqT_keep kk hma)⟩
      (all_cons ⟨"tuple", by decide +kernel, .tup (sqT_keep k.toKeepW (.inl (.inl upd_same)))⟩ (all_cons ⟨"str", by decide +kernel, .str _⟩ all_nil)))))
  have K1 := kt.nil.trans k1
  dsimp only [gName]
  have hla1 := sqT_keep K1.toKeepW hla
  have hma1 := sqT_keep K1.toKeepW hma
  -- away
  refine ⟨_, rfl, _, rfl, _, rfl, ma, rs, rfl, .inr hma1, _, rfl, ma, rs, rfl, .inr hma1, _, _, rfl, rfl, ?_⟩
  refine ⟨by show 1 ≤ sizeLine; decide, fun t2 nt2 => ⟨by show 1 ≤ sizeLine; decide, fun l2 nl2 => ⟨by show 8 ≤ sizeLine; decide, fun m2 nm2 => ?_⟩⟩⟩
  have ka : Keep [] H1 (upd (upd H1 t2 (.tup [.int 0])) l2 (.lst [.int 0])) := (Keep.new nt2).trans (Keep.new nl2)
  have ol2 : l2 ∉ [p, g] := (d1.keep (Keep.new nt2 (o := .tup [.int 0])).toKeepW).known.out nl2
  show sp_some K [.ref p, .ref m2] _ _ L2.E0
  refine pick_lst (Φ := fun H' x => AwayV [p, g] K H' x Gd.length) (d1.keep ka.toKeepW) (by omega) nm2 (by simp) (by simp) (fun H' k => ?_) (fun away H2 k2 d2 away2 => ?_)
  · have e2 : upd (upd H1 t2 (.tup [.int 0])) l2 (.lst [.int 0]) l2 = some (.lst [.int 0]) := upd_same
    have et : SqT K (upd (upd H1 t2 (.tup [.int 0])) l2 (.lst [.int 0])) t2 [.int 0] := .inl (.inl (by rw [upd_ne (ne_of_none upd_same nl2)]; exact upd_same))
    exact all_cons (.inl ⟨_, rfl, .inl (by decide)⟩) (all_cons (.inl ⟨_, rfl, .inr (by omega)⟩) (all_cons (.inl ⟨_, rfl, .inr (by omega)⟩)
      (all_cons (.inr ⟨"bool", .bl _, .inr ⟨by decide +kernel, by decide +kernel⟩⟩) (all_cons (.inr ⟨"NoneType", .non, .inl ⟨by decide +kernel, by decide +kernel⟩⟩)
      (all_cons (.inr ⟨"str", .str _, .inl ⟨by decide +kernel, by decide +kernel⟩⟩) (all_cons (.inr ⟨"tuple", .tup (sqT_keep k.toKeepW et), .inl ⟨by decide +kernel, by decide +kernel⟩⟩)
      (all_cons (.inr ⟨"list", .lst (k.toKeepW.get e2 ol2) ol2, .inl ⟨by decide +kernel, by decide +kernel⟩⟩) all_nil)))))))
  have K2 := K1.trans (ka.nil.trans k2)
  have kk2 := ka.nil.trans k2
  dsimp only [gName]
  have hla2 := sqT_keep K2.toKeepW hla
  -- sign
  have h0 : (L.map V.str)[0]? = some (V.str (L[0]'lok.pos)) := by rw [List.getElem?_map, List.getElem?_eq_getElem lok.pos]; rfl
  refine ⟨_, rfl, _, rfl, .ref la, L, rfl, ⟨la, rfl, hla2⟩, fewL, fun z H3 nz oz k3 => ?_⟩
  have hla3 := sqT_keep k3.toKeepW hla2
  refine ⟨_, rfl, la, _, _, _, rfl, rfl, hla3, atI_nat (j := 0) h0, by show 1 ≤ sizeLine; decide, fun t3 nt3 => ?_⟩
  have k3b : Keep [] H3 (upd H3 t3 (.tup [.str (L[0]'lok.pos)])) := Keep.new nt3
  have hla3b := sqT_keep k3b.toKeepW hla3
  refine ⟨_, rfl, la, _, _, _, rfl, rfl, hla3b, atI_nat (j := 0) h0, _, _, rfl, rfl, ?_, ?_⟩
  · have := (lok.all _ (List.getElem_mem lok.pos)).few
    show _ + 1 ≤ sizeLine
    exact Nat.le_trans (Nat.add_le_add_right this 1) (by decide)
  refine ⟨_, rfl, la, _, rfl, .inr hla3b, fun l3 nl3 => ⟨by show 7 ≤ sizeLine; decide, fun m3 nm3 => ?_⟩⟩
  have k3c := k3b.trans (Keep.new (o := .lst (L.map V.str)) nl3)
  have kc : Keep [] H2 _ := k3.trans k3c
  have ol3 : l3 ∉ [p, g] := (d2.keep (k3.trans k3b).toKeepW).known.out nl3
  show sp_some K [.ref p, .ref m3] _ _ L2.E0
  refine pick_lst (Φ := fun H' x => SignV [p, g] K H' L x) (d2.keep kc.toKeepW) (by omega) nm3 (by simp) (by simp) (fun H' k => ?_) (fun sign H4 k4 d4 sign4 => ?_)
  · have e3 : upd (upd H3 t3 (.tup [.str (L[0]'lok.pos)])) l3 (.lst (L.map V.str)) l3 = some (.lst (L.map V.str)) := upd_same
    have et : SqT K (upd (upd H3 t3 (.tup [.str (L[0]'lok.pos)])) l3 (.lst (L.map V.str))) t3 [.str (L[0]'lok.pos)] := .inl (.inl (by rw [upd_ne (ne_of_none upd_same nl3)]; exact upd_same))
    exact all_cons (.inl ⟨z, rfl, nz⟩) (all_cons (.inr ⟨"NoneType", .non, by decide +kernel⟩) (all_cons (.inr ⟨"int", .int _, by decide +kernel⟩) (all_cons (.inr ⟨"tuple", .tup (sqT_keep k.toKeepW et), by decide +kernel⟩)
      (all_cons (.inl ⟨_, rfl, no_dash lok⟩) (all_cons (.inl ⟨_, rfl, no_empty lok⟩) (all_cons (.inr ⟨"list", .lst (k.toKeepW.get e3 ol3) ol3, by decide +kernel⟩) all_nil))))))
  have kk4 := kc.nil.trans k4
  have K4 := K2.trans kk4
  dsimp only [gName]
  have hwa4 := sqT_keep K4.toKeepW hwa
  -- k
  refine ⟨_, rfl, _, rfl, wa, _, rfl, .inr hwa4, _, _, rfl, rfl, p, g, c, _, _, rfl, d4, by omega, by omega, by rw [List.length_map]; omega, fun k H5 k0 k1' k5 d5 => ?_⟩
  rw [List.length_map] at k1'
  dsimp only [gName]
  have K5 := K4.trans k5
  have hwa5 := sqT_keep K5.toKeepW hwa
  have hla5 := sqT_keep K5.toKeepW hla
  -- item
  refine ⟨_, rfl, _, rfl, wa, _, rfl, .inr hwa5, fun l4 nl4 => ?_⟩
  have k6 : Keep [] H5 (upd H5 l4 (.lst (W.map V.str))) := Keep.new nl4
  have e4 : upd H5 l4 (.lst (W.map V.str)) l4 = some (.lst (W.map V.str)) := upd_same
  have ol4 : l4 ∉ [p, g] := d5.known.out nl4
  have hwa6 := sqT_keep k6.toKeepW hwa5
  have hla6 := sqT_keep k6.toKeepW hla5
  have d6 := d5.keep k6.toKeepW
  generalize upd H5 l4 (.lst (W.map V.str)) = H6 at k6 e4 hwa6 hla6 d6 ⊢
  obtain ⟨j, rfl⟩ : ∃ j : Nat, k = (j : Int) := ⟨k.toNat, by omega⟩
  have jl : j ≤ (W.map V.str).length := by rw [List.length_map]; omega
  refine ⟨_, rfl, la, _, _, _, rfl, rfl, hla6, atI_nat (j := 0) h0, ?_⟩
  refine ⟨_, rfl, _, rfl, _, rfl, cutA hwa6 (fun b7 H7 k7 h7 => ?_)⟩
  rw [cut_to jl] at h7
  have hla7 := sqT_keep k7.toKeepW hla6
  refine ⟨_, rfl, .ref la, L, rfl, ⟨la, rfl, hla7⟩, fewL, fun z8 H8 nz8 oz8 k8 => ⟨by show 1 ≤ sizeLine; decide, fun t8 nt8 => ?_⟩⟩
  have k8b := k8.trans (Keep.new (o := .tup [.str z8]) nt8)
  have h8 : SqT K (upd H8 t8 (.tup [.str z8])) t8 [.str z8] := .inl (.inl upd_same)
  generalize upd H8 t8 (.tup [.str z8]) = H8b at k8b h8 ⊢
  refine sumA (sqT_keep k8b.toKeepW h7) h8 (lenOk jl (by simp) (W := W) lenW) (fun b9 H9 k9 h9 => ?_)
  have k69 := (k7.trans k8b).trans k9
  have hwa9 := sqT_keep k69.toKeepW hwa6
  refine ⟨_, rfl, _, rfl, _, rfl, ?_⟩
  dsimp only [tNoPart]
  refine cutA hwa9 (fun b10 H10 k10 h10 => ?_)
  rw [cut_from jl] at h10
  refine sumA (sqT_keep k10.toKeepW h9) h10 (lenOk2 jl lenW) (fun i1 H11 k11 h11 => ?_)
  have k6b := (k69.trans k10).trans k11
  have hwaA := sqT_keep k6b.toKeepW hwa6
  have dA := d6.keep k6b.toKeepW
  -- (None,)
  refine ⟨_, rfl, _, rfl, _, rfl, cutA hwaA (fun b7 H12 k12 h12 => ⟨by show 1 ≤ sizeLine; decide, fun t13 nt13 => ?_⟩)⟩
  rw [cut_to jl] at h12
  have k13 : Keep [] H12 (upd H12 t13 (.tup [.non])) := Keep.new nt13
  have h13 : SqT K (upd H12 t13 (.tup [.non])) t13 [.non] := .inl (.inl upd_same)
  generalize upd H12 t13 (.tup [.non]) = H13 at k13 h13 ⊢
  refine sumA (sqT_keep k13.toKeepW h12) h13 (lenOk jl (by simp) (W := W) lenW) (fun b14 H14 k14 h14 => ?_)
  have k1114 := (k12.trans k13).trans k14
  refine ⟨_, rfl, _, rfl, _, rfl, ?_⟩
  dsimp only [tNoPart]
  refine cutA (sqT_keep k1114.toKeepW hwaA) (fun b15 H15 k15 h15 => ?_)
  rw [cut_from jl] at h15
  refine sumA (sqT_keep k15.toKeepW h14) h15 (lenOk2 jl lenW) (fun i2 H16 k16 h16 => ?_)
  have k1116 := (k1114.trans k15).trans k16
  have hwaB := sqT_keep k1116.toKeepW hwaA
  have dB := dA.keep k1116.toKeepW
  -- (['a'],)
  refine ⟨_, rfl, _, rfl, _, rfl, cutA hwaB (fun b17 H17 k17 h17 => ⟨by show 1 ≤ sizeLine; decide, fun l18 nl18 => ⟨by show 1 ≤ sizeLine; decide, fun t18 nt18 => ?_⟩⟩)⟩
  rw [cut_to jl] at h17
  have ol18 : l18 ∉ [p, g] := (dB.keep k17.toKeepW).known.out nl18
  have k18 : Keep [] H17 (upd (upd H17 l18 (.lst [.str (Str.ofString "a")])) t18 (.tup [.ref l18])) := (Keep.new nl18).trans (Keep.new nt18)
  have h18 : SqT K (upd (upd H17 l18 (.lst [.str (Str.ofString "a")])) t18 (.tup [.ref l18])) t18 [.ref l18] := .inl (.inl upd_same)
  have e18 : (upd (upd H17 l18 (.lst [.str (Str.ofString "a")])) t18 (.tup [.ref l18])) l18 = some (.lst [.str (Str.ofString "a")]) := by rw [upd_ne (ne_of_none upd_same nt18)]; exact upd_same
  generalize upd (upd H17 l18 (.lst [.str (Str.ofString "a")])) t18 (.tup [.ref l18]) = H18 at k18 h18 e18 ⊢
  refine sumA (sqT_keep k18.toKeepW h17) h18 (lenOk jl (by simp) (W := W) lenW) (fun b19 H19 k19 h19 => ?_)
  have k1619 := (k17.trans k18).trans k19
  refine ⟨_, rfl, _, rfl, _, rfl, ?_⟩
  dsimp only [tNoPart]
  refine cutA (sqT_keep k1619.toKeepW hwaB) (fun b20 H20 k20 h20 => ?_)
  rw [cut_from jl] at h20
  refine sumA (sqT_keep k20.toKeepW h19) h20 (lenOk2 jl lenW) (fun i3 H21 k21 h21 => ⟨by show 7 ≤ sizeLine; decide, fun m5 nm5 => ?_⟩)
  have k1821 := (k19.trans k20).trans k21
  have k1621 := (k17.trans k18).trans k1821
  have k1121 := k1116.trans k1621
  have k621 := k6b.trans k1121
  have d21 := d6.keep k621.toKeepW
  show sp_some K [.ref p, .ref m5] _ _ L2.E0
  refine pick_lst (Φ := fun H' x => ItemV [p, g] K H' L x) d21 (by omega) nm5 (by simp) (by simp) (fun H' k => ?_) (fun item H22 k22 d22 item22 => ?_)
  · have sh : ∀ (y : V), (W.map V.str).take j ++ [y] ++ (W.map V.str).drop j = (W.take j).map V.str ++ y :: (W.drop j).map V.str := fun y => by
      rw [List.map_take, List.map_drop, List.append_assoc]
      rfl
    rw [sh] at h11 h16 h21
    refine all_cons (.inl ⟨"list", .lst ((k621.nil.trans k).toKeepW.get e4 ol4) ol4, by decide +kernel⟩) (all_cons (.inl ⟨"str", .str _, by decide +kernel⟩) (all_cons (.inl ⟨"NoneType", .non, by decide +kernel⟩)
      (all_cons (.inr ⟨i1, _, _, _, rfl, sqT_keep (k1121.nil.trans k).toKeepW h11, .inl ⟨z8, rfl, nz8⟩⟩) (all_cons (.inr ⟨i2, _, _, _, rfl, sqT_keep (k1621.nil.trans k).toKeepW h16, .inr ⟨"NoneType", .non, by decide +kernel⟩⟩)
      (all_cons (.inr ⟨i3, _, _, _, rfl, sqT_keep k.toKeepW h21, .inr ⟨"list", .lst ((k1821.nil.trans k).toKeepW.get e18 ol18) ol18, by decide +kernel⟩⟩) (all_cons (.inl ⟨"int", .int _, by decide +kernel⟩) all_nil))))))
  have k522 : Keep [p, g] H5 H22 := (k6.trans k621).nil.trans k22
  have K22 := K5.trans k522
  dsimp only [gName]
  have odd22 := odd1.keep ((kk2.trans kk4).trans (k5.trans k522)).toKeepW
  have away22 := away2.keep (kk4.trans (k5.trans k522)).toKeepW
  have sign22 := sign4.keep (k5.trans k522).toKeepW
  have tb22 := tabs_keep K22 dr.noExt tabs
  have oM : Out [p, g] v := dr.outMem hM
  have hM22 := hM.keep K22.toKeepW oM
  have hl22 : Lt K H22 (.ref la) L := ⟨la, rfl, sqT_keep K22.toKeepW hla⟩
  have out0 : ∀ {P : Prop}, false = true → P := fun z => nomatch z
  have part : ∀ {Ha : Hp} {Ea : XK}, (∀ d H2, Keep [] Ha H2 → Xd H2 d [(("part" : Str), V.non)] → Ea (.ref CB) d H2) → ∀ d H', Keep [] Ha H' → H' d = some (.xd [("part", .non)]) → Ea (.ref CB) (some d) H' :=
    fun h d H' kk hd => h (some d) H' kk (.inr ⟨d, rfl, hd⟩)
  have nomem : ∀ {Ha : Hp}, KeepW [] H22 Ha → NoMem K C Ha odd := fun k => (odd22.keep k.nil).noMem no
  -- read(odd, away, item)
  show tLam T (TTc K CE) _ _ H22 _
  refine caught_err (fs := [("part", .non)]) zB tb22 (fun Ha Qa Ea ka ha => ⟨_, rfl, _, rfl, _, rfl, .inr ⟨odd, away, item, rfl, .inl ⟨nomem ka, part ha⟩⟩⟩) (fun a1 H23 k23 tb23 x1 => ⟨by show 1 ≤ sizeLine; decide, fun s1 ns1 => ?_⟩)
  have kL : Keep [] H23 (upd H23 s1 (.lst [.ref a1])) := Keep.new ns1
  have e24 : upd H23 s1 (.lst [.ref a1]) s1 = some (.lst [.ref a1]) := upd_same
  have f1 : Fr0 H22 s1 := k23.none ns1
  have w24 : KeepW [] H22 (upd H23 s1 (.lst [.ref a1])) := k23.trans kL.toKeepW
  have tb24 := tabs_keep kL nilExt tb23
  have x1 := x1.keep0 kL.toKeepW
  generalize upd H23 s1 (.lst [.ref a1]) = H24 at e24 w24 tb24 x1 ⊢
  dsimp only [gName]
  -- stepped(odd, 0, sign)
  refine ⟨_, rfl, .inl ⟨rfl, [.ref a1], SqL.of e24⟩, ?_⟩
  show tLam T (TTc K CE) _ _ H24 _
  refine caught_err (fs := [("part", .non)]) zB tb24 (fun Ha Qa Ea ka ha => ⟨_, rfl, _, rfl, .inr ⟨odd, .int 0, sign, rfl, .inl ⟨nomem (w24.trans ka), part ha⟩⟩⟩) (fun a2 H25 k25 tb25 x2 => ?_)
  have e25 := k25.get e24 (by simp)
  refine ⟨s1, [.ref a1], _, rfl, rfl, e25, small1000 (by simp), ?_⟩
  have k26 : Keep [s1] H25 (upd H25 s1 (.lst ([.ref a1] ++ [.ref a2]))) := Keep.chg e25 List.mem_cons_self (fun _ z => nomatch z) (fun _ _ z => nomatch z)
  have e26 : upd H25 s1 (.lst ([.ref a1] ++ [.ref a2])) s1 = some (.lst [.ref a1, .ref a2]) := upd_same
  have w26 : KeepW [] H22 (upd H25 s1 (.lst ([.ref a1] ++ [.ref a2]))) := (w24.trans k25).mut f1
  have n1 : ∀ {Hx : Hp} {xs : List V}, Hx s1 = some (.lst xs) → ∀ a ∈ [s1], ∀ φ, Hx a ≠ some (.ext φ) := fun e a m φ z => by
    rcases List.mem_cons.mp m with rfl | m
    · rw [e] at z
      cases z
    · cases m
  have tb26 := tabs_keep k26 (n1 e25) tb25
  have x1 := (x1.keep0 k25).keepL e25 k26.toKeepW
  have x2 := x2.keepL e25 k26.toKeepW
  generalize upd H25 s1 (.lst ([.ref a1] ++ [.ref a2])) = H26 at e26 w26 tb26 x1 x2 ⊢
  -- negated(odd)
  refine ⟨_, rfl, .inl ⟨rfl, _, SqL.of e26⟩, ?_⟩
  show tLam T (TTc K CE) _ _ H26 _
  refine caught_err (fs := [("part", .non)]) zB tb26 (fun Ha Qa Ea ka ha => ⟨_, rfl, .inr ⟨odd, rfl, nomem (w26.trans ka), part ha⟩⟩) (fun a3 H27 k27 tb27 x3 => ?_)
  have e27 := k27.get e26 (by simp)
  refine ⟨s1, _, _, rfl, rfl, e27, small1000 (by simp), ?_⟩
  have k28 : Keep [s1] H27 (upd H27 s1 (.lst ([.ref a1, .ref a2] ++ [.ref a3]))) := Keep.chg e27 List.mem_cons_self (fun _ z => nomatch z) (fun _ _ z => nomatch z)
  have e28 : upd H27 s1 (.lst ([.ref a1, .ref a2] ++ [.ref a3])) s1 = some (.lst [.ref a1, .ref a2, .ref a3]) := upd_same
  have w28 : KeepW [] H22 (upd H27 s1 (.lst ([.ref a1, .ref a2] ++ [.ref a3]))) := (w26.trans k27).mut f1
  have tb28 := tabs_keep k28 (n1 e27) tb27
  have x1 := (x1.keep0 k27).keepL e27 k28.toKeepW
  have x2 := (x2.keep0 k27).keepL e27 k28.toKeepW
  have x3 := x3.keepL e27 k28.toKeepW
  generalize upd H27 s1 (.lst ([.ref a1, .ref a2] ++ [.ref a3])) = H28 at e28 w28 tb28 x1 x2 x3 ⊢
  -- each of them is BadMemory, its part None
  refine ⟨_, rfl, s1, rfl, ⟨_, SqL.of e28⟩, for_list (xs := [.ref a1, .ref a2, .ref a3]) (fun i σ H' => ∃ u, σ = [some (.ref p), some v, some (.ref la), some (.ref ma), some (.ref wa), some (.int ((j : Nat) : Int)), some (.ref s1), u, some away, none, some item, some odd, some sign] ∧ H28 = H')
    ⟨none, rfl, rfl⟩ (fun i σ H' _ hh => ?_) (fun i y σ H' hy hh => ?_) (fun σ H' hh => ?_)⟩
  · obtain ⟨_, _, rfl⟩ := hh
    exact SqL.of e28
  · obtain ⟨u, rfl, rfl⟩ := hh
    obtain ⟨a, rfl, xa⟩ : ∃ a, y = .ref a ∧ ExK K H28 a CB [("part", .non)] := by
      match i, hy with
      | 0, hy => exact ⟨a1, (Option.some.inj hy).symm, x1⟩
      | 1, hy => exact ⟨a2, (Option.some.inj hy).symm, x2⟩
      | 2, hy => exact ⟨a3, (Option.some.inj hy).symm, x3⟩
    dsimp only [gName]
    refine ⟨_, rfl, a, CB, CB, _, true, rfl, xa, own_one, true, rfl, ?_⟩
    exact ⟨_, rfl, a, CB, _, .non, rfl, xa, xB, xn, rfl, rfl, _, rfl, _, rfl, rfl⟩
  obtain ⟨u, rfl, rfl⟩ := hh
  have noOut : Out [] v := fun _ _ m => nomatch m
  have few : Gd.length ≤ 120 := by omega
  -- read(store, away, item)
  show tLam T (TTc K CE) _ _ H28 _
  refine caught_err (fs := []) zS tb28 (fun Ha Qa Ea ka ha =>
    let ⟨o, ho, hb⟩ := (away22.keep (w28.trans ka).nil).num
    ⟨_, rfl, _, rfl, _, rfl, .inr ⟨v, away, item, rfl, .inr ⟨L, Gd, o, hM22.keep (w28.trans ka) noOut, few, ho, .inl ⟨hb, ha none _ Keep.refl (.inl ⟨rfl, rfl⟩)⟩⟩⟩⟩) (fun a4 H29 k29 tb29 x4 => ⟨by show 1 ≤ sizeLine; decide, fun s2 ns2 => ?_⟩)
  have kL2 : Keep [] H29 (upd H29 s2 (.lst [.ref a4])) := Keep.new ns2
  have e30 : upd H29 s2 (.lst [.ref a4]) s2 = some (.lst [.ref a4]) := upd_same
  have f2 : Fr0 H22 s2 := (w28.trans k29).none ns2
  have w30 : KeepW [] H22 (upd H29 s2 (.lst [.ref a4])) := (w28.trans k29).trans kL2.toKeepW
  have tb30 := tabs_keep kL2 nilExt tb29
  have x4 := x4.keep0 kL2.toKeepW
  generalize upd H29 s2 (.lst [.ref a4]) = H30 at e30 w30 tb30 x4 ⊢
  have n2 : ∀ {Hx : Hp} {xs : List V}, Hx s2 = some (.lst xs) → ∀ a ∈ [s2], ∀ φ, Hx a ≠ some (.ext φ) := fun e a m φ z => by
    rcases List.mem_cons.mp m with rfl | m
    · rw [e] at z
      cases z
    · cases m
  dsimp only [gName]
  -- stepped(store, away, sign)
  refine ⟨_, rfl, .inl ⟨rfl, [.ref a4], SqL.of e30⟩, ?_⟩
  show tLam T (TTc K CE) _ _ H30 _
  refine caught_err (fs := []) zS tb30 (fun Ha Qa Ea ka ha =>
    let ⟨o, ho, hb⟩ := (away22.keep (w30.trans ka).nil).num
    ⟨_, rfl, _, rfl, _, rfl, .inr ⟨v, away, sign, rfl, .inr ⟨L, Gd, o, hM22.keep (w30.trans ka) noOut, few, ho, .inl ⟨hb, ha none _ Keep.refl (.inl ⟨rfl, rfl⟩)⟩⟩⟩⟩) (fun a5 H31 k31 tb31 x5 => ?_)
  have e31 := k31.get e30 (by simp)
  refine ⟨s2, [.ref a4], _, rfl, rfl, e31, small1000 (by simp), ?_⟩
  have k32 : Keep [s2] H31 (upd H31 s2 (.lst ([.ref a4] ++ [.ref a5]))) := Keep.chg e31 List.mem_cons_self (fun _ z => nomatch z) (fun _ _ z => nomatch z)
  have e32 : upd H31 s2 (.lst ([.ref a4] ++ [.ref a5])) s2 = some (.lst [.ref a4, .ref a5]) := upd_same
  have w32 : KeepW [] H22 (upd H31 s2 (.lst ([.ref a4] ++ [.ref a5]))) := (w30.trans k31).mut f2
  have tb32 := tabs_keep k32 (n2 e31) tb31
  have x4 := (x4.keep0 k31).keepL e31 k32.toKeepW
  have x5 := x5.keepL e31 k32.toKeepW
  generalize upd H31 s2 (.lst ([.ref a4] ++ [.ref a5])) = H32 at e32 w32 tb32 x4 x5 ⊢
  -- read(store, away, row)
  refine ⟨_, rfl, .inl ⟨rfl, _, SqL.of e32⟩, ?_⟩
  show tLam T (TTc K CE) _ _ H32 _
  refine caught_err (fs := []) zS tb32 (fun Ha Qa Ea ka ha =>
    let ⟨o, ho, hb⟩ := (away22.keep (w32.trans ka).nil).num
    ⟨_, rfl, _, rfl, _, rfl, .inr ⟨v, away, .ref wa, rfl, .inr ⟨L, Gd, o, hM22.keep (w32.trans ka) noOut, few, ho, .inl ⟨hb, ha none _ Keep.refl (.inl ⟨rfl, rfl⟩)⟩⟩⟩⟩) (fun a6 H33 k33 tb33 x6 => ?_)
  have e33 := k33.get e32 (by simp)
  refine ⟨s2, _, _, rfl, rfl, e33, small1000 (by simp), ?_⟩
  have k34 : Keep [s2] H33 (upd H33 s2 (.lst ([.ref a4, .ref a5] ++ [.ref a6]))) := Keep.chg e33 List.mem_cons_self (fun _ z => nomatch z) (fun _ _ z => nomatch z)
  have e34 : upd H33 s2 (.lst ([.ref a4, .ref a5] ++ [.ref a6])) s2 = some (.lst [.ref a4, .ref a5, .ref a6]) := upd_same
  have w34 : KeepW [] H22 (upd H33 s2 (.lst ([.ref a4, .ref a5] ++ [.ref a6]))) := (w32.trans k33).mut f2
  have tb34 := tabs_keep k34 (n2 e33) tb33
  have x4 := (x4.keep0 k33).keepL e33 k34.toKeepW
  have x5 := (x5.keep0 k33).keepL e33 k34.toKeepW
  have x6 := x6.keepL e33 k34.toKeepW
  generalize upd H33 s2 (.lst ([.ref a4, .ref a5] ++ [.ref a6])) = H34 at e34 w34 tb34 x4 x5 x6 ⊢
  -- stepped(store, away, signs[0])
  refine ⟨_, rfl, .inl ⟨rfl, _, SqL.of e34⟩, ?_⟩
  show tLam T (TTc K CE) _ _ H34 _
  have hlaZ := sqT_keep K22.toKeepW hla
  refine caught_err (fs := []) zS tb34 (fun Ha Qa Ea ka ha =>
    let ⟨o, ho, hb⟩ := (away22.keep (w34.trans ka).nil).num
    ⟨_, rfl, _, rfl, _, rfl, la, _, _, _, rfl, rfl, sqT_keep (w34.trans ka) hlaZ, atI_nat (j := 0) h0, .inr ⟨v, away, _, rfl, .inr ⟨L, Gd, o, hM22.keep (w34.trans ka) noOut, few, ho, .inl ⟨hb, ha none _ Keep.refl (.inl ⟨rfl, rfl⟩)⟩⟩⟩⟩) (fun a7 H35 k35 tb35 x7 => ?_)
  have e35 := k35.get e34 (by simp)
  refine ⟨s2, _, _, rfl, rfl, e35, small1000 (by simp), ?_⟩
  have k36 : Keep [s2] H35 (upd H35 s2 (.lst ([.ref a4, .ref a5, .ref a6] ++ [.ref a7]))) := Keep.chg e35 List.mem_cons_self (fun _ z => nomatch z) (fun _ _ z => nomatch z)
  have e36 : upd H35 s2 (.lst ([.ref a4, .ref a5, .ref a6] ++ [.ref a7])) s2 = some (.lst [.ref a4, .ref a5, .ref a6, .ref a7]) := upd_same
  have w36 : KeepW [] H22 (upd H35 s2 (.lst ([.ref a4, .ref a5, .ref a6] ++ [.ref a7]))) := (w34.trans k35).mut f2
  have tb36 := tabs_keep k36 (n2 e35) tb35
  have x4 := (x4.keep0 k35).keepL e35 k36.toKeepW
  have x5 := (x5.keep0 k35).keepL e35 k36.toKeepW
  have x6 := (x6.keep0 k35).keepL e35 k36.toKeepW
  have x7 := x7.keepL e35 k36.toKeepW
  generalize upd H35 s2 (.lst ([.ref a4, .ref a5, .ref a6] ++ [.ref a7])) = H36 at e36 w36 tb36 x4 x5 x6 x7 ⊢
  -- all of them are BadState
  refine ⟨_, rfl, s2, rfl, ⟨_, SqL.of e36⟩, fun D2 nD2 => ?_⟩
  refine lc_list (xs := [.ref a4, .ref a5, .ref a6, .ref a7]) (fun i Hq => Keep [] H36 Hq ∧ Hq D2 = some (.lst [])) ⟨Keep.new nD2, upd_same⟩
    (fun i Hq _ hh => SqL.of (hh.1.toKeepW.get e36 (fun m => nomatch m))) (fun i y Hq hy hh => ?_) (fun Hq hh => ?_)
  · obtain ⟨kq, hD2⟩ := hh
    obtain ⟨a, rfl, xa⟩ : ∃ a, y = .ref a ∧ ExK K H36 a CS [] := by
      match i, hy with
      | 0, hy => exact ⟨a4, (Option.some.inj hy).symm, x4⟩
      | 1, hy => exact ⟨a5, (Option.some.inj hy).symm, x5⟩
      | 2, hy => exact ⟨a6, (Option.some.inj hy).symm, x6⟩
      | 3, hy => exact ⟨a7, (Option.some.inj hy).symm, x7⟩
    exact ⟨rfl, _, rfl, a, CS, CS, _, true, rfl, xa.keep0 kq.toKeepW, own_one, true, rfl, kq, hD2⟩
  obtain ⟨kq, hD2⟩ := hh
  refine ⟨by show 0 ≤ sizeLine; decide, fun l2' nl2' => ?_⟩
  have k37 : Keep [] Hq (upd Hq l2' (.lst [])) := Keep.new nl2'
  refine ⟨.list [], .list [], .lst (.inl (.inl (k37.toKeepW.get hD2 (fun m => nomatch m)))) .nil, .lst (.inl (.inl upd_same)) .nil, by decide, by decide, _, rfl, ?_⟩
  have w37 : KeepW [] H22 (upd Hq l2' (.lst [])) := (w36.trans kq.toKeepW).trans k37.toKeepW
  have tb37 := tabs_keep (kq.trans k37) nilExt tb36
  generalize upd Hq l2' (.lst []) = H37 at w37 tb37 ⊢
  have d37 := d22.keep w37
  -- here
  have gpos := gok.pos
  refine ⟨_, rfl, _, rfl, ma, rs, rfl, .inr (sqT_keep (K22.toKeepW.trans w37.nil) hma), p, g, c, _, _, rfl, d37, by omega, by omega, by omega, fun here H38 h0' h1' k38 d38 => ?_⟩
  have w38 : KeepW [p, g] H22 H38 := w37.nil.trans k38.toKeepW
  have tb38 := tabs_keep k38 d37.noExt tb37
  have num : within 0 ((Gd.length : Int) - 1) (some here) = true := within_yes (by omega) (by omega)
  have hM38 := (hM22.keep w37 noOut).keep k38.toKeepW oM
  have item38 := item22.keep w38
  have sign38 := sign22.keep w38
  dsimp only [gName]
  -- read(store, here, item)
  show tLam T (TTc K CE) _ _ H38 _
  refine caught_err (fs := []) zW tb38 (fun Ha Qa Ea ka ha => ⟨_, rfl, _, rfl, _, rfl, .inr ⟨v, .int here, item, rfl, .inr ⟨L, Gd, some here, hM38.keep ka noOut, few, rfl, .inr ⟨num, lok, (item38.keep ka.nil).noWord, ha none _ Keep.refl (.inl ⟨rfl, rfl⟩)⟩⟩⟩⟩) (fun a8 H39 k39 tb39 x8 => ?_)
  refine ⟨a8, CW, CW, [], true, rfl, x8, own_one, true, rfl, ?_⟩
  -- stepped(store, here, sign)
  show tLam T (TTc K CE) _ _ H39 _
  refine caught_err (fs := []) zLt tb39 (fun Ha Qa Ea ka ha => ⟨_, rfl, _, rfl, _, rfl, .inr ⟨v, .int here, sign, rfl, .inr ⟨L, Gd, some here, hM38.keep (k39.trans ka) noOut, few, rfl, .inr ⟨num, (sign38.keep (k39.trans ka).nil).item, ha none _ Keep.refl (.inl ⟨rfl, rfl⟩)⟩⟩⟩⟩) (fun a9 H40 k40 tb40 x9 => ?_)
  refine ⟨a9, CL, CL, [], true, rfl, x9, own_one, ?_⟩
  have w40 := k39.trans k40
  exact q H40 ((K22.toKeepW.trans w38).trans w40.nil) tb40 ((d38.keep w40).mono (by omega))
end
end K01
set_option maxHeartbeats 2000000
set_option maxHeartbeats 2000000
namespace HG
open PySem PySem.Spec PyProof.Rows L2
theorem te_join {t : TE} {σ : L2.St} {H : Hp} {Q : VK} (R : V → Hp → Prop) (a : ∀ NX : VK, (∀ v H', R v H' → NX v H') → t σ H NX) (b : ∀ v H', R v H' → Q v H') : t σ H Q := a Q b
theorem kwb3 {x p q r : Str} {st : Stmt} (h : ∀ (kV doc pm : Value) (an : Option Addr) (cdv ct a b c : Value),
    bindArgs (PySem.W.fnOf x x (defArgs st) (defBody st) (defScope st) .none kV doc pm an cdv ct) ⟨[], [(r, c), (q, b), (p, a)]⟩ = pure [(p, a), (q, b), (r, c)]) : KwB x st [p, q, r] [r, q, p] := by
  intro kV doc pm an cdv ct ws l
  match ws, l with
  | [c, b, a], _ => exact h kV doc pm an cdv ct a b c
/-- the last two of three exchanged -/
def sw {α : Type} : List α → List α
  | [a, b, c] => [a, c, b]
  | l => l
theorem sw_len {α : Type} : ∀ l : List α, (sw l).length = l.length
  | [] => rfl
  | [_] => rfl
  | [_, _] => rfl
  | [_, _, _] => rfl
  | _ :: _ :: _ :: _ :: _ => rfl
theorem vals_sw : ∀ {vs : List V} {us : List Value}, Vals vs us → Vals (sw vs) (sw us)
  | _, _, .nil => .nil
  | _, _, .cons a .nil => .cons a .nil
  | _, _, .cons a (.cons b .nil) => .cons a (.cons b .nil)
  | _, _, .cons a (.cons b (.cons c .nil)) => .cons a (.cons c (.cons b .nil))
  | _, _, .cons a (.cons b (.cons c (.cons d t))) => .cons a (.cons b (.cons c (.cons d t)))
def KwS (x : Str) (st : Stmt) (ps ks : List Str) : Prop :=
  ∀ (kV doc pm : Value) (an : Option Addr) (cdv ct : Value) (ws : List Value), ws.length = ps.length →
    bindArgs (PySem.W.fnOf x x (defArgs st) (defBody st) (defScope st) .none kV doc pm an cdv ct) ⟨[], ks.zip ws⟩ = pure (ps.zip (sw ws))
theorem kws3 {x p q r : Str} {st : Stmt} (h : ∀ (kV doc pm : Value) (an : Option Addr) (cdv ct a b c : Value),
    bindArgs (PySem.W.fnOf x x (defArgs st) (defBody st) (defScope st) .none kV doc pm an cdv ct) ⟨[], [(p, a), (r, c), (q, b)]⟩ = pure [(p, a), (q, b), (r, c)]) : KwS x st [p, q, r] [p, r, q] := by
  intro kV doc pm an cdv ct ws l
  match ws, l with
  | [a, c, b], _ => exact h kV doc pm an cdv ct a b c
section
variable {X : Cx} {CX : CXT} {k n : Nat} {ps ks : List Str} {sp : Sp} {E : XK} {x : Str} {p pos : Pos} {kws : List Keyword} {tk : TA} {st : Stmt}
def tKwS (sp : Sp) (E : XK) (tk : TA) : TE := fun σ H Q => tk σ H fun zs H1 => sp (sw zs) H1 Q E
theorem pe_kwS (C : Callee X.prog X.w X.K X.mg X.base CX k x ps sp) (D : Def X.K X.mg x st ps) (B : KwS x st ps ks) (room : Room n X.A) (lets : Passes CX X E)
    (named : PK X kws tk) (hk : k ≤ n := by decide) (glob : Gl X x := by rfl)
    (hall : (backToKw pos (keywordEach kws X.env)).all (·.1.isSome) = true := by rfl)
    (hks : (backToKw pos (keywordEach kws X.env)).filterMap (·.1) = ks := by rfl)
    (hdb : (x == ("__debug__" : Str)) = false := by decide)
    (hpl : ((backTo pos (starEach [] X.env)).any (·.1) || (backToKw pos (keywordEach kws X.env)).any (·.1.isNone)) = false := by rfl) :
    PE X (.Call (.Name x p) [] kws pos) (tKwS sp E tk) := by
  obtain ⟨f, fd, F, m, kp, _, c1, d1, s1, at1⟩ := C.ex
  obtain ⟨f2, fd2, F2, m2, _⟩ := D.ex
  rw [m] at m2
  cases m2
  obtain ⟨c2, d2, kV, doc, pm, an, cdv, ct, s2, same, at2, _⟩ := F2.ex
  rw [at1] at at2
  cases at2
  refine ⟨fun pins s σ H Q I h => ?_⟩
  refine wpAny_Call_Name_kw (ld_glob I glob m ?_ hdb)
  refine PySem.W.callWith_KW0 (h₀ := X.base) I.ok.mod.kin kp hall (thn (named.run pos pins s σ H _ I h) fun ws z ⟨zs, H2, I2, rz, q2⟩ => ⟨I2.kIn, ?_⟩) hpl
  rw [hks]
  have rv := vals_sw rz
  have len : ws.length = ps.length := by
    rw [← rz.length, ← sw_len]
    exact F.len _ _ _ _ q2
  have b : BindsTo z fd ⟨[], ks.zip ws⟩ (ps.zip (sw ws)) := by
    rw [same]
    exact .of_eq (B kV doc pm an cdv ct ws len)
  refine wpAny_call (codeAny_mono (F.run X.A X.stack z H2 ⟨[], ks.zip ws⟩ (sw ws) (sw zs) Q E (room.mono hk) I2.env0 b rv q2) fun r s' hq => ?_)
  match r, hq with
  | .error e, hq => exact lets pins σ H2 z e s' I2 hq
  | .ok (.ret u), hq => exact I2.after hq
  | .ok .next, hq => exact False.elim hq
  | .ok .brk, hq => exact False.elim hq
  | .ok .cont, hq => exact False.elim hq
end
end HG
set_option maxHeartbeats 2000000
namespace K01
open PySem PySem.Spec PyProof.Rows L2 HG HN HM
/-! ## ways of words -/
variable {L : List Str} {g : List (List Move)}
theorem Went.shift {h e : Nat} {a b c d : Int} {W : List Str} (w : Went L g h a b W e c d) (x y : Int) : Went L g h (a + x) (b + y) W e (c + x) (d + y) := by
  induction w with
  | nil => exact .nil
  | @cons h e i t a b c d x0 y0 z r row at_ rw_ mv rest ih =>
    refine .cons at_ rw_ mv ?_
    rw [show a + x + x0 = a + x0 + x by omega, show b + y + y0 = b + y0 + y by omega]
    exact ih
theorem Went.split {e : Nat} {c d : Int} {W : List Str} : ∀ {U : List Str} {h : Nat} {a b : Int}, Went L g h a b (U ++ W) e c d → ∃ m x y, Went L g h a b U m x y ∧ Went L g m x y W e c d
  | [], h, a, b, w => ⟨h, a, b, .nil, w⟩
  | z :: U, h, a, b, w => by
    cases w with
    | cons at_ rw_ mv rest =>
      obtain ⟨m, x, y, w1, w2⟩ := Went.split rest
      exact ⟨m, x, y, .cons at_ rw_ mv w1, w2⟩
theorem Went.neg {h e : Nat} {a b c d : Int} {W : List Str} (w : Went L g h a b W e c d) : Went L (g.map fun r => r.map neg) h (-a) (-b) W e (-c) (-d) := by
  induction w with
  | nil => exact .nil
  | @cons h e i t a b c d x0 y0 z r row at_ rw_ mv rest ih =>
    refine .cons (row := row.map K01.neg) (x := -x0) (y := -y0) (t := t) at_ (by rw [List.getElem?_map, rw_]; rfl) (by rw [List.getElem?_map, mv]; rfl) ?_
    rw [show -a + -x0 = -(a + x0) by omega, show -b + -y0 = -(b + y0) by omega]
    exact ih
theorem Went.step (ok : GrOk g L.length) {h : Nat} (lt : h < g.length) {z : Str} (hz : z ∈ L) : ∃ (i t : Nat) (x y : Int) (row : List Move), L[i]? = some z ∧ g[h]? = some row ∧ row[i]? = some ((t : Int), x, y) ∧ t < g.length ∧ -999 ≤ x ∧ x ≤ 999 ∧ -999 ≤ y ∧ y ≤ 999 := by
  obtain ⟨i, il, e⟩ := List.mem_iff_getElem.mp hz
  have rm : g[h] ∈ g := List.getElem_mem lt
  have wide := ok.wide _ rm
  have ir : i < g[h].length := by omega
  have mok := ok.all _ rm _ (List.getElem_mem ir)
  have a0 := mok.a0
  have a1 := mok.a1
  refine ⟨i, (g[h][i]).1.toNat, (g[h][i]).2.1, (g[h][i]).2.2, g[h], by rw [List.getElem?_eq_getElem il, e], List.getElem?_eq_getElem lt, ?_, by omega, mok.b0, mok.b1, mok.c0, mok.c1⟩
  rw [List.getElem?_eq_getElem ir]
  have e2 : ((g[h][i]).1.toNat : Int) = (g[h][i]).1 := by omega
  rw [e2]
theorem Went.is (ok : GrOk g L.length) : ∀ (W : List Str) (h : Nat) (a b : Int), h < g.length → (∀ z ∈ W, z ∈ L) → ∃ e c d, Went L g h a b W e c d ∧ e < g.length ∧ a - 999 * W.length ≤ c ∧ c ≤ a + 999 * W.length ∧ b - 999 * W.length ≤ d ∧ d ≤ b + 999 * W.length
  | [], h, a, b, lt, _ => ⟨h, a, b, .nil, lt, by simp, by simp, by simp, by simp⟩
  | z :: W, h, a, b, lt, inL => by
    obtain ⟨i, t, x, y, row, at_, rw_, mv, tl, x0, x1, y0, y1⟩ := Went.step ok lt (inL z List.mem_cons_self)
    obtain ⟨e, c, d, w, el, c0, c1, d0, d1⟩ := Went.is ok W t (a + x) (b + y) tl fun z m => inL z (List.mem_cons_of_mem _ m)
    refine ⟨e, c, d, .cons at_ rw_ mv w, el, ?_, ?_, ?_, ?_⟩ <;> · rw [List.length_cons]; omega
theorem Went.lt (ok : GrOk g L.length) {h e : Nat} {a b c d : Int} {W : List Str} (w : Went L g h a b W e c d) (l : h < g.length) : e < g.length := by
  induction w with
  | nil => exact l
  | @cons h e i t a b c d x0 y0 z r row at_ rw_ mv rest ih =>
    have m := ok.all row (List.mem_of_getElem? rw_) _ (List.mem_of_getElem? mv)
    refine ih ?_
    have := m.a1
    show t < g.length
    have q : ((t : Int), x0, y0).1 < (g.length : Int) := this
    have q : (t : Int) < (g.length : Int) := q
    omega
end K01
set_option maxHeartbeats 2000000
namespace HG
open PySem PySem.Spec PyProof.Rows L2
/-! ## data whose texts are short -/
theorem int_short {a : Int} (h : a.natAbs < 2 ^ 100) : (Str.ofString (toString a)).length ≤ 102 := by
  have e := int_text_length_le (a := a) (k := 100) (by decide) (by
    by_cases z : a.natAbs = 0
    · rw [z]
      decide
    · exact (Nat.log2_lt z).mpr h)
  rw [PySem.ofString_length]
  omega
theorem int_log {a : Int} (h : a.natAbs < 2 ^ 100) : a.natAbs.log2 < 1920 := by
  by_cases z : a.natAbs = 0
  · rw [z]
    decide
  · exact Nat.lt_of_lt_of_le ((Nat.log2_lt z).mpr h) (by decide)
/-- a datum of depth at most k whose text has at most n signs -/
structure Sh (k n : Nat) (d : PyData) : Prop where
  showable : d.showable = true
  noDict : d.hasDict = false
  depth : d.depth ≤ k
  len : d.shown.length ≤ n
theorem sh_int {a : Int} (h : a.natAbs < 2 ^ 100) : Sh 0 102 (.int a) := by
  refine ⟨by simp only [PyData.showable]; exact decide_eq_true (int_log h), by simp only [PyData.hasDict], by simp only [PyData.depth]; omega, ?_⟩
  simp only [PyData.shown]
  exact int_short h
theorem sh_all {k n : Nat} : ∀ {ds : List PyData}, (∀ d ∈ ds, Sh k n d) → PyData.showableAll ds = true ∧ PyData.hasDictAll ds = false ∧ PyData.depthAll ds ≤ k ∧ ((PyData.shownAll ds).map (·.length)).sum ≤ n * ds.length ∧ (PyData.shownAll ds).length = ds.length
  | [], _ => by simp [PyData.showableAll, PyData.hasDictAll, PyData.depthAll, PyData.shownAll]
  | d :: r, h => by
    obtain ⟨a1, a2, a3, a4, a5⟩ := sh_all (ds := r) fun x m => h x (List.mem_cons_of_mem _ m)
    have hd := h d List.mem_cons_self
    have b3 := hd.depth
    have b4 := hd.len
    refine ⟨by simp only [PyData.showableAll, hd.showable, a1, Bool.and_self], by simp only [PyData.hasDictAll, hd.noDict, a2, Bool.or_self], by simp only [PyData.depthAll]; omega, ?_, by simp only [PyData.shownAll, List.length_cons, a5]⟩
    simp only [PyData.shownAll, List.map_cons, List.sum_cons, List.length_cons]
    rw [Nat.mul_succ]
    omega
theorem sh_tup {k n : Nat} {ds : List PyData} (h : ∀ d ∈ ds, Sh k n d) : Sh (k + 1) (n * ds.length + 2 * ds.length + 3) (.tuple ds) := by
  obtain ⟨a1, a2, a3, a4, a5⟩ := sh_all h
  refine ⟨by simp only [PyData.showable, a1], by simp only [PyData.hasDict, a2], by simp only [PyData.depth]; omega, ?_⟩
  simp only [PyData.shown]
  have l := tupleText_len_le (PyData.shownAll ds)
  rw [a5] at l
  omega
theorem Sh.more {k n k' n' : Nat} {d : PyData} (h : Sh k n d) (hk : k ≤ k') (hn : n ≤ n') : Sh k' n' d := ⟨h.showable, h.noDict, Nat.le_trans h.depth hk, Nat.le_trans h.len hn⟩
end HG
set_option maxHeartbeats 4000000
namespace K01
open PySem PySem.Spec PyProof.Rows L2 HG HN HM LamX
theorem kw_read : KwS "read" s_read ["memory", "state", "word"] ["memory", "word", "state"] := kws3 fun _ _ _ _ _ _ _ _ _ => rfl
theorem kw_stepped : KwB "stepped" s_stepped ["memory", "state", "letter"] ["letter", "state", "memory"] := kwb3 fun _ _ _ _ _ _ _ _ _ => rfl
theorem kw_negated : KwB "negated" s_negated ["memory"] ["memory"] := kwb1 fun _ _ _ _ _ _ _ => rfl
def dA (e : Nat) (a b : Int) : PyData := .tuple [.int (e : Nat), .tuple [.int a, .int b]]
theorem dp_A {K : PySem.W.Frag} {H : Hp} {v : V} {e : Nat} {a b : Int} (h : Ans K H v e a b) : Dp K H v (dA e a b) := by
  obtain ⟨p, q, rfl, h1, h2⟩ := h
  exact .tup h1 (.cons (.int _) (.cons (.tup h2 (.cons (.int _) (.cons (.int _) .nil))) .nil))
theorem sh_A {e : Nat} {a b : Int} (he : e ≤ 1000) (ha : a.natAbs < 2 ^ 100) (hb : b.natAbs < 2 ^ 100) : Sh 2 1000 (dA e a b) := by
  have h1 : Sh 1 300 (.tuple [.int a, .int b]) := by
    refine (sh_tup (k := 0) (n := 102) (ds := [.int a, .int b]) fun d m => ?_).more (Nat.le_refl _) (by simp)
    rcases List.mem_cons.mp m with rfl | m
    · exact sh_int ha
    · rcases List.mem_cons.mp m with rfl | m
      · exact sh_int hb
      · cases m
  refine (sh_tup (k := 1) (n := 300) (ds := [.int (e : Nat), .tuple [.int a, .int b]]) fun d m => ?_).more (Nat.le_refl _) (by simp)
  rcases List.mem_cons.mp m with rfl | m
  · exact (sh_int (a := (e : Nat)) (by
      have : (2 : Nat) ^ 100 > 1000 := by decide
      omega)).more (by decide) (by decide)
  · rcases List.mem_cons.mp m with rfl | m
    · exact h1
    · cases m
theorem sh_M {n : Nat} {m : Move} (h : MvOk n m) (hn : n ≤ 1000) : Sh 1 400 (dM m) := by
  have a0 := h.a0
  have a1 := h.a1
  have b0 := h.b0
  have b1 := h.b1
  have c0 := h.c0
  have c1 := h.c1
  have big : (2 : Nat) ^ 100 > 1000 := by decide
  refine (sh_tup (k := 0) (n := 102) (ds := [.int m.1, .int m.2.1, .int m.2.2]) fun d mm => ?_).more (Nat.le_refl _) (by simp)
  rcases List.mem_cons.mp mm with rfl | mm
  · exact sh_int (by omega)
  · rcases List.mem_cons.mp mm with rfl | mm
    · exact sh_int (by omega)
    · rcases List.mem_cons.mp mm with rfl | mm
      · exact sh_int (by omega)
      · cases mm
theorem sh_G {g : List (List Move)} {k : Nat} (h : GrOk g k) (hk : k ≤ 4) (hg : g.length ≤ 4) : Sh 3 8000 (dG g) := by
  have hr : ∀ r ∈ g, Sh 2 1700 (dR r) := fun r m => by
    have w := h.wide r m
    refine (sh_tup (k := 1) (n := 400) (ds := r.map dM) fun d md => ?_).more (Nat.le_refl _) (by rw [List.length_map]; omega)
    obtain ⟨mm, hm, rfl⟩ := List.mem_map.mp md
    exact sh_M (h.all r m mm hm) (by omega)
  refine (sh_tup (k := 2) (n := 1700) (ds := g.map dR) fun d md => ?_).more (Nat.le_refl _) (by rw [List.length_map]; omega)
  obtain ⟨r, hm, rfl⟩ := List.mem_map.mp md
  exact hr r hm
theorem shaped_A (e : Nat) (a b : Int) : SeqAt.shaped (dA e a b) = true := by
  show (PyData.canLay0 _ && decide (PyData.depth _ ≤ 64)) = true
  have d : (dA e a b).depth ≤ 2 := by simp [dA, PyData.depth, PyData.depthAll]
  have l : (dA e a b).canLay0 = true := by simp [dA, PyData.canLay0, PyData.canLayAll0]
  rw [l, decide_eq_true (by omega)]
  rfl
theorem step_at {L : List Str} {g : List (List Move)} (ok : GrOk g L.length) {h i : Nat} (lt : h < g.length) (il : i < L.length) : ∃ (row : List Move) (t : Nat) (x y : Int), g[h]? = some row ∧ row[i]? = some ((t : Int), x, y) ∧ t ≤ 1000 ∧ -999 ≤ x ∧ x ≤ 999 ∧ -999 ≤ y ∧ y ≤ 999 := by
  have rm : g[h] ∈ g := List.getElem_mem lt
  have wide := ok.wide _ rm
  have few := ok.few
  have ir : i < g[h].length := by omega
  have mok := ok.all _ rm _ (List.getElem_mem ir)
  have a0 := mok.a0
  have a1 := mok.a1
  refine ⟨g[h], (g[h][i]).1.toNat, (g[h][i]).2.1, (g[h][i]).2.2, List.getElem?_eq_getElem lt, ?_, by omega, mok.b0, mok.b1, mok.c0, mok.c1⟩
  rw [List.getElem?_eq_getElem ir]
  have e2 : ((g[h][i]).1.toNat : Int) = (g[h][i]).1 := by omega
  rw [e2]
theorem sh_Z {t : Nat} {x y : Int} (m1 : t ≤ 1000) (b0 : -999 ≤ x) (b1 : x ≤ 999) (c0 : -999 ≤ y) (c1 : y ≤ 999) : Sh 2 1000 (dA t x y) ∧ Sh 2 1000 (dA t (-x) (-y)) := by
  have big : (2 : Nat) ^ 100 > 1000 := by decide
  exact ⟨sh_A m1 (by omega) (by omega), sh_A m1 (by omega) (by omega)⟩
theorem neg_neg_ (g : List (List Move)) : ((g.map fun r => r.map neg).map fun r => r.map neg) = g := by
  rw [List.map_map]
  have e : ((fun r : List Move => r.map neg) ∘ fun r => r.map neg) = id := by
    funext r
    show (r.map neg).map neg = r
    rw [List.map_map]
    have e2 : neg ∘ neg = id := by
      funext m
      obtain ⟨a, b, c⟩ := m
      show ((a, - -b, - -c) : Move) = (a, b, c)
      rw [Int.neg_neg, Int.neg_neg]
    rw [e2, List.map_id]
  rw [e, List.map_id]
def WL (K : PySem.W.Frag) (a : Addr) (g : TG) (tb : TS) (D : Ends) (σ : L2.St) (H : Hp) : Prop :=
    ∃ W : Nat → Nat → L2.St → Hp → Prop, (∃ m, W 0 m σ H) ∧ ∀ i m σ H, W i m σ H →
      ((Itl K a).stop i H ∧ D.nx σ H) ∨ ((Itl K a).go i H ∧ ∃ N : L2.St → Hp → Prop, (∀ σ' H', N σ' H' → ∃ m', m' < m ∧ W (i + 1) m' σ' H') ∧ ∀ x H', (Itl K a).yld i H x H' → g x σ H' fun σ2 H2 => tb { D with nx := N, ct := N, bk := D.nx } σ2 H2)
theorem for_listW {K : PySem.W.Frag} {a : Addr} {xs : List V} {g : TG} {tb : TS} {D : Ends} {σ : L2.St} {H : Hp} (Pv : Nat → L2.St → Hp → Prop) (h0 : Pv 0 σ H) (hl : ∀ i σ H, i ≤ xs.length → Pv i σ H → SqL K H a xs)
    (hs : ∀ i x σ H, xs[i]? = some x → Pv i σ H → g x σ H fun σ2 H2 => tb { D with nx := Pv (i + 1), ct := Pv (i + 1), bk := D.nx } σ2 H2) (hd : ∀ σ H, Pv xs.length σ H → D.nx σ H) : WL K a g tb D σ H := for_list Pv h0 hl hs hd
theorem for_listE {K : PySem.W.Frag} {te : TE} {g : TG} {tb rest : TS} {D : Ends} {σ : L2.St} {H : Hp} (R : V → Hp → Prop) (a : ∀ NX : VK, (∀ v H', R v H' → NX v H') → te σ H NX)
    (b : ∀ v H1, R v H1 → ∃ a, v = .ref a ∧ (∃ xs, SqL K H1 a xs) ∧ WL K a g tb { D with nx := rest D } σ H1) :
    tSeq (tFor (iList K te) g tb) rest D σ H := a _ b
section
variable {P : Program} {w : World} {K : PySem.W.Frag} {mg : Str → Option Value} {base : Heap}
def sp_law (K : PySem.W.Frag) (T : List (Addr × Str)) : Sp := fun vs H Q _ => ∃ (l : Addr) (ns : List Int), vs = [.ref l] ∧ SqL K H l (ns.map V.int) ∧ ns.length ≤ 63 ∧ Tabs T H ∧ ∀ H', Q (.bl true) H'
theorem ok_law {C CB CS CW CL fI fE : Addr} {T : List (Addr × Str)} (D : Def K mg "law" s_law ["script"]) (M : MemC K mg C) (mk : Mk K C fI) (LC : LenC P w K mg base C) (OC : OwnCmp K C fE)
    (zr : mg "range" = none) (zm : mg "min" = none) (zl : mg "len" = none) (zL : mg "list" = none) (zp : mg "repr" = none) (ze : mg "enumerate" = none)
    (CI : CalleeM P w K mg base CX0 5 fI ["self", "letters", "moves"] (sp_init K C)) (CEq : CalleeM P w K mg base CX0 1 fE ["self", "other"] (sp_eq K C))
    (CBg : Callee P w K mg base CX0 1 "_law_begun" ["script"] (sp_begun K)) (CT : CTake P w K mg base) (CK : CSome P w K mg base)
    (CSi : Callee P w K mg base CX0 5 "_law_signs" ["draw", "many"] (sp_signs K)) (CGr : Callee P w K mg base CX0 4 "_law_grid" ["draw", "many", "wide", "peak"] (sp_grid K))
    (CTx : Callee P w K mg base CX0 4 "_law_text" ["draw", "signs"] (sp_text K)) (CWe : Callee P w K mg base CX0 1 "_law_went" ["signs", "grid", "here", "row"] (sp_went K))
    (DR : Def K mg "read" s_read ["memory", "state", "word"]) (CR : Callee P w K mg base (L2.CX P w) 6 "read" ["memory", "state", "word"] (sp_readX K C CB CS CW))
    (DP : Def K mg "stepped" s_stepped ["memory", "state", "letter"]) (CP : Callee P w K mg base (L2.CX P w) 6 "stepped" ["memory", "state", "letter"] (sp_steppedX K C CB CS CL))
    (DN : Def K mg "negated" s_negated ["memory"]) (CN : Callee P w K mg base (L2.CX P w) 7 "negated" ["memory"] (sp_negatedX K C CB))
    (CRf : Callee P w K mg base CX0 10 "_law_refusals" ["draw", "store", "signs", "grid", "row"] (sp_refusals K C T)) :
    CalleeP P w K mg base CX0 11 "law" ["script"] (sp_law K T) := by
  obtain ⟨fdI, FI, bI⟩ := CI.ex
  obtain ⟨fdE, FE, bE⟩ := CEq.ex
  refine D.okP sc_law (fun vs H Q E h => ?_) (fun f cdv A outer s H vs Q E ng hr h => ?_)
  · obtain ⟨l, ns, rfl, _⟩ := h
    rfl
  obtain ⟨l, ns, rfl, hl, len, tabs, q⟩ := h
  have nd := sc_law.nd
  have hu : (A.deeper (envOfC "law" (defScope s_law) s.heap.objs.size f cdv)).units + 66 < cLine := by
    have := hr.un
    omega
  refine ⟨_, pss_cons (ps_set (i := 1) nd rfl (.inl rfl) (pe_c CBg hr (pa_cons (pv 0) pa_nil)))
      (pss_cons (ps_for PassesOwn.never rfl (pi_range1 rfl zr (pa_cons (pe_op op_add pe_int (pe_callB (call_min2 rfl) (by rfl) zm boot_min (pa_cons (pe_op op_fdiv (pe_callB call_len_seq (by rfl) zl PySem.boot_len (pa_cons (pv 0) pa_nil)) pe_int) (pa_cons pe_int pa_nil)))) pa_nil)) (pg_name (i := 2) nd rfl (.inl rfl)) (pss_cons (ps_set (i := 3) nd rfl (.inl rfl) (pe_c CSi hr (pa_cons (pv 1) (pa_cons (pe_op op_add pe_int (pe_c CT hr (pa_cons (pv 1) (pa_cons pe_int pa_nil)))) pa_nil))))
      (pss_cons (ps_set (i := 4) nd rfl (.inl rfl) (pe_c CGr hr (pa_cons (pv 1) (pa_cons (pe_op op_add pe_int (pe_c CT hr (pa_cons (pv 1) (pa_cons pe_int pa_nil)))) (pa_cons (pe_callB call_len_seq (by rfl) zl PySem.boot_len (pa_cons (pv 3) pa_nil)) (pa_cons (pe_c CK hr (pa_cons (pv 1) (pa_cons (pe_lst (pa_cons pe_int (pa_cons pe_int (pa_cons pe_int pa_nil)))) pa_nil))) pa_nil))))))
      (pss_cons (ps_par (i := 5) (j := 6) rfl nd rfl rfl (by decide) rfl rfl (pa_cons (pe_make mk FI (hr.mono (by decide)) rfl M.at_ bI .nil pass0 (pa_cons (pv 3) (pa_cons (pv 4) pa_nil))) (pa_cons (pe_c CTx hr (pa_cons (pv 1) (pa_cons (pv 3) pa_nil))) pa_nil)) (by rfl))
      (pss_cons (ps_par (i := 7) (j := 8) rfl nd rfl rfl (by decide) rfl rfl (pa_cons (pe_cx CN hr (pa_cons (pv 5) pa_nil)) (pa_cons (pe_listRg rfl rfl zL (prg_1 rfl zr (pe_callB call_len_seq (by rfl) zl PySem.boot_len (pa_cons (pv 4) pa_nil)))) pa_nil)) (by rfl))
      (pss_cons (ps_for PassesOwn.never rfl (pi_list (pe_ifExp (pt_cmpR op_lt (pe_callB call_len_seq (by rfl) zl PySem.boot_len (pa_cons (pv 6) pa_nil)) pe_int (nomark _)) (pv 8) (pe_lst (pa_cons (pe_c CK hr (pa_cons (pv 1) (pa_cons (pv 8) pa_nil))) pa_nil)))) (pg_name (i := 9) nd rfl (.inl rfl)) (pss_cons (ps_set (i := 10) nd rfl (.inl rfl) (pe_c CWe hr (pa_cons (pv 3) (pa_cons (pv 4) (pa_cons (pv 9) (pa_cons (pv 6) pa_nil))))))
      (pss_cons (ps_if (PW.pt (pw_or (pt_cmpR op_ne (pe_callB (call_reprD ng hu) (by rfl) zp (by decide +kernel) (pa_cons (pe_cx CR hr (pa_cons (pv 5) (pa_cons (pv 9) (pa_cons (pv 6) pa_nil)))) pa_nil)) (pe_callB (call_reprD ng hu) (by rfl) zp (by decide +kernel) (pa_cons (pv 10) pa_nil)) (nomark _)) (pw_or1 (pt_cmpR op_ne (pe_callB (call_reprD ng hu) (by rfl) zp (by decide +kernel) (pa_cons (pe_kwS CR DR kw_read hr passL (pk_cons (pv 5) (pk_cons (pv 6) (pk_cons (pv 9) pk_nil)))) pa_nil)) (pe_callB (call_reprD ng hu) (by rfl) zp (by decide +kernel) (pa_cons (pv 10) pa_nil)) (nomark _))))) (pss_one (ps_ret pe_bl)) pss_nil)
      (pss_cons (ps_set (i := 11) nd rfl (.inl rfl) (pe_c CT hr (pa_cons (pv 1) (pa_cons (pe_op op_add (pe_callB call_len_seq (by rfl) zl PySem.boot_len (pa_cons (pv 6) pa_nil)) pe_int) pa_nil))))
      (pss_cons (ps_asg (pe_cx CR hr (pa_cons (pv 5) (pa_cons (pv 9) (pa_cons (pe_slice sl_tupA (pv 6) po_none (po_some (pv 11))) pa_nil)))) (pg_tup rfl (pgs_cons (pg_name (i := 12) nd rfl (.inl rfl)) (pgs_cons (pg_name (i := 13) nd rfl (.inl rfl)) pgs_nil))))
      (pss_cons (ps_asg (pe_cx CR hr (pa_cons (pv 5) (pa_cons (pv 12) (pa_cons (pe_slice sl_tupA (pv 6) (po_some (pv 11)) po_none) pa_nil)))) (pg_tup rfl (pgs_cons (pg_name (i := 14) nd rfl (.inl rfl)) (pgs_cons (pg_name (i := 15) nd rfl (.inl rfl)) pgs_nil))))
      (pss_cons (ps_if (pt_cmpR op_ne (pe_callB (call_reprD ng hu) (by rfl) zp (by decide +kernel) (pa_cons (pe_tup (pa_cons (pv 14) (pa_cons (pe_tup (pa_cons (pe_op op_add (pe_ix ix_tup (pv 13) pe_int (fun _ _ => rfl)) (pe_ix ix_tup (pv 15) pe_int (fun _ _ => rfl))) (pa_cons (pe_op op_add (pe_ix ix_tup (pv 13) pe_int (fun _ _ => rfl)) (pe_ix ix_tup (pv 15) pe_int (fun _ _ => rfl))) pa_nil))) pa_nil))) pa_nil)) (pe_callB (call_reprD ng hu) (by rfl) zp (by decide +kernel) (pa_cons (pv 10) pa_nil)) (nomark _)) (pss_one (ps_ret pe_bl)) pss_nil)
      (pss_cons (ps_if (pt_cmpR op_ne (pe_callB (call_reprD ng hu) (by rfl) zp (by decide +kernel) (pa_cons (pe_cx CR hr (pa_cons (pv 7) (pa_cons (pv 9) (pa_cons (pv 6) pa_nil)))) pa_nil)) (pe_callB (call_reprD ng hu) (by rfl) zp (by decide +kernel) (pa_cons (pe_tup (pa_cons (pe_ix ix_tup (pv 10) pe_int (fun _ _ => rfl)) (pa_cons (pe_tup (pa_cons (pe_un un_neg (pe_ix ix_tup (pe_ix ix_tup (pv 10) pe_int (fun _ _ => rfl)) pe_int (fun _ _ => rfl))) (pa_cons (pe_un un_neg (pe_ix ix_tup (pe_ix ix_tup (pv 10) pe_int (fun _ _ => rfl)) pe_int (fun _ _ => rfl))) pa_nil))) pa_nil))) pa_nil)) (nomark _)) (pss_one (ps_ret pe_bl)) pss_nil)
      (pss_one (ps_for PassesOwn.never rfl (pi_enumT rfl ze (pa_cons (pv 3) pa_nil)) (pg_tup rfl (pgs_cons (pg_name (i := 16) nd rfl (.inl rfl)) (pgs_cons (pg_name (i := 17) nd rfl (.inl rfl)) pgs_nil))) (pss_cons (ps_asg (pe_ix ix_tup (pe_ix ix_tup (pv 4) (pv 9) (fun _ _ => rfl)) (pv 16) (fun _ _ => rfl)) (pg_tup rfl (pgs_cons (pg_name (i := 18) nd rfl (.inl rfl)) (pgs_cons (pg_name (i := 19) nd rfl (.inl rfl)) (pgs_cons (pg_name (i := 20) nd rfl (.inl rfl)) pgs_nil)))))
      (pss_cons (ps_if (pt_cmpR op_ne (pe_callB (call_reprD ng hu) (by rfl) zp (by decide +kernel) (pa_cons (pe_cx CP hr (pa_cons (pv 5) (pa_cons (pv 9) (pa_cons (pv 17) pa_nil)))) pa_nil)) (pe_callB (call_reprD ng hu) (by rfl) zp (by decide +kernel) (pa_cons (pe_tup (pa_cons (pv 18) (pa_cons (pe_tup (pa_cons (pv 19) (pa_cons (pv 20) pa_nil))) pa_nil))) pa_nil)) (nomark _)) (pss_one (ps_ret pe_bl)) pss_nil)
      (pss_cons (ps_if (pt_cmpR op_ne (pe_callB (call_reprD ng hu) (by rfl) zp (by decide +kernel) (pa_cons (pe_kwE CP DP kw_stepped hr passL (pk_cons (pv 17) (pk_cons (pv 9) (pk_cons (pv 7) pk_nil)))) pa_nil)) (pe_callB (call_reprD ng hu) (by rfl) zp (by decide +kernel) (pa_cons (pe_tup (pa_cons (pv 18) (pa_cons (pe_tup (pa_cons (pe_un un_neg (pv 19)) (pa_cons (pe_un un_neg (pv 20)) pa_nil))) pa_nil))) pa_nil)) (nomark _)) (pss_one (ps_ret pe_bl)) pss_nil)
      (pss_one (ps_if (pt_cmpR (op_neD hr.units) (pe_cx CP hr (pa_cons (pv 5) (pa_cons (pv 9) (pa_cons (pv 17) pa_nil)))) (pe_cx CR hr (pa_cons (pv 5) (pa_cons (pv 9) (pa_cons (pe_tup (pa_cons (pv 17) pa_nil)) pa_nil)))) (nomark _)) (pss_one (ps_ret pe_bl)) pss_nil)))))))))))))))
      (pss_cons (ps_if (PW.pt (pw_or (pt_cmpR (op_neD hr.units) (pe_fld (pv 7) rfl) (pv 3) (nomark _)) (pw_or (pt_cmpR op_ne (pe_callB (call_lenM LC (hr.mono (by decide))) (by rfl) zl PySem.boot_len (pa_cons (pv 7) pa_nil)) (pe_callB call_len_seq (by rfl) zl PySem.boot_len (pa_cons (pv 4) pa_nil)) (nomark _)) (pw_or1 (pt_cmpR (op_neO FE OC bE (hr.mono (by decide))) (pe_kwE CN DN kw_negated hr passL (pk_cons (pv 7) pk_nil)) (pv 5) (nomark _)))))) (pss_one (ps_ret pe_bl)) pss_nil)
      (pss_one (ps_if (PW.pt (pw_or (pt_cmpR op_ne (pe_callB (call_reprD ng hu) (by rfl) zp (by decide +kernel) (pa_cons (pe_fld (pv 5) rfl) pa_nil)) (pe_callB (call_reprD ng hu) (by rfl) zp (by decide +kernel) (pa_cons (pv 4) pa_nil)) (nomark _)) (pw_or1 (pt_not (pt_val (pe_c CRf hr (pa_cons (pv 1) (pa_cons (pv 5) (pa_cons (pv 3) (pa_cons (pv 4) (pa_cons (pv 6) pa_nil))))))))))) (pss_one (ps_ret pe_bl)) pss_nil)))))))))
      (pss_one (ps_ret pe_bl))), ?_⟩
  refine ⟨_, rfl, l, ns, rfl, hl, len, fun p g c H1 k1 d1 => ?_⟩
  have hl1 := sqL_keep k1.toKeepW (fun z => nomatch z) hl
  have tabs1 := tabs_keep k1 nilExt tabs
  refine ⟨_, rfl, l, _, rfl, .inl hl1, _, _, rfl, rfl, ⟨by decide, by decide⟩, _, _, rfl, _, _, rfl, rfl, _, rfl, ?_, ?_, for_range (fun i σ H' => i ≤ 3 ∧ ∃ t2 t3 t4 t5 t6 t7 t8 t9 t10 t11 t12 t13 t14 t15 t16 t17 t18 t19 t20,
      σ = [some (.ref l), some (.ref p), t2, t3, t4, t5, t6, t7, t8, t9, t10, t11, t12, t13, t14, t15, t16, t17, t18, t19, t20] ∧ Draw H' p g c (1000 * i) ∧ Tabs T H')
    ⟨by decide, none, none, none, none, none, none, none, none, none, none, none, none, none, none, none, none, none, none, none, rfl, d1.mono (by decide), tabs1⟩ (fun i σ H' hi hh => ?_) (fun σ H' hh => ?_)⟩
  · rw [List.length_map]
    split <;> omega
  · rw [List.length_map]
    split <;> omega
  rotate_left
  · obtain ⟨_, t2, t3, t4, t5, t6, t7, t8, t9, t10, t11, t12, t13, t14, t15, t16, t17, t18, t19, t20, rfl, _⟩ := hh
    exact q _
  obtain ⟨i3, t2, t3, t4, t5, t6, t7, t8, t9, t10, t11, t12, t13, t14, t15, t16, t17, t18, t19, t20, rfl, dr, tb⟩ := hh
  have i2 : i + 1 ≤ 3 := by
    rw [List.length_map] at hi
    split at hi <;> omega
  clear hi
  dsimp only [gName]
  -- signs
  refine ⟨_, rfl, _, rfl, p, g, c, 1000 * i, 4, rfl, dr, by omega, by decide, by decide, fun t H2 t0 t1 k2 d2 => ⟨_, _, rfl, rfl, ?_⟩⟩
  obtain ⟨m, rfl⟩ : ∃ m : Nat, t = (m : Int) := ⟨t.toNat, by omega⟩
  refine ⟨p, g, c, _, 1 + m, rfl, d2, by omega, by omega, by omega, fun v3 L H3 hL pl lok lenL k3 d3 => ?_⟩
  dsimp only [gName]
  obtain ⟨la, rfl, hla⟩ := id hL
  -- grid
  refine ⟨_, rfl, _, rfl, p, g, c, _, 4, rfl, d3, by omega, by decide, by decide, fun t H4 t0' t1' k4 d4 => ⟨_, _, rfl, rfl, ?_⟩⟩
  obtain ⟨m2, rfl⟩ : ∃ m : Nat, t = (m : Int) := ⟨t.toNat, by omega⟩
  have hla4 := sqT_keep k4.toKeepW hla
  refine ⟨_, rfl, la, _, rfl, .inr hla4, _, rfl, by show 3 ≤ sizeLine; decide, fun ml nml => ?_⟩
  show sp_some K [.ref p, .ref ml] _ _ L2.E0
  refine pick_lst (Φ := fun _ x => ∃ pk : Int, x = .int pk ∧ 0 ≤ pk ∧ pk ≤ 999) d4 (by omega) nml (by simp) (by simp) (fun _ _ => all_cons ⟨_, rfl, by decide, by decide⟩ (all_cons ⟨_, rfl, by decide, by decide⟩ (all_cons ⟨_, rfl, by decide, by decide⟩ all_nil))) (fun pkv H5 k5 d5 hp => ?_)
  obtain ⟨pk, rfl, p0, p1⟩ := hp
  refine ⟨p, g, c, _, 1 + m2, _, pk, rfl, d5, by omega, by omega, by omega, ?_, ?_, p0, p1, fun v4 G H6 hG gok lenG k6 d6 => ?_⟩
  · rw [List.length_map]
    omega
  · rw [List.length_map]
    omega
  rw [List.length_map] at gok
  dsimp only [gName]
  have K36 : Keep [p, g] H3 H6 := (k4.trans k5).trans k6
  have hL6 := hL.keep K36.toKeepW
  have pl6 := pl.keep K36.toKeepW
  -- store, row
  refine ⟨_, rfl, _, rfl, fun x dx nx ndx nex => ?_⟩
  have k7a : Keep [] H6 (upd (upd H6 dx (.own x)) x (.ins C dx [])) := (Keep.new ndx).mut nx
  refine ⟨x, dx, .ref la, v4, L, G, rfl, upd_same, hL6.keep k7a.toKeepW, hG.keep k7a.toKeepW, lok, gok, fun H7 k7b hx => ⟨rfl, ?_⟩⟩
  have k7 := k7a.fresh k7b nx
  have hL7 := hL6.keep k7.toKeepW
  have pl7 := pl6.keep k7.toKeepW
  have hG7 := hG.keep k7.toKeepW
  have mem7 : Mem K C H7 (.ref x) L G := .mk' hx hL7 pl7 hG7
  have d7 := d6.keep k7.toKeepW
  refine ⟨_, rfl, _, rfl, p, g, c, _, .ref la, L, rfl, d7, by omega, hL7, by omega, by omega, fun v6 W H8 hW inW lenW k8 d8 => ?_⟩
  dsimp only
  have oM : Out [p, g] (V.ref x) := d7.outMem mem7
  have mem8 := mem7.keep k8.toKeepW oM
  have hL8 := hL7.keep k8.toKeepW
  have pl8 := pl7.keep k8.toKeepW
  have hG8 := hG7.keep k8.toKeepW
  -- turned, some
  obtain ⟨ma, rs, rfl, hma, lenG2, atG⟩ := id hG8
  refine ⟨_, _, rfl, _, rfl, .inl ⟨.ref x, L, G, rfl, mem8, lok, gok, by omega, by omega, fun y H9 k9 ny mem9 => ?_⟩⟩
  have hma9 := sqT_keep k9.toKeepW hma
  refine ⟨_, rfl, ma, rs, rfl, .inr hma9, _, rfl, .of_le (by omega) (by omega) (by omega) (by omega), fun sq nsq => ⟨_, _, rfl, ?_⟩⟩
  dsimp only
  have k10 : Keep [] H9 (upd H9 sq (.lst (rgV 0 (rs.length : Int)))) := Keep.new nsq
  have e10 : upd H9 sq (.lst (rgV 0 (rs.length : Int))) sq = some (.lst (rgV 0 (rs.length : Int))) := upd_same
  have d9 := d8.keep k9.toKeepW
  have osq : sq ∉ [p, g] := d9.known.out nsq
  have K0 : Keep [p, g] H' (upd H9 sq (.lst (rgV 0 (rs.length : Int)))) := (((((k2.trans k3).trans K36).trans k7.nil).trans k8).trans k9.nil).trans k10.nil
  have K810 := k9.trans k10
  have d10 := d8.keep K810.toKeepW
  have tb10 := tabs_keep K0 dr.noExt tb
  have mem10 := mem8.keep K810.toKeepW (fun _ _ m => nomatch m)
  have memN : Mem K C (upd H9 sq (.lst (rgV 0 (rs.length : Int)))) (.ref y) L (G.map fun r => r.map neg) := mem9.keep k10.toKeepW (fun _ _ m => nomatch m)
  have hL10 := hL8.keep K810.toKeepW
  have pl10 := pl8.keep K810.toKeepW
  have hG10 := hG8.keep K810.toKeepW
  have hW10 := hW.keep K810.toKeepW
  clear mem7 mem8 mem9 hL6 hL7 hL8 pl6 pl7 pl8 hG hG7 hG8 hW k7a k7b hx d7 hma9 d9 K36 k2 k3 k4 k5 k6 d2 d3 d4 d5 d6 hL pl tb dr K0 k8 d8 hla4 hla K810
  generalize upd H9 sq (.lst (rgV 0 (rs.length : Int))) = H10 at e10 d10 tb10 mem10 memN hL10 pl10 hG10 hW10 ⊢
  have oM : Out [p, g] (V.ref x) := d10.outMem mem10
  have oN : Out [p, g] (V.ref y) := d10.outMem memN
  obtain ⟨wa, rfl, hwa⟩ := id hW10
  have gokN := gok.neg
  have glen : G.length = rs.length := by omega
  refine for_listE (fun v Hv => ∃ a xs, v = .ref a ∧ a ∉ [p, g] ∧ SqL K Hv a xs ∧ xs.length ≤ 4 ∧ (∀ z ∈ xs, ∃ h : Nat, z = .int (h : Int) ∧ h < G.length) ∧ Keep [p, g] H10 Hv ∧ Draw Hv p g c (1000 * i + 400)) (fun NX nx => ?_) (fun v H11 hh => ?_)
  · have range_ : ∀ z ∈ rgV 0 (rs.length : Int), ∃ h : Nat, z = .int (h : Int) ∧ h < G.length := fun z hz => by
      obtain ⟨h, hh, rfl⟩ := List.mem_map.mp hz
      have := List.mem_range.mp hh
      exact ⟨h, by rw [Int.zero_add], by omega⟩
    have rlen : (rgV 0 (rs.length : Int)).length = rs.length := by
      rw [rgV_length]
      omega
    refine ⟨_, rfl, wa, _, rfl, .inr hwa, _, _, rfl, rfl, _, rfl, ite2 (fun z => ?_) (fun z => ?_)⟩
    · exact ⟨_, rfl, nx _ _ ⟨sq, _, rfl, osq, .inl (.inl e10), by omega, range_, Keep.refl, d10.mono (by omega)⟩⟩
    · refine ⟨_, rfl, _, rfl, p, g, c, _, .ref sq, _, rfl, d10, by omega, .lst (.inl (.inl e10)) osq, by omega, by omega, fun j v H11 hv k11 d11 => ⟨by show 1 ≤ sizeLine; decide, fun a na => ?_⟩⟩
      have ka : Keep [] H11 (upd H11 a (.lst [v])) := Keep.new na
      refine nx _ _ ⟨a, [v], rfl, d11.known.out na, .inl (.inl upd_same), by simp, fun z hz => ?_, k11.trans ka.nil, (d11.keep ka.toKeepW).mono (by omega)⟩
      rw [List.mem_singleton.mp hz]
      exact range_ v (List.mem_of_getElem? hv)
  obtain ⟨hs, xs, rfl, ohs, hxs, len4, hall, k11, d11⟩ := hh
  have tb11 := tabs_keep k11 d10.noExt tb10
  replace mem10 := mem10.keep k11.toKeepW oM
  replace memN := memN.keep k11.toKeepW oN
  replace hL10 := hL10.keep k11.toKeepW
  replace pl10 := pl10.keep k11.toKeepW
  replace hG10 := hG10.keep k11.toKeepW
  replace hW10 := hW10.keep k11.toKeepW
  replace hwa := sqT_keep k11.toKeepW hwa
  replace hma := hma
  clear k11 d10 tb10 e10 nsq
  refine ⟨hs, rfl, ⟨_, hxs⟩, for_listW (xs := xs) (fun jj σ H2 => jj ≤ 4 ∧ ∃ u9 u10 u11 u12 u13 u14 u15 u16 u17 u18 u19 u20, σ = [some (.ref l), some (.ref p), some (.int (0 + (i : Int))), some (.ref la), some (.ref ma), some (.ref x), some (.ref wa), some (.ref y), some (.ref sq), u9, u10, u11, u12, u13, u14, u15, u16, u17, u18, u19, u20] ∧
      Keep [p, g] H11 H2 ∧ Draw H2 p g c (1000 * i + 400 + 5 * jj)) ⟨by omega, _, _, _, _, _, _, _, _, _, _, _, _, rfl, Keep.refl, d11.mono (by omega)⟩ (fun jj σ H2 _ hh => ?_) (fun jj v σ H2 hv hh => ?_) (fun σ H2 hh => ?_)⟩
  · obtain ⟨_, u9, u10, u11, u12, u13, u14, u15, u16, u17, u18, u19, u20, rfl, k2, _⟩ := hh
    exact sqL_keep k2.toKeepW ohs hxs
  · obtain ⟨j4, u9, u10, u11, u12, u13, u14, u15, u16, u17, u18, u19, u20, rfl, k2, d2⟩ := hh
    obtain ⟨h, rfl, hlt⟩ := hall v (List.mem_of_getElem? hv)
    have jl : jj < 4 := by
      have := (List.getElem?_eq_some_iff.mp hv).1
      omega
    obtain ⟨e, a, b, went, el, a0, a1, b0, b1⟩ := Went.is gok W h 0 0 hlt inW
    have hL2 := hL10.keep k2.toKeepW
    have pl2 := pl10.keep k2.toKeepW
    have hG2 := hG10.keep k2.toKeepW
    have hW2 := hW10.keep k2.toKeepW
    have mem2 := mem10.keep k2.toKeepW oM
    have memN2 := memN.keep k2.toKeepW oN
    dsimp only [gName]
    -- due
    refine ⟨_, rfl, _, rfl, _, rfl, _, rfl, .ref la, .ref ma, .ref wa, L, G, W, h, e, a, b, rfl, hL2, pl2, lok.asc, hG2, hW2, went, fun due H3 k3 ansD => ?_⟩
    dsimp only [gName]
    have few : G.length ≤ 120 := by omega
    have big : (2 : Nat) ^ 100 > 10000000 := by decide
    have SH : Sh 2 1000 (dA e a b) := sh_A (by omega) (by omega) (by omega)
    have dep : (dA e a b).depth ≤ 64 := Nat.le_trans SH.depth (by decide)
    have lenS : (dA e a b).shown.length ≤ sizeLine := Nat.le_trans SH.len (by decide)
    -- repr(read(store, here, row)) != repr(due)
    refine ⟨_, rfl, _, rfl, _, rfl, .inl ⟨.ref x, .ref wa, L, G, W, h, e, a, b, rfl, mem2.keep k3.toKeepW (fun _ _ m => nomatch m), lok, few, hlt, hW2.keep k3.toKeepW, inW, went, fun r H4 k4 ans4 => ?_⟩⟩
    refine ⟨r, dA e a b, rfl, dp_A ans4, SH.showable, SH.noDict, dep, lenS, _, rfl, due, dA e a b, rfl, dp_A (ansD.keep k4.toKeepW), SH.showable, SH.noDict, dep, lenS, ?_⟩
    refine ⟨rfl, _, rfl, ?_⟩
    rw [decide_eq_true rfl]
    have noB : ∀ {Hx : Hp}, KeepW [] H3 Hx → Mem K C Hx (.ref x) L G := fun k => (mem2.keep k3.toKeepW (fun _ _ m => nomatch m)).keep k (fun _ _ m => nomatch m)
    have noN : ∀ {Hx : Hp}, KeepW [] H3 Hx → Mem K C Hx (.ref y) L (G.map fun r => r.map neg) := fun k => (memN2.keep k3.toKeepW (fun _ _ m => nomatch m)).keep k (fun _ _ m => nomatch m)
    have hW3 := hW2.keep k3.toKeepW
    have hwa3 := sqT_keep k3.toKeepW (sqT_keep k2.toKeepW hwa)
    refine ⟨_, rfl, _, rfl, _, rfl, .inl ⟨.ref x, .ref wa, L, G, W, h, e, a, b, rfl, noB k4.toKeepW, lok, few, hlt, hW3.keep k4.toKeepW, inW, went, fun r5 H5 k5 ans5 => ?_⟩⟩
    have k35 := k4.trans k5
    refine ⟨r5, dA e a b, rfl, dp_A ans5, SH.showable, SH.noDict, dep, lenS, _, rfl, due, dA e a b, rfl, dp_A (ansD.keep k35.toKeepW), SH.showable, SH.noDict, dep, lenS, ?_⟩
    refine ⟨rfl, _, rfl, ?_⟩
    rw [decide_eq_true rfl]
    -- k
    have d5 := d2.keep (k3.trans k35).toKeepW
    refine ⟨_, rfl, _, rfl, wa, _, rfl, .inr (sqT_keep k35.toKeepW hwa3), _, _, rfl, rfl, p, g, c, _, _, rfl, d5, by omega, by omega, by rw [List.length_map]; omega, fun k H6 q0 q1 k6 d6 => ?_⟩
    rw [List.length_map] at q1
    obtain ⟨k, rfl⟩ : ∃ m : Nat, k = (m : Int) := ⟨k.toNat, by omega⟩
    dsimp only [gName]
    have k36 : KeepW [p, g] H3 H6 := k35.nil.toKeepW.trans k6.toKeepW
    have mem6 : Mem K C H6 (.ref x) L G := (noB k35.toKeepW).keep k6.toKeepW oM
    have memN6 : Mem K C H6 (.ref y) L (G.map fun r => r.map neg) := (noN k35.toKeepW).keep k6.toKeepW oN
    have hwa6 := sqT_keep k36 hwa3
    have ansD6 := ansD.keep k36
    have hL6 := (hL2.keep k3.toKeepW).keep k36
    have hG6 := (hG2.keep k3.toKeepW).keep k36
    have K6 : Keep [p, g] H11 H6 := k2.trans ((k3.trans k35).nil.trans k6)
    have kl : k ≤ (W.map V.str).length := by rw [List.length_map]; omega
    obtain ⟨mid, x1, y1, wU, wV⟩ := Went.split (U := W.take k) (W := W.drop k) (by rw [List.take_append_drop]; exact went)
    have midl := wU.lt gok hlt
    have wV0 := wV.shift (-x1) (-y1)
    rw [show x1 + -x1 = 0 by omega, show y1 + -y1 = 0 by omega] at wV0
    clear noB noN hW3 hL2 pl2 hG2 hW2 mem2 memN2 k5 k4 ans4 ans5 k36 ansD k2 k6 k3 k35
    -- mid, pair
    refine ⟨_, rfl, _, rfl, _, rfl, _, rfl, _, rfl, cutA hwa6 (fun b7 H7 k7 h7 => ?_)⟩
    rw [cut_to kl, ← List.map_take] at h7
    refine .inl ⟨.ref x, .ref b7, L, G, W.take k, h, mid, x1, y1, rfl, mem6.keep k7.toKeepW (fun _ _ m => nomatch m), lok, few, hlt, ⟨b7, rfl, h7⟩, fun z hz => inW z (List.mem_of_mem_take hz), wU, fun r8 H8 k8 ans8 => ?_⟩
    obtain ⟨p8, q8, rfl, hp8, hq8⟩ := ans8
    refine ⟨p8, [_, _], rfl, hp8, rfl, _, [_], rfl, _, [], rfl, rfl, ?_⟩
    dsimp only [gName]
    have k68 := k7.trans k8
    -- far, more
    refine ⟨_, rfl, _, rfl, _, rfl, _, rfl, _, rfl, ?_⟩
    dsimp only [tNoPart]
    refine cutA (sqT_keep k68.toKeepW hwa6) (fun b9 H9 k9 h9 => ?_)
    rw [cut_from kl, ← List.map_drop] at h9
    refine .inl ⟨.ref x, .ref b9, L, G, W.drop k, mid, e, a + -x1, b + -y1, rfl, mem6.keep (k68.trans k9).toKeepW (fun _ _ m => nomatch m), lok, few, midl, ⟨b9, rfl, h9⟩, fun z hz => inW z (List.mem_of_mem_drop hz), wV0, fun r10 H10' k10 ans10 => ?_⟩
    obtain ⟨p10, q10, rfl, hp10, hq10⟩ := ans10
    refine ⟨p10, [_, _], rfl, hp10, rfl, _, [_], rfl, _, [], rfl, rfl, ?_⟩
    have k610 := (k68.trans k9).trans k10
    have hq8' := sqT_keep (k9.trans k10).toKeepW hq8
    refine ⟨_, rfl, _, rfl, q8, _, 0, _, rfl, rfl, hq8', rfl, _, rfl, q10, _, 0, _, rfl, rfl, hq10, rfl, _, _, rfl, rfl, _, rfl, q8, _, 1, _, rfl, rfl, hq8', rfl, _, rfl, q10, _, 1, _, rfl, rfl, hq10, rfl, _, _, rfl, rfl, by show 2 ≤ sizeLine; decide, fun t11 nt11 => ⟨by show 2 ≤ sizeLine; decide, fun t12 nt12 => ?_⟩⟩
    have k12 : Keep [] H10' (upd (upd H10' t11 (.tup [.int (x1 + (a + -x1)), .int (y1 + (b + -y1))])) t12 (.tup [.int (e : Nat), .ref t11])) := (Keep.new nt11).trans (Keep.new nt12)
    have ans12 : Ans K (upd (upd H10' t11 (.tup [.int (x1 + (a + -x1)), .int (y1 + (b + -y1))])) t12 (.tup [.int (e : Nat), .ref t11])) (.ref t12) e a b := by
      refine ⟨t12, t11, rfl, .inl (.inl upd_same), .inl (.inl ?_)⟩
      rw [upd_ne (ne_of_none upd_same nt12), upd_same, show x1 + (a + -x1) = a by omega, show y1 + (b + -y1) = b by omega]
    generalize upd (upd H10' t11 (.tup [.int (x1 + (a + -x1)), .int (y1 + (b + -y1))])) t12 (.tup [.int (e : Nat), .ref t11]) = H12 at k12 ans12 ⊢
    have k612 := k610.trans k12
    refine ⟨_, dA e a b, rfl, dp_A ans12, SH.showable, SH.noDict, dep, lenS, _, rfl, due, dA e a b, rfl, dp_A (ansD6.keep k612.toKeepW), SH.showable, SH.noDict, dep, lenS, rfl, _, rfl, ?_⟩
    rw [decide_eq_true rfl]
    -- read(turned, here, row)
    have SHN : Sh 2 1000 (dA e (-a) (-b)) := sh_A (by omega) (by omega) (by omega)
    have depN : (dA e (-a) (-b)).depth ≤ 64 := Nat.le_trans SHN.depth (by decide)
    have lenN : (dA e (-a) (-b)).shown.length ≤ sizeLine := Nat.le_trans SHN.len (by decide)
    have wentN := went.neg
    rw [show -(0 : Int) = 0 from rfl] at wentN
    have glN : (G.map fun r => r.map neg).length = G.length := List.length_map ..
    refine ⟨_, rfl, _, rfl, _, rfl, .inl ⟨.ref y, .ref wa, L, G.map fun r => r.map neg, W, h, e, -a, -b, rfl, memN6.keep k612.toKeepW (fun _ _ m => nomatch m), lok, by omega, by omega, ⟨wa, rfl, sqT_keep k612.toKeepW hwa6⟩, inW, wentN, fun r13 H13 k13 ans13 => ?_⟩⟩
    obtain ⟨pd, qd, rfl, hpd, hqd⟩ := ansD6.keep (k612.trans k13).toKeepW
    refine ⟨r13, dA e (-a) (-b), rfl, dp_A ans13, SHN.showable, SHN.noDict, depN, lenN, ?_⟩
    refine ⟨_, rfl, pd, _, 0, _, rfl, rfl, hpd, rfl, _, rfl, pd, _, 1, _, rfl, rfl, hpd, rfl, qd, _, 0, _, rfl, rfl, hqd, rfl, _, rfl, _, rfl, pd, _, 1, _, rfl, rfl, hpd, rfl, qd, _, 1, _, rfl, rfl, hqd, rfl, _, rfl, by show 2 ≤ sizeLine; decide, fun t14 nt14 => ⟨by show 2 ≤ sizeLine; decide, fun t15 nt15 => ?_⟩⟩
    have k15 : Keep [] H13 (upd (upd H13 t14 (.tup [.int (-a), .int (-b)])) t15 (.tup [.int (e : Nat), .ref t14])) := (Keep.new nt14).trans (Keep.new nt15)
    have ans15 : Ans K (upd (upd H13 t14 (.tup [.int (-a), .int (-b)])) t15 (.tup [.int (e : Nat), .ref t14])) (.ref t15) e (-a) (-b) := by
      refine ⟨t15, t14, rfl, .inl (.inl upd_same), .inl (.inl ?_)⟩
      rw [upd_ne (ne_of_none upd_same nt15), upd_same]
    generalize upd (upd H13 t14 (.tup [.int (-a), .int (-b)])) t15 (.tup [.int (e : Nat), .ref t14]) = H15 at k15 ans15 ⊢
    refine ⟨_, dA e (-a) (-b), rfl, dp_A ans15, SHN.showable, SHN.noDict, depN, lenN, rfl, _, rfl, ?_⟩
    rw [decide_eq_true rfl]
    have K15 : Keep [p, g] H11 H15 := K6.trans ((k612.trans k13).trans k15).nil
    have k615 := (k612.trans k13).trans k15
    have d15 := d6.keep k615.toKeepW
    have mem15 := mem6.keep k615.toKeepW (fun _ _ m => nomatch m)
    have memN15 := memN6.keep k615.toKeepW (fun _ _ m => nomatch m)
    have hL15 := hL6.keep k615.toKeepW
    have hG15 := hG6.keep k615.toKeepW
    obtain ⟨lb, elb, hla15⟩ := id hL15
    cases elb
    clear k615 k15 ans15 k13 ans13 hpd hqd k612 k12 ans12 k610 hq8' k10 hp10 hq10 k9 h9 k68 k8 hp8 hq8 k7 h7 ansD6 K6 mem6 memN6 hL6 hG6 d6 hwa6 d5
    -- each letter
    refine ⟨_, rfl, la, L.map V.str, rfl, hla15, for_it (walk_ent (xs := L.map V.str)) (fun sp σ H' => ∃ u16 u17 u18 u19 u20, σ = [some (.ref l), some (.ref p), some (.int (0 + (i : Int))), some (.ref la), some (.ref ma), some (.ref x), some (.ref wa), some (.ref y), some (.ref sq),
        some (.int ((h : Nat) : Int)), some (.ref pd), some (.int ((k : Nat) : Int)), some (.int ((mid : Nat) : Int)), some (.ref q8), some (.int ((e : Nat) : Int)), some (.ref q10), u16, u17, u18, u19, u20] ∧ Keep [] H15 H')
      ⟨_, _, _, _, _, rfl, Keep.refl⟩ (fun sp σ H' _ hh => ?_) (fun sp z σ H1 H2 lt hh yy => ?_) (fun σ H' hh => ?_)⟩
    · obtain ⟨_, _, _, _, _, rfl, kz⟩ := hh
      exact sqT_keep kz.toKeepW hla15
    · obtain ⟨u16, u17, u18, u19, u20, rfl, kz⟩ := hh
      obtain ⟨T1, va, vb, rfl, nT, rfl, ea, eb⟩ := yy
      cases ea
      have eb : (L.map V.str)[sp]? = some vb := eb
      rw [List.getElem?_map] at eb
      obtain ⟨z, hz, rfl⟩ := Option.map_eq_some_iff.mp eb
      refine ⟨T1, [_, _], rfl, .inl (.inl upd_same), rfl, _, [_], rfl, _, [], rfl, rfl, ?_⟩
      dsimp only [gName]
      have kT : Keep [] H15 (upd H1 T1 (.tup [.int (sp : Nat), .str z])) := kz.trans (Keep.new nT)
      generalize upd H1 T1 (.tup [.int (sp : Nat), .str z]) = H16 at kT ⊢
      have spl : sp < L.length := (List.getElem?_eq_some_iff.mp hz).1
      obtain ⟨row, tt, xx, yy, rw_, mv, m1, mb0, mb1, mc0, mc1⟩ := step_at gok hlt spl
      obtain ⟨mg', rs', rv, emg, hmg, hrs, R⟩ := (hG15.keep kT.toKeepW).row rw_
      cases emg
      obtain ⟨pr, ts, tv, er, hts, htv, MV⟩ := R.mv mv
      subst er
      obtain ⟨pm, et, hpm⟩ := MV
      subst et
      have mem16 := mem15.keep kT.toKeepW (fun _ _ m => nomatch m)
      have memN16 := memN15.keep kT.toKeepW (fun _ _ m => nomatch m)
      refine ⟨_, rfl, _, rfl, ma, rs', _, _, rfl, rfl, hmg, atI_nat hrs, _, rfl, pr, ts, _, _, rfl, rfl, hts, atI_nat htv, pm, [.int ((tt : Nat) : Int), .int xx, .int yy], rfl, hpm, rfl, _, [_, _], rfl, _, [_], rfl, _, [], rfl, rfl, ?_⟩
      dsimp only [gName]
      obtain ⟨SZ, SM⟩ := sh_Z m1 mb0 mb1 mc0 mc1
      have depZ : (dA tt xx yy).depth ≤ 64 := Nat.le_trans SZ.depth (by decide)
      have lenZ : (dA tt xx yy).shown.length ≤ sizeLine := Nat.le_trans SZ.len (by decide)
      have depM : (dA tt (-xx) (-yy)).depth ≤ 64 := Nat.le_trans SM.depth (by decide)
      have lenM : (dA tt (-xx) (-yy)).shown.length ≤ sizeLine := Nat.le_trans SM.len (by decide)
      -- stepped(store, here, sign)
      refine ⟨_, rfl, _, rfl, _, rfl, .inl ⟨.ref x, L, G, h, sp, z, _, tt, xx, yy, rfl, mem16, lok, few, hz, rw_, mv, fun r1 F1 f1 an1 => ?_⟩⟩
      refine ⟨r1, _, rfl, dp_A an1, SZ.showable, SZ.noDict, depZ, lenZ, _, rfl, _, rfl, _, rfl, by show 2 ≤ sizeLine; decide, fun t1 nt1 => ⟨by show 2 ≤ sizeLine; decide, fun t2 nt2 => ?_⟩⟩
      have f2 : Keep [] F1 (upd (upd F1 t1 (.tup [.int xx, .int yy])) t2 (.tup [.int (tt : Nat), .ref t1])) := (Keep.new nt1).trans (Keep.new nt2)
      have an2 : Ans K (upd (upd F1 t1 (.tup [.int xx, .int yy])) t2 (.tup [.int (tt : Nat), .ref t1])) (.ref t2) tt xx yy := by
        refine ⟨t2, t1, rfl, .inl (.inl upd_same), .inl (.inl ?_)⟩
        rw [upd_ne (ne_of_none upd_same nt2), upd_same]
      generalize upd (upd F1 t1 (.tup [.int xx, .int yy])) t2 (.tup [.int (tt : Nat), .ref t1]) = F2 at f2 an2 ⊢
      refine ⟨_, _, rfl, dp_A an2, SZ.showable, SZ.noDict, depZ, lenZ, rfl, _, rfl, ?_⟩
      rw [decide_eq_true rfl]
      have g2 := f1.trans f2
      -- stepped(letter=sign, state=here, memory=turned)
      have rwN : (G.map fun r => r.map neg)[h]? = some (row.map neg) := by rw [List.getElem?_map, rw_]; rfl
      have mvN : (row.map neg)[sp]? = some (((tt : Nat) : Int), -xx, -yy) := by rw [List.getElem?_map, mv]; rfl
      refine ⟨_, rfl, _, rfl, _, rfl, .inl ⟨.ref y, L, _, h, sp, z, _, tt, -xx, -yy, rfl, memN16.keep g2.toKeepW (fun _ _ m => nomatch m), lok, (by rw [List.length_map]; exact few), hz, rwN, mvN, fun r3 F3 f3 an3 => ?_⟩⟩
      refine ⟨r3, _, rfl, dp_A an3, SM.showable, SM.noDict, depM, lenM, _, rfl, _, rfl, _, rfl, _, rfl, _, rfl, by show 2 ≤ sizeLine; decide, fun t3 nt3 => ⟨by show 2 ≤ sizeLine; decide, fun t4 nt4 => ?_⟩⟩
      have f4 : Keep [] F3 (upd (upd F3 t3 (.tup [.int (-xx), .int (-yy)])) t4 (.tup [.int (tt : Nat), .ref t3])) := (Keep.new nt3).trans (Keep.new nt4)
      have an4 : Ans K (upd (upd F3 t3 (.tup [.int (-xx), .int (-yy)])) t4 (.tup [.int (tt : Nat), .ref t3])) (.ref t4) tt (-xx) (-yy) := by
        refine ⟨t4, t3, rfl, .inl (.inl upd_same), .inl (.inl ?_)⟩
        rw [upd_ne (ne_of_none upd_same nt4), upd_same]
      generalize upd (upd F3 t3 (.tup [.int (-xx), .int (-yy)])) t4 (.tup [.int (tt : Nat), .ref t3]) = F4 at f4 an4 ⊢
      refine ⟨_, _, rfl, dp_A an4, SM.showable, SM.noDict, depM, lenM, rfl, _, rfl, ?_⟩
      rw [decide_eq_true rfl]
      have g4 := (g2.trans f3).trans f4
      -- stepped(store, here, sign) != read(store, here, (sign,))
      refine ⟨_, rfl, _, rfl, _, rfl, .inl ⟨.ref x, L, G, h, sp, z, _, tt, xx, yy, rfl, mem16.keep g4.toKeepW (fun _ _ m => nomatch m), lok, few, hz, rw_, mv, fun r5 F5 f5 an5 => ?_⟩⟩
      refine ⟨_, rfl, _, rfl, _, rfl, by show 1 ≤ sizeLine; decide, fun t6 nt6 => ?_⟩
      have f6 : Keep [] F5 (upd F5 t6 (.tup [.str z])) := Keep.new nt6
      have hz6 : Lt K (upd F5 t6 (.tup [.str z])) (.ref t6) [z] := ⟨t6, rfl, .inl (.inl upd_same)⟩
      have wz : Went L G h 0 0 [z] tt xx yy := by
        have q1 : Went L G h 0 0 [z] tt (0 + xx) (0 + yy) := .cons hz rw_ mv .nil
        rwa [Int.zero_add, Int.zero_add] at q1
      have g6 := (g4.trans f5).trans f6
      refine .inl ⟨.ref x, .ref t6, L, G, [z], h, tt, xx, yy, rfl, mem16.keep g6.toKeepW (fun _ _ m => nomatch m), lok, few, hlt, hz6, fun zz hzz => ?_, wz, fun r7 F7 f7 an7 => ?_⟩
      · rw [List.mem_singleton.mp hzz]
        exact List.mem_of_getElem? hz
      refine ⟨_, _, dp_A (an5.keep (f6.trans f7).toKeepW), dp_A an7, shaped_A _ _ _, shaped_A _ _ _, _, rfl, ?_⟩
      rw [SeqAt.eqv_refl _ (SeqAt.canLay_of_shaped (shaped_A tt xx yy))]
      exact ⟨_, _, _, _, _, rfl, kT.trans (g6.trans f7)⟩
    · obtain ⟨u16, u17, u18, u19, u20, rfl, kz⟩ := hh
      exact ⟨by omega, _, _, _, _, _, _, _, _, _, _, _, _, rfl, K15.trans kz.nil, (d15.keep kz.toKeepW).mono (by omega)⟩
  · obtain ⟨_, u9, u10, u11, u12, u13, u14, u15, u16, u17, u18, u19, u20, rfl, k2, d2⟩ := hh
    have hL2 := hL10.keep k2.toKeepW
    have hG2 := hG10.keep k2.toKeepW
    have hW2 := hW10.keep k2.toKeepW
    have mem2 := mem10.keep k2.toKeepW oM
    have memN2 := memN.keep k2.toKeepW oN
    have tb2 := tabs_keep k2 d11.noExt tb11
    obtain ⟨mg2, rs2, emg2, hma2, lenG3, _⟩ := id hG2
    cases emg2
    have eL : PyData.eqv (dL L) (dL L) = true := SeqAt.eqv_refl _ (SeqAt.canLay_of_shaped (shaped_L lok))
    -- turned.letters != signs
    obtain ⟨yp, ydx, yl, ym, ey, hyp, hyl, hyg⟩ := id memN2.ex
    cases ey
    refine ⟨_, rfl, y, C, ydx, _, _, rfl, hyp, M.cl, M.nL, memF_l _ _, _, rfl, dL L, dL L, dp_L hyl, dp_L hL2, shaped_L lok, shaped_L lok, _, rfl, ?_⟩
    rw [eL]
    -- len(turned) != len(grid)
    refine ⟨_, rfl, .ref y, L, _, rfl, memN2, (by rw [List.length_map]; omega), _, rfl, ma, rs2, rfl, .inr hma2, rfl, _, rfl, ?_⟩
    rw [decide_eq_true (show V.int ((G.map fun r => r.map neg).length : Nat) = V.int (rs2.length : Nat) by rw [List.length_map, lenG3])]
    -- negated(memory=turned) != store
    refine ⟨_, rfl, .inl ⟨.ref y, L, _, rfl, memN2, lok, gok.neg, by omega, (by rw [List.length_map]; omega), fun z H3 k3 nz memZ => ?_⟩⟩
    rw [neg_neg_] at memZ
    have mem3 := mem2.keep k3.toKeepW (fun _ _ m => nomatch m)
    obtain ⟨zp, zdx, zl, zm, ez, hzp, _⟩ := id memZ.ex
    cases ez
    obtain ⟨xp, xdx, xl, xm, ex, hxp, hxl, hxg⟩ := id mem3.ex
    cases ex
    refine ⟨_, rfl, z, x, zdx, xdx, _, _, rfl, rfl, hzp, hxp, ⟨.ref z, .ref x, L, G, rfl, memZ, mem3, lok, true, rfl, _, rfl, ?_⟩⟩
    -- repr(store.moves) != repr(grid)
    have SG := sh_G gok (by omega) (by omega)
    have depG : (dG G).depth ≤ 64 := Nat.le_trans SG.depth (by decide)
    have lenGs : (dG G).shown.length ≤ sizeLine := Nat.le_trans SG.len (by decide)
    refine ⟨_, rfl, x, C, xdx, _, _, rfl, hxp, M.cl, M.nM, memF_m _ _, xm, dG G, rfl, dp_G hxg, SG.showable, SG.noDict, depG, lenGs, _, rfl, .ref ma, dG G, rfl, dp_G (hG2.keep k3.toKeepW), SG.showable, SG.noDict, depG, lenGs, rfl, _, rfl, ?_⟩
    rw [decide_eq_true rfl]
    have d3 := d2.keep k3.toKeepW
    have xl4 : xs.length ≤ 4 := len4
    refine ⟨_, rfl, _, rfl, _, rfl, _, rfl, _, rfl, p, g, c, _, .ref x, .ref la, .ref ma, .ref wa, L, G, W, rfl, d3, by omega, mem3, lok, gok, by omega, by omega, hL2.keep k3.toKeepW, hG2.keep k3.toKeepW, hW2.keep k3.toKeepW, lenW, tabs_keep k3 nilExt tb2,
      fun H4 w4 t4 d4 => ⟨true, rfl, i2, _, _, _, _, _, _, _, _, _, _, _, _, _, _, _, _, _, _, _, rfl, d4.mono (by omega), t4⟩⟩
end
end K01
set_option maxHeartbeats 4000000
namespace HG
open PySem PySem.Spec PyProof.Rows L2 LamX
/-! ## from the head's facts -/
def BindN (x : Str) (st : Stmt) (ps : List Str) : Prop :=
  ∀ (kV doc pm : Value) (an : Option Addr) (cdv ct : Value) (us : List Value), us.length = ps.length →
    bindArgs (PySem.W.fnOf x x (defArgs st) (defBody st) (defScope st) .none kV doc pm an cdv ct) ⟨us, []⟩ = pure (ps.zip us)
section
variable {K : PySem.W.Frag} {h : Heap} {mg : Str → Option Value} {x : Str} {st : Stmt} {ps : List Str} {f : Addr} {oc : Value} {od an : Option Addr}
  {osl : Array (Option Value)} {kV doc pm cdv ct : Value}
theorem def_mk (X : K.In h) (G : h.Ns mainGlobals mg) (b : BindN x st ps) (a : PySem.W.nsIn K mainGlobals x = some (some (.ref f)))
    (l : K.lookup f = some ⟨oc, od, .func (PySem.W.fnOf x x (defArgs st) (defBody st) (defScope st) .none kV doc pm an cdv ct), osl⟩)
    (c : PySem.W.codeIn K cdv x = true) (k : PySem.W.keepIn K (.ref f) = true) : Def K mg x st ps :=
  ⟨f, _, fun_mk l c k, PySem.W.mg_of X G a, (fun_mk l c k).binds b⟩
theorem defC_mk {cc : Addr} (X : K.In h) (G : h.Ns mainGlobals mg) (b : BindN x st ps) (a : PySem.W.nsIn K mainGlobals x = some (some (.ref f)))
    (l : K.lookup f = some ⟨oc, od, .func (PySem.W.fnOf x x (defArgs st) (defBody st) (defScope st) .none kV doc pm an (.ref cc) ct), osl⟩)
    (c : PySem.W.codeIn K (.ref cc) x = true) (k : PySem.W.keepIn K (.ref f) = true) : DefC K mg x st ps cc :=
  ⟨f, oc, od, kV, doc, pm, an, ct, osl, l, c, k, PySem.W.mg_of X G a, (fun_mk l c k).binds b⟩
theorem hit_of {C CE : Addr} (h1 : PySem.W.subIn K (.ref CE) (.type "BaseException") = some true) (h2 : PySem.W.isClsIn K CE = true)
    (h3 : PySem.W.typeIn K (.ref CE) = some (.type "type")) (h4 : PySem.W.subIn K (.ref C) (.ref CE) = some true) : PySem.W.exmOne K (.ref C) (.ref CE) = some true := by
  unfold PySem.W.exmOne PySem.W.kitCls
  rw [h1]
  have e : (PySem.W.clsIn K CE).isSome = true := h2
  simp only [beq_self_eq_true, if_true, e, h3, Bool.true_and, Bool.and_self, h4]
theorem own_of {C : Addr} : PySem.W.kitOne K (.ref C) (.ref C) = some true := by
  unfold PySem.W.kitOne
  rw [if_pos (by simp)]
theorem errX_mk {C CE : Addr} (X : K.In h) (G : h.Ns mainGlobals mg) (a : PySem.W.nsIn K mainGlobals x = some (some (.ref C)))
    (e : PySem.W.excIn K C [.type "ValueError", .type "Exception", .type "BaseException", .type "object"] "ValueError.__new__" = true)
    (k : PySem.W.keepIn K (.ref C) = true) (s : PySem.W.subIn K (.ref C) (.type "BaseException") = some true) (t : PySem.W.typeIn K (.ref C) = some (.type "type"))
    (g1 : PySem.W.findIn K (.ref C) "__getattribute__" = some (some (.builtin "BaseException.__getattribute__"))) (g2 : PySem.W.findIn K (.ref C) "__getattr__" = some none)
    (hd : PySem.W.hasDictIn K C = true) (ha : PySem.W.findIn K (.ref C) "__class__" = some (some (.builtin "object.__class__")))
    (hn : PySem.W.specialIn K (.builtin "object.__class__") "__get__" = some (some (.builtin "getset_descriptor.__get__")))
    (ht : PySem.W.takesIn K (.builtin "object.__class__") = some true) (hm : PySem.W.mroIn K C (.type "object") = some true)
    (h1 : PySem.W.subIn K (.ref CE) (.type "BaseException") = some true) (h2 : PySem.W.isClsIn K CE = true)
    (h3 : PySem.W.typeIn K (.ref CE) = some (.type "type")) (h4 : PySem.W.subIn K (.ref C) (.ref CE) = some true) : ErrX K mg CE x C :=
  { at_ := PySem.W.mg_of X G a, exc := e, keep := k, sub := s, ty := t, is := ⟨g1, g2, s, hd, ha, hn, ht, hm⟩, hit := hit_of h1 h2 h3 h4, own := own_of }
end
def BindQ (x q : Str) (st : Stmt) (ps : List Str) : Prop :=
  ∀ (kV doc pm : Value) (an : Option Addr) (cdv ct : Value) (us : List Value), us.length = ps.length →
    bindArgs (PySem.W.fnOf x q (defArgs st) (defBody st) (defScope st) .none kV doc pm an cdv ct) ⟨us, []⟩ = pure (ps.zip us)
theorem kit_no {K : PySem.W.Frag} {T : String} {C : Addr} (h2 : PySem.W.isClsIn K C = true) (h3 : PySem.W.typeIn K (.ref C) = some (.type "type")) (h4 : PySem.W.subIn K (.type T) (.ref C) = some false) :
    PySem.W.kitOne K (.type T) (.ref C) = some false := by
  unfold PySem.W.kitOne PySem.W.kitCls
  have e : (PySem.W.clsIn K C).isSome = true := h2
  rw [if_neg (show ¬ (Value.type T == Value.ref C) = true by simp)]
  simp only [e, h3, beq_self_eq_true, Bool.and_self, if_true]
  exact h4
end HG

namespace K01
open PySem PySem.Spec PyProof.Rows L2 HG HN HM LamX
abbrev s_binit : Stmt := inClass (topS 3) 0
theorem scS : SupSc (defScope s_binit) "part" := ⟨rfl, rfl, rfl, by decide +kernel, by decide +kernel, rfl, rfl, rfl, rfl, by decide +kernel⟩
theorem defM_mk {K : PySem.W.Frag} {x q : Str} {st : Stmt} {ps : List Str} {f : Addr} {oc : Value} {od an : Option Addr} {osl : Array (Option Value)} {kV doc pm cdv ct : Value} (b : BindQ x q st ps)
    (l : K.lookup f = some ⟨oc, od, .func (PySem.W.fnOf x q (defArgs st) (defBody st) (defScope st) .none kV doc pm an cdv ct), osl⟩) (c : PySem.W.codeIn K cdv q = true) (k : PySem.W.keepIn K (.ref f) = true) : DefM K x q st ps f :=
  ⟨_, fun_mk l c k, (fun_mk l c k).binds b⟩
theorem bq_init : BindQ "__init__" "Memory.__init__" s_init ["self", "letters", "moves"] := fun _ _ _ _ _ _ us hl => match us, hl with | [_, _, _], _ => rfl
theorem bq_len : BindQ "__len__" "Memory.__len__" s_len ["self"] := fun _ _ _ _ _ _ us hl => match us, hl with | [_], _ => rfl
theorem bq_eq : BindQ "__eq__" "Memory.__eq__" s_eq ["self", "other"] := fun _ _ _ _ _ _ us hl => match us, hl with | [_, _], _ => rfl
theorem bad_fn {P : Program} {w : World} {K : PySem.W.Frag} {mg : Str → Option Value} {base : Heap} {CB fB : Addr} {fd : FuncData} (D : SupI P K "BadMemory.__init__" (defBody s_binit) (defScope s_binit) CB fB fd) (T : OexC K CB)
    (mS : mg "super" = none) (hf : PySem.W.findIn K (.ref CB) "part" = some none) : FnOk P w K mg base C8.CX0 1 fB fd ["self", "part"] (spS CB "part") :=
  fn_supS (k := 0) D T scS mS hf rfl (by decide +kernel) (by decide +kernel) (fun _ _ _ => rfl) (fun _ _ _ => rfl) (fun _ _ _ => rfl) (fun _ _ _ => rfl)
theorem bn_is_number : BindN "is_number" s_is_number ["thing"] := fun _ _ _ _ _ _ us hl => match us, hl with | [_], _ => rfl
theorem bn_is_number_from : BindN "is_number_from" s_is_number_from ["thing", "low", "high"] := fun _ _ _ _ _ _ us hl => match us, hl with | [_, _, _], _ => rfl
theorem bn_is_string_of : BindN "is_string_of" s_is_string_of ["thing", "signs"] := fun _ _ _ _ _ _ us hl => match us, hl with | [_, _], _ => rfl
theorem bn_is_letter : BindN "is_letter" s_is_letter ["thing"] := fun _ _ _ _ _ _ us hl => match us, hl with | [_], _ => rfl
theorem bn_is_tuple_of : BindN "is_tuple_of" s_is_tuple_of ["thing", "many"] := fun _ _ _ _ _ _ us hl => match us, hl with | [_, _], _ => rfl
theorem bn_is_ascending : BindN "is_ascending" s_is_ascending ["things"] := fun _ _ _ _ _ _ us hl => match us, hl with | [_], _ => rfl
theorem bn_is_row_of_letters : BindN "is_row_of_letters" s_is_row_of_letters ["thing", "most"] := fun _ _ _ _ _ _ us hl => match us, hl with | [_, _], _ => rfl
theorem bn_is_among : BindN "is_among" s_is_among ["thing", "letters"] := fun _ _ _ _ _ _ us hl => match us, hl with | [_, _], _ => rfl
theorem bn_is_tuple_among : BindN "is_tuple_among" s_is_tuple_among ["thing", "letters"] := fun _ _ _ _ _ _ us hl => match us, hl with | [_, _], _ => rfl
theorem bn_is_row_of_moves : BindN "is_row_of_moves" s_is_row_of_moves ["row", "letters", "states"] := fun _ _ _ _ _ _ us hl => match us, hl with | [_, _, _], _ => rfl
theorem bn_is_move : BindN "is_move" s_is_move ["move", "states"] := fun _ _ _ _ _ _ us hl => match us, hl with | [_, _], _ => rfl
theorem bn_check_memory : BindN "check_memory" s_check_memory ["memory"] := fun _ _ _ _ _ _ us hl => match us, hl with | [_], _ => rfl
theorem bn_is_state : BindN "is_state" s_is_state ["memory", "thing"] := fun _ _ _ _ _ _ us hl => match us, hl with | [_, _], _ => rfl
theorem bn_check_state : BindN "check_state" s_check_state ["memory", "state"] := fun _ _ _ _ _ _ us hl => match us, hl with | [_, _], _ => rfl
theorem bn_check_word : BindN "check_word" s_check_word ["memory", "word"] := fun _ _ _ _ _ _ us hl => match us, hl with | [_, _], _ => rfl
theorem bn_check_letter : BindN "check_letter" s_check_letter ["memory", "letter"] := fun _ _ _ _ _ _ us hl => match us, hl with | [_, _], _ => rfl
theorem bn_stepped : BindN "stepped" s_stepped ["memory", "state", "letter"] := fun _ _ _ _ _ _ us hl => match us, hl with | [_, _, _], _ => rfl
theorem bn_step_of : BindN "step_of" s_step_of ["memory", "state", "letter"] := fun _ _ _ _ _ _ us hl => match us, hl with | [_, _, _], _ => rfl
theorem bn_read : BindN "read" s_read ["memory", "state", "word"] := fun _ _ _ _ _ _ us hl => match us, hl with | [_, _, _], _ => rfl
theorem bn_read_along : BindN "read_along" s_read_along ["memory", "state", "word"] := fun _ _ _ _ _ _ us hl => match us, hl with | [_, _, _], _ => rfl
theorem bn_columns_of : BindN "columns_of" s_columns_of ["memory"] := fun _ _ _ _ _ _ us hl => match us, hl with | [_], _ => rfl
theorem bn_negated : BindN "negated" s_negated ["memory"] := fun _ _ _ _ _ _ us hl => match us, hl with | [_], _ => rfl
theorem bn_l_begun : BindN "_law_begun" s_l_begun ["script"] := fun _ _ _ _ _ _ us hl => match us, hl with | [_], _ => rfl
theorem bn_l_mixed : BindN "_law_mixed" s_l_mixed ["draw"] := fun _ _ _ _ _ _ us hl => match us, hl with | [_], _ => rfl
theorem bn_l_take : BindN "_law_take" s_l_take ["draw", "many"] := fun _ _ _ _ _ _ us hl => match us, hl with | [_, _], _ => rfl
theorem bn_l_pick : BindN "_law_pick" s_l_pick ["draw", "some"] := fun _ _ _ _ _ _ us hl => match us, hl with | [_, _], _ => rfl
theorem bn_l_caught : BindN "_law_caught" s_l_caught ["task"] := fun _ _ _ _ _ _ us hl => match us, hl with | [_], _ => rfl
theorem bn_l_sign : BindN "_law_sign" s_l_sign ["draw"] := fun _ _ _ _ _ _ us hl => match us, hl with | [_], _ => rfl
theorem bn_l_signs : BindN "_law_signs" s_l_signs ["draw", "many"] := fun _ _ _ _ _ _ us hl => match us, hl with | [_, _], _ => rfl
theorem bn_l_cost : BindN "_law_cost" s_l_cost ["draw", "peak"] := fun _ _ _ _ _ _ us hl => match us, hl with | [_, _], _ => rfl
theorem bn_l_grid : BindN "_law_grid" s_l_grid ["draw", "many", "wide", "peak"] := fun _ _ _ _ _ _ us hl => match us, hl with | [_, _, _, _], _ => rfl
theorem bn_l_went : BindN "_law_went" s_l_went ["signs", "grid", "here", "row"] := fun _ _ _ _ _ _ us hl => match us, hl with | [_, _, _, _], _ => rfl
theorem bn_l_text : BindN "_law_text" s_l_text ["draw", "signs"] := fun _ _ _ _ _ _ us hl => match us, hl with | [_, _], _ => rfl
theorem bn_l_strange : BindN "_law_strange" s_l_strange ["signs"] := fun _ _ _ _ _ _ us hl => match us, hl with | [_], _ => rfl
theorem bn_l_refusals : BindN "_law_refusals" s_l_refusals ["draw", "store", "signs", "grid", "row"] := fun _ _ _ _ _ _ us hl => match us, hl with | [_, _, _, _, _], _ => rfl
theorem bn_law : BindN "law" s_law ["script"] := fun _ _ _ _ _ _ us hl => match us, hl with | [_], _ => rfl
theorem catch_mk {K : PySem.W.Frag} {h : Heap} {mg : Str → Option Value} {g CE : Addr} {oc : Value} {od an : Option Addr} {osl : Array (Option Value)} {kV doc pm cdv ct : Value}
    (X : K.In h) (G : h.Ns mainGlobals mg) (a : PySem.W.nsIn K mainGlobals "_law_caught" = some (some (.ref g)))
    (l : K.lookup g = some ⟨oc, od, .func (PySem.W.fnOf "_law_caught" "_law_caught" (defArgs s_l_caught) (defBody s_l_caught) (defScope s_l_caught) .none kV doc pm an cdv ct), osl⟩)
    (c : PySem.W.codeIn K cdv "_law_caught" = true) (k : PySem.W.keepIn K (.ref g) = true) (ce : PySem.W.nsIn K mainGlobals "ClockError" = some (some (.ref CE))) : Catch K mg CE :=
  { ex := ⟨g, oc, od, kV, doc, pm, an, cdv, ct, osl, l, c, k, PySem.W.mg_of X G a, (fun_mk l c k).binds bn_l_caught⟩, ce := PySem.W.mg_of X G ce }
abbrev qR : Str := (envOfC "_law_refusals" (defScope s_l_refusals) 0 0 .none).qual ++ "<lambda>"
theorem all_mk {l : PySem.W.OpenLaw} {w : World} {K : PySem.W.Frag} {mg : Str → Option Value} {h : Heap} {fa cR tR CE CB CS CW CL C fI fL fE fB : Addr} {fdB : FuncData} (hfa : mg "law" = some (.ref fa))
    (DR : DefC K mg "_law_refusals" s_l_refusals ["draw", "store", "signs", "grid", "row"] cR) (G : Catch K mg CE)
    (D_is_number : Def K mg "is_number" s_is_number ["thing"])
    (D_is_number_from : Def K mg "is_number_from" s_is_number_from ["thing", "low", "high"])
    (D_is_string_of : Def K mg "is_string_of" s_is_string_of ["thing", "signs"])
    (D_is_letter : Def K mg "is_letter" s_is_letter ["thing"])
    (D_is_tuple_of : Def K mg "is_tuple_of" s_is_tuple_of ["thing", "many"])
    (D_is_ascending : Def K mg "is_ascending" s_is_ascending ["things"])
    (D_is_row_of_letters : Def K mg "is_row_of_letters" s_is_row_of_letters ["thing", "most"])
    (D_is_among : Def K mg "is_among" s_is_among ["thing", "letters"])
    (D_is_tuple_among : Def K mg "is_tuple_among" s_is_tuple_among ["thing", "letters"])
    (D_is_row_of_moves : Def K mg "is_row_of_moves" s_is_row_of_moves ["row", "letters", "states"])
    (D_is_move : Def K mg "is_move" s_is_move ["move", "states"])
    (D_check_memory : Def K mg "check_memory" s_check_memory ["memory"])
    (D_is_state : Def K mg "is_state" s_is_state ["memory", "thing"])
    (D_check_state : Def K mg "check_state" s_check_state ["memory", "state"])
    (D_check_word : Def K mg "check_word" s_check_word ["memory", "word"])
    (D_check_letter : Def K mg "check_letter" s_check_letter ["memory", "letter"])
    (D_stepped : Def K mg "stepped" s_stepped ["memory", "state", "letter"])
    (D_step_of : Def K mg "step_of" s_step_of ["memory", "state", "letter"])
    (D_read : Def K mg "read" s_read ["memory", "state", "word"])
    (D_read_along : Def K mg "read_along" s_read_along ["memory", "state", "word"])
    (D_columns_of : Def K mg "columns_of" s_columns_of ["memory"])
    (D_negated : Def K mg "negated" s_negated ["memory"])
    (D_l_begun : Def K mg "_law_begun" s_l_begun ["script"])
    (D_l_mixed : Def K mg "_law_mixed" s_l_mixed ["draw"])
    (D_l_take : Def K mg "_law_take" s_l_take ["draw", "many"])
    (D_l_pick : Def K mg "_law_pick" s_l_pick ["draw", "some"])
    (D_l_sign : Def K mg "_law_sign" s_l_sign ["draw"])
    (D_l_signs : Def K mg "_law_signs" s_l_signs ["draw", "many"])
    (D_l_cost : Def K mg "_law_cost" s_l_cost ["draw", "peak"])
    (D_l_grid : Def K mg "_law_grid" s_l_grid ["draw", "many", "wide", "peak"])
    (D_l_went : Def K mg "_law_went" s_l_went ["signs", "grid", "here", "row"])
    (D_l_text : Def K mg "_law_text" s_l_text ["draw", "signs"])
    (D_l_strange : Def K mg "_law_strange" s_l_strange ["signs"])
    (D_law : Def K mg "law" s_law ["script"])
    (eS : ErrX K mg CE "BadState" CS) (eW : ErrX K mg CE "BadWord" CW) (eL : ErrX K mg CE "BadLetter" CL)
    (M : MemC K mg C) (mk : Mk K C fI) (DI : DefM K "__init__" "Memory.__init__" s_init ["self", "letters", "moves"] fI) (DL : DefM K "__len__" "Memory.__len__" s_len ["self"] fL) (DE : DefM K "__eq__" "Memory.__eq__" s_eq ["self", "other"] fE)
    (slotL : PySem.W.findIn K (.ref C) "__len__" = some (some (.ref fL))) (fnL : PySem.W.isFn K (.ref fL) = true) (OC : OwnCmp K C fE) (no : ∀ T ∈ plainT, PySem.W.kitOne K (.type T) (.ref C) = some false)
    (mB : mg "BadMemory" = some (.ref CB)) (DB : SupI l.prog K "BadMemory.__init__" (defBody s_binit) (defScope s_binit) CB fB fdB) (TB_ : OexC K CB) (xnB : PySem.W.findIn K (.ref CB) "part" = some none)
    (iB : PySem.W.findIn K (.ref CB) "__init__" = some (some (.ref fB))) (tB : PySem.W.typeIn K (.ref fB) = some (.type "function")) (bB : Binds K fdB ["self", "part"] []) (zB : ErrZ K CE CB) (xB : XfC K CB) (cs : Consts mg)
    (z_isinstance : mg "isinstance" = none) (z_int : mg "int" = none) (z_bool : mg "bool" = none) (z_str : mg "str" = none) (z_tuple : mg "tuple" = none) (z_len : mg "len" = none) (z_abs : mg "abs" = none) (z_range : mg "range" = none) (z_min : mg "min" = none) (z_repr : mg "repr" = none) (z_list : mg "list" = none) (z_sorted : mg "sorted" = none) (z_enumerate : mg "enumerate" = none) (z_super : mg "super" = none)
    (t1 : ∀ p ∈ [(cR, tR)], h.get? p.2 = some emptyTab) (t2 : ∀ p ∈ [(cR, tR)], K.lookup p.2 = none)
    (t3 : ∀ p ∈ [(cR, tR)], PySem.W.CodeHd h p.1 p.2) : LawP l w K 11 63 "script" mg fa h := by
  obtain ⟨f, fd, F, m, b⟩ := D_law.ex
  have e := hfa.symm.trans m
  cases e
  obtain ⟨oc, od, kV, doc, pm, an, cdv, ct, osl, same, lk, cd⟩ := F.ex
  refine ⟨fd, [(cR, tR)], sp_law K [(tR, qR)], t1, t2, t3, fun s u => ?_, fun H a ns len _ ht hl => ⟨a, ns, rfl, hl, len, ?_, fun _ => rfl⟩, fun base KB GB TB => ?_⟩
  · rw [same]
    exact .of_eq rfl
  · intro p hp
    rcases List.mem_cons.mp hp with rfl | hp
    · exact TabS.nil (ht (cR, tR) List.mem_cons_self)
    · cases hp
  have TR := TB (cR, tR) List.mem_cons_self
  have mR : (tR, qR) ∈ [(tR, qR)] := List.mem_cons_self
  have uR : ∀ p ∈ [(tR, qR)], p.1 = tR → p.2 = qR := by
    intro p hp e
    rcases List.mem_cons.mp hp with rfl | hp
    · rfl
    · cases hp
  have eB : ErrS l.prog w K mg base "BadMemory" "part" "part" CB := ⟨⟨fB, fdB, bad_fn DB TB_ z_super xnB, iB, tB, bB⟩, TB_, mB⟩
  have zS : ErrZ K CE CS := ⟨eS.is, eS.hit, eS.own⟩
  have zW : ErrZ K CE CW := ⟨eW.is, eW.hit, eW.own⟩
  have zL : ErrZ K CE CL := ⟨eL.is, eL.hit, eL.own⟩
  have c_isnum := ok_isnum (P := l.prog) (w := w) (base := base) D_is_number z_isinstance z_int z_bool
  have c_numfrom := ok_numfrom D_is_number_from c_isnum
  have c_string := ok_string (P := l.prog) (w := w) (base := base) D_is_string_of cs z_isinstance z_str z_len
  have c_letter := ok_letter D_is_letter cs c_string
  have c_tupN := ok_tupN (P := l.prog) (w := w) (base := base) D_is_tuple_of z_isinstance z_tuple z_len
  have c_asc := ok_asc (P := l.prog) (w := w) (base := base) D_is_ascending z_range z_len
  have c_row := ok_row D_is_row_of_letters z_isinstance z_tuple z_len c_letter c_asc
  have c_move := ok_move D_is_move cs c_tupN c_numfrom
  have c_rowm := ok_rowm D_is_row_of_moves c_tupN c_move
  have c_init := ok_init DI M cs z_isinstance z_tuple z_len z_enumerate c_row c_rowm
  have c_len := ok_len (P := l.prog) (w := w) (base := base) DL M z_len
  have c_lenc : LenC l.prog w K mg base C := ⟨fL, c_len, slotL, fnL⟩
  have c_isstate := ok_isstate D_is_state z_len c_lenc c_numfrom
  have c_ckstate := ok_ckstate D_check_state eS.toErrC c_isstate
  have c_among := ok_among (P := l.prog) (w := w) (base := base) D_is_among z_isinstance z_str
  have c_tupamong := ok_tupamong (P := l.prog) (w := w) (base := base) D_is_tuple_among z_isinstance z_tuple c_among
  have c_ckword := ok_ckword (P := l.prog) (w := w) (base := base) D_check_word M eW.toErrC c_tupamong
  have c_ckletter := ok_ckletter (P := l.prog) (w := w) (base := base) D_check_letter M eL.toErrC c_among
  have c_columns := ok_columns (P := l.prog) (w := w) (base := base) D_columns_of M z_enumerate
  have c_ckmem := ok_ckmem D_check_memory M eB z_isinstance
  have c_readalong := ok_readalong (P := l.prog) (w := w) (base := base) D_read_along M c_columns
  have c_read := ok_read D_read M c_ckmem c_ckstate c_ckword c_readalong
  have c_stepof := ok_stepof (P := l.prog) (w := w) (base := base) D_step_of M
  have c_stepped := ok_stepped D_stepped M c_ckmem c_ckstate c_ckletter c_stepof
  have c_eq := ok_eq (P := l.prog) (w := w) (base := base) DE M z_isinstance
  have c_negated := ok_negated D_negated M mk z_tuple c_init c_ckmem
  have c_mixed := ok_mixed (P := l.prog) (w := w) (base := base) D_l_mixed z_int
  have c_take := ok_take D_l_take z_int c_mixed
  have c_some := ok_some D_l_pick z_len c_take
  have c_begun := ok_begun (P := l.prog) (w := w) (base := base) D_l_begun z_abs z_int
  have c_cost := ok_cost D_l_cost c_take
  have c_sign := ok_sign D_l_sign z_range c_some
  have c_signs := ok_signs D_l_signs z_range z_tuple z_sorted c_sign
  have c_grid := ok_grid D_l_grid z_range z_tuple c_take c_cost
  have c_went := ok_went (P := l.prog) (w := w) (base := base) D_l_went
  have c_text := ok_text D_l_text z_range z_tuple c_take c_some
  have c_lstrange := ok_lstrange (P := l.prog) (w := w) (base := base) D_l_strange
  have c_refusals := ok_refusals DR G M z_isinstance z_len z_list TR mR uR no zB zS zW zL xB xnB mB eS.at_ eW.at_ eL.at_ c_take c_some c_lstrange c_read c_stepped c_negated
  have c_law := ok_law D_law M mk c_lenc OC z_range z_min z_len z_list z_repr z_enumerate c_init c_eq c_begun c_take c_some c_signs c_grid c_text c_went D_read c_read D_stepped c_stepped D_negated c_negated c_refusals
  obtain ⟨f2, fd2, F2, m2, _, _, oc2, od2, osl2, at2⟩ := c_law.ex
  rw [m] at m2
  cases m2
  rw [lk] at at2
  cases at2
  exact F2
end K01
namespace K01
open PySem PySem.Spec PyProof.Rows L2 HG HN HM LamX
section
variable {K : PySem.W.Frag} {h : Heap} {mg : Str → Option Value} {C f CE : Addr}
theorem memC_mk (X : K.In h) (G : h.Ns mainGlobals mg) (a : PySem.W.nsIn K mainGlobals "Memory" = some (some (.ref C)))
    (pg : PySem.W.plainGet K C Str.empty = true) (hd : PySem.W.hasDictIn K C = true) (po : PySem.W.plainOver K C = true) (sa : PySem.W.findIn K (.ref C) "__setattr__" = some (some (.builtin "object.__setattr__")))
    (nL : PySem.W.findIn K (.ref C) "letters" = some none) (nM : PySem.W.findIn K (.ref C) "moves" = some none)
    (ha : PySem.W.findIn K (.ref C) "__class__" = some (some (.builtin "object.__class__"))) (hn : PySem.W.specialIn K (.builtin "object.__class__") "__get__" = some (some (.builtin "getset_descriptor.__get__")))
    (ht : PySem.W.takesIn K (.builtin "object.__class__") = some true) (hm : PySem.W.mroIn K C (.type "object") = some true) : MemC K mg C :=
  ⟨⟨pg, hd, po, sa⟩, nL, nM, PySem.W.mg_of X G a, ha, hn, ht, hm⟩
theorem ownCmp_mk {nm q : Str} {N : Addr} {bs : List Value} {hd : Bool} {sn : List Str} {sub : List Value} {ab : Bool} {col : Option Bool} {dd : Option Addr} {k0 k1 k2 k3 k5 : Option Value} {newId : String} {o : Obj}
    (l : K.lookup C = some (excClassObj nm q C N bs [.type "object"] hd sn sub ab col dd k0 k1 k2 k3 k5 newId)) (ok : PySem.W.nsOkIn K N = true)
    (e1 : PySem.W.nsIn K N "__eq__" = some (some (.ref f))) (e2 : PySem.W.nsIn K N "__ne__" = some none) (lf : K.lookup f = some o) (tf : o.cls = .type "function") : OwnCmp K C f :=
  ⟨⟨nm, q, N, bs, hd, sn, sub, ab, col, dd, k0, k1, k2, k3, k5, newId, l, ok, e1, e2⟩, ⟨o, lf, tf⟩⟩
theorem no_mk (h2 : PySem.W.isClsIn K C = true) (h3 : PySem.W.typeIn K (.ref C) = some (.type "type")) (n1 : PySem.W.subIn K (.type "NoneType") (.ref C) = some false) (n2 : PySem.W.subIn K (.type "int") (.ref C) = some false)
    (n3 : PySem.W.subIn K (.type "tuple") (.ref C) = some false) (n4 : PySem.W.subIn K (.type "str") (.ref C) = some false) : ∀ T ∈ plainT, PySem.W.kitOne K (.type T) (.ref C) = some false := by
  intro T m
  rcases List.mem_cons.mp m with rfl | m
  · exact kit_no h2 h3 n1
  · rcases List.mem_cons.mp m with rfl | m
    · exact kit_no h2 h3 n2
    · rcases List.mem_cons.mp m with rfl | m
      · exact kit_no h2 h3 n3
      · rcases List.mem_cons.mp m with rfl | m
        · exact kit_no h2 h3 n4
        · cases m
abbrev fdB_ (kV doc pm : Value) (an : Option Addr) (cda : Addr) (ct : Value) (cc : Addr) : FuncData := PySem.W.ksFn "__init__" "BadMemory.__init__" (defArgs s_binit) (defBody s_binit) (defScope s_binit) .none kV doc pm an (.ref cda) ct cc
theorem supI_mk {P : Program} {oc : Value} {od : Option Addr} {kV doc pm : Value} {an : Option Addr} {cda cc : Addr} {ct : Value} {osl : Array (Option Value)} {c1 : Value} {d1 : Option Addr} {vs : Array Value} {s1 : Array (Option Value)} {file : Str} {tf : Tok} {c2 : Value} {d2 : Option Addr} {s2 : Array (Option Value)}
    (l : K.lookup f = some ⟨oc, od, .func (fdB_ kV doc pm an cda ct cc), osl⟩) (c : PySem.W.codeIn K (.ref cda) "BadMemory.__init__" = true) (lcd : K.lookup cda = some ⟨c1, d1, .fields vs, s1⟩) (hvs : vs[2]? = some (.str file tf)) (hfile : ((P.main.file : Str) == file) = true)
    (lcc : K.lookup cc = some ⟨c2, d2, .cell (some (.ref C)), s2⟩) (any : PySem.W.nsIn K cStatics "thirdparty.any" = some none) (top : (P.main.scope.names.lookup ("super" : Str)).isSome = false)
    (sup : PySem.W.ks_superIn K C C "__init__" = some (some (.builtin "ValueError.__init__"))) (is : PySem.W.mroIn K C (.ref C) = some true) (ve : PySem.W.subIn K (.ref C) (.type "ValueError") = some true) :
    SupI P K "BadMemory.__init__" (defBody s_binit) (defScope s_binit) C f (fdB_ kV doc pm an cda ct cc) :=
  ⟨⟨oc, od, _, _, kV, doc, pm, an, cda, cc, ct, osl, c1, d1, vs, s1, file, tf, c2, d2, s2, _, rfl, l, c, lcd, hvs, hfile, lcc, rfl, rfl⟩, any, top, sup, is, ve⟩
theorem bB_mk {kV doc pm : Value} {an : Option Addr} {cda : Addr} {ct : Value} {cc : Addr} : Binds K (fdB_ kV doc pm an cda ct cc) ["self", "part"] [] := .all fun us hl => match us, hl with | [_, _], _ => rfl
theorem oexC_mk {nm q : Str} {N : Addr} {bs : List Value} {sn : List Str} {sub : List Value} {ab : Bool} {col : Option Bool} {dd : Option Addr} {k0 k1 k2 k3 k5 : Option Value}
    (l : K.lookup C = some (excClassObj nm q C N bs [.ref CE, .type "ValueError", .type "Exception", .type "BaseException", .type "object"] true sn sub ab col dd k0 k1 k2 k3 k5 "ValueError.__new__"))
    (sa : PySem.W.findIn K (.ref C) "__setattr__" = some (some (.builtin "object.__setattr__"))) (exC : PySem.W.subIn K (.ref C) (.type "BaseException") = some true) (tyC : PySem.W.typeIn K (.ref C) = some (.type "type"))
    (kC : PySem.W.keepIn K (.ref C) = true) : OexC K C := ⟨⟨nm, q, N, bs, _, sn, sub, ab, col, dd, k0, k1, k2, k3, k5, l, rfl⟩, sa, exC, tyC, kC⟩
theorem errZ_mk (s : PySem.W.subIn K (.ref C) (.type "BaseException") = some true)
    (g1 : PySem.W.findIn K (.ref C) "__getattribute__" = some (some (.builtin "BaseException.__getattribute__"))) (g2 : PySem.W.findIn K (.ref C) "__getattr__" = some none)
    (hd : PySem.W.hasDictIn K C = true) (ha : PySem.W.findIn K (.ref C) "__class__" = some (some (.builtin "object.__class__")))
    (hn : PySem.W.specialIn K (.builtin "object.__class__") "__get__" = some (some (.builtin "getset_descriptor.__get__")))
    (ht : PySem.W.takesIn K (.builtin "object.__class__") = some true) (hm : PySem.W.mroIn K C (.type "object") = some true)
    (h1 : PySem.W.subIn K (.ref CE) (.type "BaseException") = some true) (h2 : PySem.W.isClsIn K CE = true)
    (h3 : PySem.W.typeIn K (.ref CE) = some (.type "type")) (h4 : PySem.W.subIn K (.ref C) (.ref CE) = some true) : ErrZ K CE C :=
  ⟨⟨g1, g2, s, hd, ha, hn, ht, hm⟩, hit_of h1 h2 h3 h4, own_of⟩
theorem xfC_mk (s : PySem.W.subIn K (.ref C) (.type "BaseException") = some true)
    (g1 : PySem.W.findIn K (.ref C) "__getattribute__" = some (some (.builtin "BaseException.__getattribute__"))) (g2 : PySem.W.findIn K (.ref C) "__getattr__" = some none)
    (hd : PySem.W.hasDictIn K C = true) : XfC K C := ⟨g1, g2, s, hd⟩
theorem consts_mk {t1 t2 t3 t4 t5 : Tok} (X : K.In h) (G : h.Ns mainGlobals mg) (a1 : PySem.W.nsIn K mainGlobals "LETTER_SIGNS" = some (some (.str signsS t1))) (a2 : PySem.W.nsIn K mainGlobals "LONGEST_SIGNS" = some (some (.int 12 t2)))
    (a3 : PySem.W.nsIn K mainGlobals "MOST_LETTERS" = some (some (.int 72 t3))) (a4 : PySem.W.nsIn K mainGlobals "MOST_STATES" = some (some (.int 120 t4))) (a5 : PySem.W.nsIn K mainGlobals "MOST_PAID" = some (some (.int 999 t5))) : Consts mg :=
  ⟨⟨_, PySem.W.mg_of X G a1⟩, ⟨_, PySem.W.mg_of X G a2⟩, ⟨_, PySem.W.mg_of X G a3⟩, ⟨_, PySem.W.mg_of X G a4⟩, ⟨_, PySem.W.mg_of X G a5⟩⟩
end
end K01
open PySem PySem.W PyProof.Rows
set_option maxHeartbeats 0 in
theorem PySem.Challenge.cw_hitclocks_k01_words_read_holds : PySem.Challenge.rw_hitclocks_k01_words_read.Holds := by
  w_on; o_law; k_head; (case hw => w_witness2)
  k_fill
  refine HG.walk_ofP (l := PySem.Challenge.rw_hitclocks_k01_words_read) (n := 63) (k := 11) (x := "script") rfl (by decide) rfl ⟨rfl, by decide, by decide⟩ (fun w h Y => PySem.W.km_in_of Y) ?F
  case F =>
    intro w mg fa h Y KX G hmg
    have tabs := PySem.W.km_tabs_of Y
    refine' K01.all_mk hmg ?xDR ?xG ?xD_is_number ?xD_is_number_from ?xD_is_string_of ?xD_is_letter ?xD_is_tuple_of ?xD_is_ascending ?xD_is_row_of_letters ?xD_is_among ?xD_is_tuple_among ?xD_is_row_of_moves ?xD_is_move ?xD_check_memory ?xD_is_state ?xD_check_state ?xD_check_word ?xD_check_letter ?xD_stepped ?xD_step_of ?xD_read ?xD_read_along ?xD_columns_of ?xD_negated ?xD_l_begun ?xD_l_mixed ?xD_l_take ?xD_l_pick ?xD_l_sign ?xD_l_signs ?xD_l_cost ?xD_l_grid ?xD_l_went ?xD_l_text ?xD_l_strange ?xD_law ?xeS ?xeW ?xeL ?xM ?xmk ?xDI ?xDL ?xDE ?xslotL ?xfnL ?xOC ?xno ?xmB ?xDB ?xTB_ ?xxnB ?xiB ?xtB ?xbB ?xzB ?xxB ?xcs ?xz0 ?xz1 ?xz2 ?xz3 ?xz4 ?xz5 ?xz6 ?xz7 ?xz8 ?xz9 ?xz10 ?xz11 ?xz12 ?xz13 ?xt1 ?xt2 ?xt3
    case xDR =>
      refine' HG.defC_mk KX G K01.bn_l_refusals ?a ?l ?c ?k; (case a => k_is); (case l => k_is); (case c => k_is); (case k => k_is)
    case xG =>
      refine' K01.catch_mk KX G ?a ?l ?c ?k ?ce; (case a => k_is); (case l => k_is); (case c => k_is); (case k => k_is); (case ce => k_is)
    case xD_is_number =>
      refine' HG.def_mk KX G K01.bn_is_number ?a ?l ?c ?k; (case a => k_is); (case l => k_is); (case c => k_is); (case k => k_is)
    case xD_is_number_from =>
      refine' HG.def_mk KX G K01.bn_is_number_from ?a ?l ?c ?k; (case a => k_is); (case l => k_is); (case c => k_is); (case k => k_is)
    case xD_is_string_of =>
      refine' HG.def_mk KX G K01.bn_is_string_of ?a ?l ?c ?k; (case a => k_is); (case l => k_is); (case c => k_is); (case k => k_is)
    case xD_is_letter =>
      refine' HG.def_mk KX G K01.bn_is_letter ?a ?l ?c ?k; (case a => k_is); (case l => k_is); (case c => k_is); (case k => k_is)
    case xD_is_tuple_of =>
      refine' HG.def_mk KX G K01.bn_is_tuple_of ?a ?l ?c ?k; (case a => k_is); (case l => k_is); (case c => k_is); (case k => k_is)
    case xD_is_ascending =>
      refine' HG.def_mk KX G K01.bn_is_ascending ?a ?l ?c ?k; (case a => k_is); (case l => k_is); (case c => k_is); (case k => k_is)
    case xD_is_row_of_letters =>
      refine' HG.def_mk KX G K01.bn_is_row_of_letters ?a ?l ?c ?k; (case a => k_is); (case l => k_is); (case c => k_is); (case k => k_is)
    case xD_is_among =>
      refine' HG.def_mk KX G K01.bn_is_among ?a ?l ?c ?k; (case a => k_is); (case l => k_is); (case c => k_is); (case k => k_is)
    case xD_is_tuple_among =>
      refine' HG.def_mk KX G K01.bn_is_tuple_among ?a ?l ?c ?k; (case a => k_is); (case l => k_is); (case c => k_is); (case k => k_is)
    case xD_is_row_of_moves =>
      refine' HG.def_mk KX G K01.bn_is_row_of_moves ?a ?l ?c ?k; (case a => k_is); (case l => k_is); (case c => k_is); (case k => k_is)
    case xD_is_move =>
      refine' HG.def_mk KX G K01.bn_is_move ?a ?l ?c ?k; (case a => k_is); (case l => k_is); (case c => k_is); (case k => k_is)
    case xD_check_memory =>
      refine' HG.def_mk KX G K01.bn_check_memory ?a ?l ?c ?k; (case a => k_is); (case l => k_is); (case c => k_is); (case k => k_is)
    case xD_is_state =>
      refine' HG.def_mk KX G K01.bn_is_state ?a ?l ?c ?k; (case a => k_is); (case l => k_is); (case c => k_is); (case k => k_is)
    case xD_check_state =>
      refine' HG.def_mk KX G K01.bn_check_state ?a ?l ?c ?k; (case a => k_is); (case l => k_is); (case c => k_is); (case k => k_is)
    case xD_check_word =>
      refine' HG.def_mk KX G K01.bn_check_word ?a ?l ?c ?k; (case a => k_is); (case l => k_is); (case c => k_is); (case k => k_is)
    case xD_check_letter =>
      refine' HG.def_mk KX G K01.bn_check_letter ?a ?l ?c ?k; (case a => k_is); (case l => k_is); (case c => k_is); (case k => k_is)
    case xD_stepped =>
      refine' HG.def_mk KX G K01.bn_stepped ?a ?l ?c ?k; (case a => k_is); (case l => k_is); (case c => k_is); (case k => k_is)
    case xD_step_of =>
      refine' HG.def_mk KX G K01.bn_step_of ?a ?l ?c ?k; (case a => k_is); (case l => k_is); (case c => k_is); (case k => k_is)
    case xD_read =>
      refine' HG.def_mk KX G K01.bn_read ?a ?l ?c ?k; (case a => k_is); (case l => k_is); (case c => k_is); (case k => k_is)
    case xD_read_along =>
      refine' HG.def_mk KX G K01.bn_read_along ?a ?l ?c ?k; (case a => k_is); (case l => k_is); (case c => k_is); (case k => k_is)
    case xD_columns_of =>
      refine' HG.def_mk KX G K01.bn_columns_of ?a ?l ?c ?k; (case a => k_is); (case l => k_is); (case c => k_is); (case k => k_is)
    case xD_negated =>
      refine' HG.def_mk KX G K01.bn_negated ?a ?l ?c ?k; (case a => k_is); (case l => k_is); (case c => k_is); (case k => k_is)
    case xD_l_begun =>
      refine' HG.def_mk KX G K01.bn_l_begun ?a ?l ?c ?k; (case a => k_is); (case l => k_is); (case c => k_is); (case k => k_is)
    case xD_l_mixed =>
      refine' HG.def_mk KX G K01.bn_l_mixed ?a ?l ?c ?k; (case a => k_is); (case l => k_is); (case c => k_is); (case k => k_is)
    case xD_l_take =>
      refine' HG.def_mk KX G K01.bn_l_take ?a ?l ?c ?k; (case a => k_is); (case l => k_is); (case c => k_is); (case k => k_is)
    case xD_l_pick =>
      refine' HG.def_mk KX G K01.bn_l_pick ?a ?l ?c ?k; (case a => k_is); (case l => k_is); (case c => k_is); (case k => k_is)
    case xD_l_sign =>
      refine' HG.def_mk KX G K01.bn_l_sign ?a ?l ?c ?k; (case a => k_is); (case l => k_is); (case c => k_is); (case k => k_is)
    case xD_l_signs =>
      refine' HG.def_mk KX G K01.bn_l_signs ?a ?l ?c ?k; (case a => k_is); (case l => k_is); (case c => k_is); (case k => k_is)
    case xD_l_cost =>
      refine' HG.def_mk KX G K01.bn_l_cost ?a ?l ?c ?k; (case a => k_is); (case l => k_is); (case c => k_is); (case k => k_is)
    case xD_l_grid =>
      refine' HG.def_mk KX G K01.bn_l_grid ?a ?l ?c ?k; (case a => k_is); (case l => k_is); (case c => k_is); (case k => k_is)
    case xD_l_went =>
      refine' HG.def_mk KX G K01.bn_l_went ?a ?l ?c ?k; (case a => k_is); (case l => k_is); (case c => k_is); (case k => k_is)
    case xD_l_text =>
      refine' HG.def_mk KX G K01.bn_l_text ?a ?l ?c ?k; (case a => k_is); (case l => k_is); (case c => k_is); (case k => k_is)
    case xD_l_strange =>
      refine' HG.def_mk KX G K01.bn_l_strange ?a ?l ?c ?k; (case a => k_is); (case l => k_is); (case c => k_is); (case k => k_is)
    case xD_law =>
      refine' HG.def_mk KX G K01.bn_law ?a ?l ?c ?k; (case a => k_is); (case l => k_is); (case c => k_is); (case k => k_is)
    case xeS =>
      refine' HG.errX_mk KX G ?a ?e ?k ?s ?t ?g1 ?g2 ?hd ?ha ?hn ?ht ?hm ?h1 ?h2 ?h3 ?h4; (case a => k_is); (case e => k_exc); (case k => k_is); (case s => k_is); (case t => k_is); (case g1 => k_is); (case g2 => k_is); (case hd => k_is); (case ha => k_is); (case hn => k_is); (case ht => k_is); (case hm => k_is); (case h1 => k_is); (case h2 => k_is); (case h3 => k_is); (case h4 => k_is)
    case xeW =>
      refine' HG.errX_mk KX G ?a ?e ?k ?s ?t ?g1 ?g2 ?hd ?ha ?hn ?ht ?hm ?h1 ?h2 ?h3 ?h4; (case a => k_is); (case e => k_exc); (case k => k_is); (case s => k_is); (case t => k_is); (case g1 => k_is); (case g2 => k_is); (case hd => k_is); (case ha => k_is); (case hn => k_is); (case ht => k_is); (case hm => k_is); (case h1 => k_is); (case h2 => k_is); (case h3 => k_is); (case h4 => k_is)
    case xeL =>
      refine' HG.errX_mk KX G ?a ?e ?k ?s ?t ?g1 ?g2 ?hd ?ha ?hn ?ht ?hm ?h1 ?h2 ?h3 ?h4; (case a => k_is); (case e => k_exc); (case k => k_is); (case s => k_is); (case t => k_is); (case g1 => k_is); (case g2 => k_is); (case hd => k_is); (case ha => k_is); (case hn => k_is); (case ht => k_is); (case hm => k_is); (case h1 => k_is); (case h2 => k_is); (case h3 => k_is); (case h4 => k_is)
    case xM =>
      refine' K01.memC_mk KX G ?a ?pg ?hd ?po ?sa ?nL ?nM ?ha ?hn ?ht ?hm; (case a => k_is); (case pg => k_is); (case hd => k_is); (case po => k_is); (case sa => k_is); (case nL => k_is); (case nM => k_is); (case ha => k_is); (case hn => k_is); (case ht => k_is); (case hm => k_is)
    case xmk =>
      refine' ⟨?m, ?i, ?f, ?k⟩; (case m => k_is); (case i => k_is); (case f => k_is); (case k => k_is)
    case xslotL =>
      k_is
    case xfnL =>
      k_is
    case xOC =>
      refine' K01.ownCmp_mk ?l ?ok ?e1 ?e2 ?lf ?tf; (case l => k_is); (case ok => kernel_rfl); (case e1 => k_is); (case e2 => k_is); (case lf => k_is); (case tf => rfl)
    case xDI =>
      refine' K01.defM_mk K01.bq_init ?l ?c ?k; (case l => k_is); (case c => k_is); (case k => k_is)
    case xDL =>
      refine' K01.defM_mk K01.bq_len ?l ?c ?k; (case l => k_is); (case c => k_is); (case k => k_is)
    case xDE =>
      refine' K01.defM_mk K01.bq_eq ?l ?c ?k; (case l => k_is); (case c => k_is); (case k => k_is)
    case xno =>
      refine' K01.no_mk ?h2 ?h3 ?n1 ?n2 ?n3 ?n4; (case h2 => k_is); (case h3 => k_is); (case n1 => k_is); (case n2 => k_is); (case n3 => k_is); (case n4 => k_is)
    case xmB =>
      refine' PySem.W.mg_of KX G ?a; (case a => k_is)
    case xiB =>
      k_is
    case xDB =>
      refine' K01.supI_mk ?l ?c ?lcd ?hvs ?hfile ?lcc ?any ?top ?sup ?is ?ve; (case l => k_is); (case c => k_is); (case lcd => k_is); (case hvs => rfl); (case hfile => kernel_rfl); (case lcc => k_is); (case any => k_is); (case top => kernel_rfl); (case sup => kernel_rfl); (case is => k_is); (case ve => k_is)
    case xTB_ =>
      refine' K01.oexC_mk ?l ?sa ?exC ?tyC ?kC; (case l => k_is); (case sa => k_is); (case exC => k_is); (case tyC => k_is); (case kC => k_is)
    case xxnB =>
      k_is
    case xtB =>
      k_is
    case xbB =>
      exact K01.bB_mk
    case xzB =>
      refine' K01.errZ_mk ?s ?g1 ?g2 ?hd ?ha ?hn ?ht ?hm ?h1 ?h2 ?h3 ?h4; (case s => k_is); (case g1 => k_is); (case g2 => k_is); (case hd => k_is); (case ha => k_is); (case hn => k_is); (case ht => k_is); (case hm => k_is); (case h1 => k_is); (case h2 => k_is); (case h3 => k_is); (case h4 => k_is)
    case xxB =>
      refine' K01.xfC_mk ?s ?g1 ?g2 ?hd; (case s => k_is); (case g1 => k_is); (case g2 => k_is); (case hd => k_is)
    case xcs =>
      refine' K01.consts_mk KX G ?a1 ?a2 ?a3 ?a4 ?a5; (case a1 => k_is); (case a2 => k_is); (case a3 => k_is); (case a4 => k_is); (case a5 => k_is)
    case xz0 =>
      refine' PySem.W.mg_none_of KX G ?a; (case a => k_is)
    case xz1 =>
      refine' PySem.W.mg_none_of KX G ?a; (case a => k_is)
    case xz2 =>
      refine' PySem.W.mg_none_of KX G ?a; (case a => k_is)
    case xz3 =>
      refine' PySem.W.mg_none_of KX G ?a; (case a => k_is)
    case xz4 =>
      refine' PySem.W.mg_none_of KX G ?a; (case a => k_is)
    case xz5 =>
      refine' PySem.W.mg_none_of KX G ?a; (case a => k_is)
    case xz6 =>
      refine' PySem.W.mg_none_of KX G ?a; (case a => k_is)
    case xz7 =>
      refine' PySem.W.mg_none_of KX G ?a; (case a => k_is)
    case xz8 =>
      refine' PySem.W.mg_none_of KX G ?a; (case a => k_is)
    case xz9 =>
      refine' PySem.W.mg_none_of KX G ?a; (case a => k_is)
    case xz10 =>
      refine' PySem.W.mg_none_of KX G ?a; (case a => k_is)
    case xz11 =>
      refine' PySem.W.mg_none_of KX G ?a; (case a => k_is)
    case xz12 =>
      refine' PySem.W.mg_none_of KX G ?a; (case a => k_is)
    case xz13 =>
      refine' PySem.W.mg_none_of KX G ?a; (case a => k_is)
    case xt1 =>
      intro p hp
      rcases List.mem_cons.mp hp with rfl | hp
      · exact tabs _ (by k_mem)
      · cases hp
    case xt2 =>
      intro p hp
      rcases List.mem_cons.mp hp with rfl | hp
      · kernel_rfl
      · cases hp
    case xt3 =>
      intro p hp
      rcases List.mem_cons.mp hp with rfl | hp
      · exact PySem.W.codeHd_of_K KX (by kernel_rfl)
      · cases hp
