import PyProof.Rows.All
import Wide.All
import OpenK.AllK
import Wide.FinOn
import PyProof.ReprRoads
import KE.KNestM
import HandS.ForMost
import HandS.EndTab
import HandS.ExcIs
import HandS.ExcValue
import HandS.ExcOwn
import HandS.RaiseMore
import HandS.IsInst
import HandS.Gcd
import HandS.Wide
import HandS.WideMore
import HandS.CallLocal
import HandS.WordsExc
import HandS.Style
import PySem.Challenge.RW_hitclocks_k17_prices
import PyProof.ReprLen
set_option Elab.async false
set_option linter.all false
set_option maxRecDepth 100000
set_option maxHeartbeats 2000000
namespace HG
open PySem PySem.Spec PyProof.Rows L2

/-! ## repr of data, where no repr runs around -/
abbrev NoG (A : Around) : Prop := A.guards = some []

def rRepr (K : PySem.W.Frag) : List V → Hp → VK → Prop := fun xs H Q =>
  ∃ v d, xs = [v] ∧ Dp K H v d ∧ d.showable = true ∧ d.hasDict = false ∧ d.depth ≤ 64
    ∧ d.shown.length ≤ sizeLine ∧ Q (.str d.shown) H

theorem call_reprD {X : Cx} (hg : NoG X.A) (hu : X.A.units + 66 < cLine) :
    CallR X (.builtin "repr") (rRepr X.K) := by
  intro pins s σ H xs us Q I r h
  obtain ⟨v, d, rfl, hd, hs, hn, hdep, hz, q⟩ := h
  cases r with
  | cons rv rn =>
    rename_i u us'
    cases rn
    obtain ⟨as, hr⟩ := Dp.reads I d v u hd rv
    cases hd with
    | non =>
      cases rv
      simp only [PyData.shown] at q
      exact PySem.P.repr_of_none ⟨.str _, H, I.tok _, ⟨_, rfl⟩, q⟩
    | bl b =>
      cases rv
      simp only [PyData.shown] at q
      exact PySem.P.repr_of_bool ⟨.str _, H, I.tok _, ⟨_, rfl⟩, q⟩
    | int i =>
      obtain ⟨t, rfl⟩ := rv
      simp only [PyData.shown] at q
      exact PySem.P.repr_of_int (by simpa [PyData.showable] using hs) ⟨.str _, H, I.tok _, ⟨_, rfl⟩, q⟩
    | str x =>
      obtain ⟨t, rfl⟩ := rv
      simp only [PyData.shown] at q
      exact PySem.P.repr_of_str ⟨.str _, H, I.tok _, ⟨_, rfl⟩, q⟩ (by simpa only [PyData.shown] using hz)
    | lst hq ha =>
      obtain rfl := (show u = Value.ref _ from rv)
      exact repr_of_reads' hr hs (fun z => by rw [hn] at z; cases z) hg (by omega) (fun _ _ e => e)
        (fun h' u tk hk => ⟨.str _, H, I.kept (t' := tk) hk, ⟨_, rfl⟩, q⟩) hz
    | tup hq ha =>
      obtain rfl := (show u = Value.ref _ from rv)
      exact repr_of_reads' hr hs (fun z => by rw [hn] at z; cases z) hg (by omega) (fun _ _ e => e)
        (fun h' u tk hk => ⟨.str _, H, I.kept (t' := tk) hk, ⟨_, rfl⟩, q⟩) hz

/-! ## defs that may ask repr: promised where no repr runs around -/
structure FnP (P : Program) (w : World) (K : PySem.W.Frag) (mg : Str → Option Value) (base : Heap) (CX : CXT)
    (k : Nat) (f : Addr) (fd : FuncData) (ps : List Str) (sp : Sp) : Prop where
  args : ∀ vs H Q E, sp vs H Q E → vs.length = ps.length
  goes : ∀ (A : Around) (frames : List Env) (s : Shared) (H : Hp) (given : Args) (us : List Value) (vs : List V)
    (Q : VK) (E : XK), Room k A → NoG A → Env0 P w K mg base A frames s H → BindsTo s fd given (ps.zip us) →
    Vals vs us → sp vs H Q E → codeAny (model P w) A (.call (.ref f) given) (CR CX frames P w H s Q E) s

section
variable {P : Program} {w : World} {K : PySem.W.Frag} {mg : Str → Option Value} {base : Heap}
theorem FnP.ofFun {x qual : Str} {st : Stmt} {f : Addr} {fd : FuncData} {N ps : List Str} {k : Nat} {sp : Sp}
    (F : Fun K x qual st f fd) (S : FnScope N ps (defScope st))
    (len : ∀ vs H Q E, sp vs H Q E → vs.length = ps.length)
    (body : ∀ (cdv : Value) (A : Around) (frames : List Env) (s : Shared) (H : Hp) (vs : List V) (Q : VK) (E : XK),
      NoG (A.deeper (envOfC qual (defScope st) s.heap.objs.size f cdv)) →
      Room k (A.deeper (envOfC qual (defScope st) s.heap.objs.size f cdv)) → sp vs H Q E →
      ∃ t, PSs (cxOf CX0 P w K mg base N qual (defScope st) f cdv A frames s H E).nox (defBody st) t ∧
        t { nx := fun _ H' => Q .non H', rt := Q } (start N vs) H) :
    FnP P w K mg base CX0 (k + 1) f fd ps sp := by
  obtain ⟨oc, od, kV, doc, pm, an, cdv, ct, osl, rfl, lk, hcd⟩ := F.ex
  refine ⟨len, fun A frames s H given us vs Q E room ng e0 hb hv hs => ?_⟩
  refine LamX.run_ofS lk hcd S room e0 hb hv (len _ _ _ _ hs) fun room' => ?_
  obtain ⟨t, h, q⟩ := body cdv A frames s H vs Q E ng room' hs
  exact ⟨t, h.nox, q⟩
theorem FnP.ofOk {k : Nat} {f : Addr} {fd : FuncData} {ps : List Str} {sp : Sp} {CX : CXT}
    (F : FnOk P w K mg base CX k f fd ps sp) : FnP P w K mg base CX k f fd ps sp :=
  ⟨F.len, fun A fr s H g us vs Q E r _ e b v h => F.run A fr s H g us vs Q E r e b v h⟩
end

section
variable {X : Cx} {CX : CXT} {k : Nat} {f : Addr} {fd : FuncData} {ps ks : List Str} {sp : Sp} {dvs : List V}
  {ds : List Value} {E : XK} {x : Str} {p pos : Pos} {e : Expr} {es : List Expr} {t tk : TA} {kws : List Keyword}
theorem FnP.goesTo {pins : List (Addr × Obj)} {σ : L2.St} {H : Hp} {s : Shared} {Q : VK} {given : Args} {us : List Value}
    {vs : List V} (F : FnP X.prog X.w X.K X.mg X.base CX k f fd ps sp) (room : Room k X.A) (ng : NoG X.A)
    (lets : Passes CX X E) (I : Inv X pins σ H s) (hb : BindsTo s fd given (ps.zip us)) (r : Vals vs us)
    (h : sp vs H Q E) :
    codeAny (model X.prog X.w) X.A (.call (.ref f) given)
      (fun r s' => match r with
        | .ok (.ret u) => EP X pins σ Q u s'
        | .ok _ => False
        | .error z => X.xe z s') s := by
  refine codeAny_mono (F.goes X.A X.stack s H given us vs Q E room ng I.env0 hb r h) fun res s' hq => ?_
  match res, hq with
  | .error z, hq => exact lets pins σ H s z s' I hq
  | .ok (.ret u), hq => exact I.after hq
  | .ok .next, hq => exact hq.elim
  | .ok .brk, hq => exact hq.elim
  | .ok .cont, hq => exact hq.elim
theorem pe_callP (F : FnP X.prog X.w X.K X.mg X.base CX k f fd ps sp) (room : Room k X.A) (ng : NoG X.A)
    (glob : Gl X x) (at_ : X.mg x = some (.ref f)) (keep : PySem.W.keepIn X.K (.ref f) = true)
    (binds : Binds X.K fd ps []) (lets : Passes CX X E) (args : PA X (e :: es) t)
    (hdb : (x == ("__debug__" : Str)) = false := by decide)
    (he : starEach (e :: es) X.env = (false, eval e X.env) :: starEach es X.env := by rfl)
    (hpl : (backTo pos (starEach es X.env)).any (·.1) = false := by rfl) :
    PE X (.Call (.Name x p) (e :: es) [] pos) (fun σ H Q => t σ H fun vs H1 => sp vs H1 Q E) := by
  refine ⟨fun pins s σ H Q I h => wpAny_Call_Name_kw (ld_glob I glob at_ ?_ hdb)⟩
  refine PySem.W.callWith_K (h₀ := X.base) I.ok.mod.kin keep
    (thn (args.run pos pins s σ H _ I h) fun us s1 ⟨vs, H1, I1, r, q⟩ => ⟨I1.kIn, ?_⟩) he hpl
  have len : us.length = ps.length := by
    rw [← r.length]
    exact F.args _ _ _ _ q
  have b := binds s1 us I1.kIn (by rw [List.append_nil]; exact len)
  rw [List.append_nil] at b
  refine wpAny_call (codeAny_mono (F.goesTo room ng lets I1 b r q) fun res s' hq => ?_)
  match res, hq with
  | .error z, hq => exact hq
  | .ok (.ret u), hq => exact hq
  | .ok .next, hq => exact hq.elim
  | .ok .brk, hq => exact hq.elim
  | .ok .cont, hq => exact hq.elim
end
end HG
set_option maxHeartbeats 2000000
namespace HG
open PySem PySem.Spec PyProof.Rows L2

/-! ## a caught exception that is kept as a value -/
/-- an exception of the class cls, with the own dict d, stands at a -/
def Exn (cls : Value) (d : Option Addr) (a : Addr) : HO :=
  .ext fun h => ∃ (ob : Obj) (fs : Array Value), h.get? a = some ob ∧ Zc cls d ob ∧ ob.data = .fields fs

theorem exn_ok {P : Program} {w : World} {H : Hp} {h : Heap} {a : Addr} {cls : Value} {d : Option Addr} {ob : Obj}
    {fs : Array Value} (e : h.get? a = some ob) (z : Zc cls d ob) (f : ob.data = .fields fs) :
    ObjOk P w H h a (Exn cls d a) :=
  ⟨⟨ob, fs, e, z, f⟩, ⟨ob, e⟩, fun _ _ ⟨o, v, q, r⟩ keep => ⟨o, v, keep o q, r⟩⟩

section
variable {X : Cx} {pins : List (Addr × Obj)} {σ : L2.St} {H : Hp} {s : Shared}
theorem track {a : Addr} {ob : Obj} {fs : Array Value} {cls : Value} {d : Option Addr} (I : Inv X pins σ H s)
    (at_ : s.heap.get? a = some ob) (z : Zc cls d ob) (f : ob.data = .fields fs) (na : H a = none)
    (young : X.s_0.heap.get? a = none) (nL : a ≠ X.env.locals) (np : ∀ p ∈ X.pn ++ pins, p.1 ≠ a) :
    Inv X pins σ (upd H a (Exn cls d a)) s := by
  have other : ∀ b, b ≠ a → upd H a (Exn cls d a) b = H b := fun b nb => upd_ne nb
  have cellNe : ∀ y c, X.env.cells.lookup y = some c → c ≠ a := fun y c hc q => by
    obtain ⟨v, o, ho, hd⟩ := I.cell y c hc
    rw [q, at_] at ho
    cases ho
    rw [f] at hd
    cases hd
  refine { ok := I.ok, os := I.os, bare := I.bare, base := ?_, loc := I.loc, cell := I.cell, free := ?_,
           freeC := ?_, pin := ?_, hok := ?_, len := I.len }
  · refine { keep := I.base.keep, slot := I.base.slot, free := ?_, there := I.base.there, tups := ?_,
             frzs := ?_, tbls := ?_ }
    · intro b o hb hn hx
      rw [other b (fun q => by rw [q, young] at hb; cases hb)]
      exact I.base.free b o hb hn hx
    · intro b xs hb
      have q := I.base.tups b xs hb
      rw [other b (ne_of_none q na)]
      exact q
    · intro b o u hb
      have q := I.base.frzs b o u hb
      rw [other b (ne_of_none q na)]
      exact q
    · intro b ps hb
      obtain ⟨more, q⟩ := I.base.tbls b ps hb
      exact ⟨more, by rw [other b (ne_of_none q na)]; exact q⟩
  · rw [other _ (Ne.symm nL)]
    exact I.free
  · intro y c hc
    rw [other c (cellNe y c hc)]
    exact I.freeC y c hc
  · intro p hp
    obtain ⟨p1, p2, p3, p4, p5⟩ := I.pin p hp
    exact ⟨p1, by rw [other _ (np p hp)]; exact p2, p3, p4, p5⟩
  · exact I.hok.laidN (fun _ _ q => q) na (exn_ok at_ z f)

/-- isinstance(e, C), e a kept exception -/
def rIsX (K : PySem.W.Frag) : List V → Hp → VK → Prop := fun xs H Q =>
  ∃ (a D C : Addr) (b : Bool), xs = [.ref a, .ref C] ∧ H a = some (Exn (.ref D) none a) ∧ ExcC K D
    ∧ PySem.W.kitOne K (.ref D) (.ref C) = some b ∧ Q (.bl b) H
theorem call_isX {X : Cx} : CallR X (.builtin "isinstance") (rIsX X.K) := by
  intro pins s σ H xs us Q I r h
  obtain ⟨a, D, C, b, rfl, ha, cl, hk, q⟩ := h
  obtain ⟨u1, u2, rfl, r1, r2⟩ := vals2 r
  cases r1
  cases r2
  obtain ⟨⟨ob, fs, at_, ⟨z1, z2⟩, f⟩, _, _⟩ := I.hok a _ ha
  have J : PySem.W.InstAt s.heap a ob D none := by
    obtain ⟨oc, od, oda, osl⟩ := ob
    dsimp only at z1 z2 f
    subst z1 z2 f
    exact ⟨at_, rfl, rfl, trivial⟩
  refine PySem.W.kia_one (PySem.W.handS_kitx_exc cl.hg cl.hk cl.hs cl.hd cl.ha cl.hn cl.ht cl.hm) I.kIn J hk
    (fun z => nomatch z) fun tk => ?_
  exact ⟨.bl b, H, I.kept (t' := tk) (fun _ _ z => z), rfl, q⟩
end

section
variable {X : Cx} {x n : Str} {c : Value} {i : Nat} {body suite : List Stmt} {b₀ : Stmt} {np pos pos' : Pos}
  {tb : WX → TS} {ts : Addr → TS}
/-- every exception of the body is one of the clause's class; behind the suite it is kept -/
def wKeep (K : PySem.W.Frag) (len : Nat) (c : Value) (i : Nat) (ts : Addr → TS) (D : Ends) : WX := fun cls d σ H =>
  PySem.W.exmOne K cls c = some true ∧ (σ.length = len → ∀ a, H a = none →
    ts a { nx := fun σ' H' => D.nx (σ'.set i none) (upd H' a (Exn cls d a)), rt := fun _ _ => False }
      (σ.set i (some (.ref a))) H)
theorem ps_try_keep (stack : X.stack = X.env :: X.outer) (frame : X.env.frame = some X.env.locals) (ex0 : X.ex = [])
    (nd : X.N.Nodup) (at_ : X.N[i]? = some n) (loc : X.env.kindOf n = some .local) (names : Names X x c)
    (hb : ∀ (W : WX) (pn : List (Addr × Obj)) (xe : Value → Shared → Prop), Takes (X.tr pn xe) W →
      PassesOwn (model X.prog X.w) X.A X.env xe → PSs (X.tr pn xe) body (tb W))
    (hsu : ∀ (a : Addr) (pn : List (Addr × Obj)), PSs (X.suite a pn) (b₀ :: suite) (ts a)) :
    PS X (.Try body [.ExceptHandler (some (.Name x np)) (some n) (b₀ :: suite) pos'] [] [] pos)
      (fun D σ H => tb (wKeep X.K X.N.length c i ts D) D σ H) := by
  refine ⟨fun pins s σ H D I h => wpAny_Try_except ?_⟩
  have ok := I.ok
  have around : X.A.frames = some (X.env :: X.outer) := by
    rw [ok.frames, stack]
  have isLoc : Loc X.env.scope n := .inl loc
  let after : Value → Shared → Prop := fun e z₁ =>
    wpAny (model X.prog X.w) X.A (noteFrame e X.env) (fun _ z₂ =>
      wpAny (model X.prog X.w) X.A (setFlight e none) (fun _ z₃ =>
        wpAny (model X.prog X.w) X.A
          (handleBy e X.env [.ExceptHandler (some (.Name x np)) (some n) (b₀ :: suite) pos'])
          (SP X pins D) X.xe z₃) X.xe z₂) X.xe z₁
  have takes : Takes (X.tr (X.pn ++ pins) after) (wKeep X.K X.N.length c i ts D) := by
    intro u z air
    obtain ⟨a, B, sI, pins₁, σ₁, H₁, cls, d, rfl, J₁, ground, up, sky, na, os, ag, hit, then_⟩ := air
    have J : Inv X pins σ₁ H₁ sI := J₁.ofTry ok
    have sky₁ : Sky B (X.env :: X.outer) a (Zc cls d) X.env.locals z.heap := by
      rw [← stack]
      exact sky
    show wpAny (model X.prog X.w) X.A (noteFrame (.ref a) X.env) _ _ _
    refine Sky.land Zc.steady around frame sky₁ fun hA flA upA => ?_
    have JA : Inv X pins σ₁ H₁ { z with heap := hA } := J.landed ground flA.1 (up.trans upA) os ag
    obtain ⟨oA, vA, eA, zA, dA⟩ := flA.there
    have notFrame : a ∉ frs (X.env :: X.outer) := fun hm => by
      obtain ⟨_, o₂, e₂, nf⟩ := flA.2.2.1.mem hm
      rw [eA] at e₂
      cases e₂
      exact nf _ dA
    have nL : a ≠ X.env.locals := fun q =>
      notFrame (List.mem_filterMap.mpr ⟨X.env, List.mem_cons_self, by rw [frame, q]⟩)
    have nF : a ∉ X.fs := fun hm => by
      obtain ⟨e, he, q⟩ := List.mem_filterMap.mp hm
      exact notFrame (List.mem_filterMap.mpr ⟨e, List.mem_cons_of_mem _ he, q⟩)
    have notIn : ∀ o, sI.heap.get? a ≠ some o := fun o q => by
      have q₂ := ground a o q (by rw [stack]; exact notFrame)
      rw [flA.2.1] at q₂
      cases q₂
    have young : X.s_0.heap.get? a = none := by
      cases q : X.s_0.heap.get? a with
      | none => rfl
      | some o =>
        obtain ⟨o₂, q₂⟩ := J.base.there a o q (by rw [ex0]; exact fun z => nomatch z)
        exact (notIn o₂ q₂).elim
    have apart : ∀ p ∈ X.pn ++ pins, p.1 ≠ a := fun p hp q => by
      have q₂ := (J.pin p hp).1
      rw [q] at q₂
      exact notIn _ q₂
    have SA := JA.suite eA dA na nL nF
    refine wpAny_handleBy_cons (codeAny_handlers_test ?_) (by intro q; cases q)
    have isOf : PySem.W.Looks (model X.prog X.w) hA (typeOf (.ref a)) cls := fun A' Q' E' s' keep q =>
      wpAny_typeOf_ref (keep _ _ eA) (by rw [zA.1]; exact q)
    have fits := PySem.W.exm_one (M := model X.prog X.w) JA.kIn isOf hit
    have asks : ∀ {Q E : Value → Shared → Prop}, Q c { z with heap := hA } →
        wpAny (model X.prog X.w) (X.A.mark (some (.ref a))) (eval (.Name x np) X.env) Q E { z with heap := hA } := by
      intro Q E q
      obtain ⟨g, dbg, m | ⟨m, v, nn⟩⟩ := names
      · exact ld_glob (X := X.suite a ((a, oA) :: (X.pn ++ pins))) SA g m q dbg
      · exact ld_blt (X := X.suite a ((a, oA) :: (X.pn ++ pins))) SA g m v q nn dbg
    refine asks (fits.here (codeAny_handlers_suite_as ?_))
    refine HandSPX.lands_againZ flA fun hB flB upB => ?_
    have JB : Inv X pins σ₁ H₁ { z with heap := hB } :=
      J.landed ground flB.1 ((up.trans upA).trans upB) os ag
    obtain ⟨oB, vB, eB, zB, dB⟩ := flB.there
    have SB := JB.suite eB dB na nL nF
    refine store_ok (X := X.suite a ((a, oB) :: (X.pn ++ pins))) (v := .ref a) SB nd at_ isLoc rfl
      (fun sC SC => ?_) (.inr loc)
    refine wpAny_mono ((hsu a _).run [] sC _ H₁ _ SC (then_ J.len a na)) (fun f sD hD => ?_) (fun _ _ q => q.elim)
    match f, hD with
    | .next, hD =>
      obtain ⟨σD, HD, SD, qD⟩ := hD
      have own := SD.pin (a, oB) (List.mem_append_left _ List.mem_cons_self)
      have JD : Inv X ((a, oB) :: pins) σD HD sD := by
        have J0 := SD.unsuite ok
        refine { ok := J0.ok, os := J0.os, bare := J0.bare, base := J0.base, loc := J0.loc, cell := J0.cell,
                 free := J0.free, freeC := J0.freeC, pin := ?_, hok := J0.hok, len := J0.len }
        intro p hp
        rcases List.mem_append.mp hp with q | q
        · exact J0.pin p (List.mem_append_left _ q)
        · rcases List.mem_cons.mp q with q | q
          · rw [q]
            exact own
          · exact J0.pin p (List.mem_append_right _ q)
      refine gone_ok JD nd at_ loc fun sE JE => ?_
      have ownE := JE.pin (a, oB) (List.mem_append_right _ List.mem_cons_self)
      have JE' : Inv X pins (σD.set i none) HD sE := by
        refine { ok := JE.ok, os := JE.os, bare := JE.bare, base := JE.base, loc := JE.loc, cell := JE.cell,
                 free := JE.free, freeC := JE.freeC, pin := fun p hp => JE.pin p ?_, hok := JE.hok, len := JE.len }
        rcases List.mem_append.mp hp with q | q
        · exact List.mem_append_left _ q
        · exact List.mem_append_right _ (List.mem_cons_of_mem _ q)
      exact ⟨_, _, track JE' ownE.1 zB dB ownE.2.1 young nL apart, qD⟩
    | .brk, hD =>
      obtain ⟨_, _, _, qD⟩ := hD
      exact qD.elim
    | .cont, hD =>
      obtain ⟨_, _, _, qD⟩ := hD
      exact qD.elim
    | .ret u, hD =>
      obtain ⟨_, _, _, _, _, qD⟩ := hD
      exact qD.elim
  refine wpAny_mono ((hb (wKeep X.K X.N.length c i ts D) (X.pn ++ pins) after takes PassesOwn.looking).run [] s σ H D
    (I.toTry _) h) (fun f s1 hf => ?_) (fun _ _ he => he)
  match f, hf with
  | .next, hf =>
    obtain ⟨σ', H', J', q⟩ := hf
    exact wpAny_execs_nil ⟨σ', H', J'.ofTry ok, q⟩
  | .brk, hf =>
    obtain ⟨σ', H', J', q⟩ := hf
    exact ⟨σ', H', J'.ofTry ok, q⟩
  | .cont, hf =>
    obtain ⟨σ', H', J', q⟩ := hf
    exact ⟨σ', H', J'.ofTry ok, q⟩
  | .ret u, hf =>
    obtain ⟨v, σ', H', J', r, q⟩ := hf
    exact ⟨v, σ', H', J'.ofTry ok, r, q⟩
end
end HG
set_option maxHeartbeats 2000000
namespace HG
open PySem PySem.Spec PyProof.Rows L2 LamX

/-! ## the law's end: a promise that holds where no repr runs around; tables of code objects; the script's bits -/
section
variable {P : Program} {w : World} {K : PySem.W.Frag} {mg mb : Str → Option Value} {CX : CXT} {k : Nat}
  {fa a : Addr} {cs : List (Addr × Addr)} {fd : FuncData} {x : Str} {sp : Sp} {z : Shared} {vs : List Value} {ns : List Int}
abbrev emptyTab : Obj := { cls := .none, data := .fields #[] }
theorem end_call (KX : K.In z.heap) (nsG : z.heap.Ns mainGlobals mg) (nsB : z.heap.Ns builtinsNs mb)
    (boot : ∀ y : Str, y ≠ "__name__" → mb y = bootBuiltins y) (lim : z.heap.NoLimit) (gens : z.gens = #[])
    (tabs : ∀ p ∈ cs, z.heap.get? p.2 = some emptyTab) (notK : ∀ p ∈ cs, K.lookup p.2 = none)
    (code : ∀ p ∈ cs, PySem.W.CodeHd z.heap p.1 p.2)
    (bmod : ∃ (bm : Addr) (ob : Obj), mg "__builtins__" = some (.ref bm) ∧ bm ≠ builtinsNs ∧
      z.heap.get? bm = some ob ∧ ob.cls = .type "module" ∧ ob.dict = some builtinsNs ∧ ob.data = .plain)
    (isList : z.heap.get? a = some { cls := .type "list", data := .seq vs.toArray }) (areInts : IntsAre vs ns)
    (len : ns.length ≤ sizeLine) (room : Room k callerA)
    (F : ∀ base : Heap, K.In base → base.Ns mainGlobals mg → (∀ p ∈ cs, TabB base mg p.1 p.2) →
      FnP P w K mg base CX k fa fd [x] sp)
    (binds : ∀ (s : Shared) (u : Value), BindsTo s fd ⟨[u], []⟩ [(x, u)])
    (want : ∀ H : Hp, (∀ p ∈ cs, H p.2 = some (.tbl #[])) → SqL K H a (ns.map V.int) →
      sp [.ref a] H (fun v _ => v = .bl true) fun _ _ _ => False)
    (none_ : ∀ H e s', CX [] H z (fun _ _ _ => False) e s' → False) :
    codeAny (model P w) callerA (.call (.ref fa) ⟨[.ref a], []⟩)
      (fun r s' => r = .ok (.ret (.bool true)) ∧ OldK z.heap s'.heap ∧ s'.os = z.os ∧ AllBare s'.gens) z := by
  have rv := vals_ints areInts
  have lenV := areInts.length
  have tabAt : ∀ b : Addr, b ∈ cs.map (·.2) → z.heap.get? b = some emptyTab := by
    intro b hb
    obtain ⟨p, hp, rfl⟩ := List.mem_map.mp hb
    exact tabs p hp
  have aNot : a ∉ cs.map (·.2) := by
    intro hm
    have q := tabAt a hm
    rw [isList] at q
    cases q
  have inT : ∀ p ∈ cs, p.2 ∈ cs.map (·.2) := fun p hp => List.mem_map.mpr ⟨p, hp, rfl⟩
  have main : ∀ H : Hp, (∀ p ∈ cs, H p.2 = some (.tbl #[])) →
      (∀ b, H b = none ∨ b ∈ cs.map (·.2) ∨ ∃ o xs, H b = some (.frz o (.lst xs))) → SqL K H a (ns.map V.int) →
      HOk P w H z.heap → (∀ b, H b ≠ none → b = a ∨ b ∈ cs.map (·.2)) → (H a ≠ none → K.lookup a = none) →
      codeAny (model P w) callerA (.call (.ref fa) ⟨[.ref a], []⟩)
        (fun r s' => r = .ok (.ret (.bool true)) ∧ OldK z.heap s'.heap ∧ s'.os = z.os ∧ AllBare s'.gens) z := by
    intro H hT kinds script hok only freeK
    have keepB : ∀ {b : Addr} {o : Obj}, z.heap.get? b = some o → H b = none →
        (hidT z.heap H).get? b = some o := fun e n => hidT_get e n
    have untracked : ∀ {b : Addr} {o : Obj}, z.heap.get? b = some o → (∀ us n, o.data ≠ .seq us n) →
        o.data ≠ .fields #[] → H b = none := by
      intro b o e h1 h2
      cases q : H b with
      | none => rfl
      | some u =>
        rcases only b (by rw [q]; exact fun c => nomatch c) with e₁ | e₁
        · subst e₁
          rw [isList] at e
          cases e
          exact (h1 _ _ rfl).elim
        · rw [tabAt b e₁] at e
          cases e
          exact (h2 rfl).elim
    have noDict : ∀ {b : Addr} {o : Obj} {es : Array DictEntry} {ep : Nat}, z.heap.get? b = some o →
        o.data = .dict es ep → H b = none := by
      intro b o es ep e d
      refine untracked e (fun us n q => ?_) (fun q => ?_) <;> (rw [d] at q; cases q)
    have nsKeep : ∀ {b : Addr} {m : Str → Option Value}, z.heap.Ns b m → (hidT z.heap H).Ns b m :=
      fun {b m} ⟨o, es, ep, e, d, r⟩ => ⟨o, es, ep, keepB e (noDict e d), d, r⟩
    have Kb : K.In (hidT z.heap H) := by
      intro b o e
      refine keepB (KX b o e) ?_
      cases q : H b with
      | none => rfl
      | some u =>
        rcases only b (by rw [q]; exact fun c => nomatch c) with e₁ | e₁
        · subst e₁
          rw [freeK (by rw [q]; exact fun c => nomatch c)] at e
          cases e
        · obtain ⟨p, hp, rfl⟩ := List.mem_map.mp e₁
          rw [notK p hp] at e
          cases e
    have limits : (hidT z.heap H).NoLimit := by
      obtain ⟨mc, h1, h2⟩ := lim
      exact ⟨mc, nsKeep h1, h2⟩
    have M : L2.Mod K mg (hidT z.heap H) := ⟨Kb, nsKeep nsG, ⟨mb, nsKeep nsB, boot⟩, limits⟩
    have TB : ∀ p ∈ cs, TabB (hidT z.heap H) mg p.1 p.2 := by
      intro p hp
      have here := tabs p hp
      refine ⟨?_, ?_, fun q => ?_⟩
      · obtain ⟨o, us, file, tf, flags, tg, inF, text, tt, e₁, c₁, c₂, c₃, c₄, c₅, c₆, c₇, c₈, ne⟩ := code p hp
        refine ⟨o, us, file, tf, flags, tg, inF, text, tt, keepB e₁ (untracked e₁ (fun vs n q => ?_) fun q => ?_),
          c₁, c₂, c₃, c₄, c₅, c₆, c₇, c₈, ne⟩
        · rw [c₂] at q
          cases q
        · rw [c₂] at q
          cases q
          simp at c₃
      · obtain ⟨bm, ob, m₁, m₂, m₃, m₄, m₅, m₆⟩ := bmod
        refine ⟨bm, ob, m₁, m₂, fun q => ?_, fun q => ?_, keepB m₃ (untracked m₃ (fun vs n q => ?_) fun q => ?_),
          m₄, m₅, m₆⟩
        · obtain ⟨o, es, ep, e, hd, _⟩ := nsG
          rw [q, e] at m₃
          cases m₃
          rw [hd] at m₆
          cases m₆
        · rw [q, here] at m₃
          cases m₃
          cases m₆
        · rw [m₆] at q
          cases q
        · rw [m₆] at q
          cases q
      · obtain ⟨o, es, ep, e, hd, _⟩ := nsG
        rw [q, here] at e
        cases e
        cases hd
    have e0 : Env0 P w K mg (hidT z.heap H) callerA [] z H := by
      refine ⟨rfl, M, fun b o e => of_hidT e, Nat.le_of_eq (hidT_size _ _), trivial, fun b hb => ?_, hok, .of_eq gens⟩
      exact absurd (show b ∈ ([] : List Addr) from hb) (fun c => nomatch c)
    have run := (F _ Kb (nsKeep nsG) TB).goes callerA [] z H ⟨[.ref a], []⟩ [.ref a] [.ref a] _ _ room rfl e0
      (binds z (.ref a)) (.cons rfl .nil) (want H hT script)
    refine codeAny_mono run fun r s' h => ?_
    match r, h with
    | .error e, h => exact (none_ H e s' h).elim
    | .ok .next, h => exact h.elim
    | .ok .brk, h => exact h.elim
    | .ok .cont, h => exact h.elim
    | .ok (.ret u), h =>
      obtain ⟨v, H', os, bare, un, hok', rel, q⟩ := h
      have q₁ : v = .bl true := q
      subst q₁
      obtain rfl : u = Value.bool true := rel
      have same : ∀ b o, b ∉ cs.map (·.2) → z.heap.get? b = some o → s'.heap.get? b = some o := by
        intro b o nb e
        cases q : H b with
        | none =>
          exact un.keep b o e q (fun c => nomatch (show b ∈ ([] : List Addr) from c)) (fun c => nomatch c)
        | some u =>
          rcases kinds b with c | c | ⟨ob, xs, c⟩
          · rw [q] at c
            cases c
          · exact (nb c).elim
          · obtain ⟨e₁, _⟩ := hok b _ c
            obtain ⟨e₂, _⟩ := hok' b _ (un.frzs b ob _ c)
            rw [e] at e₁
            cases e₁
            exact e₂
      have grown : ∀ p ∈ cs, ∃ more : Array Value, s'.heap.get? p.2 = some { cls := .none, data := .fields more } := by
        intro p hp
        obtain ⟨more, c⟩ := un.tbls p.2 #[] (hT p hp)
        exact ⟨_, hok' p.2 _ c⟩
      refine ⟨rfl, ⟨fun b o e => ?_, fun b o e => ?_⟩, os, bare⟩
      · by_cases hb : b ∈ cs.map (·.2)
        · obtain ⟨p, hp, rfl⟩ := List.mem_map.mp hb
          obtain ⟨more, hm⟩ := grown p hp
          rw [tabs p hp] at e
          cases e
          refine .inr (.inl ⟨((code p hp).tab (tabs p hp)).isCodeTable, rfl, #[], more, rfl, ?_⟩)
          rw [Array.empty_append]
          exact hm
        · exact .inl (same b o hb e)
      · by_cases hb : b ∈ cs.map (·.2)
        · obtain ⟨p, hp, rfl⟩ := List.mem_map.mp hb
          obtain ⟨more, hm⟩ := grown p hp
          exact ⟨_, hm⟩
        · exact ⟨o, same b o hb e⟩
  let tabH : Hp := fun b => if b ∈ cs.map (·.2) then some (.tbl #[]) else none
  have tabYes : ∀ b, b ∈ cs.map (·.2) → tabH b = some (.tbl #[]) := fun b hb => if_pos hb
  have tabNo : ∀ b, b ∉ cs.map (·.2) → tabH b = none := fun b hb => if_neg hb
  cases hk : K.lookup a with
  | some o =>
    have e := KX a o hk
    rw [isList] at e
    cases e
    have sizeV : vs.toArray.size ≤ sizeLine := by
      rw [List.size_toArray, lenV]
      exact len
    have relV : Vals (ns.map V.int) vs.toArray.toList := by simpa using rv
    refine main tabH (fun p hp => tabYes _ (inT p hp)) (fun b => ?_)
      (.inr ⟨_, vs.toArray, _, hk, rfl, rfl, rfl, sizeV, relV⟩) (fun b u q => ?_) (fun b q => ?_)
      fun q => absurd (tabNo a aNot) q
    · by_cases hb : b ∈ cs.map (·.2)
      · exact .inr (.inl hb)
      · exact .inl (tabNo b hb)
    · by_cases hb : b ∈ cs.map (·.2)
      · rw [tabYes b hb] at q
        cases q
        exact tabAt b hb
      · rw [tabNo b hb] at q
        cases q
    · by_cases hb : b ∈ cs.map (·.2)
      · exact .inr hb
      · exact absurd (tabNo b hb) q
  | none =>
    let scr : HO := .frz { cls := .type "list", data := .seq vs.toArray } (.lst (ns.map V.int))
    have upA : upd tabH a scr a = some scr := upd_same
    have upN : ∀ b, b ≠ a → upd tabH a scr b = tabH b := fun b nb => upd_ne nb
    refine main (upd tabH a scr) (fun p hp => ?_) (fun b => ?_) (.inl (.inr ⟨_, upA⟩)) (fun b u q => ?_)
      (fun b q => ?_) fun _ => hk
    · rw [upN _ (fun q => aNot (by rw [← q]; exact inT p hp))]
      exact tabYes _ (inT p hp)
    · by_cases hb : b = a
      · subst hb
        exact .inr (.inr ⟨_, _, upA⟩)
      · rw [upN b hb]
        by_cases hb₂ : b ∈ cs.map (·.2)
        · exact .inr (.inl hb₂)
        · exact .inl (tabNo b hb₂)
    · by_cases hb : b = a
      · subst hb
        rw [upA] at q
        cases q
        refine ⟨isList, ?_, vs, _, rv, isList⟩
        rw [List.length_map]
        exact len
      · rw [upN b hb] at q
        by_cases hb₂ : b ∈ cs.map (·.2)
        · rw [tabYes b hb₂] at q
          cases q
          exact tabAt b hb₂
        · rw [tabNo b hb₂] at q
          cases q
    · by_cases hb : b = a
      · exact .inl hb
      · rw [upN b hb] at q
        by_cases hb₂ : b ∈ cs.map (·.2)
        · exact .inr hb₂
        · exact absurd (tabNo b hb₂) q
end

/-- what is to be known of the law's def at the head's heap h -/
def LawP (l : PySem.W.OpenLaw) (w : World) (K : PySem.W.Frag) (k n : Nat) (x : Str) (mg : Str → Option Value)
    (fa : Addr) (h : Heap) : Prop :=
  ∃ (fd : FuncData) (cs : List (Addr × Addr)) (sp : Sp), (∀ p ∈ cs, h.get? p.2 = some emptyTab) ∧
    (∀ p ∈ cs, K.lookup p.2 = none) ∧ (∀ p ∈ cs, PySem.W.CodeHd h p.1 p.2) ∧
    (∀ (s : Shared) (u : Value), BindsTo s fd ⟨[u], []⟩ [(x, u)]) ∧
    (∀ (H : Hp) (a : Addr) (ns : List Int), ns.length ≤ n → (∀ i ∈ ns, Builtin.Int.intBits i ≤ 1048576) →
      (∀ p ∈ cs, H p.2 = some (.tbl #[])) → SqL K H a (ns.map V.int) →
      sp [.ref a] H (fun v _ => v = .bl true) fun _ _ _ => False) ∧
    ∀ base : Heap, K.In base → base.Ns mainGlobals mg → (∀ p ∈ cs, TabB base mg p.1 p.2) →
      FnP l.prog w K mg base CX0 k fa fd [x] sp
theorem walk_ofP {l : PySem.W.OpenLaw} {n k : Nat} {q : Program} {loose : List Str}
    {XP : (Str → Option Value) → Heap → Prop} {YP : World → Heap → Prop} {d : DefRec} {K : Params → PySem.W.Frag}
    {x : Str} (most : l.most = some n) (small : n ≤ sizeLine) (plain : d.params.defaults = []) (room : Room k callerA)
    (inK : ∀ (w : World) (h : Heap), YP w h → (K w.params).In h)
    (F : ∀ (w : World) (mg : Str → Option Value) (fa : Addr) (h : Heap), YP w h → (K w.params).In h →
      h.Ns mainGlobals mg → mg d.name = some (.ref fa) → LawP l w (K w.params) k n x mg fa h) :
    PySem.W.WalkO q loose XP YP l.row.toRowW d [] (fun f vs => PySem.call f vs) := by
  refine Att.attach_callB most plain fun w s₀ z mg mb fa o pm cd doc a vs ns G Y ho hd hcd at_ list areInts many bits gens => ?_
  obtain ⟨fd, cs, sp, t1, t2, t3, b, want, fn⟩ := F w mg fa _ Y (inK w _ Y) G.T.g at_
  exact end_call (inK w _ Y) G.T.g G.T.b G.T.builtins G.T.nolimit gens t1 t2 t3 G.T.bmain list areInts
    (Nat.le_trans many small) room fn b (fun H h1 h2 => want H a ns many bits h1 h2) fun _ _ _ c => c.elim
end HG
set_option maxHeartbeats 2000000
namespace HG
open PySem PySem.Spec PyProof.Rows L2

/-! ## what stays -/
/-- but for the addresses ex, and for the tables of code objects -/
structure KeepW (ex : List Addr) (H H' : Hp) : Prop where
  all : ∀ a o, H a = some o → a ∉ ex → (∀ ps, o ≠ .tbl ps) → H' a = some o
  tup : ∀ a xs, H a = some (.tup xs) → H' a = some (.tup xs)
  frz : ∀ a o u, H a = some (.frz o u) → H' a = some (.frz o u)
  dom : ∀ a o, H a = some o → (∀ ps, o ≠ .tbl ps) → ∃ o', H' a = some o' ∧ ∀ ps, o' ≠ .tbl ps
/-- the tables too -/
structure Keep (ex : List Addr) (H H' : Hp) : Prop extends KeepW ex H H' where
  tbl : ∀ a ps, H a = some (.tbl ps) → H' a = some (.tbl ps)
instance {ex : List Addr} {H H' : Hp} : Coe (Keep ex H H') (KeepW ex H H') := ⟨fun k => k.toKeepW⟩
theorem KeepW.refl {ex : List Addr} {H : Hp} : KeepW ex H H := ⟨fun _ _ h _ _ => h, fun _ _ h => h, fun _ _ _ h => h, fun _ o h t => ⟨o, h, t⟩⟩
theorem Keep.refl {ex : List Addr} {H : Hp} : Keep ex H H := ⟨KeepW.refl, fun _ _ h => h⟩
theorem KeepW.trans {ex : List Addr} {H H1 H2 : Hp} (a : KeepW ex H H1) (b : KeepW ex H1 H2) : KeepW ex H H2 :=
  ⟨fun x o h n t => b.all x o (a.all x o h n t) n t, fun x o h => b.tup x o (a.tup x o h), fun x o u h => b.frz x o u (a.frz x o u h),
   fun x o h t => by
    obtain ⟨o', h', t'⟩ := a.dom x o h t
    exact b.dom x o' h' t'⟩
theorem Keep.trans {ex : List Addr} {H H1 H2 : Hp} (a : Keep ex H H1) (b : Keep ex H1 H2) : Keep ex H H2 :=
  ⟨a.toKeepW.trans b.toKeepW, fun x ps h => b.tbl x ps (a.tbl x ps h)⟩
theorem KeepW.more {ex ex' : List Addr} {H H' : Hp} (a : KeepW ex H H') (h : ∀ x ∈ ex, x ∈ ex') : KeepW ex' H H' :=
  ⟨fun x o e n t => a.all x o e (fun m => n (h x m)) t, a.tup, a.frz, a.dom⟩
theorem Keep.more {ex ex' : List Addr} {H H' : Hp} (a : Keep ex H H') (h : ∀ x ∈ ex, x ∈ ex') : Keep ex' H H' := ⟨a.toKeepW.more h, a.tbl⟩
theorem KeepW.nil {ex : List Addr} {H H' : Hp} (a : KeepW [] H H') : KeepW ex H H' := a.more fun _ h => nomatch h
theorem Keep.nil {ex : List Addr} {H H' : Hp} (a : Keep [] H H') : Keep ex H H' := a.more fun _ h => nomatch h
theorem KeepW.get {ex : List Addr} {H H' : Hp} {a : Addr} {o : HO} (k : KeepW ex H H') (e : H a = some o) (n : a ∉ ex)
    (t : ∀ ps, o ≠ .tbl ps := by (intro _ z; cases z)) : H' a = some o := k.all a o e n t
/-- an object that wasn't there at first may change -/
theorem KeepW.mut {ex : List Addr} {H H' : Hp} {p : Addr} {o : HO} (k : KeepW ex H H') (h : Fr0 H p) : KeepW ex H (upd H' p o) := by
  have ne : ∀ a u, H a = some u → (∀ ps, u ≠ .tbl ps) → a ≠ p := fun a u e t q => by
    subst q
    obtain ⟨ps, z⟩ := h u e
    exact t ps z
  refine ⟨fun a u e n t => ?_, fun a xs e => ?_, fun a ob u e => ?_, fun a u e t => ?_⟩
  · rw [upd_ne (ne a u e t)]
    exact k.all a u e n t
  · rw [upd_ne (ne a _ e (fun _ z => nomatch z))]
    exact k.tup a xs e
  · rw [upd_ne (ne a _ e (fun _ z => nomatch z))]
    exact k.frz a ob u e
  · rw [upd_ne (ne a u e t)]
    exact k.dom a u e t
theorem Keep.mut {ex : List Addr} {H H' : Hp} {p : Addr} {o : HO} (k : Keep ex H H') (h : H p = none) : Keep ex H (upd H' p o) := by
  refine ⟨k.toKeepW.mut (fr0_none h), fun a ps e => ?_⟩
  rw [upd_ne (ne_of_none e h)]
  exact k.tbl a ps e
theorem Keep.new {ex : List Addr} {H : Hp} {p : Addr} {o : HO} (h : H p = none) : Keep ex H (upd H p o) := Keep.refl.mut h
theorem Keep.ext {ex : List Addr} {H H' : Hp} (h : ∀ a o, H a = some o → H' a = some o) : Keep ex H H' :=
  ⟨⟨fun a o e _ _ => h a o e, fun a o e => h a _ e, fun a o u e => h a _ e, fun a o e t => ⟨o, h a o e, t⟩⟩, fun a ps e => h a _ e⟩
/-- the object at p, no tuple and no table, changes -/
theorem Keep.chg {ex : List Addr} {H : Hp} {p : Addr} {o u : HO} (h : H p = some u) (hp : p ∈ ex)
    (nt : ∀ xs, u ≠ .tup xs) (nf : ∀ o v, u ≠ .frz o v) (no : ∀ ps, o ≠ .tbl ps := by (intro _ z; cases z))
    (nu : ∀ ps, u ≠ .tbl ps := by (intro _ z; cases z)) : Keep ex H (upd H p o) := by
  refine ⟨⟨fun a v e n _ => ?_, fun a xs e => ?_, fun a ob v e => ?_, fun a v e t => ?_⟩, fun a ps e => ?_⟩
  · rw [upd_ne (fun q => n (by rw [q]; exact hp))]
    exact e
  · rw [upd_ne (fun q => nt xs (by rw [q, h] at e; exact Option.some.inj e))]
    exact e
  · rw [upd_ne (fun q => nf ob v (by rw [q, h] at e; exact Option.some.inj e))]
    exact e
  · by_cases q : a = p
    · rw [q, upd_same]
      exact ⟨_, rfl, no⟩
    · rw [upd_ne q]
      exact ⟨_, e, t⟩
  · rw [upd_ne (fun q => nu ps (by rw [q, h] at e; exact Option.some.inj e))]
    exact e
theorem KeepW.none {ex : List Addr} {H H' : Hp} {a : Addr} (k : KeepW ex H H') (h : H' a = none) : Fr0 H a := fun o e => by
  by_cases t : ∃ ps, o = .tbl ps
  · exact t
  · obtain ⟨o', e', _⟩ := k.dom a o e (fun ps z => t ⟨ps, z⟩)
    rw [h] at e'
    cases e'
theorem Keep.none {ex : List Addr} {H H' : Hp} {a : Addr} (k : Keep ex H H') (h : H' a = none) : H a = none := by
  cases q : H a with
  | none => rfl
  | some o =>
    obtain ⟨ps, rfl⟩ := k.toKeepW.none h o q
    rw [k.tbl a ps q] at h
    cases h
theorem sqT_keep {K : PySem.W.Frag} {ex : List Addr} {H H' : Hp} {a : Addr} {xs : List V} (k : KeepW ex H H') (h : SqT K H a xs) : SqT K H' a xs := by
  rcases h with (h | ⟨o, h⟩) | h
  · exact .inl (.inl (k.tup _ _ h))
  · exact .inl (.inr ⟨o, k.frz _ _ _ h⟩)
  · exact .inr h
theorem sqL_keep {K : PySem.W.Frag} {ex : List Addr} {H H' : Hp} {a : Addr} {xs : List V} (k : KeepW ex H H') (n : a ∉ ex) (h : SqL K H a xs) : SqL K H' a xs := by
  rcases h with (h | ⟨o, h⟩) | h
  · exact .inl (.inl (k.get h n))
  · exact .inl (.inr ⟨o, k.frz _ _ _ h⟩)
  · exact .inr h

/-! ## pairs of ints -/
def Pr (K : PySem.W.Frag) (H : Hp) (v : V) (a b : Int) : Prop := ∃ p, v = .ref p ∧ SqT K H p [.int a, .int b]
theorem Pr.keep {K : PySem.W.Frag} {ex : List Addr} {H H' : Hp} {v : V} {a b : Int} (k : KeepW ex H H') (h : Pr K H v a b) : Pr K H' v a b := by
  obtain ⟨p, e, q⟩ := h
  exact ⟨p, e, sqT_keep k q⟩
theorem Pr.new {K : PySem.W.Frag} {H : Hp} {p : Addr} {a b : Int} : Pr K (upd H p (.tup [.int a, .int b])) (.ref p) a b :=
  ⟨p, rfl, .inl (.inl upd_same)⟩

/-! ## defs that are called -/
structure Callee (P : Program) (w : World) (K : PySem.W.Frag) (mg : Str → Option Value) (base : Heap) (CX : CXT)
    (k : Nat) (x : Str) (ps : List Str) (sp : Sp) : Prop where
  ex : ∃ (f : Addr) (fd : FuncData), FnOk P w K mg base CX k f fd ps sp ∧ mg x = some (.ref f) ∧
    PySem.W.keepIn K (.ref f) = true ∧ Binds K fd ps [] ∧ ∃ oc od osl, K.lookup f = some ⟨oc, od, .func fd, osl⟩
structure CalleeP (P : Program) (w : World) (K : PySem.W.Frag) (mg : Str → Option Value) (base : Heap) (CX : CXT)
    (k : Nat) (x : Str) (ps : List Str) (sp : Sp) : Prop where
  ex : ∃ (f : Addr) (fd : FuncData), FnP P w K mg base CX k f fd ps sp ∧ mg x = some (.ref f) ∧
    PySem.W.keepIn K (.ref f) = true ∧ Binds K fd ps [] ∧ ∃ oc od osl, K.lookup f = some ⟨oc, od, .func fd, osl⟩
theorem fun_at {K : PySem.W.Frag} {x q : Str} {st : Stmt} {f : Addr} {fd : FuncData} (F : Fun K x q st f fd) :
    ∃ oc od osl, K.lookup f = some ⟨oc, od, .func fd, osl⟩ := by
  obtain ⟨oc, od, _, _, _, _, _, _, osl, _, lk, _⟩ := F.ex
  exact ⟨oc, od, osl, lk⟩
/-- a def of the text where the module's name x leads to it -/
structure Def (K : PySem.W.Frag) (mg : Str → Option Value) (x : Str) (st : Stmt) (ps : List Str) : Prop where
  ex : ∃ (f : Addr) (fd : FuncData), Fun K x x st f fd ∧ mg x = some (.ref f) ∧ Binds K fd ps []
def tCl (sp : Sp) (E : XK) (t : TA) : TE := fun σ H Q => t σ H fun vs H1 => sp vs H1 Q E
section
variable {X : Cx} {CX : CXT} {k n : Nat} {ps : List Str} {sp : Sp} {E : XK} {x : Str} {p pos : Pos} {e : Expr}
  {es : List Expr} {t : TA}
theorem pe_cE (C : Callee X.prog X.w X.K X.mg X.base CX k x ps sp) (room : Room n X.A) (lets : Passes CX X E)
    (args : PA X (e :: es) t) (hk : k ≤ n := by decide) (glob : Gl X x := by rfl)
    (hdb : (x == ("__debug__" : Str)) = false := by decide)
    (he : starEach (e :: es) X.env = (false, eval e X.env) :: starEach es X.env := by rfl)
    (hpl : (backTo pos (starEach es X.env)).any (·.1) = false := by rfl) :
    PE X (.Call (.Name x p) (e :: es) [] pos) (tCl sp E t) := by
  obtain ⟨f, fd, F, m, kp, b, _⟩ := C.ex
  have h := pe_call (p := p) (pos := pos) F (room.mono hk) glob m kp b .nil lets args hdb he hpl
  have q : tCall sp [] E t = tCl sp E t := by
    funext σ H Q
    show t σ H (fun vs H1 => sp (vs ++ []) H1 Q E) = t σ H fun vs H1 => sp vs H1 Q E
    congr 1
    funext vs H1
    rw [List.append_nil]
  rw [← q]
  exact h
theorem pe_c (C : Callee X.prog X.w X.K X.mg X.base CX0 k x ps sp) (room : Room n X.A) (args : PA X (e :: es) t)
    (hk : k ≤ n := by decide) (glob : Gl X x := by rfl)
    (hdb : (x == ("__debug__" : Str)) = false := by decide)
    (he : starEach (e :: es) X.env = (false, eval e X.env) :: starEach es X.env := by rfl)
    (hpl : (backTo pos (starEach es X.env)).any (·.1) = false := by rfl) :
    PE X (.Call (.Name x p) (e :: es) [] pos) (tCl sp E0 t) := pe_cE C room pass0 args hk glob hdb he hpl
/-- a def that may raise, called where it doesn't -/
theorem pe_cx (C : Callee X.prog X.w X.K X.mg X.base (L2.CX X.prog X.w) k x ps sp) (room : Room n X.A) (args : PA X (e :: es) t)
    (hk : k ≤ n := by decide) (glob : Gl X x := by rfl)
    (hdb : (x == ("__debug__" : Str)) = false := by decide)
    (he : starEach (e :: es) X.env = (false, eval e X.env) :: starEach es X.env := by rfl)
    (hpl : (backTo pos (starEach es X.env)).any (·.1) = false := by rfl) :
    PE X (.Call (.Name x p) (e :: es) [] pos) (tCl sp E0 t) := pe_cE C room passL args hk glob hdb he hpl
end
section
variable {P : Program} {w : World} {K : PySem.W.Frag} {mg : Str → Option Value} {base : Heap}
theorem Def.ok {x : Str} {st : Stmt} {N ps : List Str} {k : Nat} {sp : Sp} (D : Def K mg x st ps) (S : FnScope N ps (defScope st))
    (len : ∀ vs H Q E, sp vs H Q E → vs.length = ps.length)
    (body : ∀ (f : Addr) (cdv : Value) (A : Around) (outer : List Env) (s : Shared) (H : Hp) (vs : List V) (Q : VK) (E : XK),
      Room k (A.deeper (envOfC x (defScope st) s.heap.objs.size f cdv)) → sp vs H Q E →
      ∃ t, PSs (cxOf CX0 P w K mg base N x (defScope st) f cdv A outer s H E).nox (defBody st) t ∧
        t { nx := fun _ H' => Q .non H', rt := Q } (start N vs) H) :
    Callee P w K mg base CX0 (k + 1) x ps sp := by
  obtain ⟨f, fd, F, m, b⟩ := D.ex
  exact ⟨f, fd, F.ok S len fun cdv A outer s H vs Q E hr h => body f cdv A outer s H vs Q E hr h, m, F.kp, b, fun_at F⟩
theorem Def.okX {x : Str} {st : Stmt} {N ps : List Str} {k : Nat} {sp : Sp} (D : Def K mg x st ps) (S : FnScope N ps (defScope st))
    (len : ∀ vs H Q E, sp vs H Q E → vs.length = ps.length)
    (body : ∀ (f : Addr) (cdv : Value) (A : Around) (outer : List Env) (s : Shared) (H : Hp) (vs : List V) (Q : VK) (E : XK),
      Room k (A.deeper (envOfC x (defScope st) s.heap.objs.size f cdv)) → sp vs H Q E →
      ∃ t, PSs (cxOf (L2.CX P w) P w K mg base N x (defScope st) f cdv A outer s H E) (defBody st) t ∧
        t { nx := fun _ H' => Q .non H', rt := Q } (start N vs) H) :
    Callee P w K mg base (L2.CX P w) (k + 1) x ps sp := by
  obtain ⟨f, fd, F, m, b⟩ := D.ex
  exact ⟨f, fd, F.okX S len fun cdv A outer s H vs Q E hr h => body f cdv A outer s H vs Q E hr h, m, F.kp, b, fun_at F⟩
theorem Def.okP {x : Str} {st : Stmt} {N ps : List Str} {k : Nat} {sp : Sp} (D : Def K mg x st ps) (S : FnScope N ps (defScope st))
    (len : ∀ vs H Q E, sp vs H Q E → vs.length = ps.length)
    (body : ∀ (f : Addr) (cdv : Value) (A : Around) (outer : List Env) (s : Shared) (H : Hp) (vs : List V) (Q : VK) (E : XK),
      NoG (A.deeper (envOfC x (defScope st) s.heap.objs.size f cdv)) →
      Room k (A.deeper (envOfC x (defScope st) s.heap.objs.size f cdv)) → sp vs H Q E →
      ∃ t, PSs (cxOf CX0 P w K mg base N x (defScope st) f cdv A outer s H E).nox (defBody st) t ∧
        t { nx := fun _ H' => Q .non H', rt := Q } (start N vs) H) :
    CalleeP P w K mg base CX0 (k + 1) x ps sp := by
  obtain ⟨f, fd, F, m, b⟩ := D.ex
  exact ⟨f, fd, FnP.ofFun F S len fun cdv A outer s H vs Q E ng hr h => body f cdv A outer s H vs Q E ng hr h, m, F.kp, b, fun_at F⟩
end
end HG
set_option maxHeartbeats 2000000
namespace HG
open PySem PySem.Spec PyProof.Rows L2
/-! ## any values: numbers, pairs -/
def Out (ex : List Addr) (v : V) : Prop := ∀ a, v = .ref a → a ∉ ex
theorem Out.flat {ex : List Addr} {v : V} (h : ∀ a, v ≠ .ref a) : Out ex v := fun a e => absurd e (h a)
theorem Out.less {ex ex' : List Addr} {v : V} (o : Out ex v) (h : ∀ x ∈ ex', x ∈ ex) : Out ex' v := fun a e m => o a e (h a m)
theorem tyX_keep {K : PySem.W.Frag} {ex : List Addr} {H H' : Hp} {v : V} {t : Value} (k : KeepW ex H H') (o : Out ex v)
    (h : TyX K H v t) : TyX K H' v t := by
  cases h with
  | base h =>
    refine .base ?_
    cases h with
    | non => exact .non
    | bl x => exact .bl x
    | int i => exact .int i
    | str x => exact .str x
    | flt x => exact .flt x
    | lst e => exact .lst (k.get e (o _ rfl))
    | frz e => exact .frz (k.frz _ _ _ e)
    | tup e => exact .tup (k.tup _ _ e)
    | dK e => exact .dK (k.get e (o _ rfl))
    | dT e => exact .dT (k.get e (o _ rfl))
    | ins e cl ha hn htk hm => exact .ins (k.get e (o _ rfl)) cl ha hn htk hm
  | byt b => exact .byt b
  | set e => exact .set (k.get e (o _ rfl))
  | kList e c => exact .kList e c
  | kTuple e c => exact .kTuple e c
  | kDict e c => exact .kDict e c
  | fTuple e => exact .fTuple (k.frz _ _ _ e)
  | fDict e => exact .fDict (k.frz _ _ _ e)
theorem tyX_tup {K : PySem.W.Frag} {H : Hp} {a : Addr} {xs : List V} (h : SqT K H a xs) : TyX K H (.ref a) (.type "tuple") := by
  rcases h with (h | ⟨o, h⟩) | h
  · exact .base (.tup h)
  · exact .fTuple h
  · obtain ⟨o, vs, n, e, c, _⟩ := h
    exact .kTuple e c
structure NumB (ex : List Addr) (K : PySem.W.Frag) (H : Hp) (x : V) (b : Bool) : Prop where
  out : Out ex x
  ex : ∃ T b1 b2, TyX K H x (.type T) ∧ kitB T "int" = some b1 ∧ kitB T "bool" = some b2 ∧ b = (b1 && !b2)
theorem NumB.keep {ex ex' : List Addr} {K : PySem.W.Frag} {H H' : Hp} {x : V} {b : Bool} (k : KeepW ex H H') (h : NumB ex K H x b) : NumB ex K H' x b := by
  obtain ⟨o, T, b1, b2, t, e⟩ := h
  exact ⟨o, T, b1, b2, tyX_keep k o t, e⟩
theorem NumB.int {ex : List Addr} {K : PySem.W.Frag} {H : Hp} (i : Int) : NumB ex K H (.int i) true :=
  ⟨.flat (fun _ z => nomatch z), "int", true, false, .base (.int i), by decide +kernel, by decide +kernel, rfl⟩
theorem NumB.bl {ex : List Addr} {K : PySem.W.Frag} {H : Hp} (i : Bool) : NumB ex K H (.bl i) false :=
  ⟨.flat (fun _ z => nomatch z), "bool", true, true, .base (.bl i), by decide +kernel, by decide +kernel, rfl⟩
theorem NumB.non {ex : List Addr} {K : PySem.W.Frag} {H : Hp} : NumB ex K H .non false :=
  ⟨.flat (fun _ z => nomatch z), "NoneType", false, false, .base .non, by decide +kernel, by decide +kernel, rfl⟩
theorem NumB.str {ex : List Addr} {K : PySem.W.Frag} {H : Hp} (s : Str) : NumB ex K H (.str s) false :=
  ⟨.flat (fun _ z => nomatch z), "str", false, false, .base (.str s), by decide +kernel, by decide +kernel, rfl⟩
theorem NumB.tup {ex : List Addr} {K : PySem.W.Frag} {H : Hp} {a : Addr} {xs : List V} (h : SqT K H a xs) (o : a ∉ ex) : NumB ex K H (.ref a) false :=
  ⟨(fun b e => by cases e; exact o), "tuple", false, false, tyX_tup h, by decide +kernel, by decide +kernel, rfl⟩
theorem NumB.lst {ex : List Addr} {K : PySem.W.Frag} {H : Hp} {a : Addr} {xs : List V} (h : H a = some (.lst xs)) (o : a ∉ ex) : NumB ex K H (.ref a) false :=
  ⟨(fun b e => by cases e; exact o), "list", false, false, .base (.lst h), by decide +kernel, by decide +kernel, rfl⟩
theorem NumB.less {ex ex' : List Addr} {K : PySem.W.Frag} {H : Hp} {x : V} {b : Bool} (h : NumB ex K H x b) (i : ∀ x ∈ ex', x ∈ ex) : NumB ex' K H x b :=
  ⟨h.out.less i, h.ex⟩
/-- whether it is a tuple of two numbers -/
inductive PairB (ex : List Addr) (K : PySem.W.Frag) (H : Hp) : V → Bool → Prop where
  | no {v : V} {T : String} (o : Out ex v) (t : TyX K H v (.type T)) (h : kitB T "tuple" = some false) : PairB ex K H v false
  | len {a : Addr} {xs : List V} (h : SqT K H a xs) (n : xs.length ≠ 2) : PairB ex K H (.ref a) false
  | first {a : Addr} {x y : V} (h : SqT K H a [x, y]) (hx : NumB ex K H x false) : PairB ex K H (.ref a) false
  | second {a : Addr} {x y : V} (h : SqT K H a [x, y]) (hx : NumB ex K H x true) (hy : NumB ex K H y false) : PairB ex K H (.ref a) false
  | yes {a : Addr} {i j : Int} (h : SqT K H a [.int i, .int j]) : PairB ex K H (.ref a) true
theorem PairB.keep {ex : List Addr} {K : PySem.W.Frag} {H H' : Hp} {v : V} {b : Bool} (k : KeepW ex H H') (h : PairB ex K H v b) : PairB ex K H' v b := by
  cases h with
  | no o t h => exact .no o (tyX_keep k o t) h
  | len h n => exact .len (sqT_keep k h) n
  | first h hx => exact .first (sqT_keep k h) (hx.keep (ex' := ex) k)
  | second h hx hy => exact .second (sqT_keep k h) (hx.keep (ex' := ex) k) (hy.keep (ex' := ex) k)
  | yes h => exact .yes (sqT_keep k h)
theorem PairB.less {ex ex' : List Addr} {K : PySem.W.Frag} {H : Hp} {v : V} {b : Bool} (h : PairB ex K H v b) (i : ∀ x ∈ ex', x ∈ ex) : PairB ex' K H v b := by
  cases h with
  | no o t h => exact .no (o.less i) t h
  | len h n => exact .len h n
  | first h hx => exact .first h (hx.less i)
  | second h hx hy => exact .second h (hx.less i) (hy.less i)
  | yes h => exact .yes h
theorem Pr.pairB {ex : List Addr} {K : PySem.W.Frag} {H : Hp} {v : V} {a b : Int} (h : Pr K H v a b) : PairB ex K H v true := by
  obtain ⟨p, rfl, q⟩ := h
  exact .yes q
theorem kit_some {K : PySem.W.Frag} {T C : String} {b : Bool} (h : kitB T C = some b) : PySem.W.kitOne K (.type T) (.type C) = some b := kit_ty h
end HG
set_option maxHeartbeats 2000000
namespace K17
open PySem PySem.Spec PyProof.Rows L2 HG
def topS (i : Nat) : Stmt := PySem.Challenge.pw_hitclocks_k17_prices.main.body.getD i (.Pass ⟨0, 0, 0, 0⟩)
theorem scope_by {N P : List Str} {sc : Scope} (kind : sc.kind = .function) (co : sc.isCoroutine = false)
    (gen : sc.isGenerator = false) (nd : N.Nodup) (pre : N.take P.length = P)
    (par : ∀ x ∈ P, sc.names.lookup x = some .local ∨ sc.names.lookup x = some .cell)
    (nofree : ∀ y ∈ sc.names, y.2 ≠ .free) : FnScope N P sc := ⟨kind, co, gen, nd, pre, par, nofree⟩
abbrev s_is_number : Stmt := topS 8
theorem sc_is_number : FnScope ["thing"] ["thing"] (defScope s_is_number) := scope_by rfl rfl rfl (by decide +kernel) rfl (by decide +kernel) (by decide +kernel)
abbrev s_is_tuple_of : Stmt := topS 9
theorem sc_is_tuple_of : FnScope ["thing", "many"] ["thing", "many"] (defScope s_is_tuple_of) := scope_by rfl rfl rfl (by decide +kernel) rfl (by decide +kernel) (by decide +kernel)
abbrev s_is_pair : Stmt := topS 10
theorem sc_is_pair : FnScope ["thing"] ["thing"] (defScope s_is_pair) := scope_by rfl rfl rfl (by decide +kernel) rfl (by decide +kernel) (by decide +kernel)
abbrev s_reduced : Stmt := topS 13
theorem sc_reduced : FnScope ["p", "q", "common"] ["p", "q"] (defScope s_reduced) := scope_by rfl rfl rfl (by decide +kernel) rfl (by decide +kernel) (by decide +kernel)
abbrev s_goes_ahead : Stmt := topS 14
theorem sc_goes_ahead : FnScope ["one", "other"] ["one", "other"] (defScope s_goes_ahead) := scope_by rfl rfl rfl (by decide +kernel) rfl (by decide +kernel) (by decide +kernel)
abbrev s_worth_at : Stmt := topS 15
theorem sc_worth_at : FnScope ["pair", "price"] ["pair", "price"] (defScope s_worth_at) := scope_by rfl rfl rfl (by decide +kernel) rfl (by decide +kernel) (by decide +kernel)
abbrev s_crossing : Stmt := topS 16
theorem sc_crossing : FnScope ["one", "other", "a", "b"] ["one", "other"] (defScope s_crossing) := scope_by rfl rfl rfl (by decide +kernel) rfl (by decide +kernel) (by decide +kernel)
abbrev s_is_price : Stmt := topS 18
theorem sc_is_price : FnScope ["thing", "p", "q"] ["thing"] (defScope s_is_price) := scope_by rfl rfl rfl (by decide +kernel) rfl (by decide +kernel) (by decide +kernel)
abbrev s_check_price : Stmt := topS 19
theorem sc_check_price : FnScope ["price"] ["price"] (defScope s_check_price) := scope_by rfl rfl rfl (by decide +kernel) rfl (by decide +kernel) (by decide +kernel)
abbrev s_check_pair : Stmt := topS 20
theorem sc_check_pair : FnScope ["pair"] ["pair"] (defScope s_check_pair) := scope_by rfl rfl rfl (by decide +kernel) rfl (by decide +kernel) (by decide +kernel)
abbrev s_price_of : Stmt := topS 21
theorem sc_price_of : FnScope ["p", "q", "number"] ["p", "q"] (defScope s_price_of) := scope_by rfl rfl rfl (by decide +kernel) rfl (by decide +kernel) (by decide +kernel)
abbrev s_is_ahead : Stmt := topS 22
theorem sc_is_ahead : FnScope ["one", "other"] ["one", "other"] (defScope s_is_ahead) := scope_by rfl rfl rfl (by decide +kernel) rfl (by decide +kernel) (by decide +kernel)
abbrev s_worth : Stmt := topS 23
theorem sc_worth : FnScope ["pair", "price"] ["pair", "price"] (defScope s_worth) := scope_by rfl rfl rfl (by decide +kernel) rfl (by decide +kernel) (by decide +kernel)
abbrev s_amid : Stmt := topS 24
theorem sc_amid : FnScope ["one", "other"] ["one", "other"] (defScope s_amid) := scope_by rfl rfl rfl (by decide +kernel) rfl (by decide +kernel) (by decide +kernel)
abbrev s_meeting : Stmt := topS 25
theorem sc_meeting : FnScope ["one", "other"] ["one", "other"] (defScope s_meeting) := scope_by rfl rfl rfl (by decide +kernel) rfl (by decide +kernel) (by decide +kernel)
abbrev s_l_begun : Stmt := topS 27
theorem sc_l_begun : FnScope ["_law_script", "_law_great", "_law_cell"] ["_law_script"] (defScope s_l_begun) := scope_by rfl rfl rfl (by decide +kernel) rfl (by decide +kernel) (by decide +kernel)
abbrev s_l_mixed : Stmt := topS 28
theorem sc_l_mixed : FnScope ["_law_draw", "_law_turn", "_law_found", "_law_prime", "_law_blend", "_law_cell"] ["_law_draw"] (defScope s_l_mixed) := scope_by rfl rfl rfl (by decide +kernel) rfl (by decide +kernel) (by decide +kernel)
abbrev s_l_take : Stmt := topS 29
theorem sc_l_take : FnScope ["_law_draw", "_law_many", "_law_found"] ["_law_draw", "_law_many"] (defScope s_l_take) := scope_by rfl rfl rfl (by decide +kernel) rfl (by decide +kernel) (by decide +kernel)
abbrev s_l_pick : Stmt := topS 30
theorem sc_l_pick : FnScope ["_law_draw", "_law_some"] ["_law_draw", "_law_some"] (defScope s_l_pick) := scope_by rfl rfl rfl (by decide +kernel) rfl (by decide +kernel) (by decide +kernel)
abbrev s_l_caught : Stmt := topS 31
theorem sc_l_caught : FnScope ["_law_task", "_law_caught_here", "error"] ["_law_task"] (defScope s_l_caught) := scope_by rfl rfl rfl (by decide +kernel) rfl (by decide +kernel) (by decide +kernel)
abbrev s_l_is_number : Stmt := topS 32
theorem sc_l_is_number : FnScope ["_law_item"] ["_law_item"] (defScope s_l_is_number) := scope_by rfl rfl rfl (by decide +kernel) rfl (by decide +kernel) (by decide +kernel)
abbrev s_l_says : Stmt := topS 33
theorem sc_l_says : FnScope ["_law_found", "_law_due"] ["_law_found", "_law_due"] (defScope s_l_says) := scope_by rfl rfl rfl (by decide +kernel) rfl (by decide +kernel) (by decide +kernel)
abbrev s_l_gcd : Stmt := topS 34
theorem sc_l_gcd : FnScope ["_law_one", "_law_two", "_law_turn"] ["_law_one", "_law_two"] (defScope s_l_gcd) := scope_by rfl rfl rfl (by decide +kernel) rfl (by decide +kernel) (by decide +kernel)
abbrev s_l_terms : Stmt := topS 35
theorem sc_l_terms : FnScope ["_law_one", "_law_two", "_law_deep"] ["_law_one", "_law_two"] (defScope s_l_terms) := scope_by rfl rfl rfl (by decide +kernel) rfl (by decide +kernel) (by decide +kernel)
abbrev s_l_leads : Stmt := topS 36
theorem sc_l_leads : FnScope ["_law_one", "_law_two"] ["_law_one", "_law_two"] (defScope s_l_leads) := scope_by rfl rfl rfl (by decide +kernel) rfl (by decide +kernel) (by decide +kernel)
abbrev s_l_is_pair : Stmt := topS 37
theorem sc_l_is_pair : FnScope ["_law_item"] ["_law_item"] (defScope s_l_is_pair) := scope_by rfl rfl rfl (by decide +kernel) rfl (by decide +kernel) (by decide +kernel)
abbrev s_l_is_price : Stmt := topS 38
theorem sc_l_is_price : FnScope ["_law_item"] ["_law_item"] (defScope s_l_is_price) := scope_by rfl rfl rfl (by decide +kernel) rfl (by decide +kernel) (by decide +kernel)
abbrev s_l_worth : Stmt := topS 39
theorem sc_l_worth : FnScope ["_law_pair_here", "_law_spot_here"] ["_law_pair_here", "_law_spot_here"] (defScope s_l_worth) := scope_by rfl rfl rfl (by decide +kernel) rfl (by decide +kernel) (by decide +kernel)
abbrev s_l_meet : Stmt := topS 40
theorem sc_l_meet : FnScope ["_law_one", "_law_two", "_law_more", "_law_less"] ["_law_one", "_law_two"] (defScope s_l_meet) := scope_by rfl rfl rfl (by decide +kernel) rfl (by decide +kernel) (by decide +kernel)
abbrev s_l_amount : Stmt := topS 41
theorem sc_l_amount : FnScope ["_law_draw", "_law_way"] ["_law_draw"] (defScope s_l_amount) := scope_by rfl rfl rfl (by decide +kernel) rfl (by decide +kernel) (by decide +kernel)
abbrev s_l_spot : Stmt := topS 42
theorem sc_l_spot : FnScope ["_law_draw", "_law_way", "_law_one", "_law_two"] ["_law_draw"] (defScope s_l_spot) := scope_by rfl rfl rfl (by decide +kernel) rfl (by decide +kernel) (by decide +kernel)
abbrev s_l_pair : Stmt := topS 43
theorem sc_l_pair : FnScope ["_law_draw", "_law_peak_here"] ["_law_draw", "_law_peak_here"] (defScope s_l_pair) := scope_by rfl rfl rfl (by decide +kernel) rfl (by decide +kernel) (by decide +kernel)
abbrev s_l_peak : Stmt := topS 44
theorem sc_l_peak : FnScope ["_law_draw"] ["_law_draw"] (defScope s_l_peak) := scope_by rfl rfl rfl (by decide +kernel) rfl (by decide +kernel) (by decide +kernel)
abbrev s_l_same : Stmt := topS 45
theorem sc_l_same : FnScope ["_law_found", "_law_due"] ["_law_found", "_law_due"] (defScope s_l_same) := scope_by rfl rfl rfl (by decide +kernel) rfl (by decide +kernel) (by decide +kernel)
abbrev s_l_strange : Stmt := topS 46
theorem sc_l_strange : FnScope ["_law_draw", "_law_some"] ["_law_draw"] (defScope s_l_strange) := scope_by rfl rfl rfl (by decide +kernel) rfl (by decide +kernel) (by decide +kernel)
abbrev s_l_no_price : Stmt := topS 47
theorem sc_l_no_price : FnScope ["_law_draw", "_law_one", "_law_two", "_law_deep", "_law_some"] ["_law_draw"] (defScope s_l_no_price) := scope_by rfl rfl rfl (by decide +kernel) rfl (by decide +kernel) (by decide +kernel)
abbrev s_l_refused : Stmt := topS 48
theorem sc_l_refused : FnScope ["_law_draw", "_law_pair_here", "_law_spot_here", "_law_bad", "_law_none", "_law_odd"] ["_law_draw", "_law_pair_here", "_law_spot_here"] (defScope s_l_refused) := scope_by rfl rfl rfl (by decide +kernel) rfl (by decide +kernel) (by decide +kernel)
abbrev s_l_ordered : Stmt := topS 49
theorem sc_l_ordered : FnScope ["_law_one", "_law_two", "_law_middle"] ["_law_one", "_law_two"] (defScope s_l_ordered) := scope_by rfl rfl rfl (by decide +kernel) rfl (by decide +kernel) (by decide +kernel)
abbrev s_law : Stmt := topS 50
theorem sc_law : FnScope ["_law_script", "_law_draw", "_law_turn", "_law_deep", "_law_one", "_law_two", "_law_thing", "_law_spot_here", "_law_other", "_law_peak_here", "_law_pair_here", "_law_another", "_law_shift"] ["_law_script"] (defScope s_law) := scope_by rfl rfl rfl (by decide +kernel) rfl (by decide +kernel) (by decide +kernel)
end K17
set_option maxHeartbeats 2000000
namespace HG
open PySem PySem.Spec PyProof.Rows L2
/-- one statement behind another, with what holds between -/
theorem seq_join {t1 t2 : TS} {D : Ends} {σ : L2.St} {H : Hp} (P : L2.St → Hp → Prop)
    (h : ∀ NX : L2.St → Hp → Prop, (∀ σ1 H1, P σ1 H1 → NX σ1 H1) → t1 { D with nx := NX } σ H)
    (q : ∀ σ1 H1, P σ1 H1 → t2 D σ1 H1) : tSeq t1 t2 D σ H := h (t2 D) q
theorem dpAll_ints {K : PySem.W.Frag} {H : Hp} : ∀ ns : List Int, DpAll K H (ns.map V.int) (ns.map PyData.int)
  | [] => .nil
  | n :: r => .cons (.int n) (dpAll_ints r)
theorem lay_ints : ∀ ns : List Int, PyData.canLayAll0 (ns.map PyData.int) = true
  | [] => by simp [PyData.canLayAll0]
  | n :: r => by simp [PyData.canLayAll0, PyData.canLay0, lay_ints r]
theorem depth_ints : ∀ ns : List Int, PyData.depthAll (ns.map PyData.int) ≤ 1
  | [] => by simp [PyData.depthAll]
  | n :: r => by
    have := depth_ints r
    simp only [List.map_cons, PyData.depthAll, PyData.depth]
    omega
theorem shaped_ints (ns : List Int) : SeqAt.shaped (.list (ns.map PyData.int)) = true := by
  have h := depth_ints ns
  show (PyData.canLay0 _ && decide (PyData.depth _ ≤ 64)) = true
  rw [Bool.and_eq_true]
  refine ⟨by simp only [PyData.canLay0]; exact lay_ints ns, decide_eq_true ?_⟩
  simp only [PyData.depth]
  omega
theorem eqv_ints_nil (ns : List Int) : PyData.eqv (.list (ns.map PyData.int)) (.list []) = ns.isEmpty := by
  cases ns <;> simp [PyData.eqv, PyData.eqvAll]
/-! ## the drawing -/
def drawK (g c : Addr) (left turn : Int) : List (Key × V) :=
  [(.inr "great", .ref g), (.inr "cells", .ref c), (.inr "left", .int left), (.inr "turn", .int turn)]
theorem drawK_great {g c : Addr} {l t : Int} : valV (drawK g c l t) (.inr "great") = some (.ref g) := rfl
theorem drawK_cells {g c : Addr} {l t : Int} : valV (drawK g c l t) (.inr "cells") = some (.ref c) := rfl
theorem drawK_left {g c : Addr} {l t : Int} : valV (drawK g c l t) (.inr "left") = some (.int l) := rfl
theorem drawK_turn {g c : Addr} {l t : Int} : valV (drawK g c l t) (.inr "turn") = some (.int t) := rfl
theorem drawK_put_left {g c : Addr} {l t m : Int} : putK (drawK g c l t) (.inr "left") (.int m) = drawK g c m t := rfl
theorem drawK_put_turn {g c : Addr} {l t m : Int} : putK (drawK g c l t) (.inr "turn") (.int m) = drawK g c l m := rfl
/-- at p a drawing that has turned at most n times; its lists stand at g and c -/
structure Draw (H : Hp) (p g c : Addr) (n : Int) : Prop where
  ne : g ≠ c
  ex : ∃ (gs cs : List Int) (left turn : Int), H p = some (.dK (drawK g c left turn)) ∧ H g = some (.lst (gs.map V.int)) ∧
    H c = some (.lst (cs.map V.int)) ∧ 0 ≤ turn ∧ turn ≤ n
theorem dget_of {H : Hp} {a : Addr} {kvs : List (Key × V)} {k : Key} {v : V} (e : H a = some (.dK kvs)) (h : valV kvs k = some v) :
    DGet H a (kV k) (some v) := by
  rw [← h]
  exact DGet.k e
theorem dput_of {H : Hp} {a : Addr} {kvs kvs' : List (Key × V)} {k : Key} {v : V} (e : H a = some (.dK kvs)) (h : putK kvs k v = kvs')
    (hl : kvs.length < 1000) : DPut H a (kV k) v (upd H a (.dK kvs')) := by
  rw [← h]
  exact DPut.k e (Nat.lt_trans hl (by decide))
end HG
namespace K17
open PySem PySem.Spec PyProof.Rows L2 HG
section
variable {P : Program} {w : World} {K : PySem.W.Frag} {mg : Str → Option Value} {base : Heap}
def sp_mixed : Sp := fun vs H Q _ => ∃ p g c n, vs = [.ref p] ∧ Draw H p g c n ∧ n < 1000000000 ∧
  ∀ r H', Keep [p] H H' → Draw H' p g c (n + 1) → Q (.int r) H'
theorem ok_mixed (D : Def K mg "_law_mixed" s_l_mixed ["_law_draw"]) (zi : mg "int" = none) :
    Callee P w K mg base CX0 1 "_law_mixed" ["_law_draw"] sp_mixed := by
  refine D.ok sc_l_mixed (fun vs H Q E h => ?_) (fun f cdv A outer s H vs Q E hr h => ?_)
  · obtain ⟨p, g, c, n, rfl, _⟩ := h
    rfl
  · obtain ⟨p, g, c, n, rfl, dr, small, q⟩ := h
    have nd := sc_l_mixed.nd
    have hu := hu_of hr
    refine ⟨_, pss_cons (ps_par (i := 1) (j := 2) rfl nd rfl rfl (by decide) rfl rfl
        (pa_cons (pe_op op_add (pe_dget hu (pv 0) pe_str (fun _ _ => rfl)) pe_int) (pa_cons pe_int pa_nil)) (by rfl))
      (pss_cons (ps_dput hu (pv 0) pe_str (pv 1) rfl)
      (pss_cons (ps_for PassesOwn.never rfl (pi_list (pe_lst (pa_cons pe_int (pa_cons pe_int (pa_cons pe_int (pa_cons pe_int pa_nil))))))
          (pg_name (i := 3) nd rfl (.inl rfl))
        (pss_cons (ps_set (i := 4) nd rfl (.inl rfl) (pe_op op_add (pe_op op_mul pe_int (pv 1)) (pe_op op_fdiv (pv 3) pe_int)))
        (pss_cons (ps_for PassesOwn.never rfl (pi_list (pe_dget hu (pv 0) pe_str (fun _ _ => rfl))) (pg_name (i := 5) nd rfl (.inl rfl))
          (pss_one (ps_set (i := 4) nd rfl (.inl rfl) (pe_op op_mod (pe_callTy call_int1 (by rfl) zi (by decide +kernel)
            (pa_cons (pe_op op_add (pe_op op_add (pe_op op_mul (pv 4) pe_int) (pv 5)) (pv 1)) pa_nil)) (pv 3)))))
        (pss_one (ps_set (i := 2) nd rfl (.inl rfl) (pe_op op_add (pe_op op_mul (pv 2) pe_int)
          (pe_op op_mod (pe_callTy call_int1 (by rfl) zi (by decide +kernel) (pa_cons (pe_op op_pow (pv 4) pe_int) pa_nil)) (pv 3))))))))
      (pss_one (ps_ret (pv 2))))), ?_⟩
    obtain ⟨gs, cs, left, turn, e1, e2, e3, t0, t1⟩ := dr.ex
    have npg : p ≠ g := ne_of e1 e2 (fun z => nomatch z)
    have npc : p ≠ c := ne_of e1 e3 (fun z => nomatch z)
    refine ⟨.ref p, rfl, p, .int turn, rfl, dget_of (k := Sum.inr "turn") e1 drawK_turn, turn, 1, rfl, rfl, .int (turn + 1), .int 0, rfl, ?_⟩
    refine ⟨.int (turn + 1), rfl, .ref p, rfl, p, _, rfl, dput_of (k := Sum.inr "turn") e1 drawK_put_turn (by show 4 < 1000; decide), ?_⟩
    refine ⟨by show 4 ≤ sizeLine; decide, fun l hl => ?_⟩
    have k1 : Keep [p] H (upd H p (.dK (drawK g c left (turn + 1)))) := Keep.chg e1 List.mem_cons_self (fun _ z => nomatch z) (fun _ _ z => nomatch z)
    have k2 := k1.trans (Keep.new (ex := [p]) (o := HO.lst [V.int 2147483647, V.int 2147483629, V.int 2147483587, V.int 2147483579]) hl)
    generalize hH : upd (upd H p (.dK (drawK g c left (turn + 1)))) l (.lst [V.int 2147483647, V.int 2147483629, V.int 2147483587, V.int 2147483579]) = H2 at k2 ⊢
    have nl : l ≠ p := fun z => by
      rw [z, upd_same] at hl
      cases hl
    have eL : SqL K H2 l [V.int 2147483647, V.int 2147483629, V.int 2147483587, V.int 2147483579] := by
      rw [← hH]
      exact .inl (.inl upd_same)
    have eP : H2 p = some (.dK (drawK g c left (turn + 1))) := by
      rw [← hH, upd_ne nl.symm, upd_same]
    have eG : H2 g = some (.lst (gs.map V.int)) := k2.get e2 (by simp [npg.symm])
    have eC : H2 c = some (.lst (cs.map V.int)) := k2.get e3 (by simp [npc.symm])
    have dr2 : Draw H2 p g c (n + 1) := ⟨dr.ne, gs, cs, left, turn + 1, eP, eG, eC, by omega, by omega⟩
    refine ⟨l, rfl, ⟨_, eL⟩, for_list (xs := [V.int 2147483647, V.int 2147483629, V.int 2147483587, V.int 2147483579]) (fun i σ H' => ∃ found y3 y4 y5, σ = [some (.ref p), some (.int (turn + 1)), some (.int found), y3, y4, y5] ∧ H2 = H')
      ⟨0, none, none, none, rfl, rfl⟩ (fun i σ H' _ hh => ?_) (fun i x σ H' hx hh => ?_) (fun σ H' hh => ?_)⟩
    · obtain ⟨_, _, _, _, _, rfl⟩ := hh
      exact eL
    · obtain ⟨found, y3, y4, y5, rfl, rfl⟩ := hh
      obtain ⟨pr, rfl, p0, p1⟩ : ∃ pr : Int, x = .int pr ∧ 0 < pr ∧ pr ≤ 2147483647 := by
        rcases i with _ | _ | _ | _ | i <;> first | (cases hx; exact ⟨_, rfl, by decide, by decide⟩) | cases hx
      refine ⟨_, rfl, _, _, rfl, rfl, .inl ⟨by decide, by decide⟩, _, rfl, _, _, rfl, rfl, ⟨by decide, by decide⟩, _, _, rfl, rfl, ?_⟩
      have b0 : -(2 ^ 64) < 48271 * (turn + 1) + pr / 37 ∧ 48271 * (turn + 1) + pr / 37 < 2 ^ 64 := by omega
      refine ⟨.ref p, rfl, p, .ref c, rfl, dget_of (k := Sum.inr "cells") eP drawK_cells, c, rfl, ⟨_, .inl (.inl eC)⟩,
        for_list (xs := cs.map V.int) (fun j σ H' => ∃ (blend : Int) (y5 : Option V), σ = [some (.ref p), some (.int (turn + 1)), some (.int found), some (.int pr), some (.int blend), y5] ∧ H2 = H' ∧ -(2 ^ 64) < blend ∧ blend < 2 ^ 64)
        ⟨_, y5, rfl, rfl, b0⟩ (fun j σ H' _ hh => ?_) (fun j x σ H' hx hh => ?_) (fun σ H' hh => ?_)⟩
      · obtain ⟨_, _, _, rfl, _⟩ := hh
        exact .inl (.inl eC)
      · obtain ⟨blend, y5, rfl, rfl, b1, b2⟩ := hh
        obtain ⟨cell, rfl⟩ : ∃ cell : Int, x = .int cell := by
          rw [List.getElem?_map] at hx
          cases e : cs[j]? with
          | none => rw [e] at hx; cases hx
          | some z => rw [e] at hx; cases hx; exact ⟨z, rfl⟩
        refine ⟨_, rfl, _, _, rfl, rfl, .inr ⟨by decide, by decide⟩, _, rfl, _, _, rfl, rfl, _, rfl, _, _, rfl, rfl, .inl ⟨_, rfl, _, rfl, _, _, rfl, rfl, p0, ?_⟩⟩
        refine ⟨_, _, rfl, rfl, ?_, ?_⟩
        · have := Int.emod_nonneg (blend * 69621 + cell + (turn + 1)) (show pr ≠ 0 by omega)
          omega
        · have := Int.emod_lt_of_pos (blend * 69621 + cell + (turn + 1)) p0
          omega
      · obtain ⟨blend, y5, rfl, rfl, b1, b2⟩ := hh
        refine ⟨_, rfl, _, _, rfl, rfl, .inr ⟨by decide, by decide⟩, _, rfl, _, _, rfl, rfl, ⟨by decide, by decide, by omega⟩, .inl ⟨_, rfl, _, rfl, _, _, rfl, rfl, p0, _, _, rfl, rfl, ?_⟩⟩
        exact ⟨_, _, _, _, rfl, rfl⟩
    · obtain ⟨found, y3, y4, y5, rfl, rfl⟩ := hh
      exact ⟨.int found, rfl, q found _ k2 dr2⟩
def sp_take : Sp := fun vs H Q _ => ∃ p g c n m, vs = [.ref p, .int m] ∧ Draw H p g c n ∧ n < 1000000000 ∧ 0 < m ∧ m < 2 ^ 64 ∧
  ∀ r H', 0 ≤ r → r < m → Keep [p, g] H H' → Draw H' p g c (n + 1) → Q (.int r) H'
theorem ok_take (D : Def K mg "_law_take" s_l_take ["_law_draw", "_law_many"]) (zi : mg "int" = none)
    (CM : Callee P w K mg base CX0 1 "_law_mixed" ["_law_draw"] sp_mixed) :
    Callee P w K mg base CX0 2 "_law_take" ["_law_draw", "_law_many"] sp_take := by
  refine D.ok sc_l_take (fun vs H Q E h => ?_) (fun f cdv A outer s H vs Q E hr h => ?_)
  · obtain ⟨p, g, c, n, m, rfl, _⟩ := h
    rfl
  · obtain ⟨p, g, c, n, m, rfl, dr, small, m0, m1, q⟩ := h
    have nd := sc_l_take.nd
    have hu := hu_of hr
    refine ⟨_, pss_cons (ps_if (pt_cmpR op_eq (pe_dget hu (pv 0) pe_str (fun _ _ => rfl)) pe_int (nomark _))
        (pss_one (ps_dput hu (pv 0) pe_str (pe_ifExp (pt_cmpR (op_neD hr.units) (pe_dget hu (pv 0) pe_str (fun _ _ => rfl)) (pe_lst pa_nil) (nomark _))
          (pe_bm PySem.F.plainAttrs_list PySem.F.slot_list_pop PySem.F.type_list_pop mt_popAt (pe_dget hu (pv 0) pe_str (fun _ _ => rfl)) (pa_cons pe_int pa_nil))
          (pe_c CM hr (pa_cons (pv 0) pa_nil))) rfl)) pss_nil)
      (pss_cons (ps_set (i := 2) nd rfl (.inl rfl) (pe_op op_mod (pe_callTy call_int1 (by rfl) zi (by decide +kernel) (pa_cons (pe_dget hu (pv 0) pe_str (fun _ _ => rfl)) pa_nil)) (pv 1)))
      (pss_cons (ps_dput hu (pv 0) pe_str (pe_op op_fdivW (pe_dget hu (pv 0) pe_str (fun _ _ => rfl)) (pv 1)) rfl)
      (pss_one (ps_ret (pv 2))))), ?_⟩
    refine seq_join (fun σ H1 => σ = [some (.ref p), some (.int m), none] ∧ Keep [p, g] H H1 ∧ Draw H1 p g c (n + 1)) (fun NX nx => ?_) (fun σ H1 hh => ?_)
    · obtain ⟨gs, cs, left, turn, e1, e2, e3, t0, t1⟩ := dr.ex
      have npg : p ≠ g := ne_of e1 e2 (fun z => nomatch z)
      refine ⟨.ref p, rfl, p, .int left, rfl, dget_of (k := Sum.inr "left") e1 drawK_left, rfl, _, rfl, ite2 (fun z => ?_) (fun z => ?_)⟩
      · refine ⟨.ref p, rfl, p, .ref g, rfl, dget_of (k := Sum.inr "great") e1 drawK_great, by show 0 ≤ sizeLine; decide, fun l hl => ?_⟩
        have kl : Keep [p, g] H (upd H l (.lst [])) := Keep.new hl
        have eP : upd H l (.lst []) p = some (.dK (drawK g c left turn)) := by
          rw [upd_ne (ne_of_none e1 hl)]
          exact e1
        have eG : upd H l (.lst []) g = some (.lst (gs.map V.int)) := by
          rw [upd_ne (ne_of_none e2 hl)]
          exact e2
        have eC : upd H l (.lst []) c = some (.lst (cs.map V.int)) := by
          rw [upd_ne (ne_of_none e3 hl)]
          exact e3
        have eL : upd H l (.lst []) l = some (.lst []) := upd_same
        generalize upd H l (.lst []) = H1 at kl eP eG eC eL ⊢
        refine ⟨.list (gs.map PyData.int), .list [], .lst (.inl (.inl eG)) (dpAll_ints gs), .lst (.inl (.inl eL)) .nil, shaped_ints gs, shaped_ints [], _, rfl, ?_⟩
        rw [eqv_ints_nil]
        cases gs with
        | nil =>
          refine ⟨.ref p, rfl, p, g, c, n, rfl, ⟨dr.ne, [], cs, left, turn, eP, eG, eC, t0, t1⟩, small, fun r H2 k2 d2 => ?_⟩
          obtain ⟨gs2, cs2, left2, turn2, f1, f2, f3, u0, u1⟩ := d2.ex
          refine ⟨.ref p, rfl, p, _, rfl, dput_of (k := Sum.inr "left") f1 drawK_put_left (by show 4 < 1000; decide), ?_⟩
          have k3 : Keep [p, g] H2 (upd H2 p (.dK (drawK g c r turn2))) := Keep.chg f1 List.mem_cons_self (fun _ z => nomatch z) (fun _ _ z => nomatch z)
          refine nx _ _ ⟨rfl, (kl.trans (k2.more (by simp))).trans k3, dr.ne, gs2, cs2, r, turn2, upd_same, ?_, ?_, u0, u1⟩
          · rw [upd_ne npg.symm]
            exact f2
          · rw [upd_ne (ne_of e1 e3 (fun z => nomatch z)).symm]
            exact f3
        | cons x r =>
          refine ⟨.ref p, rfl, p, .ref g, rfl, dget_of (k := Sum.inr "great") eP drawK_great, .inl ⟨rfl, _, .inl (.inl eG)⟩, g, _, 0, 0, .int x, rfl, rfl, eG, by decide, by decide, ?_, rfl, ?_⟩
          · rw [List.map_cons, List.length_cons]
            simp [seqIndex?]
          · have f1 : upd H1 g (.lst ((List.map V.int (x :: r)).eraseIdx 0)) p = some (.dK (drawK g c left turn)) := by
              rw [upd_ne npg]
              exact eP
            refine ⟨.ref p, rfl, p, _, rfl, dput_of (k := Sum.inr "left") f1 drawK_put_left (by show 4 < 1000; decide), ?_⟩
            have k2 : Keep [p, g] H1 (upd H1 g (.lst ((List.map V.int (x :: r)).eraseIdx 0))) := Keep.chg eG (by simp) (fun _ z => nomatch z) (fun _ _ z => nomatch z)
            have k3 : Keep [p, g] _ (upd (upd H1 g (.lst ((List.map V.int (x :: r)).eraseIdx 0))) p (.dK (drawK g c x turn))) :=
              Keep.chg f1 List.mem_cons_self (fun _ z => nomatch z) (fun _ _ z => nomatch z)
            refine nx _ _ ⟨rfl, (kl.trans k2).trans k3, dr.ne, r, cs, x, turn, upd_same, ?_, ?_, t0, by omega⟩
            · rw [upd_ne npg.symm, upd_same]
              rfl
            · rw [upd_ne (ne_of e1 e3 (fun z => nomatch z)).symm, upd_ne dr.ne.symm]
              exact eC
      · exact nx _ _ ⟨rfl, Keep.refl, dr.ne, gs, cs, left, turn, e1, e2, e3, t0, by omega⟩
    · obtain ⟨rfl, k1, d1⟩ := hh
      obtain ⟨gs, cs, left, turn, e1, e2, e3, t0, t1⟩ := d1.ex
      have npg : p ≠ g := ne_of e1 e2 (fun z => nomatch z)
      refine ⟨.ref p, rfl, p, .int left, rfl, dget_of (k := Sum.inr "left") e1 drawK_left, .inl ⟨_, rfl, _, rfl, _, _, rfl, rfl, m0, ?_⟩⟩
      refine ⟨.ref p, rfl, p, .int left, rfl, dget_of (k := Sum.inr "left") e1 drawK_left, _, rfl, _, _, rfl, rfl, wide_div m0 (b := 64) (by omega) (by decide) (by decide), ?_⟩
      refine ⟨.ref p, rfl, p, _, rfl, dput_of (k := Sum.inr "left") e1 drawK_put_left (by show 4 < 1000; decide), ?_⟩
      have k2 : Keep [p, g] H1 (upd H1 p (.dK (drawK g c (left / m) turn))) := Keep.chg e1 List.mem_cons_self (fun _ z => nomatch z) (fun _ _ z => nomatch z)
      refine ⟨_, rfl, q _ _ (Int.emod_nonneg _ (by omega)) (Int.emod_lt_of_pos _ m0) (k1.trans k2) ⟨dr.ne, gs, cs, left / m, turn, upd_same, ?_, ?_, t0, t1⟩⟩
      · rw [upd_ne npg.symm]
        exact e2
      · rw [upd_ne (ne_of e1 e3 (fun z => nomatch z)).symm]
        exact e3
end
end K17
set_option maxHeartbeats 2000000
namespace HG
open PySem PySem.Spec PyProof.Rows L2
theorem atI_of {α : Type} {xs : List α} {r : Int} (h0 : 0 ≤ r) (h1 : r < xs.length) : ∃ v, xs[r.toNat]? = some v ∧ atI xs r = some v := by
  have h2 : r.toNat < xs.length := by omega
  refine ⟨xs[r.toNat], List.getElem?_eq_getElem h2, ?_⟩
  have q := atI_nat (xs := xs) (j := r.toNat) (List.getElem?_eq_getElem h2)
  rw [Int.toNat_of_nonneg h0] at q
  exact q
end HG
namespace K17
open PySem PySem.Spec PyProof.Rows L2 HG
section
variable {P : Program} {w : World} {K : PySem.W.Frag} {mg : Str → Option Value} {base : Heap}
def sp_pick (K : PySem.W.Frag) : Sp := fun vs H Q _ => ∃ p g c n l xs, vs = [.ref p, .ref l] ∧ Draw H p g c n ∧ n < 1000000000 ∧
  SqL K H l xs ∧ l ∉ [p, g] ∧ 0 < xs.length ∧ xs.length < 1000 ∧
  ∀ (i : Nat) v H', xs[i]? = some v → Keep [p, g] H H' → Draw H' p g c (n + 1) → Q v H'
theorem ok_pick (D : Def K mg "_law_pick" s_l_pick ["_law_draw", "_law_some"]) (zl : mg "len" = none)
    (CT : Callee P w K mg base CX0 2 "_law_take" ["_law_draw", "_law_many"] sp_take) :
    Callee P w K mg base CX0 3 "_law_pick" ["_law_draw", "_law_some"] (sp_pick K) := by
  refine D.ok sc_l_pick (fun vs H Q E h => ?_) (fun f cdv A outer s H vs Q E hr h => ?_)
  · obtain ⟨p, g, c, n, l, xs, rfl, _⟩ := h
    rfl
  · obtain ⟨p, g, c, n, l, xs, rfl, dr, small, hl, nl, x0, x1, q⟩ := h
    refine ⟨_, pss_one (ps_ret (pe_ix ix_list (pv 1) (pe_c CT hr (pa_cons (pv 0) (pa_cons (pe_callB call_len_seq (by rfl) zl PySem.boot_len (pa_cons (pv 1) pa_nil)) pa_nil))) (fun _ _ => rfl))), ?_⟩
    refine ⟨.ref l, rfl, .ref p, rfl, .ref l, rfl, l, xs, rfl, .inl hl, p, g, c, n, xs.length, rfl, dr, small, by omega, by omega, fun r H1 r0 r1 k d => ?_⟩
    obtain ⟨v, h1, h2⟩ := atI_of r0 r1
    exact ⟨l, xs, r, v, rfl, rfl, sqL_keep k nl hl, h2, q _ _ _ h1 k d⟩
def sp_begun (K : PySem.W.Frag) : Sp := fun vs H Q _ => ∃ (l : Addr) (ns : List Int), vs = [.ref l] ∧ SqL K H l (ns.map V.int) ∧ ns.length ≤ 63 ∧
  ∀ p g c H', Keep [] H H' → Draw H' p g c 0 → Q (.ref p) H'
theorem ok_begun (D : Def K mg "_law_begun" s_l_begun ["_law_script"]) (za : mg "abs" = none) (zi : mg "int" = none) :
    Callee P w K mg base CX0 1 "_law_begun" ["_law_script"] (sp_begun K) := by
  refine D.ok sc_l_begun (fun vs H Q E h => ?_) (fun f cdv A outer s H vs Q E hr h => ?_)
  · obtain ⟨l, ns, rfl, _⟩ := h
    rfl
  · obtain ⟨l, ns, rfl, hl, len, q⟩ := h
    have nd := sc_l_begun.nd
    have hu := hu_of hr
    refine ⟨_, pss_cons (ps_setLc (i := 1) (own := [("_law_cell", 2)]) (g := gName 2) rfl nd rfl rfl (sw_true rfl rfl rfl (by decide +kernel)) (pi_list (pv 0))
        (blkOk_by (N := ["_law_script", "_law_great", "_law_cell"]) (sc := defScope s_l_begun) (by decide +kernel)) (fun _ _ _ _ _ => pg_name (i := 2) nd rfl (Or.inl rfl))
        (fun _ _ _ _ _ => pts_one (pt_cmpR op_ge (pe_callB call_abs (by rfl) za (by decide +kernel) (pa_cons (pv 2) pa_nil)) (pe_op op_pow pe_int pe_int) (nomark _)))
        (fun _ _ _ _ _ => pe_op op_sub (pe_callB call_abs (by rfl) za (by decide +kernel) (pa_cons (pv 2) pa_nil)) (pe_op op_pow pe_int pe_int)))
      (pss_one (ps_ret (pe_disp (pps_cons pe_str (pv 1) (pps_cons pe_str
        (pe_lc (own := [("_law_cell", 2)]) (g := gName 2) rfl nd (pi_list (pv 0))
          (blkOk_by (N := ["_law_script", "_law_great", "_law_cell"]) (sc := defScope s_l_begun) (by decide +kernel)) (fun _ _ _ _ _ => pg_name (i := 2) nd rfl (Or.inl rfl))
          (fun _ _ _ _ _ => pts_nil)
          (fun _ _ _ _ _ => pe_op op_mod (pe_callTy call_int1 (by rfl) zi (by decide +kernel) (pa_cons (pe_callB call_abs (by rfl) za (by decide +kernel) (pa_cons (pv 2) pa_nil)) pa_nil)) pe_int))
        (pps_cons pe_str pe_int (pps_cons pe_str pe_int pps_nil)))) rfl rfl (fun z => nomatch z) (by decide)))), ?_⟩
    have item : ∀ (i : Nat) (x : V), (ns.map V.int)[i]? = some x → ∃ z : Int, x = .int z := fun i x hx => by
      rw [List.getElem?_map] at hx
      cases e : ns[i]? with
      | none => rw [e] at hx; cases hx
      | some z => rw [e] at hx; cases hx; exact ⟨z, rfl⟩
    have pw : CPow 10 18 := ⟨by decide, by decide, by decide⟩
    refine seq_join (fun σ H1 => ∃ (g : Addr) (gs : List Int), σ = [some (.ref l), some (.ref g), none] ∧ H g = none ∧ Keep [] H H1 ∧ H1 g = some (.lst (gs.map V.int)) ∧ gs.length ≤ 63) (fun NX nx => ?_) (fun σ H1 hh => ?_)
    · refine ⟨.ref l, rfl, l, rfl, ⟨_, hl⟩, fun D nD => ?_⟩
      refine lc_list (xs := ns.map V.int) (fun i H' => Keep [] H H' ∧ ∃ acc : List Int, H' D = some (.lst (acc.map V.int)) ∧ acc.length ≤ i) ⟨Keep.new nD, [], upd_same, Nat.le_refl 0⟩
        (fun i H' _ hh => sqL_keep hh.1.toKeepW (by simp) hl) (fun i x H' hx hh => ?_) (fun H' hh => ?_)
      · obtain ⟨k, acc, eD, len⟩ := hh
        obtain ⟨z, rfl⟩ := item i x hx
        have il : i < 63 := by
          have := (List.getElem?_eq_some_iff.mp hx).1
          rw [List.length_map] at this
          omega
        refine ⟨rfl, .int z, rfl, z, rfl, _, _, rfl, rfl, pw, _, _, rfl, rfl, _, rfl, ite2 (fun _ => ?_) (fun _ => ?_)⟩
        · refine ⟨.int z, rfl, z, rfl, _, _, rfl, rfl, pw, _, _, rfl, rfl, acc.map V.int, eD, ?_, ?_, acc ++ [(if z < 0 then -z else z) - 10 ^ (18 : Int).toNat], ?_, ?_⟩
          · rw [List.length_map]
            exact small1000 (by omega)
          · exact k.mut nD
          · rw [upd_same, List.map_append]
            rfl
          · rw [List.length_append]
            simp only [List.length_singleton]
            omega
        · exact ⟨k, acc, eD, by omega⟩
      · obtain ⟨k, acc, eD, len'⟩ := hh
        rw [List.length_map] at len'
        exact nx _ _ ⟨D, acc, rfl, nD, k, eD, by omega⟩
    · obtain ⟨g, gs, rfl, ng, k, eg, lg⟩ := hh
      refine fun p np => ?_
      have kp : Keep [] H1 (upd H1 p (.dK [])) := Keep.new np
      have npg : g ≠ p := ne_of_none eg np
      refine ⟨.ref g, rfl, .ref l, rfl, l, rfl, ⟨_, sqL_keep (k.trans kp).toKeepW (by simp) hl⟩, fun D nD => ?_⟩
      have npD : p ≠ D := fun z => by
        rw [← z, upd_same] at nD
        cases nD
      have nD1 : H1 D = none := by
        rw [upd_ne npD.symm] at nD
        exact nD
      refine lc_list (xs := ns.map V.int) (fun i H' => (∀ a o, upd H1 p (.dK []) a = some o → H' a = some o) ∧ ∃ acc : List Int, H' D = some (.lst (acc.map V.int)) ∧ acc.length ≤ i) ⟨fun a o e => ?_, [], upd_same, Nat.le_refl 0⟩
        (fun i H' _ hh => sqL_keep ((k.trans kp).trans (Keep.ext hh.1)).toKeepW (by simp) hl) (fun i x H' hx hh => ?_) (fun H' hh => ?_)
      · rw [upd_ne (ne_of_none e nD)]
        exact e
      · obtain ⟨k, acc, eD, len⟩ := hh
        obtain ⟨z, rfl⟩ := item i x hx
        have il : i < 63 := by
          have := (List.getElem?_eq_some_iff.mp hx).1
          rw [List.length_map] at this
          omega
        refine ⟨rfl, .int z, rfl, z, rfl, .inl ⟨_, rfl, _, _, rfl, rfl, (show (0 : Int) < 2147483629 by decide), acc.map V.int, eD, ?_, ?_, acc ++ [(if z < 0 then -z else z) % 2147483629], ?_, ?_⟩⟩
        · rw [List.length_map]
          exact small1000 (by omega)
        · exact fun a o e => by rw [upd_ne (ne_of_none e nD)]; exact k a o e
        · rw [upd_same, List.map_append]
          rfl
        · rw [List.length_append]
          simp only [List.length_singleton]
          omega
      · obtain ⟨kk, acc, eD, len'⟩ := hh
        have eP : H' p = some (.dK []) := kk p _ upd_same
        have eG : H' g = some (.lst (gs.map V.int)) := kk g _ (by rw [upd_ne npg]; exact eg)
        have ngD : g ≠ D := ne_of_none eg nD1
        refine ⟨eP, [(.inr "great", .ref g), (.inr "cells", .ref D), (.inr "left", .int 0), (.inr "turn", .int 0)], rfl, by show 4 ≤ 15; decide, ?_⟩
        have kAll : Keep [] H (upd H' p (.dK (drawK g D 0 0))) := by
          have base : Keep [] H H' := (k.trans kp).trans (Keep.ext kk)
          exact base.mut (k.none np)
        refine q p g D _ kAll ⟨ngD, gs, acc, 0, 0, upd_same, ?_, ?_, by decide, by decide⟩
        · rw [upd_ne npg]
          exact eG
        · rw [upd_ne npD.symm]
          exact eD
end
end K17
set_option maxHeartbeats 2000000
namespace HG
open PySem PySem.Spec PyProof.Rows L2
def gI (p q : Int) : Int := ((Nat.gcd p.natAbs q.natAbs : Nat) : Int)
def Sm (i : Int) : Prop := -(2 ^ 62) < i ∧ i < 2 ^ 62
theorem Sm.mul {i : Int} (h : Sm i) (j : Int) : CMul i j := .inl ⟨by have := h.1; omega, by have := h.2; omega⟩
/-- whether it is a tuple of so many items -/
inductive TupN (K : PySem.W.Frag) (H : Hp) : V → Int → Bool → Prop where
  | no {v : V} {n : Int} {T : String} (t : TyX K H v (.type T)) (h : kitB T "tuple" = some false) : TupN K H v n false
  | tup {a : Addr} {xs : List V} {n : Int} (h : SqT K H a xs) : TupN K H (.ref a) n (decide ((xs.length : Int) = n))
theorem PairB.tupN {ex : List Addr} {K : PySem.W.Frag} {H : Hp} {v : V} {b : Bool} (h : PairB ex K H v b) :
    (TupN K H v 2 false ∧ b = false) ∨ ∃ a x y, v = .ref a ∧ SqT K H a [x, y] ∧ ∃ b1, NumB ex K H x b1 ∧
      ((b1 = false ∧ b = false) ∨ (b1 = true ∧ NumB ex K H y b)) := by
  cases h with
  | no o t h => exact .inl ⟨.no t h, rfl⟩
  | len h n =>
    refine .inl ⟨?_, rfl⟩
    have q := TupN.tup (n := 2) h
    rw [decide_eq_false (by omega)] at q
    exact q
  | first h hx => exact .inr ⟨_, _, _, rfl, h, _, hx, .inl ⟨rfl, rfl⟩⟩
  | second h hx hy => exact .inr ⟨_, _, _, rfl, h, _, hx, .inr ⟨rfl, hy⟩⟩
  | yes h => exact .inr ⟨_, _, _, rfl, h, _, .int _, .inr ⟨rfl, .int _⟩⟩
end HG
namespace K17
open PySem PySem.Spec PyProof.Rows L2 HG
section
variable {P : Program} {w : World} {K : PySem.W.Frag} {mg : Str → Option Value} {base : Heap}
def sp_isnum (K : PySem.W.Frag) : Sp := fun vs H Q _ => ∃ v b, vs = [v] ∧ NumB [] K H v b ∧ Q (.bl b) H
theorem ok_isnum (D : Def K mg "is_number" s_is_number ["thing"]) (zs : mg "isinstance" = none) (zi : mg "int" = none) (zb : mg "bool" = none) :
    Callee P w K mg base CX0 1 "is_number" ["thing"] (sp_isnum K) := by
  refine D.ok sc_is_number (fun vs H Q E h => ?_) (fun f cdv A outer s H vs Q E hr h => ?_)
  · obtain ⟨v, b, rfl, _⟩ := h
    rfl
  · obtain ⟨v, b, rfl, ⟨_, T, b1, b2, t, e1, e2, rfl⟩, q⟩ := h
    refine ⟨_, pss_one (ps_ret (pe_and (pe_callB call_isi (by rfl) zs (by decide +kernel) (pa_cons (pv 0) (pa_cons (pe_bltn (v := .ty "int") (by rfl) zi (by decide +kernel) rfl) pa_nil)))
      (pe_one (pe_not (pe_callB call_isi (by rfl) zs (by decide +kernel) (pa_cons (pv 0) (pa_cons (pe_bltn (v := .ty "bool") (by rfl) zb (by decide +kernel) rfl) pa_nil))))))), ?_⟩
    refine ⟨v, rfl, _, _, _, _, b1, rfl, .ty "int", t, kit_some e1, b1, rfl, ?_⟩
    cases b1 with
    | false => exact q
    | true => exact ⟨v, rfl, _, _, _, _, b2, rfl, .ty "bool", t, kit_some e2, b2, rfl, q⟩
def sp_tupN (K : PySem.W.Frag) : Sp := fun vs H Q _ => ∃ v n b, vs = [v, .int n] ∧ TupN K H v n b ∧ Q (.bl b) H
theorem ok_tupN (D : Def K mg "is_tuple_of" s_is_tuple_of ["thing", "many"]) (zs : mg "isinstance" = none) (zt : mg "tuple" = none) (zl : mg "len" = none) :
    Callee P w K mg base CX0 1 "is_tuple_of" ["thing", "many"] (sp_tupN K) := by
  refine D.ok sc_is_tuple_of (fun vs H Q E h => ?_) (fun f cdv A outer s H vs Q E hr h => ?_)
  · obtain ⟨v, n, b, rfl, _⟩ := h
    rfl
  · obtain ⟨v, n, b, rfl, tn, q⟩ := h
    refine ⟨_, pss_one (ps_ret (pe_and (pe_callB call_isi (by rfl) zs (by decide +kernel) (pa_cons (pv 0) (pa_cons (pe_bltn (v := .ty "tuple") (by rfl) zt (by decide +kernel) rfl) pa_nil)))
      (pe_one (pe_cmpR op_eq (pe_callB call_len_seq (by rfl) zl PySem.boot_len (pa_cons (pv 0) pa_nil)) (pv 1) (nomark _))))), ?_⟩
    cases tn with
    | no t h => exact ⟨v, rfl, _, _, _, _, false, rfl, .ty "tuple", t, kit_some h, false, rfl, q⟩
    | tup h =>
      refine ⟨_, rfl, _, _, _, _, true, rfl, .ty "tuple", tyX_tup h, kit_some (by decide +kernel), true, rfl, _, rfl, _, _, rfl, .inr h, _, rfl, rfl, ?_⟩
      simpa using q
def sp_ispair (K : PySem.W.Frag) : Sp := fun vs H Q _ => ∃ v b, vs = [v] ∧ PairB [] K H v b ∧ Q (.bl b) H
theorem ok_ispair (D : Def K mg "is_pair" s_is_pair ["thing"])
    (CN : Callee P w K mg base CX0 1 "is_number" ["thing"] (sp_isnum K)) (CT : Callee P w K mg base CX0 1 "is_tuple_of" ["thing", "many"] (sp_tupN K)) :
    Callee P w K mg base CX0 2 "is_pair" ["thing"] (sp_ispair K) := by
  refine D.ok sc_is_pair (fun vs H Q E h => ?_) (fun f cdv A outer s H vs Q E hr h => ?_)
  · obtain ⟨v, b, rfl, _⟩ := h
    rfl
  · obtain ⟨v, b, rfl, pb, q⟩ := h
    refine ⟨_, pss_one (ps_ret (pe_and (pe_c CT hr (pa_cons (pv 0) (pa_cons pe_int pa_nil)))
      (pe_and (pe_c CN hr (pa_cons (pe_ix ix_tup (pv 0) pe_int (fun _ _ => rfl)) pa_nil)) (pe_one (pe_c CN hr (pa_cons (pe_ix ix_tup (pv 0) pe_int (fun _ _ => rfl)) pa_nil)))))), ?_⟩
    rcases pb.tupN with ⟨tn, rfl⟩ | ⟨a, x, y, rfl, hx, b1, n1, h⟩
    · exact ⟨v, rfl, v, 2, false, rfl, tn, false, rfl, q⟩
    · refine ⟨_, rfl, _, 2, true, rfl, TupN.tup (n := 2) hx, true, rfl, _, rfl, a, _, 0, x, rfl, rfl, hx, rfl, x, b1, rfl, n1, b1, rfl, ?_⟩
      rcases h with ⟨rfl, rfl⟩ | ⟨rfl, n2⟩
      · exact q
      · exact ⟨_, rfl, a, _, 1, y, rfl, rfl, hx, rfl, y, b, rfl, n2, q⟩
def sp_reduced : Sp := fun vs H Q _ => ∃ p q, vs = [.int p, .int q] ∧ 0 ≤ p ∧ 0 ≤ q ∧ 0 < p + q ∧ p < 2 ^ 64 ∧ q < 2 ^ 64 ∧
  ∀ r, H r = none → Q (.ref r) (upd H r (.tup [.int (p / gI p q), .int (q / gI p q)]))
theorem gI_pos {p q : Int} (h0 : 0 ≤ p) (h1 : 0 ≤ q) (h : 0 < p + q) : 0 < gI p q := by
  have : 0 < Nat.gcd p.natAbs q.natAbs := by
    rw [Nat.pos_iff_ne_zero]
    intro z
    have := Nat.eq_zero_of_gcd_eq_zero_left z
    have := Nat.eq_zero_of_gcd_eq_zero_right z
    omega
  exact Int.ofNat_lt.mpr this
theorem gI_le {p q : Int} (h0 : 0 ≤ p) (h1 : 0 ≤ q) (h : 0 < p + q) : gI p q ≤ p + q := by
  by_cases e : p = 0
  · subst e
    show ((Nat.gcd 0 q.natAbs : Nat) : Int) ≤ _
    rw [Nat.gcd_zero_left]
    omega
  · have := Nat.gcd_le_left q.natAbs (show 0 < p.natAbs by omega)
    show ((Nat.gcd p.natAbs q.natAbs : Nat) : Int) ≤ _
    omega
theorem ok_reduced (D : Def K mg "reduced" s_reduced ["p", "q"]) (mg_ : mg "gcd" = some (.builtin "math.gcd")) :
    Callee P w K mg base CX0 1 "reduced" ["p", "q"] sp_reduced := by
  refine D.ok sc_reduced (fun vs H Q E h => ?_) (fun f cdv A outer s H vs Q E hr h => ?_)
  · obtain ⟨p, q, rfl, _⟩ := h
    rfl
  · obtain ⟨p, q, rfl, p0, q0, pq, p1, q1, k⟩ := h
    have nd := sc_reduced.nd
    refine ⟨_, pss_cons (ps_set (i := 2) nd rfl (.inl rfl) (pe_callBfun cr_gcd (by rfl) mg_ (pa_cons (pv 0) (pa_cons (pv 1) pa_nil))))
      (pss_one (ps_ret (pe_tup (pa_cons (pe_op op_fdivW (pv 0) (pv 2)) (pa_cons (pe_op op_fdivW (pv 1) (pv 2)) pa_nil))))), ?_⟩
    have g0 := gI_pos p0 q0 pq
    have g1 := gI_le p0 q0 pq
    have dv : ∀ z : Int, CDivW z (gI p q) := fun z => wide_div g0 (b := 65) (by omega) (by decide) (by decide)
    exact ⟨_, rfl, _, rfl, p, q, rfl, _, rfl, _, rfl, _, _, rfl, rfl, dv p, _, rfl, _, rfl, _, _, rfl, rfl, dv q, by show 2 ≤ sizeLine; decide, fun r nr => k r nr⟩
def sp_goes (K : PySem.W.Frag) : Sp := fun vs H Q _ => ∃ x y a b c d, vs = [x, y] ∧ Pr K H x a b ∧ Pr K H y c d ∧ Sm a ∧ Sm b ∧ Sm c ∧ Sm d ∧ Q (.bl (decide (c * b < a * d))) H
theorem ok_goes (D : Def K mg "goes_ahead" s_goes_ahead ["one", "other"]) :
    Callee P w K mg base CX0 1 "goes_ahead" ["one", "other"] (sp_goes K) := by
  refine D.ok sc_goes_ahead (fun vs H Q E h => ?_) (fun f cdv A outer s H vs Q E hr h => ?_)
  · obtain ⟨x, y, a, b, c, d, rfl, _⟩ := h
    rfl
  · obtain ⟨x, y, a, b, c, d, rfl, ⟨u, rfl, hx⟩, ⟨v, rfl, hy⟩, sa, sb, sc, sd, q⟩ := h
    refine ⟨_, pss_one (ps_ret (pe_cmpR op_gt (pe_op op_mul (pe_ix ix_tup (pv 0) pe_int (fun _ _ => rfl)) (pe_ix ix_tup (pv 1) pe_int (fun _ _ => rfl)))
      (pe_op op_mul (pe_ix ix_tup (pv 1) pe_int (fun _ _ => rfl)) (pe_ix ix_tup (pv 0) pe_int (fun _ _ => rfl))) (nomark _))), ?_⟩
    exact ⟨_, rfl, u, _, 0, .int a, rfl, rfl, hx, rfl, _, rfl, v, _, 1, .int d, rfl, rfl, hy, rfl, _, _, rfl, rfl, sa.mul d,
      _, rfl, v, _, 0, .int c, rfl, rfl, hy, rfl, _, rfl, u, _, 1, .int b, rfl, rfl, hx, rfl, _, _, rfl, rfl, sc.mul b, _, _, rfl, rfl, q⟩
def sp_worthat (K : PySem.W.Frag) : Sp := fun vs H Q _ => ∃ x y a b p q, vs = [x, y] ∧ Pr K H x a b ∧ Pr K H y p q ∧ Sm a ∧ Sm b ∧ Sm p ∧ Sm q ∧ Q (.int (p * a + q * b)) H
theorem ok_worthat (D : Def K mg "worth_at" s_worth_at ["pair", "price"]) :
    Callee P w K mg base CX0 1 "worth_at" ["pair", "price"] (sp_worthat K) := by
  refine D.ok sc_worth_at (fun vs H Q E h => ?_) (fun f cdv A outer s H vs Q E hr h => ?_)
  · obtain ⟨x, y, a, b, c, d, rfl, _⟩ := h
    rfl
  · obtain ⟨x, y, a, b, c, d, rfl, ⟨u, rfl, hx⟩, ⟨v, rfl, hy⟩, sa, sb, sc, sd, q⟩ := h
    refine ⟨_, pss_one (ps_ret (pe_op op_add (pe_op op_mul (pe_ix ix_tup (pv 1) pe_int (fun _ _ => rfl)) (pe_ix ix_tup (pv 0) pe_int (fun _ _ => rfl)))
      (pe_op op_mul (pe_ix ix_tup (pv 1) pe_int (fun _ _ => rfl)) (pe_ix ix_tup (pv 0) pe_int (fun _ _ => rfl))))), ?_⟩
    exact ⟨_, rfl, v, _, 0, .int c, rfl, rfl, hy, rfl, _, rfl, u, _, 0, .int a, rfl, rfl, hx, rfl, _, _, rfl, rfl, sc.mul a,
      _, rfl, v, _, 1, .int d, rfl, rfl, hy, rfl, _, rfl, u, _, 1, .int b, rfl, rfl, hx, rfl, _, _, rfl, rfl, sd.mul b, _, _, rfl, rfl, q⟩
end
end K17
set_option maxHeartbeats 2000000
namespace HG
open PySem PySem.Spec PyProof.Rows L2
def OPr (K : PySem.W.Frag) (H : Hp) (v : V) : Option (Int × Int) → Prop
  | none => v = .non
  | some z => Pr K H v z.1 z.2
def cr2 (x y : Int) : Option (Int × Int) :=
  if 0 < x ∧ y ≤ 0 then some ((-y) / gI (-y) x, x / gI (-y) x) else if x = 0 ∧ y ≠ 0 then some (1, 0) else none
def cross (a b c d : Int) : Option (Int × Int) := if a - c < 0 then cr2 (-(a - c)) (-(b - d)) else cr2 (a - c) (b - d)
/-- whether it is a price -/
inductive PriceB (ex : List Addr) (K : PySem.W.Frag) (H : Hp) : V → Bool → Prop where
  | no {v : V} (h : PairB ex K H v false) : PriceB ex K H v false
  | yes {v : V} {i j : Int} (h : Pr K H v i j) : PriceB ex K H v (decide (0 ≤ i) && (decide (0 ≤ j) && decide (gI i j = 1)))
theorem PriceB.keep {ex : List Addr} {K : PySem.W.Frag} {H H' : Hp} {v : V} {b : Bool} (k : KeepW ex H H') (h : PriceB ex K H v b) : PriceB ex K H' v b := by
  cases h with
  | no h => exact .no (h.keep k)
  | yes h => exact .yes (h.keep (ex := ex) k)
theorem PriceB.less {ex ex' : List Addr} {K : PySem.W.Frag} {H : Hp} {v : V} {b : Bool} (h : PriceB ex K H v b) (i : ∀ x ∈ ex', x ∈ ex) : PriceB ex' K H v b := by
  cases h with
  | no h => exact .no (h.less i)
  | yes h => exact .yes h
/-- an own error class over ValueError, with no more than a text -/
structure ErrC (K : PySem.W.Frag) (mg : Str → Option Value) (x : Str) (C : Addr) : Prop where
  at_ : mg x = some (.ref C)
  exc : PySem.W.excIn K C [.type "ValueError", .type "Exception", .type "BaseException", .type "object"] "ValueError.__new__" = true
  keep : PySem.W.keepIn K (.ref C) = true
  sub : PySem.W.subIn K (.ref C) (.type "BaseException") = some true
  ty : PySem.W.typeIn K (.ref C) = some (.type "type")
theorem pmk_err {X : Cx} {x m : Str} {C : Addr} {j : Nat} {p p2 pos : Pos} (c : ErrC X.K X.mg x C) (hg : Gl X x := by rfl)
    (hdb : (x == ("__debug__" : Str)) = false := by decide) :
    PMk X (.Call (.Name x p) [.Constant (.str m) j p2] [] pos) (fun _ H Q => Q (.ref C) none H) :=
  pmk_own PySem.F.excBase_ValueError c.exc c.at_ c.keep (raises_own c.sub c.ty) hg hdb
end HG
namespace K17
open PySem PySem.Spec PyProof.Rows L2 HG
section
variable {P : Program} {w : World} {K : PySem.W.Frag} {mg : Str → Option Value} {base : Heap}
def sp_crossing (K : PySem.W.Frag) : Sp := fun vs H Q _ => ∃ x y a b c d, vs = [x, y] ∧ Pr K H x a b ∧ Pr K H y c d ∧ Sm a ∧ Sm b ∧ Sm c ∧ Sm d ∧
  ∀ v H', Keep [] H H' → OPr K H' v (cross a b c d) → Q v H'
theorem ok_crossing (D : Def K mg "crossing" s_crossing ["one", "other"]) (CR : Callee P w K mg base CX0 1 "reduced" ["p", "q"] sp_reduced)
    {ah : Addr} (mA : mg "AHEAD_OF_ALL" = some (.ref ah)) (hA : ∀ H, SqT K H ah [.int 1, .int 0]) :
    Callee P w K mg base CX0 2 "crossing" ["one", "other"] (sp_crossing K) := by
  refine D.ok sc_crossing (fun vs H Q E h => ?_) (fun f cdv A outer s H vs Q E hr h => ?_)
  · obtain ⟨x, y, a, b, c, d, rfl, _⟩ := h
    rfl
  · obtain ⟨x, y, a, b, c, d, rfl, ⟨u, rfl, hx⟩, ⟨v, rfl, hy⟩, sa, sb, sc, sd, q⟩ := h
    have nd := sc_crossing.nd
    refine ⟨_, pss_cons (ps_set (i := 2) nd rfl (.inl rfl) (pe_op op_sub (pe_ix ix_tup (pv 0) pe_int (fun _ _ => rfl)) (pe_ix ix_tup (pv 1) pe_int (fun _ _ => rfl))))
      (pss_cons (ps_set (i := 3) nd rfl (.inl rfl) (pe_op op_sub (pe_ix ix_tup (pv 0) pe_int (fun _ _ => rfl)) (pe_ix ix_tup (pv 1) pe_int (fun _ _ => rfl))))
      (pss_cons (ps_if (pt_cmpR op_lt (pv 2) pe_int (nomark _)) (pss_one (ps_par (i := 2) (j := 3) rfl nd rfl rfl (by decide) rfl rfl
          (pa_cons (pe_un un_neg (pv 2)) (pa_cons (pe_un un_neg (pv 3)) pa_nil)) (by rfl))) pss_nil)
      (pss_cons (ps_if (PW.pt (pw_and (pt_cmpR op_gt (pv 2) pe_int (nomark _)) (pw_and1 (pt_cmpR op_le (pv 3) pe_int (nomark _)))))
          (pss_one (ps_ret (pe_c CR hr (pa_cons (pe_un un_neg (pv 3)) (pa_cons (pv 2) pa_nil))))) pss_nil)
      (pss_cons (ps_if (PW.pt (pw_and (pt_cmpR op_eq (pv 2) pe_int (nomark _)) (pw_and1 (pt_cmpR op_ne (pv 3) pe_int (nomark _)))))
          (pss_one (ps_ret (pe_glob (v := .ref ah) rfl mA rfl))) pss_nil)
      (pss_one (ps_ret pe_non)))))), ?_⟩
    refine ⟨_, rfl, u, _, 0, .int a, rfl, rfl, hx, rfl, _, rfl, v, _, 0, .int c, rfl, rfl, hy, rfl, _, _, rfl, rfl, ?_⟩
    refine ⟨_, rfl, u, _, 1, .int b, rfl, rfl, hx, rfl, _, rfl, v, _, 1, .int d, rfl, rfl, hy, rfl, _, _, rfl, rfl, ?_⟩
    dsimp only [gName]
    refine seq_join (fun σ H1 => ∃ x y : Int, σ = [some (.ref u), some (.ref v), some (.int x), some (.int y)] ∧ H = H1 ∧ cross a b c d = cr2 x y ∧ 0 ≤ x ∧ x < 2 ^ 64 ∧ -(2 ^ 64) < y) (fun NX nx => ?_) (fun σ H1 hh => ?_)
    · refine ⟨_, rfl, _, _, rfl, rfl, _, rfl, ite2 (fun z => ?_) (fun z => ?_)⟩
      · have z := of_decide_eq_true z
        refine ⟨_, rfl, _, rfl, _, rfl, _, rfl, _, _, rfl, nx _ _ ⟨-(a - c), -(b - d), rfl, rfl, ?_, ?_, ?_, ?_⟩⟩
        · unfold cross
          rw [if_pos z]
        all_goals (have := sa.1; have := sa.2; have := sb.1; have := sb.2; have := sc.1; have := sc.2; have := sd.1; have := sd.2; omega)
      · have z : ¬ a - c < 0 := fun w => z (decide_eq_true w)
        refine nx _ _ ⟨a - c, b - d, rfl, rfl, ?_, ?_, ?_, ?_⟩
        · unfold cross
          rw [if_neg z]
        all_goals (have := sa.1; have := sa.2; have := sb.1; have := sb.2; have := sc.1; have := sc.2; have := sd.1; have := sd.2; omega)
    · obtain ⟨x, y, rfl, rfl, e, x0, x1, y1⟩ := hh
      rw [e] at q
      have last : (0 < x ∧ y ≤ 0) → tRet (tCl sp_reduced E0 (tCons (tUn (rU fun i => .int (-i)) (tVar 3)) (tCons (tVar 2) tNil))) { nx := fun _ H' => Q .non H', rt := Q } [some (.ref u), some (.ref v), some (.int x), some (.int y)] H := by
        intro z
        refine ⟨_, rfl, _, rfl, _, rfl, -y, x, rfl, by omega, by omega, by omega, by omega, by omega, fun r nr => q _ _ (Keep.new nr) ?_⟩
        unfold cr2
        rw [if_pos z]
        exact Pr.new
      refine ⟨_, rfl, _, _, rfl, rfl, _, rfl, ite2 (fun z1 => ?_) (fun z1 => iteF ?_)⟩
      · have z1 := of_decide_eq_true z1
        refine ⟨_, rfl, _, _, rfl, rfl, _, rfl, ite2 (fun z2 => last ⟨z1, of_decide_eq_true z2⟩) (fun z2 => ?_)⟩
        have z2 := fun w => z2 (decide_eq_true w)
        refine ⟨_, rfl, rfl, _, rfl, ite2 (fun z3 => ?_) (fun z3 => iteF ?_)⟩
        · have z3 := V.int.inj (of_decide_eq_true z3)
          omega
        · refine q _ _ Keep.refl ?_
          unfold cr2
          rw [if_neg (fun h => z2 h.2), if_neg (fun h => by omega)]
          exact rfl
      · have z1 := fun w => z1 (decide_eq_true w)
        refine ⟨_, rfl, rfl, _, rfl, ite2 (fun z3 => ?_) (fun z3 => iteF ?_)⟩
        · have z3 := V.int.inj (of_decide_eq_true z3)
          refine ⟨_, rfl, rfl, _, rfl, ite2 (fun z4 => ?_) (fun z4 => ?_)⟩
          · refine q _ _ Keep.refl ?_
            have z4 : y ≠ 0 := fun w => by
              rw [w] at z4
              exact absurd z4 (by decide)
            unfold cr2
            rw [if_neg (fun h => z1 h.1), if_pos ⟨z3, z4⟩]
            exact ⟨ah, rfl, hA _⟩
          · refine q _ _ Keep.refl ?_
            have z4 : y = 0 := by
              by_cases w : y = 0
              · exact w
              · refine absurd ?_ z4
                rw [decide_eq_false (fun e => w (V.int.inj e))]
                rfl
            unfold cr2
            rw [if_neg (fun h => z1 h.1), if_neg (fun h => h.2 z4)]
            exact rfl
        · exact absurd (decide_eq_true (congrArg V.int (show x = 0 by have : ¬ 0 < x := z1; omega))) z3
end
end K17
set_option maxHeartbeats 2000000
namespace HG
open PySem PySem.Spec PyProof.Rows L2
theorem PriceB.yes_of {ex : List Addr} {K : PySem.W.Frag} {H : Hp} {v : V} (h : PriceB ex K H v true) : ∃ i j, Pr K H v i j ∧ 0 ≤ i ∧ 0 ≤ j ∧ gI i j = 1 := by
  generalize e : true = b at h
  cases h with
  | no h => cases e
  | yes h =>
    have e := e.symm
    simp only [Bool.and_eq_true, decide_eq_true_eq] at e
    exact ⟨_, _, h, e.1, e.2.1, e.2.2⟩
theorem PriceB.of {ex : List Addr} {K : PySem.W.Frag} {H : Hp} {v : V} {i j : Int} (h : Pr K H v i j) (h0 : 0 ≤ i) (h1 : 0 ≤ j) (g : gI i j = 1) : PriceB ex K H v true := by
  have q := PriceB.yes (ex := ex) h
  rw [decide_eq_true h0, decide_eq_true h1, decide_eq_true g] at q
  exact q
theorem PairB.yes_of {ex : List Addr} {K : PySem.W.Frag} {H : Hp} {v : V} (h : PairB ex K H v true) : ∃ i j, Pr K H v i j := by
  generalize e : true = b at h
  cases h with
  | no => cases e
  | len => cases e
  | first => cases e
  | second => cases e
  | yes h => exact ⟨_, _, _, rfl, h⟩
/-- whether it is a number from 0 -/
def NumC (K : PySem.W.Frag) (H : Hp) (v : V) : Bool → Prop
  | true => ∃ i, v = .int i ∧ 0 ≤ i
  | false => NumB [] K H v false ∨ ∃ i, v = .int i ∧ i < 0
theorem NumC.keep {K : PySem.W.Frag} {H H' : Hp} {v : V} {b : Bool} (k : KeepW [] H H') (h : NumC K H v b) : NumC K H' v b := by
  cases b with
  | true => exact h
  | false =>
    rcases h with h | h
    · exact .inl (h.keep (ex' := []) k)
    · exact .inr h
theorem passE {P : Program} {w : World} {K : PySem.W.Frag} {mg : Str → Option Value} {base : Heap} {N : List Str} {qual : Str} {scope : Scope} {f : Addr} {cd : Value}
    {A : Around} {outer : List Env} {s : Shared} {H : Hp} {E : XK} : Passes (L2.CX P w) (cxOf (L2.CX P w) P w K mg base N qual scope f cd A outer s H E) E :=
  passes_call (W := fun cls d _ H => E cls d H) (takes_of rfl rfl rfl rfl) (fun _ _ _ _ h => h)
end HG
namespace K17
open PySem PySem.Spec PyProof.Rows L2 HG
section
variable {P : Program} {w : World} {K : PySem.W.Frag} {mg : Str → Option Value} {base : Heap}
def sp_isprice (K : PySem.W.Frag) : Sp := fun vs H Q _ => ∃ v b, vs = [v] ∧ PriceB [] K H v b ∧ Q (.bl b) H
theorem ok_isprice (D : Def K mg "is_price" s_is_price ["thing"]) (CP : Callee P w K mg base CX0 2 "is_pair" ["thing"] (sp_ispair K))
    (mg_ : mg "gcd" = some (.builtin "math.gcd")) : Callee P w K mg base CX0 3 "is_price" ["thing"] (sp_isprice K) := by
  refine D.ok sc_is_price (fun vs H Q E h => ?_) (fun f cdv A outer s H vs Q E hr h => ?_)
  · obtain ⟨v, b, rfl, _⟩ := h
    rfl
  · obtain ⟨v, b, rfl, pb, q⟩ := h
    have nd := sc_is_price.nd
    refine ⟨_, pss_cons (ps_if (pt_not (pt_val (pe_c CP hr (pa_cons (pv 0) pa_nil)))) (pss_one (ps_ret pe_bl)) pss_nil)
      (pss_cons (ps_asg (pv 0) (pg_tup rfl (pgs_cons (pg_name (i := 1) nd rfl (.inl rfl)) (pgs_cons (pg_name (i := 2) nd rfl (.inl rfl)) pgs_nil))))
      (pss_one (ps_ret (pe_and (pe_cmpR op_ge (pv 1) pe_int (nomark _)) (pe_and (pe_cmpR op_ge (pv 2) pe_int (nomark _))
        (pe_one (pe_cmpR op_eq (pe_callBfun cr_gcd (by rfl) mg_ (pa_cons (pv 1) (pa_cons (pv 2) pa_nil))) pe_int (nomark _)))))))), ?_⟩
    cases pb with
    | no h => exact ⟨_, rfl, v, false, rfl, h, false, rfl, q⟩
    | yes h =>
      rename_i i j
      obtain ⟨a, rfl, ha⟩ := id h
      refine ⟨_, rfl, _, true, rfl, h.pairB, true, rfl, ?_⟩
      refine ⟨_, rfl, a, _, rfl, ha, rfl, .int i, [.int j], rfl, .int j, [], rfl, rfl, ?_⟩
      refine ⟨_, rfl, _, _, rfl, rfl, _, rfl, ite2 (fun z1 => ?_) (fun z1 => ?_)⟩
      · have z1 : 0 ≤ i := of_decide_eq_true z1
        rw [decide_eq_true z1, Bool.true_and] at q
        refine ⟨_, rfl, _, _, rfl, rfl, _, rfl, ite2 (fun z2 => ?_) (fun z2 => ?_)⟩
        · have z2 : 0 ≤ j := of_decide_eq_true z2
          rw [decide_eq_true z2, Bool.true_and] at q
          refine ⟨_, rfl, _, rfl, i, j, rfl, rfl, ?_⟩
          have e : (decide (V.int (gI i j) = V.int 1)) = decide (gI i j = 1) := by
            by_cases g : gI i j = 1
            · rw [g]
              rfl
            · rw [decide_eq_false g, decide_eq_false (fun z => g (V.int.inj z))]
          rw [← e] at q
          exact q
        · have z2 : ¬ 0 ≤ j := fun w => z2 (decide_eq_true w)
          rw [decide_eq_false z2, Bool.false_and] at q
          exact q
      · have z1 : ¬ 0 ≤ i := fun w => z1 (decide_eq_true w)
        rw [decide_eq_false z1, Bool.false_and] at q
        exact q
def sp_ckprice (K : PySem.W.Frag) (C : Addr) : Sp := fun vs H Q E => ∃ v b, vs = [v] ∧ PriceB [] K H v b ∧ (b = true → Q .non H) ∧ (b = false → E (.ref C) none H)
theorem ok_ckprice (D : Def K mg "check_price" s_check_price ["price"]) (CP : Callee P w K mg base CX0 3 "is_price" ["thing"] (sp_isprice K))
    {C : Addr} (cB : ErrC K mg "BadPrice" C) : Callee P w K mg base (L2.CX P w) 4 "check_price" ["price"] (sp_ckprice K C) := by
  refine D.okX sc_check_price (fun vs H Q E h => ?_) (fun f cdv A outer s H vs Q E hr h => ?_)
  · obtain ⟨v, b, rfl, _⟩ := h
    rfl
  · obtain ⟨v, b, rfl, pb, q1, q2⟩ := h
    refine ⟨_, pss_one (ps_if (pt_not (pt_val (pe_c CP hr (pa_cons (pv 0) pa_nil)))) (pss_one (ps_raise rfl (takes_of rfl rfl rfl rfl) (pmk_err cB))) pss_nil), ?_⟩
    refine ⟨_, rfl, v, b, rfl, pb, b, rfl, ?_⟩
    cases b with
    | true => exact q1 rfl
    | false => exact q2 rfl
def sp_ckpair (K : PySem.W.Frag) (C : Addr) : Sp := fun vs H Q E => ∃ v b, vs = [v] ∧ PairB [] K H v b ∧ (b = true → Q .non H) ∧ (b = false → E (.ref C) none H)
theorem ok_ckpair (D : Def K mg "check_pair" s_check_pair ["pair"]) (CP : Callee P w K mg base CX0 2 "is_pair" ["thing"] (sp_ispair K))
    {C : Addr} (cB : ErrC K mg "BadPair" C) : Callee P w K mg base (L2.CX P w) 3 "check_pair" ["pair"] (sp_ckpair K C) := by
  refine D.okX sc_check_pair (fun vs H Q E h => ?_) (fun f cdv A outer s H vs Q E hr h => ?_)
  · obtain ⟨v, b, rfl, _⟩ := h
    rfl
  · obtain ⟨v, b, rfl, pb, q1, q2⟩ := h
    refine ⟨_, pss_one (ps_if (pt_not (pt_val (pe_c CP hr (pa_cons (pv 0) pa_nil)))) (pss_one (ps_raise rfl (takes_of rfl rfl rfl rfl) (pmk_err cB))) pss_nil), ?_⟩
    refine ⟨_, rfl, v, b, rfl, pb, b, rfl, ?_⟩
    cases b with
    | true => exact q1 rfl
    | false => exact q2 rfl
def sp_isahead (K : PySem.W.Frag) (C : Addr) : Sp := fun vs H Q E => ∃ x y bx by_, vs = [x, y] ∧ PriceB [] K H x bx ∧ (bx = false → E (.ref C) none H) ∧
  (bx = true → PriceB [] K H y by_ ∧ (by_ = false → E (.ref C) none H) ∧ (by_ = true → ∃ a b c d, Pr K H x a b ∧ Pr K H y c d ∧ Sm a ∧ Sm b ∧ Sm c ∧ Sm d ∧ Q (.bl (decide (c * b < a * d))) H))
theorem ok_isahead (D : Def K mg "is_ahead" s_is_ahead ["one", "other"]) {C : Addr} (CK : Callee P w K mg base (L2.CX P w) 4 "check_price" ["price"] (sp_ckprice K C))
    (CG : Callee P w K mg base CX0 1 "goes_ahead" ["one", "other"] (sp_goes K)) : Callee P w K mg base (L2.CX P w) 5 "is_ahead" ["one", "other"] (sp_isahead K C) := by
  refine D.okX sc_is_ahead (fun vs H Q E h => ?_) (fun f cdv A outer s H vs Q E hr h => ?_)
  · obtain ⟨x, y, bx, by_, rfl, _⟩ := h
    rfl
  · obtain ⟨x, y, bx, by_, rfl, px, e1, h⟩ := h
    refine ⟨_, pss_cons (ps_expr (pe_cE CK hr passE (pa_cons (pv 0) pa_nil))) (pss_cons (ps_expr (pe_cE CK hr passE (pa_cons (pv 1) pa_nil)))
      (pss_one (ps_ret (pe_c CG hr (pa_cons (pv 0) (pa_cons (pv 1) pa_nil)))))), ?_⟩
    refine ⟨_, rfl, x, bx, rfl, px, fun z => ?_, e1⟩
    obtain ⟨py, e2, h⟩ := h z
    refine ⟨_, rfl, y, by_, rfl, py, fun z => ?_, e2⟩
    obtain ⟨a, b, c, d, h1, h2, sa, sb, sc, sd, q⟩ := h z
    exact ⟨_, rfl, _, rfl, x, y, a, b, c, d, rfl, h1, h2, sa, sb, sc, sd, q⟩
def sp_worth (K : PySem.W.Frag) (CP CR : Addr) : Sp := fun vs H Q E => ∃ x y bx by_, vs = [x, y] ∧ PairB [] K H x bx ∧ (bx = false → E (.ref CP) none H) ∧
  (bx = true → PriceB [] K H y by_ ∧ (by_ = false → E (.ref CR) none H) ∧ (by_ = true → ∃ a b p q, Pr K H x a b ∧ Pr K H y p q ∧ Sm a ∧ Sm b ∧ Sm p ∧ Sm q ∧ Q (.int (p * a + q * b)) H))
theorem ok_worth (D : Def K mg "worth" s_worth ["pair", "price"]) {C C2 : Addr} (CK : Callee P w K mg base (L2.CX P w) 3 "check_pair" ["pair"] (sp_ckpair K C))
    (CK2 : Callee P w K mg base (L2.CX P w) 4 "check_price" ["price"] (sp_ckprice K C2))
    (CG : Callee P w K mg base CX0 1 "worth_at" ["pair", "price"] (sp_worthat K)) : Callee P w K mg base (L2.CX P w) 5 "worth" ["pair", "price"] (sp_worth K C C2) := by
  refine D.okX sc_worth (fun vs H Q E h => ?_) (fun f cdv A outer s H vs Q E hr h => ?_)
  · obtain ⟨x, y, bx, by_, rfl, _⟩ := h
    rfl
  · obtain ⟨x, y, bx, by_, rfl, px, e1, h⟩ := h
    refine ⟨_, pss_cons (ps_expr (pe_cE CK hr passE (pa_cons (pv 0) pa_nil))) (pss_cons (ps_expr (pe_cE CK2 hr passE (pa_cons (pv 1) pa_nil)))
      (pss_one (ps_ret (pe_c CG hr (pa_cons (pv 0) (pa_cons (pv 1) pa_nil)))))), ?_⟩
    refine ⟨_, rfl, x, bx, rfl, px, fun z => ?_, e1⟩
    obtain ⟨py, e2, h⟩ := h z
    refine ⟨_, rfl, y, by_, rfl, py, fun z => ?_, e2⟩
    obtain ⟨a, b, c, d, h1, h2, sa, sb, sc, sd, q⟩ := h z
    exact ⟨_, rfl, _, rfl, x, y, a, b, c, d, rfl, h1, h2, sa, sb, sc, sd, q⟩
def sp_meeting (K : PySem.W.Frag) (C : Addr) : Sp := fun vs H Q E => ∃ x y bx by_, vs = [x, y] ∧ PairB [] K H x bx ∧ (bx = false → E (.ref C) none H) ∧
  (bx = true → PairB [] K H y by_ ∧ (by_ = false → E (.ref C) none H) ∧ (by_ = true → ∃ a b c d, Pr K H x a b ∧ Pr K H y c d ∧ Sm a ∧ Sm b ∧ Sm c ∧ Sm d ∧
    ∀ v H', Keep [] H H' → OPr K H' v (cross a b c d) → Q v H'))
theorem ok_meeting (D : Def K mg "meeting" s_meeting ["one", "other"]) {C : Addr} (CK : Callee P w K mg base (L2.CX P w) 3 "check_pair" ["pair"] (sp_ckpair K C))
    (CG : Callee P w K mg base CX0 2 "crossing" ["one", "other"] (sp_crossing K)) : Callee P w K mg base (L2.CX P w) 4 "meeting" ["one", "other"] (sp_meeting K C) := by
  refine D.okX sc_meeting (fun vs H Q E h => ?_) (fun f cdv A outer s H vs Q E hr h => ?_)
  · obtain ⟨x, y, bx, by_, rfl, _⟩ := h
    rfl
  · obtain ⟨x, y, bx, by_, rfl, px, e1, h⟩ := h
    refine ⟨_, pss_cons (ps_expr (pe_cE CK hr passE (pa_cons (pv 0) pa_nil))) (pss_cons (ps_expr (pe_cE CK hr passE (pa_cons (pv 1) pa_nil)))
      (pss_one (ps_ret (pe_c CG hr (pa_cons (pv 0) (pa_cons (pv 1) pa_nil)))))), ?_⟩
    refine ⟨_, rfl, x, bx, rfl, px, fun z => ?_, e1⟩
    obtain ⟨py, e2, h⟩ := h z
    refine ⟨_, rfl, y, by_, rfl, py, fun z => ?_, e2⟩
    obtain ⟨a, b, c, d, h1, h2, sa, sb, sc, sd, q⟩ := h z
    exact ⟨_, rfl, _, rfl, x, y, a, b, c, d, rfl, h1, h2, sa, sb, sc, sd, q⟩
end
end K17
set_option maxHeartbeats 2000000
namespace K17
open PySem PySem.Spec PyProof.Rows L2 HG
section
variable {P : Program} {w : World} {K : PySem.W.Frag} {mg : Str → Option Value} {base : Heap}
def sp_priceof (K : PySem.W.Frag) (C : Addr) : Sp := fun vs H Q E => ∃ x y gx gy, vs = [x, y] ∧ NumC K H x gx ∧ (gx = true → NumC K H y gy) ∧
  (gx = false ∨ gy = false → ∀ H', Keep [] H H' → E (.ref C) none H') ∧
  (gx = true → gy = true → ∀ p q, x = .int p → y = .int q → 0 ≤ p → 0 ≤ q → (p = 0 ∧ q = 0 ∧ ∀ H', Keep [] H H' → E (.ref C) none H') ∨
    (0 < p + q ∧ p < 2 ^ 64 ∧ q < 2 ^ 64 ∧ ∀ v H', Keep [] H H' → Pr K H' v (p / gI p q) (q / gI p q) → Q v H'))
theorem ok_priceof (D : Def K mg "price_of" s_price_of ["p", "q"]) {C : Addr} (cB : ErrC K mg "BadNumber" C)
    (CN : Callee P w K mg base CX0 1 "is_number" ["thing"] (sp_isnum K)) (CR : Callee P w K mg base CX0 1 "reduced" ["p", "q"] sp_reduced) :
    Callee P w K mg base (L2.CX P w) 2 "price_of" ["p", "q"] (sp_priceof K C) := by
  refine D.okX sc_price_of (fun vs H Q E h => ?_) (fun f cdv A outer s H vs Q E hr h => ?_)
  · obtain ⟨x, y, gx, gy, rfl, _⟩ := h
    rfl
  · obtain ⟨x, y, gx, gy, rfl, hx, hy, e1, fin⟩ := h
    have nd := sc_price_of.nd
    refine ⟨_, pss_cons (ps_for (passes_of rfl) rfl (pi_tup (pe_tup (pa_cons (pv 0) (pa_cons (pv 1) pa_nil)))) (pg_name (i := 2) nd rfl (.inl rfl))
        (pss_one (ps_if (PW.pt (pw_or (pt_not (pt_val (pe_c CN hr (pa_cons (pv 2) pa_nil)))) (pw_or1 (pt_cmpR op_lt (pv 2) pe_int (nomark _)))))
          (pss_one (ps_raise rfl (takes_of rfl rfl rfl rfl) (pmk_err cB))) pss_nil)))
      (pss_cons (ps_if (PW.pt (pw_and (pt_cmpR op_eq (pv 0) pe_int (nomark _)) (pw_and1 (pt_cmpR op_eq (pv 1) pe_int (nomark _)))))
        (pss_one (ps_raise rfl (takes_of rfl rfl rfl rfl) (pmk_err cB))) pss_nil)
      (pss_one (ps_ret (pe_c CR hr (pa_cons (pv 0) (pa_cons (pv 1) pa_nil)))))), ?_⟩
    refine ⟨_, rfl, _, rfl, by show 2 ≤ sizeLine; decide, fun t nt => ?_⟩
    have kt : Keep [] H (upd H t (.tup [x, y])) := Keep.new nt
    have ht : SqT K (upd H t (.tup [x, y])) t [x, y] := .inl (.inl upd_same)
    generalize upd H t (.tup [x, y]) = H1 at kt ht ⊢
    refine ⟨t, rfl, ⟨_, ht⟩, for_tup (xs := [x, y]) (fun i σ H' => ∃ z, σ = [some x, some y, z] ∧ H1 = H' ∧ (1 ≤ i → gx = true) ∧ (2 ≤ i → gy = true))
      ⟨none, rfl, rfl, fun z => absurd z (by decide), fun z => absurd z (by decide)⟩ (fun i σ H' _ hh => ?_) (fun i v σ H' hv hh => ?_) (fun σ H' hh => ?_)⟩
    · obtain ⟨_, _, rfl, _⟩ := hh
      exact ht
    · obtain ⟨z, rfl, rfl, g1, g2⟩ := hh
      have go : ∃ g, NumC K H v g ∧ (g = true → (1 ≤ i + 1 → gx = true) ∧ (2 ≤ i + 1 → gy = true)) ∧ (g = false → gx = false ∨ gy = false) := by
        rcases i with _ | _ | i
        · cases hv
          exact ⟨gx, hx, fun z => ⟨fun _ => z, fun w => absurd w (by decide)⟩, fun z => .inl z⟩
        · cases hv
          exact ⟨gy, hy (g1 (by decide)), fun z => ⟨fun _ => g1 (by decide), fun _ => z⟩, fun z => .inr z⟩
        · cases hv
      obtain ⟨g, hg, gt, gf⟩ := go
      cases g with
      | true =>
        obtain ⟨j, rfl, j0⟩ := hg
        refine ⟨_, rfl, _, true, rfl, .int j, true, rfl, ?_⟩
        refine ⟨_, rfl, _, _, rfl, rfl, _, rfl, ite2 (fun z => ?_) (fun z => ?_)⟩
        · have z : j < 0 := of_decide_eq_true z
          omega
        · exact ⟨_, rfl, rfl, (gt rfl).1, (gt rfl).2⟩
      | false =>
        rcases hg with hg | ⟨j, rfl, j0⟩
        · exact ⟨_, rfl, _, false, rfl, hg.keep (ex' := []) kt, false, rfl, e1 (gf rfl) _ kt⟩
        · refine ⟨_, rfl, _, true, rfl, .int j, true, rfl, ?_⟩
          refine ⟨_, rfl, _, _, rfl, rfl, _, rfl, ite2 (fun z => e1 (gf rfl) _ kt) (fun z => ?_)⟩
          exact absurd (decide_eq_true j0) z
    · obtain ⟨z, rfl, rfl, g1, g2⟩ := hh
      have gx1 := g1 (by show 1 ≤ 2; decide)
      have gy1 := g2 (by show 2 ≤ 2; decide)
      subst gx1 gy1
      obtain ⟨p, rfl, p0⟩ := hx
      obtain ⟨q, rfl, q0⟩ := hy rfl
      have inj0 : ∀ {i : Int}, decide (V.int i = V.int 0) = true → i = 0 := fun h => V.int.inj (of_decide_eq_true h)
      rcases fin rfl rfl p q rfl rfl p0 q0 with ⟨rfl, rfl, e⟩ | ⟨pos, p1, q1, k⟩
      · refine ⟨_, rfl, rfl, _, rfl, ite2 (fun _ => ?_) (fun z => absurd (decide_eq_true rfl) z)⟩
        exact ⟨_, rfl, rfl, _, rfl, ite2 (fun _ => e _ kt) (fun z => absurd (decide_eq_true rfl) z)⟩
      · have last : ∃ v_1, [some (V.int p), some (V.int q), z][0]? = some (some v_1) ∧ ∃ v_2, [some (V.int p), some (V.int q), z][1]? = some (some v_2) ∧ sp_reduced [v_1, v_2] H1 Q E0 :=
          ⟨_, rfl, _, rfl, p, q, rfl, p0, q0, pos, p1, q1, fun r nr => k _ _ (kt.trans (Keep.new nr)) Pr.new⟩
        refine ⟨_, rfl, rfl, _, rfl, ite2 (fun z1 => ?_) (fun z1 => iteF last)⟩
        refine ⟨_, rfl, rfl, _, rfl, ite2 (fun z2 => ?_) (fun z2 => last)⟩
        have := inj0 z1
        have := inj0 z2
        omega
def sp_amid (K : PySem.W.Frag) (C N : Addr) : Sp := fun vs H Q E => ∃ x y bx by_, vs = [x, y] ∧ PriceB [] K H x bx ∧ (bx = false → E (.ref C) none H) ∧
  (bx = true → PriceB [] K H y by_ ∧ (by_ = false → E (.ref C) none H) ∧ (by_ = true → ∃ a b c d, Pr K H x a b ∧ Pr K H y c d ∧ Sm a ∧ Sm b ∧ Sm c ∧ Sm d ∧
    (¬ c * b < a * d → E (.ref N) none H) ∧ (c * b < a * d → 0 ≤ a + c ∧ 0 ≤ b + d ∧ 0 < a + c + (b + d) ∧
      ∀ v H', Keep [] H H' → Pr K H' v ((a + c) / gI (a + c) (b + d)) ((b + d) / gI (a + c) (b + d)) → Q v H')))
theorem ok_amid (D : Def K mg "amid" s_amid ["one", "other"]) {C N : Addr} (CK : Callee P w K mg base (L2.CX P w) 4 "check_price" ["price"] (sp_ckprice K C))
    (cN : ErrC K mg "NotAhead" N) (CG : Callee P w K mg base CX0 1 "goes_ahead" ["one", "other"] (sp_goes K))
    (CR : Callee P w K mg base CX0 1 "reduced" ["p", "q"] sp_reduced) : Callee P w K mg base (L2.CX P w) 5 "amid" ["one", "other"] (sp_amid K C N) := by
  refine D.okX sc_amid (fun vs H Q E h => ?_) (fun f cdv A outer s H vs Q E hr h => ?_)
  · obtain ⟨x, y, bx, by_, rfl, _⟩ := h
    rfl
  · obtain ⟨x, y, bx, by_, rfl, px, e1, h⟩ := h
    refine ⟨_, pss_cons (ps_expr (pe_cE CK hr passE (pa_cons (pv 0) pa_nil))) (pss_cons (ps_expr (pe_cE CK hr passE (pa_cons (pv 1) pa_nil)))
      (pss_cons (ps_if (pt_not (pt_val (pe_c CG hr (pa_cons (pv 0) (pa_cons (pv 1) pa_nil))))) (pss_one (ps_raise rfl (takes_of rfl rfl rfl rfl) (pmk_err cN))) pss_nil)
      (pss_one (ps_ret (pe_c CR hr (pa_cons (pe_op op_add (pe_ix ix_tup (pv 0) pe_int (fun _ _ => rfl)) (pe_ix ix_tup (pv 1) pe_int (fun _ _ => rfl)))
        (pa_cons (pe_op op_add (pe_ix ix_tup (pv 0) pe_int (fun _ _ => rfl)) (pe_ix ix_tup (pv 1) pe_int (fun _ _ => rfl))) pa_nil))))))), ?_⟩
    refine ⟨_, rfl, x, bx, rfl, px, fun z => ?_, e1⟩
    obtain ⟨py, e2, h⟩ := h z
    refine ⟨_, rfl, y, by_, rfl, py, fun z => ?_, e2⟩
    obtain ⟨a, b, c, d, h1, h2, sa, sb, sc, sd, no, yes⟩ := h z
    refine ⟨_, rfl, _, rfl, x, y, a, b, c, d, rfl, h1, h2, sa, sb, sc, sd, _, rfl, ?_⟩
    obtain ⟨u, rfl, hu⟩ := h1
    obtain ⟨v, rfl, hv⟩ := h2
    by_cases e : c * b < a * d
    · obtain ⟨p0, q0, pq, k⟩ := yes e
      rw [decide_eq_true e]
      refine ⟨_, rfl, u, _, 0, .int a, rfl, rfl, hu, rfl, _, rfl, v, _, 0, .int c, rfl, rfl, hv, rfl, _, _, rfl, rfl,
        _, rfl, u, _, 1, .int b, rfl, rfl, hu, rfl, _, rfl, v, _, 1, .int d, rfl, rfl, hv, rfl, _, _, rfl, rfl, ?_⟩
      exact ⟨a + c, b + d, rfl, p0, q0, pq, by have := sa.2; have := sc.2; omega, by have := sb.2; have := sd.2; omega, fun r nr => k _ _ (Keep.new nr) Pr.new⟩
    · rw [decide_eq_false e]
      exact no e
end
end K17
set_option maxHeartbeats 2000000
namespace HG
open PySem PySem.Spec PyProof.Rows L2
theorem gI_turn {a b : Int} (h0 : 0 ≤ a) (h1 : 0 < b) : gI b (a % b) = gI a b := by
  have e1 : (a % b).natAbs = a.natAbs % b.natAbs := by
    have q1 : ((a % b).natAbs : Int) = a % b := Int.natAbs_of_nonneg (Int.emod_nonneg _ (by omega))
    have q2 : ((a.natAbs % b.natAbs : Nat) : Int) = (a.natAbs : Int) % (b.natAbs : Int) := by simp
    rw [Int.natAbs_of_nonneg h0, Int.natAbs_of_nonneg (by omega : 0 ≤ b)] at q2
    omega
  show ((Nat.gcd b.natAbs (a % b).natAbs : Nat) : Int) = ((Nat.gcd a.natAbs b.natAbs : Nat) : Int)
  rw [e1, Nat.gcd_comm a.natAbs b.natAbs, Nat.gcd_rec b.natAbs a.natAbs, Nat.gcd_comm]
theorem gI_zero {a : Int} (h : 0 ≤ a) : gI a 0 = a := by
  show ((Nat.gcd a.natAbs 0 : Nat) : Int) = a
  rw [Nat.gcd_zero_right]
  omega
/-- the rest is at most half of what was divided -/
theorem half_rest {a b : Int} (h0 : 0 < b) (h1 : b ≤ a) : 2 * (a % b) ≤ a := by
  have e := Int.emod_add_mul_ediv a b
  have r := Int.emod_lt_of_pos a h0
  have q : 1 ≤ a / b := by
    have := Int.ediv_le_ediv h0 h1
    rw [Int.ediv_self (by omega)] at this
    exact this
  have m : b * 1 ≤ b * (a / b) := Int.mul_le_mul_of_nonneg_left q (by omega)
  omega
/-- Euclid's pair behind i turns -/
structure Euc (g : Int) (i : Nat) (a b : Int) : Prop where
  a0 : 0 ≤ a
  b0 : 0 ≤ b
  g : gI a b = g
  ord : 1 ≤ i → b ≤ a
  sz : a * b < 2 ^ (122 - i)
  lim : i ≤ 122
theorem Euc.last {g : Int} {i : Nat} {a b : Int} (e : Euc g i a b) (h : i = 122) : b = 0 := by
  have s := e.sz
  subst h
  have o := e.ord (by decide)
  have a0 := e.a0
  have b0 := e.b0
  by_cases z : b = 0
  · exact z
  · have h1 : 1 * 1 ≤ a * b := Int.mul_le_mul (by omega) (by omega) (by decide) (by omega)
    have h2 : (2 : Int) ^ (122 - 122) = 1 := by decide
    omega
theorem Euc.next {g : Int} {i : Nat} {a b : Int} (e : Euc g i a b) (hb : b ≠ 0) (small : i = 0 → a * b < 2 ^ 121) : Euc g (i + 1) b (a % b) := by
  have a0 := e.a0
  have b0 : 0 < b := by have := e.b0; omega
  have r0 := Int.emod_nonneg a hb
  have r1 := Int.emod_lt_of_pos a b0
  have lim : i < 122 := by
    have := e.lim
    by_cases z : i = 122
    · exact absurd (e.last z) hb
    · omega
  refine ⟨e.b0, r0, by rw [gI_turn a0 b0]; exact e.g, fun _ => by omega, ?_, by omega⟩
  by_cases z : i = 0
  · subst z
    have le : a % b ≤ a := by
      by_cases c : a < b
      · rw [Int.emod_eq_of_lt a0 c]
        exact Int.le_refl a
      · omega
    have m : b * (a % b) ≤ b * a := Int.mul_le_mul_of_nonneg_left le (by omega)
    have := small rfl
    rw [Int.mul_comm b a] at m
    show _ < (2 : Int) ^ 121
    omega
  · have hf := half_rest b0 (e.ord (by omega))
    have m : b * (2 * (a % b)) ≤ b * a := Int.mul_le_mul_of_nonneg_left hf (by omega)
    have s := e.sz
    have p : (2 : Int) ^ (122 - i) = 2 * 2 ^ (122 - (i + 1)) := by
      rw [show 122 - i = (122 - (i + 1)) + 1 by omega, Int.pow_succ]
      omega
    have c : b * (2 * (a % b)) = 2 * (b * (a % b)) := by
      rw [← Int.mul_assoc, Int.mul_comm b 2, Int.mul_assoc]
    rw [c, Int.mul_comm b a] at m
    omega
end HG
namespace K17
open PySem PySem.Spec PyProof.Rows L2 HG
section
variable {P : Program} {w : World} {K : PySem.W.Frag} {mg : Str → Option Value} {base : Heap}
def sp_lgcd : Sp := fun vs H Q _ => ∃ a b, vs = [.int a, .int b] ∧ 0 ≤ a ∧ 0 ≤ b ∧ a < 2 ^ 60 ∧ b < 2 ^ 60 ∧ Q (.int (gI a b)) H
theorem ok_lgcd (D : Def K mg "_law_gcd" s_l_gcd ["_law_one", "_law_two"]) (zi : mg "int" = none) (zr : mg "range" = none) :
    Callee P w K mg base CX0 1 "_law_gcd" ["_law_one", "_law_two"] sp_lgcd := by
  refine D.ok sc_l_gcd (fun vs H Q E h => ?_) (fun f cdv A outer s H vs Q E hr h => ?_)
  · obtain ⟨a, b, rfl, _⟩ := h
    rfl
  · obtain ⟨a, b, rfl, a0, b0, a1, b1, q⟩ := h
    have nd := sc_l_gcd.nd
    refine ⟨_, pss_cons (ps_for PassesOwn.never rfl (pi_range1 rfl zr (pa_cons pe_int pa_nil)) (pg_name (i := 2) nd rfl (.inl rfl))
        (pss_cons (ps_if (pt_cmpR op_eq (pv 1) pe_int (nomark _)) (pss_one (ps_ret (pv 0))) pss_nil)
        (pss_one (ps_par (i := 0) (j := 1) rfl nd rfl rfl (by decide) rfl rfl (pa_cons (pv 1) (pa_cons (pe_op op_mod
          (pe_callTy call_int1 (by rfl) zi (by decide +kernel) (pa_cons (pv 0) pa_nil)) (pv 1)) pa_nil)) (by rfl)))))
      (pss_one (ps_ret (pv 0))), ?_⟩
    have m : a * b ≤ 2 ^ 60 * b := Int.mul_le_mul_of_nonneg_right (by omega) b0
    refine ⟨3000, rfl, by decide, by decide, for_range (n := 3000) (fun i σ H' => ∃ x y z, σ = [some (.int x), some (.int y), z] ∧ H = H' ∧ Euc (gI a b) i x y ∧ (i = 0 → x = a ∧ y = b))
      ⟨a, b, none, rfl, rfl, ⟨a0, b0, rfl, fun z => absurd z (by decide), by show a * b < 2 ^ 122; omega, by decide⟩, fun _ => ⟨rfl, rfl⟩⟩ (fun i σ H' hi hh => ?_) (fun σ H' hh => ?_)⟩
    · obtain ⟨x, y, z, rfl, rfl, e, st⟩ := hh
      refine ⟨_, rfl, rfl, _, rfl, ite2 (fun z1 => ?_) (fun z1 => ?_)⟩
      · have z1 : y = 0 := V.int.inj (of_decide_eq_true z1)
        subst z1
        refine ⟨_, rfl, ?_⟩
        have g := e.g
        rw [gI_zero e.a0] at g
        rw [g]
        exact q
      · have z1 : y ≠ 0 := fun w => z1 (decide_eq_true (congrArg V.int w))
        have y0 : 0 < y := by have := e.b0; omega
        refine ⟨_, rfl, _, rfl, .inl ⟨_, rfl, _, rfl, _, _, rfl, rfl, y0, _, _, rfl, _, _, _, rfl, rfl, e.next z1 (fun w => ?_), fun w => absurd w (by omega)⟩⟩
        obtain ⟨rfl, rfl⟩ := st w
        omega
    · obtain ⟨x, y, z, rfl, rfl, e, st⟩ := hh
      exact absurd e.lim (by decide)
def sp_lterms : Sp := fun vs H Q _ => ∃ p q, vs = [.int p, .int q] ∧ 0 ≤ p ∧ 0 ≤ q ∧ 0 < p + q ∧ p < 2 ^ 60 ∧ q < 2 ^ 60 ∧
  ∀ r, H r = none → Q (.ref r) (upd H r (.tup [.int (p / gI p q), .int (q / gI p q)]))
theorem ok_lterms (D : Def K mg "_law_terms" s_l_terms ["_law_one", "_law_two"]) (CG : Callee P w K mg base CX0 1 "_law_gcd" ["_law_one", "_law_two"] sp_lgcd) :
    Callee P w K mg base CX0 2 "_law_terms" ["_law_one", "_law_two"] sp_lterms := by
  refine D.ok sc_l_terms (fun vs H Q E h => ?_) (fun f cdv A outer s H vs Q E hr h => ?_)
  · obtain ⟨p, q, rfl, _⟩ := h
    rfl
  · obtain ⟨p, q, rfl, p0, q0, pq, p1, q1, k⟩ := h
    have nd := sc_l_terms.nd
    refine ⟨_, pss_cons (ps_set (i := 2) nd rfl (.inl rfl) (pe_c CG hr (pa_cons (pv 0) (pa_cons (pv 1) pa_nil))))
      (pss_one (ps_ret (pe_tup (pa_cons (pe_op op_fdivW (pv 0) (pv 2)) (pa_cons (pe_op op_fdivW (pv 1) (pv 2)) pa_nil))))), ?_⟩
    have g0 := gI_pos p0 q0 pq
    have g1 := gI_le p0 q0 pq
    have dv : ∀ z : Int, CDivW z (gI p q) := fun z => wide_div g0 (b := 65) (by omega) (by decide) (by decide)
    exact ⟨_, rfl, _, rfl, p, q, rfl, p0, q0, p1, q1, _, rfl, _, rfl, _, _, rfl, rfl, dv p, _, rfl, _, rfl, _, _, rfl, rfl, dv q, by show 2 ≤ sizeLine; decide, fun r nr => k r nr⟩
def sp_says : Sp := fun vs H Q _ => ∃ b, vs = [.bl b, .bl b] ∧ Q (.bl true) H
theorem ok_says (D : Def K mg "_law_says" s_l_says ["_law_found", "_law_due"]) : Callee P w K mg base CX0 1 "_law_says" ["_law_found", "_law_due"] sp_says := by
  refine D.ok sc_l_says (fun vs H Q E h => ?_) (fun f cdv A outer s H vs Q E hr h => ?_)
  · obtain ⟨b, rfl, _⟩ := h
    rfl
  · obtain ⟨b, rfl, q⟩ := h
    refine ⟨_, pss_one (ps_ret (pe_ifExp (pt_val (pv 1)) (pe_cmpR op_isBl (pv 0) pe_bl (nomark _)) (pe_cmpR op_isBl (pv 0) pe_bl (nomark _)))), ?_⟩
    refine ⟨_, rfl, b, rfl, ?_⟩
    cases b with
    | true => exact ⟨_, rfl, _, _, rfl, rfl, q⟩
    | false => exact ⟨_, rfl, _, _, rfl, rfl, q⟩
theorem ok_leads (D : Def K mg "_law_leads" s_l_leads ["_law_one", "_law_two"]) : Callee P w K mg base CX0 1 "_law_leads" ["_law_one", "_law_two"] (sp_goes K) := by
  refine D.ok sc_l_leads (fun vs H Q E h => ?_) (fun f cdv A outer s H vs Q E hr h => ?_)
  · obtain ⟨x, y, a, b, c, d, rfl, _⟩ := h
    rfl
  · obtain ⟨x, y, a, b, c, d, rfl, ⟨u, rfl, hx⟩, ⟨v, rfl, hy⟩, sa, sb, sc, sd, q⟩ := h
    refine ⟨_, pss_one (ps_ret (pe_cmpR op_gt (pe_op op_mul (pe_ix ix_tup (pv 0) pe_int (fun _ _ => rfl)) (pe_ix ix_tup (pv 1) pe_int (fun _ _ => rfl)))
      (pe_op op_mul (pe_ix ix_tup (pv 1) pe_int (fun _ _ => rfl)) (pe_ix ix_tup (pv 0) pe_int (fun _ _ => rfl))) (nomark _))), ?_⟩
    exact ⟨_, rfl, u, _, 0, .int a, rfl, rfl, hx, rfl, _, rfl, v, _, 1, .int d, rfl, rfl, hy, rfl, _, _, rfl, rfl, sa.mul d,
      _, rfl, v, _, 0, .int c, rfl, rfl, hy, rfl, _, rfl, u, _, 1, .int b, rfl, rfl, hx, rfl, _, _, rfl, rfl, sc.mul b, _, _, rfl, rfl, q⟩
theorem ok_lworth (D : Def K mg "_law_worth" s_l_worth ["_law_pair_here", "_law_spot_here"]) : Callee P w K mg base CX0 1 "_law_worth" ["_law_pair_here", "_law_spot_here"] (sp_worthat K) := by
  refine D.ok sc_l_worth (fun vs H Q E h => ?_) (fun f cdv A outer s H vs Q E hr h => ?_)
  · obtain ⟨x, y, a, b, c, d, rfl, _⟩ := h
    rfl
  · obtain ⟨x, y, a, b, c, d, rfl, ⟨u, rfl, hx⟩, ⟨v, rfl, hy⟩, sa, sb, sc, sd, q⟩ := h
    refine ⟨_, pss_one (ps_ret (pe_op op_add (pe_op op_mul (pe_ix ix_tup (pv 1) pe_int (fun _ _ => rfl)) (pe_ix ix_tup (pv 0) pe_int (fun _ _ => rfl)))
      (pe_op op_mul (pe_ix ix_tup (pv 1) pe_int (fun _ _ => rfl)) (pe_ix ix_tup (pv 0) pe_int (fun _ _ => rfl))))), ?_⟩
    exact ⟨_, rfl, v, _, 0, .int c, rfl, rfl, hy, rfl, _, rfl, u, _, 0, .int a, rfl, rfl, hx, rfl, _, _, rfl, rfl, sc.mul a,
      _, rfl, v, _, 1, .int d, rfl, rfl, hy, rfl, _, rfl, u, _, 1, .int b, rfl, rfl, hx, rfl, _, _, rfl, rfl, sd.mul b, _, _, rfl, rfl, q⟩
theorem ok_lisnum (D : Def K mg "_law_is_number" s_l_is_number ["_law_item"]) (zs : mg "isinstance" = none) (zi : mg "int" = none) (zb : mg "bool" = none) :
    Callee P w K mg base CX0 1 "_law_is_number" ["_law_item"] (sp_isnum K) := by
  refine D.ok sc_l_is_number (fun vs H Q E h => ?_) (fun f cdv A outer s H vs Q E hr h => ?_)
  · obtain ⟨v, b, rfl, _⟩ := h
    rfl
  · obtain ⟨v, b, rfl, ⟨_, T, b1, b2, t, e1, e2, rfl⟩, q⟩ := h
    refine ⟨_, pss_one (ps_ret (pe_and (pe_callB call_isi (by rfl) zs (by decide +kernel) (pa_cons (pv 0) (pa_cons (pe_bltn (v := .ty "int") (by rfl) zi (by decide +kernel) rfl) pa_nil)))
      (pe_one (pe_not (pe_callB call_isi (by rfl) zs (by decide +kernel) (pa_cons (pv 0) (pa_cons (pe_bltn (v := .ty "bool") (by rfl) zb (by decide +kernel) rfl) pa_nil))))))), ?_⟩
    refine ⟨v, rfl, _, _, _, _, b1, rfl, .ty "int", t, kit_some e1, b1, rfl, ?_⟩
    cases b1 with
    | false => exact q
    | true => exact ⟨v, rfl, _, _, _, _, b2, rfl, .ty "bool", t, kit_some e2, b2, rfl, q⟩
theorem ok_lispair (D : Def K mg "_law_is_pair" s_l_is_pair ["_law_item"]) (zs : mg "isinstance" = none) (zt : mg "tuple" = none) (zl : mg "len" = none)
    (CN : Callee P w K mg base CX0 1 "_law_is_number" ["_law_item"] (sp_isnum K)) : Callee P w K mg base CX0 2 "_law_is_pair" ["_law_item"] (sp_ispair K) := by
  refine D.ok sc_l_is_pair (fun vs H Q E h => ?_) (fun f cdv A outer s H vs Q E hr h => ?_)
  · obtain ⟨v, b, rfl, _⟩ := h
    rfl
  · obtain ⟨v, b, rfl, pb, q⟩ := h
    refine ⟨_, pss_one (ps_ret (pe_and (pe_callB call_isi (by rfl) zs (by decide +kernel) (pa_cons (pv 0) (pa_cons (pe_bltn (v := .ty "tuple") (by rfl) zt (by decide +kernel) rfl) pa_nil)))
      (pe_and (pe_cmpR op_eq (pe_callB call_len_seq (by rfl) zl PySem.boot_len (pa_cons (pv 0) pa_nil)) pe_int (nomark _))
      (pe_and (pe_c CN hr (pa_cons (pe_ix ix_tup (pv 0) pe_int (fun _ _ => rfl)) pa_nil)) (pe_one (pe_c CN hr (pa_cons (pe_ix ix_tup (pv 0) pe_int (fun _ _ => rfl)) pa_nil))))))), ?_⟩
    rcases pb.tupN with ⟨tn, rfl⟩ | ⟨a, x, y, rfl, hx, b1, n1, h⟩
    · generalize e : (2 : Int) = m at tn
      generalize e2 : false = c at tn
      cases tn with
      | no t h => exact ⟨v, rfl, _, _, _, _, false, rfl, .ty "tuple", t, kit_some h, false, rfl, q⟩
      | tup h =>
        refine ⟨_, rfl, _, _, _, _, true, rfl, .ty "tuple", tyX_tup h, kit_some (by decide +kernel), true, rfl, ?_⟩
        subst e
        have z := of_decide_eq_false e2.symm
        refine ⟨_, rfl, _, _, rfl, .inr h, rfl, _, rfl, ?_⟩
        rw [decide_eq_false (fun w => z (V.int.inj w))]
        exact q
    · refine ⟨_, rfl, _, _, _, _, true, rfl, .ty "tuple", tyX_tup hx, kit_some (by decide +kernel), true, rfl, _, rfl, _, _, rfl, .inr hx, rfl, true, rfl, ?_⟩
      refine ⟨_, rfl, a, _, 0, x, rfl, rfl, hx, rfl, x, b1, rfl, n1, b1, rfl, ?_⟩
      rcases h with ⟨rfl, rfl⟩ | ⟨rfl, n2⟩
      · exact q
      · exact ⟨_, rfl, a, _, 1, y, rfl, rfl, hx, rfl, y, b, rfl, n2, q⟩
end
end K17
set_option maxHeartbeats 2000000
namespace HG
open PySem PySem.Spec PyProof.Rows L2
theorem Draw.mono {H : Hp} {p g c : Addr} {n m : Int} (d : Draw H p g c n) (h : n ≤ m) : Draw H p g c m := by
  obtain ⟨ne, gs, cs, left, turn, e1, e2, e3, t0, t1⟩ := d
  exact ⟨ne, gs, cs, left, turn, e1, e2, e3, t0, by omega⟩
theorem Draw.keep {H H' : Hp} {p g c : Addr} {n : Int} (k : KeepW [] H H') (d : Draw H p g c n) : Draw H' p g c n := by
  obtain ⟨ne, gs, cs, left, turn, e1, e2, e3, t0, t1⟩ := d
  exact ⟨ne, gs, cs, left, turn, k.get e1 (by simp), k.get e2 (by simp), k.get e3 (by simp), t0, t1⟩
/-- the law's own way to the meeting price -/
def meetT (m l : Int) : Option (Int × Int) := if m < 0 ∨ l < 0 ∨ m + l = 0 then none else some (l / gI l m, m / gI l m)
theorem gI_zero' {a : Int} (h : 0 ≤ a) : gI 0 a = a := by
  show ((Nat.gcd 0 a.natAbs : Nat) : Int) = a
  rw [Nat.gcd_zero_left]
  omega
theorem mt_cr2 {x y : Int} (h : 0 ≤ x) : cr2 x y = if x < 0 ∨ -y < 0 then meetT (-x) y else meetT x (-y) := by
  unfold cr2 meetT
  by_cases z : y ≤ 0
  · rw [if_neg (show ¬ (x < 0 ∨ -y < 0) by omega)]
    by_cases w : 0 < x
    · rw [if_pos ⟨w, z⟩, if_neg (by omega)]
    · have x0 : x = 0 := by omega
      subst x0
      rw [if_neg (by omega)]
      by_cases v : y = 0
      · subst v
        rw [if_neg (by omega), if_pos (by omega)]
      · rw [if_pos ⟨rfl, v⟩, if_neg (by omega), gI_zero (by omega), Int.ediv_self (by omega), Int.zero_ediv]
  · rw [if_pos (show x < 0 ∨ -y < 0 by omega), if_neg (by omega)]
    by_cases w : x = 0
    · subst w
      rw [if_pos ⟨rfl, by omega⟩, if_neg (by omega)]
      simp only [Int.neg_zero, Int.zero_ediv]
      rw [gI_zero (by omega), Int.ediv_self (by omega)]
    · rw [if_neg (by omega), if_pos (by omega)]
theorem cross_mt {a b c d : Int} : cross a b c d = if a - c < 0 ∨ d - b < 0 then meetT (0 - (a - c)) (0 - (d - b)) else meetT (a - c) (d - b) := by
  unfold cross
  by_cases z : a - c < 0
  · rw [if_pos z, if_pos (.inl z), mt_cr2 (by omega)]
    by_cases w : -(-(b - d)) < 0
    · rw [if_pos (.inr w), show -(-(a - c)) = a - c by omega]
      unfold meetT
      rw [if_pos (.inl z), if_pos (by omega)]
    · rw [if_neg (by omega), show -(a - c) = 0 - (a - c) by omega, show -(-(b - d)) = 0 - (d - b) by omega]
  · rw [if_neg z, mt_cr2 (by omega)]
    by_cases w : -(b - d) < 0
    · rw [if_pos (.inr w), if_pos (by omega), show -(a - c) = 0 - (a - c) by omega, show b - d = 0 - (d - b) by omega]
    · rw [if_neg (by omega), if_neg (by omega), show -(b - d) = d - b by omega]
/-- whether it is a price, its numbers being small -/
inductive PriceS (ex : List Addr) (K : PySem.W.Frag) (H : Hp) : V → Bool → Prop where
  | no {v : V} (h : PairB ex K H v false) : PriceS ex K H v false
  | yes {v : V} {i j : Int} (h : Pr K H v i j) (hi : i < 2 ^ 60) (hj : j < 2 ^ 60) : PriceS ex K H v (decide (0 ≤ i) && (decide (0 ≤ j) && decide (gI i j = 1)))
theorem PriceS.priceB {ex : List Addr} {K : PySem.W.Frag} {H : Hp} {v : V} {b : Bool} (h : PriceS ex K H v b) : PriceB ex K H v b := by
  cases h with
  | no h => exact .no h
  | yes h _ _ => exact .yes h
theorem PriceS.keep {ex : List Addr} {K : PySem.W.Frag} {H H' : Hp} {v : V} {b : Bool} (k : KeepW ex H H') (h : PriceS ex K H v b) : PriceS ex K H' v b := by
  cases h with
  | no h => exact .no (h.keep k)
  | yes h hi hj => exact .yes (h.keep (ex := ex) k) hi hj
theorem PriceS.less {ex ex' : List Addr} {K : PySem.W.Frag} {H : Hp} {v : V} {b : Bool} (h : PriceS ex K H v b) (i : ∀ x ∈ ex', x ∈ ex) : PriceS ex' K H v b := by
  cases h with
  | no h => exact .no (h.less i)
  | yes h hi hj => exact .yes h hi hj
theorem PriceS.bad {ex : List Addr} {K : PySem.W.Frag} {H : Hp} {v : V} {i j : Int} (h : Pr K H v i j) (hi : i < 2 ^ 60) (hj : j < 2 ^ 60) (b : ¬ (0 ≤ i ∧ 0 ≤ j ∧ gI i j = 1)) : PriceS ex K H v false := by
  have q := PriceS.yes (ex := ex) h hi hj
  have e : (decide (0 ≤ i) && (decide (0 ≤ j) && decide (gI i j = 1))) = false := by
    rw [Bool.eq_false_iff]
    intro z
    simp only [Bool.and_eq_true, decide_eq_true_eq] at z
    exact b z
  rw [e] at q
  exact q
theorem PriceS.of {ex : List Addr} {K : PySem.W.Frag} {H : Hp} {v : V} {i j : Int} (h : Pr K H v i j) (hi : i < 2 ^ 60) (hj : j < 2 ^ 60) (h0 : 0 ≤ i) (h1 : 0 ≤ j) (g : gI i j = 1) : PriceS ex K H v true := by
  have q := PriceS.yes (ex := ex) h hi hj
  rw [decide_eq_true h0, decide_eq_true h1, decide_eq_true g] at q
  exact q
end HG
namespace K17
open PySem PySem.Spec PyProof.Rows L2 HG
section
variable {P : Program} {w : World} {K : PySem.W.Frag} {mg : Str → Option Value} {base : Heap}
def sp_lisprice (K : PySem.W.Frag) : Sp := fun vs H Q _ => ∃ v b, vs = [v] ∧ PriceS [] K H v b ∧ Q (.bl b) H
theorem ok_lisprice (D : Def K mg "_law_is_price" s_l_is_price ["_law_item"]) (CP : Callee P w K mg base CX0 2 "_law_is_pair" ["_law_item"] (sp_ispair K))
    (CG : Callee P w K mg base CX0 1 "_law_gcd" ["_law_one", "_law_two"] sp_lgcd) : Callee P w K mg base CX0 3 "_law_is_price" ["_law_item"] (sp_lisprice K) := by
  refine D.ok sc_l_is_price (fun vs H Q E h => ?_) (fun f cdv A outer s H vs Q E hr h => ?_)
  · obtain ⟨v, b, rfl, _⟩ := h
    rfl
  · obtain ⟨v, b, rfl, pb, q⟩ := h
    refine ⟨_, pss_one (ps_ret (pe_and (pe_c CP hr (pa_cons (pv 0) pa_nil)) (pe_and (pe_cmpR op_ge (pe_ix ix_tup (pv 0) pe_int (fun _ _ => rfl)) pe_int (nomark _))
      (pe_and (pe_cmpR op_ge (pe_ix ix_tup (pv 0) pe_int (fun _ _ => rfl)) pe_int (nomark _))
        (pe_one (pe_cmpR op_eq (pe_c CG hr (pa_cons (pe_ix ix_tup (pv 0) pe_int (fun _ _ => rfl)) (pa_cons (pe_ix ix_tup (pv 0) pe_int (fun _ _ => rfl)) pa_nil))) pe_int (nomark _))))))), ?_⟩
    cases pb with
    | no h => exact ⟨_, rfl, v, false, rfl, h, false, rfl, q⟩
    | yes h l1 l2 =>
      rename_i i j
      obtain ⟨a, rfl, ha⟩ := id h
      refine ⟨_, rfl, _, true, rfl, h.pairB, true, rfl, ?_⟩
      refine ⟨_, rfl, a, _, 0, .int i, rfl, rfl, ha, rfl, _, _, rfl, rfl, _, rfl, ite2 (fun z1 => ?_) (fun z1 => ?_)⟩
      · have z1 : 0 ≤ i := of_decide_eq_true z1
        rw [decide_eq_true z1, Bool.true_and] at q
        refine ⟨_, rfl, a, _, 1, .int j, rfl, rfl, ha, rfl, _, _, rfl, rfl, _, rfl, ite2 (fun z2 => ?_) (fun z2 => ?_)⟩
        · have z2 : 0 ≤ j := of_decide_eq_true z2
          rw [decide_eq_true z2, Bool.true_and] at q
          refine ⟨_, rfl, a, _, 0, .int i, rfl, rfl, ha, rfl, _, rfl, a, _, 1, .int j, rfl, rfl, ha, rfl, i, j, rfl, z1, z2, l1, l2, rfl, ?_⟩
          have e : (decide (V.int (gI i j) = V.int 1)) = decide (gI i j = 1) := by
            by_cases g : gI i j = 1
            · rw [g]
              rfl
            · rw [decide_eq_false g, decide_eq_false (fun z => g (V.int.inj z))]
          rw [← e] at q
          exact q
        · have z2 : ¬ 0 ≤ j := fun w => z2 (decide_eq_true w)
          rw [decide_eq_false z2, Bool.false_and] at q
          exact q
      · have z1 : ¬ 0 ≤ i := fun w => z1 (decide_eq_true w)
        rw [decide_eq_false z1, Bool.false_and] at q
        exact q
def Sm0 (i : Int) : Prop := -(2 ^ 58) < i ∧ i < 2 ^ 58
def sp_lmeet (K : PySem.W.Frag) : Sp := fun vs H Q _ => ∃ x y a b c d, vs = [x, y] ∧ Pr K H x a b ∧ Pr K H y c d ∧ Sm0 a ∧ Sm0 b ∧ Sm0 c ∧ Sm0 d ∧
  ∀ v H', Keep [] H H' → OPr K H' v (cross a b c d) → Q v H'
theorem ok_lmeet (D : Def K mg "_law_meet" s_l_meet ["_law_one", "_law_two"]) (CT : Callee P w K mg base CX0 2 "_law_terms" ["_law_one", "_law_two"] sp_lterms) :
    Callee P w K mg base CX0 3 "_law_meet" ["_law_one", "_law_two"] (sp_lmeet K) := by
  refine D.ok sc_l_meet (fun vs H Q E h => ?_) (fun f cdv A outer s H vs Q E hr h => ?_)
  · obtain ⟨x, y, a, b, c, d, rfl, _⟩ := h
    rfl
  · obtain ⟨x, y, a, b, c, d, rfl, ⟨u, rfl, hx⟩, ⟨v, rfl, hy⟩, sa, sb, sc, sd, q⟩ := h
    have nd := sc_l_meet.nd
    refine ⟨_, pss_cons (ps_par (i := 2) (j := 3) rfl nd rfl rfl (by decide) rfl rfl (pa_cons (pe_op op_sub (pe_ix ix_tup (pv 0) pe_int (fun _ _ => rfl)) (pe_ix ix_tup (pv 1) pe_int (fun _ _ => rfl)))
          (pa_cons (pe_op op_sub (pe_ix ix_tup (pv 1) pe_int (fun _ _ => rfl)) (pe_ix ix_tup (pv 0) pe_int (fun _ _ => rfl))) pa_nil)) (by rfl))
      (pss_cons (ps_if (PW.pt (pw_or (pt_cmpR op_lt (pv 2) pe_int (nomark _)) (pw_or1 (pt_cmpR op_lt (pv 3) pe_int (nomark _)))))
        (pss_one (ps_par (i := 2) (j := 3) rfl nd rfl rfl (by decide) rfl rfl (pa_cons (pe_op op_sub pe_int (pv 2)) (pa_cons (pe_op op_sub pe_int (pv 3)) pa_nil)) (by rfl))) pss_nil)
      (pss_one (ps_ret (pe_ifExp (PW.pt (pw_or (pt_cmpR op_lt (pv 2) pe_int (nomark _)) (pw_or (pt_cmpR op_lt (pv 3) pe_int (nomark _)) (pw_or1 (pt_cmpR op_eq (pe_op op_add (pv 2) (pv 3)) pe_int (nomark _))))))
        pe_non (pe_c CT hr (pa_cons (pv 3) (pa_cons (pv 2) pa_nil))))))), ?_⟩
    refine ⟨_, rfl, u, _, 0, .int a, rfl, rfl, hx, rfl, _, rfl, v, _, 0, .int c, rfl, rfl, hy, rfl, _, _, rfl, rfl,
      _, rfl, v, _, 1, .int d, rfl, rfl, hy, rfl, _, rfl, u, _, 1, .int b, rfl, rfl, hx, rfl, _, _, rfl, rfl, .int (a - c), .int (d - b), rfl, ?_⟩
    dsimp only
    refine seq_join (fun σ H1 => ∃ m l : Int, σ = [some (.ref u), some (.ref v), some (.int m), some (.int l)] ∧ H = H1 ∧ cross a b c d = meetT m l ∧ m < 2 ^ 60 ∧ l < 2 ^ 60) (fun NX nx => ?_) (fun σ H1 hh => ?_)
    · have bound : ∀ z, z = a - c ∨ z = d - b ∨ z = 0 - (a - c) ∨ z = 0 - (d - b) → z < 2 ^ 60 := fun z h => by
        have := sa.1; have := sa.2; have := sb.1; have := sb.2; have := sc.1; have := sc.2; have := sd.1; have := sd.2
        omega
      have turn : a - c < 0 ∨ d - b < 0 → NX [some (.ref u), some (.ref v), some (.int (0 - (a - c))), some (.int (0 - (d - b)))] H := fun z =>
        nx _ _ ⟨_, _, rfl, rfl, by rw [cross_mt, if_pos z], bound _ (by omega), bound _ (by omega)⟩
      refine ⟨_, rfl, _, _, rfl, rfl, _, rfl, ite2 (fun z => ?_) (fun z => ?_)⟩
      · have z : a - c < 0 := of_decide_eq_true z
        exact ⟨_, rfl, _, _, rfl, rfl, _, rfl, _, _, rfl, rfl, _, _, rfl, turn (.inl z)⟩
      · have z : ¬ a - c < 0 := fun w => z (decide_eq_true w)
        refine ⟨_, rfl, _, _, rfl, rfl, _, rfl, ite2 (fun z2 => ?_) (fun z2 => ?_)⟩
        · have z2 : d - b < 0 := of_decide_eq_true z2
          exact ⟨_, rfl, _, _, rfl, rfl, _, rfl, _, _, rfl, rfl, _, _, rfl, turn (.inr z2)⟩
        · have z2 : ¬ d - b < 0 := fun w => z2 (decide_eq_true w)
          exact nx _ _ ⟨_, _, rfl, rfl, by rw [cross_mt, if_neg (by omega)], bound _ (by omega), bound _ (by omega)⟩
    · obtain ⟨m, l, rfl, rfl, e, m1, l1⟩ := hh
      rw [e] at q
      have none_ : m < 0 ∨ l < 0 ∨ m + l = 0 → Q .non H := fun z => q _ _ Keep.refl (by unfold meetT; rw [if_pos z]; exact rfl)
      refine ⟨_, rfl, _, _, rfl, rfl, _, rfl, ite2 (fun z1 => iteT (none_ (.inl (of_decide_eq_true z1)))) (fun z1 => ?_)⟩
      have z1 : ¬ m < 0 := fun w => z1 (decide_eq_true w)
      refine ⟨_, rfl, _, _, rfl, rfl, _, rfl, ite2 (fun z2 => iteT (none_ (.inr (.inl (of_decide_eq_true z2))))) (fun z2 => ?_)⟩
      have z2 : ¬ l < 0 := fun w => z2 (decide_eq_true w)
      refine ⟨_, rfl, _, rfl, _, _, rfl, rfl, rfl, _, rfl, ite2 (fun z3 => none_ (.inr (.inr (V.int.inj (of_decide_eq_true z3))))) (fun z3 => ?_)⟩
      have z3 : ¬ m + l = 0 := fun w => z3 (decide_eq_true (congrArg V.int w))
      refine ⟨_, rfl, _, rfl, l, m, rfl, by omega, by omega, by omega, l1, m1, fun r nr => q _ _ (Keep.new nr) ?_⟩
      unfold meetT
      rw [if_neg (by omega)]
      exact Pr.new
end
end K17
set_option maxHeartbeats 2000000
namespace K17
open PySem PySem.Spec PyProof.Rows L2 HG
section
variable {P : Program} {w : World} {K : PySem.W.Frag} {mg : Str → Option Value} {base : Heap}
abbrev CTake (P : Program) (w : World) (K : PySem.W.Frag) (mg : Str → Option Value) (base : Heap) : Prop :=
  HG.Callee P w K mg base CX0 2 "_law_take" ["_law_draw", "_law_many"] sp_take
theorem pw10_12 : CPow 10 12 := ⟨by decide, by decide, by decide⟩
theorem pw10_11 : CPow 10 11 := ⟨by decide, by decide, by decide⟩
def sp_amount : Sp := fun vs H Q _ => ∃ p g c n, vs = [.ref p] ∧ Draw H p g c n ∧ n < 999999990 ∧
  ∀ r H', 0 ≤ r → r < 10 ^ 12 → Keep [p, g] H H' → Draw H' p g c (n + 2) → Q (.int r) H'
theorem ok_amount (D : Def K mg "_law_amount" s_l_amount ["_law_draw"]) (CT : CTake P w K mg base) :
    Callee P w K mg base CX0 3 "_law_amount" ["_law_draw"] sp_amount := by
  refine D.ok sc_l_amount (fun vs H Q E h => ?_) (fun f cdv A outer s H vs Q E hr h => ?_)
  · obtain ⟨p, g, c, n, rfl, _⟩ := h
    rfl
  · obtain ⟨p, g, c, n, rfl, dr, small, q⟩ := h
    have nd := sc_l_amount.nd
    refine ⟨_, pss_cons (ps_set (i := 1) nd rfl (.inl rfl) (pe_c CT hr (pa_cons (pv 0) (pa_cons pe_int pa_nil))))
      (pss_cons (ps_if (pt_cmpR op_eq (pv 1) pe_int (nomark _)) (pss_one (ps_ret (pe_c CT hr (pa_cons (pv 0) (pa_cons pe_int pa_nil))))) pss_nil)
      (pss_one (ps_ret (pe_ifExp (pt_cmpR op_lt (pv 1) pe_int (nomark _)) (pe_c CT hr (pa_cons (pv 0) (pa_cons pe_int pa_nil)))
        (pe_c CT hr (pa_cons (pv 0) (pa_cons (pe_op op_pow pe_int pe_int) pa_nil))))))), ?_⟩
    have e12 : (10 : Int) ^ (12 : Int).toNat = 10 ^ 12 := rfl
    refine ⟨_, rfl, p, g, c, n, 4, rfl, dr, by omega, by decide, by decide, fun r H1 r0 r1 k1 d1 => ?_⟩
    have two : ∀ m : Int, 0 < m → m ≤ 10 ^ 12 → sp_take [.ref p, .int m] H1 Q E0 := fun m m0 m1 =>
      ⟨p, g, c, n + 1, m, rfl, d1, by omega, m0, by omega, fun z H2 z0 z1 k2 d2 => q _ _ z0 (by omega) (k1.trans k2) (by rw [show n + 2 = n + 1 + 1 by omega]; exact d2)⟩
    refine ⟨_, rfl, rfl, _, rfl, ite2 (fun _ => ⟨_, rfl, two 3 (by decide) (by decide)⟩) (fun _ => ?_)⟩
    refine ⟨_, rfl, _, _, rfl, rfl, _, rfl, ite2 (fun _ => ⟨_, rfl, two 10 (by decide) (by decide)⟩) (fun _ => ?_)⟩
    exact ⟨_, rfl, _, _, rfl, rfl, pw10_12, two _ (by decide) (by decide)⟩
def sp_lpair (K : PySem.W.Frag) : Sp := fun vs H Q _ => ∃ p g c n m, vs = [.ref p, .int m] ∧ Draw H p g c n ∧ n < 999999990 ∧ 0 ≤ m ∧ m < 2 ^ 40 ∧
  ∀ v i j H', Pr K H' v i j → -m ≤ i → i ≤ m → -m ≤ j → j ≤ m → Keep [p, g] H H' → Draw H' p g c (n + 2) → Q v H'
theorem ok_lpair (D : Def K mg "_law_pair" s_l_pair ["_law_draw", "_law_peak_here"]) (CT : CTake P w K mg base) :
    Callee P w K mg base CX0 3 "_law_pair" ["_law_draw", "_law_peak_here"] (sp_lpair K) := by
  refine D.ok sc_l_pair (fun vs H Q E h => ?_) (fun f cdv A outer s H vs Q E hr h => ?_)
  · obtain ⟨p, g, c, n, m, rfl, _⟩ := h
    rfl
  · obtain ⟨p, g, c, n, m, rfl, dr, small, m0, m1, q⟩ := h
    have nd := sc_l_pair.nd
    refine ⟨_, pss_one (ps_ret (pe_tup (pa_cons (pe_op op_sub (pe_c CT hr (pa_cons (pv 0) (pa_cons (pe_op op_add (pe_op op_mul pe_int (pv 1)) pe_int) pa_nil))) (pv 1))
      (pa_cons (pe_op op_sub (pe_c CT hr (pa_cons (pv 0) (pa_cons (pe_op op_add (pe_op op_mul pe_int (pv 1)) pe_int) pa_nil))) (pv 1)) pa_nil)))), ?_⟩
    refine ⟨_, rfl, _, rfl, _, _, rfl, rfl, .inl ⟨by decide, by decide⟩, _, _, rfl, rfl, p, g, c, n, 2 * m + 1, rfl, dr, by omega, by omega, by omega, fun r H1 r0 r1 k1 d1 => ?_⟩
    refine ⟨_, rfl, _, _, rfl, rfl, _, rfl, _, rfl, _, _, rfl, rfl, .inl ⟨by decide, by decide⟩, _, _, rfl, rfl, p, g, c, n + 1, 2 * m + 1, rfl, d1, by omega, by omega, by omega, fun z H2 z0 z1 k2 d2 => ?_⟩
    refine ⟨_, rfl, _, _, rfl, rfl, by show 2 ≤ sizeLine; decide, fun a na => ?_⟩
    have k3 : Keep [] H2 (upd H2 a (.tup [.int (r - m), .int (z - m)])) := Keep.new na
    refine q _ _ _ _ Pr.new (by omega) (by omega) (by omega) (by omega) ((k1.trans k2).trans k3.nil) ?_
    rw [show n + 2 = n + 1 + 1 by omega]
    exact d2.keep k3.toKeepW
def sp_peak : Sp := fun vs H Q _ => ∃ p g c n, vs = [.ref p] ∧ Draw H p g c n ∧ n < 999999990 ∧
  ∀ r H', 0 ≤ r → r < 10 ^ 11 → Keep [p, g] H H' → Draw H' p g c (n + 1) → Q (.int r) H'
theorem ok_peak (D : Def K mg "_law_peak" s_l_peak ["_law_draw"]) (CP : Callee P w K mg base CX0 3 "_law_pick" ["_law_draw", "_law_some"] (sp_pick K)) :
    Callee P w K mg base CX0 4 "_law_peak" ["_law_draw"] sp_peak := by
  refine D.ok sc_l_peak (fun vs H Q E h => ?_) (fun f cdv A outer s H vs Q E hr h => ?_)
  · obtain ⟨p, g, c, n, rfl, _⟩ := h
    rfl
  · obtain ⟨p, g, c, n, rfl, dr, small, q⟩ := h
    have nd := sc_l_peak.nd
    refine ⟨_, pss_one (ps_ret (pe_c CP hr (pa_cons (pv 0) (pa_cons (pe_lst (pa_cons pe_int (pa_cons pe_int (pa_cons pe_int (pa_cons pe_int (pa_cons pe_int
      (pa_cons (pe_op op_sub (pe_op op_pow pe_int pe_int) pe_int) pa_nil))))))) pa_nil)))), ?_⟩
    refine ⟨_, rfl, _, _, rfl, rfl, pw10_11, _, _, rfl, rfl, by show 6 ≤ sizeLine; decide, fun l nl => ?_⟩
    have kl : Keep [] H (upd H l (.lst [.int 1, .int 2, .int 3, .int 3, .int 9, .int (10 ^ (11 : Int).toNat - 1)])) := Keep.new nl
    have hl : SqL K (upd H l (.lst [.int 1, .int 2, .int 3, .int 3, .int 9, .int (10 ^ (11 : Int).toNat - 1)])) l _ := .inl (.inl upd_same)
    refine ⟨p, g, c, n, l, _, rfl, dr.keep kl.toKeepW, by omega, hl, ?_, by show 0 < 6; decide, by show 6 < 1000; decide, fun i v H1 hv k1 d1 => ?_⟩
    · obtain ⟨_, gs, cs, left, turn, e1, e2, e3, _⟩ := dr
      intro m
      rcases List.mem_cons.mp m with e | m
      · rw [e, e1] at nl
        cases nl
      · rcases List.mem_cons.mp m with e | m
        · rw [e, e2] at nl
          cases nl
        · cases m
    · have e11 : (10 : Int) ^ (11 : Int).toNat - 1 = 99999999999 := by decide
      have : ∃ r : Int, v = .int r ∧ 0 ≤ r ∧ r < 10 ^ 11 := by
        rcases i with _ | _ | _ | _ | _ | _ | i <;> first | (cases hv; exact ⟨_, rfl, by decide, by decide⟩) | cases hv
      obtain ⟨r, rfl, r0, r1⟩ := this
      exact q _ _ r0 r1 (kl.nil.trans k1) d1
def sp_spot (K : PySem.W.Frag) : Sp := fun vs H Q _ => ∃ p g c n, vs = [.ref p] ∧ Draw H p g c n ∧ n < 999999990 ∧
  ∀ v i j H', Pr K H' v i j → 0 ≤ i → 0 ≤ j → i < 2 ^ 40 → j < 2 ^ 40 → gI i j = 1 → Keep [p, g] H H' → Draw H' p g c (n + 5) → Q v H'
theorem gI_div {p q : Int} (h0 : 0 ≤ p) (h1 : 0 ≤ q) (h : 0 < p + q) : gI (p / gI p q) (q / gI p q) = 1 := by
  have g0 := gI_pos h0 h1 h
  have e : ∀ z : Int, 0 ≤ z → (z / gI p q).natAbs = z.natAbs / Nat.gcd p.natAbs q.natAbs := fun z z0 => by
    have q1 : ((z / gI p q).natAbs : Int) = z / gI p q := Int.natAbs_of_nonneg (Int.ediv_nonneg z0 (by omega))
    have q2 : ((z.natAbs / Nat.gcd p.natAbs q.natAbs : Nat) : Int) = (z.natAbs : Int) / ((Nat.gcd p.natAbs q.natAbs : Nat) : Int) := by simp
    rw [Int.natAbs_of_nonneg z0] at q2
    have q3 : z / gI p q = z / ((Nat.gcd p.natAbs q.natAbs : Nat) : Int) := rfl
    omega
  show ((Nat.gcd (p / gI p q).natAbs (q / gI p q).natAbs : Nat) : Int) = 1
  rw [e p h0, e q h1]
  have pos : 0 < Nat.gcd p.natAbs q.natAbs := by
    have : ((Nat.gcd p.natAbs q.natAbs : Nat) : Int) = gI p q := rfl
    omega
  rw [Nat.gcd_div (Nat.gcd_dvd_left _ _) (Nat.gcd_dvd_right _ _), Nat.div_self pos]
  rfl
theorem div_le_self {p g : Int} (h0 : 0 ≤ p) (h1 : 0 < g) : 0 ≤ p / g ∧ p / g ≤ p := ⟨Int.ediv_nonneg h0 (by omega), Int.ediv_le_self g h0⟩
theorem ok_spot (D : Def K mg "_law_spot" s_l_spot ["_law_draw"]) (CT : CTake P w K mg base)
    (CR : Callee P w K mg base CX0 2 "_law_terms" ["_law_one", "_law_two"] sp_lterms) :
    Callee P w K mg base CX0 3 "_law_spot" ["_law_draw"] (sp_spot K) := by
  refine D.ok sc_l_spot (fun vs H Q E h => ?_) (fun f cdv A outer s H vs Q E hr h => ?_)
  · obtain ⟨p, g, c, n, rfl, _⟩ := h
    rfl
  · obtain ⟨p, g, c, n, rfl, dr, small, q⟩ := h
    have nd := sc_l_spot.nd
    refine ⟨_, pss_cons (ps_set (i := 1) nd rfl (.inl rfl) (pe_c CT hr (pa_cons (pv 0) (pa_cons pe_int pa_nil))))
      (pss_cons (ps_if (pt_cmpR op_lt (pv 1) pe_int (nomark _)) (pss_one (ps_ret (pe_ix ix_list (pe_lst (pa_cons (pe_tup (pa_cons pe_int (pa_cons pe_int pa_nil)))
          (pa_cons (pe_tup (pa_cons pe_int (pa_cons pe_int pa_nil))) pa_nil))) (pv 1) (fun _ _ => rfl)))) pss_nil)
      (pss_cons (ps_par (i := 2) (j := 3) rfl nd rfl rfl (by decide) rfl rfl (pa_cons (pe_c CT hr (pa_cons (pv 0) (pa_cons pe_int pa_nil))) (pa_cons (pe_c CT hr (pa_cons (pv 0) (pa_cons pe_int pa_nil))) pa_nil)) (by rfl))
      (pss_cons (ps_if (pt_cmpR op_eq (pv 1) pe_int (nomark _)) (pss_one (ps_par (i := 2) (j := 3) rfl nd rfl rfl (by decide) rfl rfl
          (pa_cons (pe_c CT hr (pa_cons (pv 0) (pa_cons (pe_op op_pow pe_int pe_int) pa_nil))) (pa_cons (pe_c CT hr (pa_cons (pv 0) (pa_cons (pe_op op_pow pe_int pe_int) pa_nil))) pa_nil)) (by rfl))) pss_nil)
      (pss_one (ps_ret (pe_ifExp (pt_cmpR op_eq (pe_op op_add (pv 2) (pv 3)) pe_int (nomark _)) (pe_tup (pa_cons pe_int (pa_cons pe_int pa_nil)))
        (pe_c CR hr (pa_cons (pv 2) (pa_cons (pv 3) pa_nil))))))))), ?_⟩
    refine ⟨_, rfl, p, g, c, n, 8, rfl, dr, by omega, by decide, by decide, fun way H1 w0 w1 k1 d1 => ?_⟩
    refine ⟨_, rfl, _, _, rfl, rfl, _, rfl, ite2 (fun z => ?_) (fun z => ?_)⟩
    · have z : way < 2 := of_decide_eq_true z
      refine ⟨by show 2 ≤ sizeLine; decide, fun a na => ⟨by show 2 ≤ sizeLine; decide, fun b nb => ⟨by show 2 ≤ sizeLine; decide, fun l nl => ?_⟩⟩⟩
      have ka : Keep [] H1 (upd H1 a (.tup [.int 1, .int 0])) := Keep.new na
      have kb : Keep [] _ (upd (upd H1 a (.tup [.int 1, .int 0])) b (.tup [.int 0, .int 1])) := Keep.new nb
      have kl : Keep [] _ (upd (upd (upd H1 a (.tup [.int 1, .int 0])) b (.tup [.int 0, .int 1])) l (.lst [.ref a, .ref b])) := Keep.new nl
      have pa : Pr K (upd H1 a (.tup [.int 1, .int 0])) (.ref a) 1 0 := Pr.new
      have pb : Pr K (upd (upd H1 a (.tup [.int 1, .int 0])) b (.tup [.int 0, .int 1])) (.ref b) 0 1 := Pr.new
      have hl : SqL K (upd (upd (upd H1 a (.tup [.int 1, .int 0])) b (.tup [.int 0, .int 1])) l (.lst [.ref a, .ref b])) l [.ref a, .ref b] := .inl (.inl upd_same)
      have kk := (ka.trans kb).trans kl
      have dd : Draw _ p g c (n + 5) := (d1.keep kk.toKeepW).mono (by omega)
      have g1 : gI 1 0 = 1 := rfl
      have g2 : gI 0 1 = 1 := rfl
      by_cases e : way = 0
      · subst e
        exact ⟨_, rfl, l, _, 0, .ref a, rfl, rfl, hl, rfl, q _ 1 0 _ (pa.keep (kb.trans kl).toKeepW) (by decide) (by decide) (by decide) (by decide) g1 (k1.trans kk.nil) dd⟩
      · have e : way = 1 := by omega
        subst e
        exact ⟨_, rfl, l, _, 1, .ref b, rfl, rfl, hl, rfl, q _ 0 1 _ (pb.keep kl.toKeepW) (by decide) (by decide) (by decide) (by decide) g2 (k1.trans kk.nil) dd⟩
    · refine ⟨_, rfl, p, g, c, n + 1, 6, rfl, d1, by omega, by decide, by decide, fun x H2 x0 x1 k2 d2 => ?_⟩
      refine ⟨_, rfl, p, g, c, n + 1 + 1, 6, rfl, d2, by omega, by decide, by decide, fun y H3 y0 y1 k3 d3 => ⟨_, _, rfl, ?_⟩⟩
      dsimp only
      refine seq_join (fun σ H4 => ∃ i j : Int, σ = [some (.ref p), some (.int way), some (.int i), some (.int j)] ∧ Keep [p, g] H H4 ∧ Draw H4 p g c (n + 5) ∧ 0 ≤ i ∧ 0 ≤ j ∧ i < 2 ^ 40 ∧ j < 2 ^ 40) (fun NX nx => ?_) (fun σ H4 hh => ?_)
      · refine ⟨_, rfl, rfl, _, rfl, ite2 (fun _ => ?_) (fun _ => ?_)⟩
        · refine ⟨_, rfl, _, _, rfl, rfl, pw10_11, p, g, c, n + 1 + 1 + 1, _, rfl, d3, by omega, by decide, by decide, fun i H4 i0 i1 k4 d4 => ?_⟩
          refine ⟨_, rfl, _, _, rfl, rfl, pw10_11, p, g, c, n + 1 + 1 + 1 + 1, _, rfl, d4, by omega, by decide, by decide, fun j H5 j0 j1 k5 d5 => ⟨_, _, rfl, ?_⟩⟩
          have e11 : (10 : Int) ^ (11 : Int).toNat = 100000000000 := by decide
          exact nx _ _ ⟨i, j, rfl, (((k1.trans k2).trans k3).trans k4).trans k5, d5.mono (by omega), i0, j0, by omega, by omega⟩
        · exact nx _ _ ⟨x, y, rfl, (k1.trans k2).trans k3, d3.mono (by omega), x0, y0, by omega, by omega⟩
      · obtain ⟨i, j, rfl, k4, d4, i0, j0, i1, j1⟩ := hh
        refine ⟨_, rfl, _, rfl, _, _, rfl, rfl, rfl, _, rfl, ite2 (fun z => ?_) (fun z => ?_)⟩
        · refine ⟨by show 2 ≤ sizeLine; decide, fun a na => ?_⟩
          have ka : Keep [] H4 (upd H4 a (.tup [.int 1, .int 1])) := Keep.new na
          exact q _ 1 1 _ Pr.new (by decide) (by decide) (by decide) (by decide) rfl (k4.trans ka.nil) (d4.keep ka.toKeepW)
        · have z : ¬ i + j = 0 := fun w => z (decide_eq_true (congrArg V.int w))
          have pos : 0 < i + j := by omega
          have g0 := gI_pos i0 j0 pos
          obtain ⟨a0, a1⟩ := div_le_self i0 g0
          obtain ⟨b0, b1⟩ := div_le_self j0 g0
          refine ⟨_, rfl, _, rfl, i, j, rfl, i0, j0, pos, by omega, by omega, fun r nr => ?_⟩
          have kr : Keep [] H4 (upd H4 r (.tup [.int (i / gI i j), .int (j / gI i j)])) := Keep.new nr
          exact q _ _ _ _ Pr.new a0 b0 (by omega) (by omega) (gI_div i0 j0 pos) (k4.trans kr.nil) (d4.keep kr.toKeepW)
end
end K17
set_option maxHeartbeats 2000000
namespace HG
open PySem PySem.Spec PyProof.Rows L2
/-! ## equal data have equal texts -/
theorem int_text_short {a : Int} (h : a.natAbs < 2 ^ 100) : (Str.ofString (toString a)).length ≤ 102 := by
  have e := int_text_length_le (a := a) (k := 100) (by decide) (by
    by_cases z : a.natAbs = 0
    · rw [z]
      decide
    · exact (Nat.log2_lt z).mpr h)
  rw [PySem.ofString_length]
  omega
def datum : Option (Int × Int) → PyData
  | none => .none
  | some z => .tuple [.int z.1, .int z.2]
theorem OPr.dp {K : PySem.W.Frag} {H : Hp} {v : V} : ∀ {o : Option (Int × Int)}, OPr K H v o → Dp K H v (datum o)
  | none, h => by
    cases h
    exact .non
  | some z, h => by
    obtain ⟨p, rfl, q⟩ := h
    exact .tup q (.cons (.int _) (.cons (.int _) .nil))
structure Show (d : PyData) : Prop where
  showable : d.showable = true
  noDict : d.hasDict = false
  depth : d.depth ≤ 64
  len : d.shown.length ≤ sizeLine
theorem log_lt {a : Int} (h : a.natAbs < 2 ^ 100) : a.natAbs.log2 < 1920 := by
  by_cases z : a.natAbs = 0
  · rw [z]
    decide
  · exact Nat.lt_of_lt_of_le ((Nat.log2_lt z).mpr h) (by decide)
theorem show_int {a : Int} (h : a.natAbs < 2 ^ 100) : Show (.int a) := by
  refine ⟨by simp only [PyData.showable]; exact decide_eq_true (log_lt h), by simp only [PyData.hasDict], by simp only [PyData.depth]; omega, ?_⟩
  simp only [PyData.shown]
  exact Nat.le_trans (int_text_short h) (by decide)
theorem show_datum : ∀ {o : Option (Int × Int)}, (∀ z, o = some z → z.1.natAbs < 2 ^ 100 ∧ z.2.natAbs < 2 ^ 100) → Show (datum o)
  | none, _ => ⟨by simp [datum, PyData.showable], by simp [datum, PyData.hasDict], by simp [datum, PyData.depth], by
      simp only [datum, PyData.shown]
      decide⟩
  | some z, h => by
    obtain ⟨h1, h2⟩ := h z rfl
    refine ⟨?_, by simp [datum, PyData.hasDict, PyData.hasDictAll], by simp [datum, PyData.depth, PyData.depthAll], ?_⟩
    · simp only [datum, PyData.showable, PyData.showableAll, Bool.and_true, Bool.and_eq_true]
      exact ⟨decide_eq_true (log_lt h1), decide_eq_true (log_lt h2)⟩
    · have l := tupleText_len_le [Str.ofString (toString z.1), Str.ofString (toString z.2)]
      have e1 := int_text_short h1
      have e2 := int_text_short h2
      have e : (datum (some z)).shown = tupleText [Str.ofString (toString z.1), Str.ofString (toString z.2)] := by
        simp only [datum, PyData.shown, PyData.shownAll]
      rw [e]
      simp only [List.map_cons, List.map_nil, List.sum_cons, List.sum_nil, List.length_cons, List.length_nil] at l
      exact Nat.le_trans (show _ ≤ 300 by omega) (by decide)
section
variable {X : Cx} {CX : CXT} {k n : Nat} {ps : List Str} {sp : Sp} {E : XK} {x : Str} {p pos : Pos} {e : Expr}
  {es : List Expr} {t : TA}
theorem pe_cP (C : CalleeP X.prog X.w X.K X.mg X.base CX0 k x ps sp) (room : Room n X.A) (ng : NoG X.A) (args : PA X (e :: es) t)
    (hk : k ≤ n := by decide) (glob : Gl X x := by rfl) (hdb : (x == ("__debug__" : Str)) = false := by decide)
    (he : starEach (e :: es) X.env = (false, eval e X.env) :: starEach es X.env := by rfl)
    (hpl : (backTo pos (starEach es X.env)).any (·.1) = false := by rfl) :
    PE X (.Call (.Name x p) (e :: es) [] pos) (tCl sp E0 t) := by
  obtain ⟨f, fd, F, m, kp, b, _⟩ := C.ex
  exact pe_callP (p := p) (pos := pos) F (room.mono hk) ng glob m kp b pass0 args hdb he hpl
end
end HG
namespace K17
open PySem PySem.Spec PyProof.Rows L2 HG
section
variable {P : Program} {w : World} {K : PySem.W.Frag} {mg : Str → Option Value} {base : Heap}
def sp_same (K : PySem.W.Frag) : Sp := fun vs H Q _ => ∃ x y d, vs = [x, y] ∧ Dp K H x d ∧ Dp K H y d ∧ Show d ∧ Q (.bl true) H
theorem ok_same (D : Def K mg "_law_same" s_l_same ["_law_found", "_law_due"]) (zr : mg "repr" = none) :
    CalleeP P w K mg base CX0 2 "_law_same" ["_law_found", "_law_due"] (sp_same K) := by
  refine D.okP sc_l_same (fun vs H Q E h => ?_) (fun f cdv A outer s H vs Q E ng hr h => ?_)
  · obtain ⟨x, y, d, rfl, _⟩ := h
    rfl
  · obtain ⟨x, y, d, rfl, dx, dy, ok, q⟩ := h
    have hu : (A.deeper (envOfC "_law_same" (defScope s_l_same) s.heap.objs.size f cdv)).units + 66 < cLine := by
      have := hr.un
      omega
    refine ⟨_, pss_one (ps_ret (pe_cmpR op_eq (pe_callB (call_reprD ng hu) (by rfl) zr (by decide +kernel) (pa_cons (pv 0) pa_nil))
      (pe_callB (call_reprD ng hu) (by rfl) zr (by decide +kernel) (pa_cons (pv 1) pa_nil)) (nomark _))), ?_⟩
    refine ⟨x, rfl, x, d, rfl, dx, ok.showable, ok.noDict, ok.depth, ok.len, y, rfl, y, d, rfl, dy, ok.showable, ok.noDict, ok.depth, ok.len, rfl, ?_⟩
    rw [decide_eq_true rfl]
    exact q
end
end K17
set_option maxHeartbeats 2000000
namespace HG
open PySem PySem.Spec PyProof.Rows L2
/-! ## lists of odd values -/
/-- an expression that changes nothing and gives something of which R holds -/
def Gives1 (R : Hp → V → Prop) (te : TE) (σ : L2.St) (H : Hp) : Prop :=
  ∀ H1, Keep [] H H1 → ∀ Q : VK, (∀ v H2, Keep [] H1 H2 → R H2 v → Q v H2) → te σ H1 Q
theorem gives_c {R : Hp → V → Prop} {v : V} {σ : L2.St} {H : Hp} (h : ∀ H1, Keep [] H H1 → R H1 v) : Gives1 R (tC v) σ H :=
  fun H1 k Q q => q v H1 Keep.refl (h H1 k)
/-- the next item of a written list -/
theorem list_step {R : Hp → V → Prop} {te : TE} {ta : TA} {σ : L2.St} {H0 H : Hp} {Q : List V → Hp → Prop} (he : Gives1 R te σ H0) (k0 : Keep [] H0 H)
    (h : ∀ v H2, Keep [] H H2 → R H2 v → ta σ H2 fun vs H3 => Q (v :: vs) H3) : tCons te ta σ H Q :=
  he H k0 _ fun v H2 k r => h v H2 k r
theorem begin_list {ta : TA} {g : TG} {rest : TS} {D : Ends} {σ : L2.St} {H : Hp}
    (h : ta σ H fun xs H1 => xs.length ≤ sizeLine ∧ ∀ p, H1 p = none → g (.ref p) σ (upd H1 p (.lst xs)) (rest D)) : tSeq (tAsg (tLst ta) g) rest D σ H := h
theorem PairB.flat {ex : List Addr} {K : PySem.W.Frag} {H : Hp} {v : V} {T : String} (nr : ∀ a, v ≠ .ref a) (t : TyX K H v (.type T)) (h : kitB T "tuple" = some false) : PairB ex K H v false :=
  .no (.flat nr) t h
theorem PairB.nonB {ex : List Addr} {K : PySem.W.Frag} {H : Hp} : PairB ex K H .non false := .flat (fun _ z => nomatch z) (.base .non) (by decide +kernel)
theorem PairB.blB {ex : List Addr} {K : PySem.W.Frag} {H : Hp} (b : Bool) : PairB ex K H (.bl b) false := .flat (fun _ z => nomatch z) (.base (.bl b)) (by decide +kernel)
theorem PairB.intB {ex : List Addr} {K : PySem.W.Frag} {H : Hp} (i : Int) : PairB ex K H (.int i) false := .flat (fun _ z => nomatch z) (.base (.int i)) (by decide +kernel)
theorem PairB.strB {ex : List Addr} {K : PySem.W.Frag} {H : Hp} (x : Str) : PairB ex K H (.str x) false := .flat (fun _ z => nomatch z) (.base (.str x)) (by decide +kernel)
theorem PairB.lstB {ex : List Addr} {K : PySem.W.Frag} {H : Hp} {a : Addr} {xs : List V} (h : H a = some (.lst xs)) (o : a ∉ ex) : PairB ex K H (.ref a) false :=
  .no (fun b e => by cases e; exact o) (.base (.lst h)) (by decide +kernel)
theorem PairB.dictB {ex : List Addr} {K : PySem.W.Frag} {H : Hp} {a : Addr} {kvs : List (Key × V)} (h : H a = some (.dK kvs)) (o : a ∉ ex) : PairB ex K H (.ref a) false :=
  .no (fun b e => by cases e; exact o) (.base (.dK h)) (by decide +kernel)
/-- every address of the list has an object -/
def Known (ex : List Addr) (H : Hp) : Prop := ∀ a ∈ ex, ∃ o, H a = some o ∧ ∀ ps, o ≠ .tbl ps
theorem Known.keep {ex ex' : List Addr} {H H' : Hp} (k : KeepW ex' H H') (h : Known ex H) : Known ex H' := fun a m => by
  obtain ⟨o, e, t⟩ := h a m
  exact k.dom _ _ e t
theorem Known.out {ex : List Addr} {H : Hp} {a : Addr} (h : Known ex H) (n : H a = none) : a ∉ ex := fun m => by
  obtain ⟨o, e, _⟩ := h a m
  rw [n] at e
  cases e
theorem Draw.known {H : Hp} {p g c : Addr} {n : Int} (d : Draw H p g c n) : Known [p, g] H := by
  obtain ⟨_, gs, cs, left, turn, e1, e2, e3, _⟩ := d
  intro a m
  rcases List.mem_cons.mp m with rfl | m
  · exact ⟨_, e1, fun _ z => nomatch z⟩
  · rcases List.mem_cons.mp m with rfl | m
    · exact ⟨_, e2, fun _ z => nomatch z⟩
    · cases m
end HG
namespace K17
open PySem PySem.Spec PyProof.Rows L2 HG
section
variable {P : Program} {w : World} {K : PySem.W.Frag} {mg : Str → Option Value} {base : Heap}
abbrev CPick (P : Program) (w : World) (K : PySem.W.Frag) (mg : Str → Option Value) (base : Heap) : Prop :=
  HG.Callee P w K mg base CX0 3 "_law_pick" ["_law_draw", "_law_some"] (sp_pick K)
def sp_strange (K : PySem.W.Frag) : Sp := fun vs H Q _ => ∃ p g c n, vs = [.ref p] ∧ Draw H p g c n ∧ n < 999999990 ∧
  ∀ v H', PairB [p, g] K H' v false → Keep [p, g] H H' → Draw H' p g c (n + 1) → Q v H'
theorem ok_strange (D : Def K mg "_law_strange" s_l_strange ["_law_draw"]) (CP : CPick P w K mg base) :
    Callee P w K mg base CX0 4 "_law_strange" ["_law_draw"] (sp_strange K) := by
  refine D.ok sc_l_strange (fun vs H Q E h => ?_) (fun f cdv A outer s H vs Q E hr h => ?_)
  · obtain ⟨p, g, c, n, rfl, _⟩ := h
    rfl
  · obtain ⟨p, g, c, n, rfl, dr, small, q⟩ := h
    have nd := sc_l_strange.nd
    refine ⟨_, pss_cons (ps_set (i := 1) nd rfl (.inl rfl) (pe_lst (pa_cons pe_non (pa_cons pe_bl (pa_cons pe_int (pa_cons pe_str
        (pa_cons (pe_lst (pa_cons pe_int (pa_cons pe_int pa_nil)))
        (pa_cons (pe_tup (pa_cons pe_int pa_nil))
        (pa_cons (pe_tup (pa_cons pe_int (pa_cons pe_int (pa_cons pe_int pa_nil))))
        (pa_cons (pe_tup (pa_cons pe_bl (pa_cons pe_int pa_nil)))
        (pa_cons (pe_tup (pa_cons pe_int (pa_cons pe_bl pa_nil)))
        (pa_cons (pe_tup (pa_cons pe_str (pa_cons pe_int pa_nil)))
        (pa_cons (pe_tup (pa_cons pe_int (pa_cons pe_non pa_nil)))
        (pa_cons pe_dnewK
        (pa_cons (pe_tup (pa_cons (pe_tup (pa_cons pe_int (pa_cons pe_int pa_nil))) (pa_cons pe_int pa_nil)))
        (pa_cons (pe_tup pa_nil) pa_nil))))))))))))))))
      (pss_one (ps_ret (pe_c CP hr (pa_cons (pv 0) (pa_cons (pv 1) pa_nil))))), ?_⟩
    let R : Hp → V → Prop := fun H v => PairB [p, g] K H v false
    have kn := dr.known
    have tup : ∀ (xs : List V) (H1 : Hp), Keep [] H H1 → xs.length ≤ 3 → (∀ H2 a, SqT K H2 a xs → R H2 (.ref a)) → ∀ Q1 : VK,
        (∀ v H2, Keep [] H1 H2 → R H2 v → Q1 v H2) → xs.length ≤ sizeLine ∧ ∀ a, H1 a = none → Q1 (.ref a) (upd H1 a (.tup xs)) := fun xs H1 k len r Q1 q1 =>
      ⟨Nat.le_trans len (by decide), fun a na => q1 _ _ (Keep.new na) (r _ _ (.inl (.inl upd_same)))⟩
    refine begin_list ?_
    refine list_step (R := R) (gives_c fun _ _ => .nonB) Keep.refl fun v1 h1 k1 r1 => ?_
    refine list_step (R := R) (gives_c fun _ _ => .blB _) k1 fun v2 h2 k2 r2 => ?_
    refine list_step (R := R) (gives_c fun _ _ => .intB _) (k1.trans k2) fun v3 h3 k3 r3 => ?_
    refine list_step (R := R) (gives_c fun _ _ => .strB _) ((k1.trans k2).trans k3) fun v4 h4 k4 r4 => ?_
    have K4 := ((k1.trans k2).trans k3).trans k4
    refine list_step (R := R) (H0 := H) (fun H1 k Q1 q1 => ⟨by show 2 ≤ sizeLine; decide, fun a na => q1 _ _ (Keep.new na) (.lstB upd_same ((kn.keep k.toKeepW).out na))⟩) K4 fun v5 h5 k5 r5 => ?_
    have K5 := K4.trans k5
    refine list_step (R := R) (H0 := H) (fun H1 k Q1 q1 => tup _ H1 k (by show 1 ≤ 3; decide) (fun H2 a h => .len h (by show 1 ≠ 2; decide)) Q1 q1) K5 fun v6 h6 k6 r6 => ?_
    have K6 := K5.trans k6
    refine list_step (R := R) (H0 := H) (fun H1 k Q1 q1 => tup _ H1 k (by show 3 ≤ 3; decide) (fun H2 a h => .len h (by show 3 ≠ 2; decide)) Q1 q1) K6 fun v7 h7 k7 r7 => ?_
    have K7 := K6.trans k7
    refine list_step (R := R) (H0 := H) (fun H1 k Q1 q1 => tup _ H1 k (by show 2 ≤ 3; decide) (fun H2 a h => .first h (.bl _)) Q1 q1) K7 fun v8 h8 k8 r8 => ?_
    have K8 := K7.trans k8
    refine list_step (R := R) (H0 := H) (fun H1 k Q1 q1 => tup _ H1 k (by show 2 ≤ 3; decide) (fun H2 a h => .second h (.int _) (.bl _)) Q1 q1) K8 fun v9 h9 k9 r9 => ?_
    have K9 := K8.trans k9
    refine list_step (R := R) (H0 := H) (fun H1 k Q1 q1 => tup _ H1 k (by show 2 ≤ 3; decide) (fun H2 a h => .first h (.str _)) Q1 q1) K9 fun v10 h10 k10 r10 => ?_
    have K10 := K9.trans k10
    refine list_step (R := R) (H0 := H) (fun H1 k Q1 q1 => tup _ H1 k (by show 2 ≤ 3; decide) (fun H2 a h => .second h (.int _) .non) Q1 q1) K10 fun v11 h11 k11 r11 => ?_
    have K11 := K10.trans k11
    refine list_step (R := R) (H0 := H) (fun H1 k Q1 q1 => fun a na => q1 _ _ (Keep.new na) (.dictB upd_same ((kn.keep k.toKeepW).out na))) K11 fun v12 h12 k12 r12 => ?_
    have K12 := K11.trans k12
    refine list_step (R := R) (H0 := H) (fun H1 k Q1 q1 => ⟨by show 2 ≤ sizeLine; decide, fun a na => ⟨by show 2 ≤ sizeLine; decide, fun b nb => q1 _ _ ((Keep.new na).trans (Keep.new nb))
      (.first (.inl (.inl upd_same)) (NumB.tup (sqT_keep (Keep.new (ex := []) nb).toKeepW (.inl (.inl upd_same))) ((kn.keep k.toKeepW).out na)))⟩⟩) K12 fun v13 h13 k13 r13 => ?_
    have K13 := K12.trans k13
    refine list_step (R := R) (H0 := H) (fun H1 k Q1 q1 => tup [] H1 k (by decide) (fun H2 a h => .len h (by show 0 ≠ 2; decide)) Q1 q1) K13 fun v14 h14 k14 r14 => ?_
    have K14 := K13.trans k14
    refine ⟨by show 14 ≤ sizeLine; decide, fun l nl => ?_⟩
    have kl : Keep [] h14 (upd h14 l (.lst [v1, v2, v3, v4, v5, v6, v7, v8, v9, v10, v11, v12, v13, v14])) := Keep.new nl
    have hl : SqL K (upd h14 l (.lst [v1, v2, v3, v4, v5, v6, v7, v8, v9, v10, v11, v12, v13, v14])) l _ := .inl (.inl upd_same)
    have T13 := k14.trans kl
    have T12 := k13.trans T13
    have T11 := k12.trans T12
    have T10 := k11.trans T11
    have T9 := k10.trans T10
    have T8 := k9.trans T9
    have T7 := k8.trans T8
    have T6 := k7.trans T7
    have T5 := k6.trans T6
    have T4 := k5.trans T5
    have T3 := k4.trans T4
    have T2 := k3.trans T3
    have T1 := k2.trans T2
    have KK := K14.trans kl
    generalize upd h14 l (.lst [v1, v2, v3, v4, v5, v6, v7, v8, v9, v10, v11, v12, v13, v14]) = HH at kl hl T1 T2 T3 T4 T5 T6 T7 T8 T9 T10 T11 T12 T13 KK ⊢
    have all : ∀ x ∈ [v1, v2, v3, v4, v5, v6, v7, v8, v9, v10, v11, v12, v13, v14], R HH x := by
      intro x hx
      simp only [List.mem_cons, List.not_mem_nil, or_false] at hx
      rcases hx with rfl | rfl | rfl | rfl | rfl | rfl | rfl | rfl | rfl | rfl | rfl | rfl | rfl | rfl
      · exact r1.keep (KeepW.nil T1.toKeepW)
      · exact r2.keep (KeepW.nil T2.toKeepW)
      · exact r3.keep (KeepW.nil T3.toKeepW)
      · exact r4.keep (KeepW.nil T4.toKeepW)
      · exact r5.keep (KeepW.nil T5.toKeepW)
      · exact r6.keep (KeepW.nil T6.toKeepW)
      · exact r7.keep (KeepW.nil T7.toKeepW)
      · exact r8.keep (KeepW.nil T8.toKeepW)
      · exact r9.keep (KeepW.nil T9.toKeepW)
      · exact r10.keep (KeepW.nil T10.toKeepW)
      · exact r11.keep (KeepW.nil T11.toKeepW)
      · exact r12.keep (KeepW.nil T12.toKeepW)
      · exact r13.keep (KeepW.nil T13.toKeepW)
      · exact r14.keep (KeepW.nil kl.toKeepW)
    refine ⟨_, rfl, _, rfl, p, g, c, n, l, _, rfl, dr.keep KK.toKeepW, by omega, hl, (kn.keep K14.toKeepW).out nl, by show 0 < 14; decide, by show 14 < 1000; decide, fun i v H1 hv k1 d1 => ?_⟩
    exact q v H1 ((all v (List.mem_of_getElem? hv)).keep k1) (KK.nil.trans k1) d1
end
end K17
set_option maxHeartbeats 2000000
namespace HG
open PySem PySem.Spec PyProof.Rows L2
theorem gI_mul {d a b : Int} (h : 0 ≤ d) : gI (d * a) (d * b) = d * gI a b := by
  show ((Nat.gcd (d * a).natAbs (d * b).natAbs : Nat) : Int) = d * ((Nat.gcd a.natAbs b.natAbs : Nat) : Int)
  rw [Int.natAbs_mul, Int.natAbs_mul, Nat.gcd_mul_left, Int.natCast_mul, Int.natAbs_of_nonneg h]
end HG
namespace K17
open PySem PySem.Spec PyProof.Rows L2 HG
section
variable {P : Program} {w : World} {K : PySem.W.Frag} {mg : Str → Option Value} {base : Heap}
def sp_noprice (K : PySem.W.Frag) : Sp := fun vs H Q _ => ∃ p g c n, vs = [.ref p] ∧ Draw H p g c n ∧ n < 999999980 ∧
  ∀ v H', PriceS [p, g] K H' v false → Keep [p, g] H H' → Draw H' p g c (n + 5) → Q v H'
theorem ok_noprice (D : Def K mg "_law_no_price" s_l_no_price ["_law_draw"]) (CT : CTake P w K mg base) (CP : CPick P w K mg base)
    (CS : Callee P w K mg base CX0 4 "_law_strange" ["_law_draw"] (sp_strange K)) : Callee P w K mg base CX0 5 "_law_no_price" ["_law_draw"] (sp_noprice K) := by
  refine D.ok sc_l_no_price (fun vs H Q E h => ?_) (fun f cdv A outer s H vs Q E hr h => ?_)
  · obtain ⟨p, g, c, n, rfl, _⟩ := h
    rfl
  · obtain ⟨p, g, c, n, rfl, dr, small, q⟩ := h
    have nd := sc_l_no_price.nd
    refine ⟨_, pss_cons (ps_par (i := 1) (j := 2) rfl nd rfl rfl (by decide) rfl rfl (pa_cons (pe_op op_add pe_int (pe_c CT hr (pa_cons (pv 0) (pa_cons pe_int pa_nil))))
          (pa_cons (pe_op op_add pe_int (pe_c CT hr (pa_cons (pv 0) (pa_cons pe_int pa_nil)))) pa_nil)) (by rfl))
      (pss_cons (ps_set (i := 3) nd rfl (.inl rfl) (pe_op op_add pe_int (pe_c CT hr (pa_cons (pv 0) (pa_cons pe_int pa_nil)))))
      (pss_cons (ps_set (i := 4) nd rfl (.inl rfl) (pe_lst
        (pa_cons (pe_tup (pa_cons pe_int (pa_cons pe_int pa_nil)))
        (pa_cons (pe_tup (pa_cons (pe_op op_sub pe_int (pv 1)) (pa_cons (pv 2) pa_nil)))
        (pa_cons (pe_tup (pa_cons (pv 1) (pa_cons (pe_op op_sub pe_int (pv 2)) pa_nil)))
        (pa_cons (pe_tup (pa_cons (pe_op op_mul (pv 3) (pv 1)) (pa_cons (pe_op op_mul (pv 3) (pv 2)) pa_nil)))
        (pa_cons (pe_tup (pa_cons (pv 3) (pa_cons pe_int pa_nil)))
        (pa_cons (pe_tup (pa_cons pe_int (pa_cons (pv 3) pa_nil)))
        (pa_cons (pe_tup (pa_cons (pe_un un_neg pe_int) (pa_cons pe_int pa_nil)))
        (pa_cons (pe_c CS hr (pa_cons (pv 0) pa_nil)) pa_nil))))))))))
      (pss_one (ps_ret (pe_c CP hr (pa_cons (pv 0) (pa_cons (pv 4) pa_nil))))))), ?_⟩
    refine ⟨_, rfl, p, g, c, n, 9, rfl, dr, by omega, by decide, by decide, fun x H1 x0 x1 k1 d1 => ⟨_, _, rfl, rfl, ?_⟩⟩
    refine ⟨_, rfl, p, g, c, n + 1, 9, rfl, d1, by omega, by decide, by decide, fun y H2 y0 y1 k2 d2 => ⟨_, _, rfl, rfl, _, _, rfl, ?_⟩⟩
    refine ⟨_, rfl, p, g, c, n + 1 + 1, 5, rfl, d2, by omega, by decide, by decide, fun z H3 z0 z1 k3 d3 => ⟨_, _, rfl, rfl, ?_⟩⟩
    dsimp only [gName]
    have KD := (k1.trans k2).trans k3
    have kn := d3.known
    let R : Hp → V → Prop := fun H v => PriceS [p, g] K H v false
    refine begin_list ?_
    have tup : ∀ (i j : Int) (H4 : Hp), i < 2 ^ 60 → j < 2 ^ 60 → ¬ (0 ≤ i ∧ 0 ≤ j ∧ gI i j = 1) → ∀ Q1 : VK,
        (∀ v H5, Keep [] H4 H5 → R H5 v → Q1 v H5) → 2 ≤ sizeLine ∧ ∀ a, H4 a = none → Q1 (.ref a) (upd H4 a (.tup [.int i, .int j])) := fun i j H4 hi hj b Q1 q1 =>
      ⟨by decide, fun a na => q1 _ _ (Keep.new na) (.bad Pr.new hi hj b)⟩
    have g2 : ∀ a b : Int, gI ((2 + z) * a) ((2 + z) * b) = (2 + z) * gI a b := fun a b => gI_mul (by omega)
    have one_of : ∀ m : Int, 0 ≤ m → (2 + z) * m ≠ 1 := fun m m0 e => by
      have : m = 0 ∨ 1 ≤ m := by omega
      rcases this with rfl | h
      · rw [Int.mul_zero] at e
        omega
      · have := Int.mul_le_mul_of_nonneg_left h (show (0 : Int) ≤ 2 + z by omega)
        omega
    have small_mul : ∀ m : Int, 0 ≤ m → m < 10 → (2 + z) * m < 2 ^ 60 := fun m m0 m1 => by
      have h1 : (2 + z) * m ≤ 7 * m := Int.mul_le_mul_of_nonneg_right (by omega) m0
      omega
    refine list_step (R := R) (H0 := H3) (fun H4 k Q1 q1 => tup 0 0 H4 (by decide) (by decide) (fun h => absurd h.2.2 (by decide)) Q1 q1) Keep.refl fun v1 h1 c1 r1 => ?_
    refine list_step (R := R) (H0 := H3) (fun H4 k Q1 q1 => ⟨_, rfl, _, _, rfl, rfl, _, rfl, tup _ _ H4 (by omega) (by omega) (fun h => by have := h.1; omega) Q1 q1⟩) c1 fun v2 h2 c2 r2 => ?_
    have C2 := c1.trans c2
    refine list_step (R := R) (H0 := H3) (fun H4 k Q1 q1 => ⟨_, rfl, _, rfl, _, _, rfl, rfl, tup _ _ H4 (by omega) (by omega) (fun h => by have := h.2.1; omega) Q1 q1⟩) C2 fun v3 h3 c3 r3 => ?_
    have C3 := C2.trans c3
    refine list_step (R := R) (H0 := H3) (fun H4 k Q1 q1 => ⟨_, rfl, _, rfl, _, _, rfl, rfl, .inl ⟨by omega, by omega⟩, _, rfl, _, rfl, _, _, rfl, rfl, .inl ⟨by omega, by omega⟩,
      tup _ _ H4 (small_mul _ (by omega) (by omega)) (small_mul _ (by omega) (by omega)) (fun h => by
        have e := h.2.2
        rw [g2] at e
        exact one_of _ (Int.natCast_nonneg _) e) Q1 q1⟩) C3 fun v4 h4 c4 r4 => ?_
    have C4 := C3.trans c4
    refine list_step (R := R) (H0 := H3) (fun H4 k Q1 q1 => ⟨_, rfl, tup (2 + z) 0 H4 (by omega) (by decide) (fun h => by
        have e := h.2.2
        rw [gI_zero (by omega)] at e
        omega) Q1 q1⟩) C4 fun v5 h5 c5 r5 => ?_
    have C5 := C4.trans c5
    refine list_step (R := R) (H0 := H3) (fun H4 k Q1 q1 => ⟨_, rfl, tup 0 (2 + z) H4 (by decide) (by omega) (fun h => by
        have e := h.2.2
        rw [gI_zero' (by omega)] at e
        omega) Q1 q1⟩) C5 fun v6 h6 c6 r6 => ?_
    have C6 := C5.trans c6
    refine list_step (R := R) (H0 := H3) (fun H4 k Q1 q1 => ⟨_, rfl, tup (-1) 0 H4 (by decide) (by decide) (fun h => absurd h.1 (by decide)) Q1 q1⟩) C6 fun v7 h7 c7 r7 => ?_
    have C7 := C6.trans c7
    refine ⟨_, rfl, p, g, c, n + 1 + 1 + 1, rfl, d3.keep C7.toKeepW, by omega, fun v8 h8 pb k8 d8 => ?_⟩
    refine ⟨by show 8 ≤ sizeLine; decide, fun l nl => ?_⟩
    have kl : Keep [] h8 (upd h8 l (.lst [v1, v2, v3, v4, v5, v6, v7, v8])) := Keep.new nl
    have hl : SqL K (upd h8 l (.lst [v1, v2, v3, v4, v5, v6, v7, v8])) l _ := .inl (.inl upd_same)
    have T7 : Keep [p, g] h7 _ := k8.trans kl.nil
    have T6 := (c7.nil (ex := [p, g])).trans T7
    have T5 := (c6.nil (ex := [p, g])).trans T6
    have T4 := (c5.nil (ex := [p, g])).trans T5
    have T3 := (c4.nil (ex := [p, g])).trans T4
    have T2 := (c3.nil (ex := [p, g])).trans T3
    have T1 := (c2.nil (ex := [p, g])).trans T2
    have KK : Keep [p, g] H _ := (KD.trans (C7.nil (ex := [p, g]))).trans T7
    have dl := d8.keep kl.toKeepW
    have out := d8.known.out nl
    generalize upd h8 l (.lst [v1, v2, v3, v4, v5, v6, v7, v8]) = HH at kl hl T1 T2 T3 T4 T5 T6 T7 KK dl ⊢
    have all : ∀ x ∈ [v1, v2, v3, v4, v5, v6, v7, v8], R HH x := by
      intro x hx
      simp only [List.mem_cons, List.not_mem_nil, or_false] at hx
      rcases hx with rfl | rfl | rfl | rfl | rfl | rfl | rfl | rfl
      · exact r1.keep T1
      · exact r2.keep T2
      · exact r3.keep T3
      · exact r4.keep T4
      · exact r5.keep T5
      · exact r6.keep T6
      · exact r7.keep T7
      · exact .no (pb.keep (KeepW.nil kl.toKeepW))
    refine ⟨_, rfl, _, rfl, p, g, c, n + 1 + 1 + 1 + 1, l, _, rfl, dl, by omega, hl, out, by show 0 < 8; decide, by show 8 < 1000; decide, fun i v H4 hv k4 d4 => ?_⟩
    exact q v H4 ((all v (List.mem_of_getElem? hv)).keep k4) (KK.trans k4) (d4.mono (by omega))
end
end K17
set_option maxHeartbeats 2000000
namespace HG
open PySem PySem.Spec PyProof.Rows L2 LamX
/-- caught: what the task's exception becomes -/
def TTc (K : PySem.W.Frag) (CE : Addr) : (XK → Hp → VK → Prop) → Hp → VK → Prop := fun tl H Q =>
  tl (fun cls d H' => PySem.W.exmOne K cls (.ref CE) = some true ∧ ∀ a, H' a = none → Q (.ref a) (upd H' a (Exn cls d a))) H
    fun _ H' => ∃ v, (some (some V.non) : Option (Option V)) = some (some v) ∧ Q v H'
theorem extN_keep {ex : List Addr} {H H' : Hp} (e : ExtN H H') : KeepW ex H H' :=
  ⟨fun a o h _ t => e a o h t, fun a xs h => e a _ h (fun _ z => nomatch z), fun a o u h => e a _ h (fun _ z => nomatch z), fun a o h t => ⟨o, e a o h t, t⟩⟩
end HG
namespace K17
open PySem PySem.Spec PyProof.Rows L2 HG LamX
theorem caught_gives {X : Cx} {g CE : Addr} {cdg : Value} {q : Str} (m : X.mg "ClockError" = some (.ref CE)) :
    GivesTo X ["_law_task", "_law_caught_here", "error"] "_law_caught" (defScope s_l_caught) g cdg (defBody s_l_caught) "_law_task" q (TTc X.K CE) := by
  intro f c' s H Q tl act hc h
  have nd := sc_l_caught.nd
  refine ⟨_, pss_cons (ps_set (i := 1) nd rfl (.inl rfl) pe_non)
    (pss_cons (ps_try_keep (i := 2) (c := .ref CE) (X := (cxOf C8.CX0 X.prog X.w X.K X.mg X.base ["_law_task", "_law_caught_here", "error"] "_law_caught" (defScope s_l_caught) g cdg X.A X.stack s H C8.E0).nox)
      (tb := fun W D σ H => ∃ Ech : XK, (∀ cls d σ' H', Ech cls d H' → W cls d σ' H') ∧ σ[0]? = some (some (.ref f)) ∧ H c' = some (CodeO c' q) ∧ tl Ech H (fun _ H' => D.nx σ H'))
      rfl rfl rfl nd rfl rfl ⟨rfl, by decide, .inl m⟩ (fun W pn xe tk _ => ?_)
      (fun a pn => pss_one (ps_set (i := 1) nd rfl (.inl rfl) (pv 2))))
    (pss_one (ps_ret (pv 1)))), ?_⟩
  · refine ⟨fun pins s' σ H' D I h' => ?_⟩
    obtain ⟨Ech, hW, h1, h2, h3⟩ := h'
    exact (pss_one (ps_expr (act W pn xe Ech _ _ tk hW))).run pins s' σ H' D I ⟨h1, h2, h3⟩
  · refine ⟨fun cls d H' => PySem.W.exmOne X.K cls (.ref CE) = some true ∧ ∀ a, H' a = none → Q (.ref a) (upd H' a (Exn cls d a)), fun cls d σ' H' hE => ⟨hE.1, fun len a na => ?_⟩, rfl, hc, ?_⟩
    · match σ', len with
      | [x0, x1, x2], _ => exact ⟨.ref a, rfl, .ref a, rfl, hE.2 a na⟩
    · exact h
end K17
set_option maxHeartbeats 2000000
namespace HG
open PySem PySem.Spec PyProof.Rows L2 LamX
theorem tabs_keep {T : List (Addr × Str)} {ex : List Addr} {H H' : Hp} (k : Keep ex H H') (nx : ∀ a ∈ ex, ∀ φ, H a ≠ some (.ext φ)) (t : Tabs T H) : Tabs T H' := fun pq m => by
  obtain ⟨ps, e, ok, among⟩ := t pq m
  refine ⟨ps, k.tbl _ _ e, ok, fun pos cv hc => ?_⟩
  obtain ⟨c, ec, hcc⟩ := among pos cv hc
  refine ⟨c, ec, ?_⟩
  unfold CodeO at hcc ⊢
  exact k.get hcc (fun m => nx c m _ hcc)
theorem Draw.noExt {H : Hp} {p g c : Addr} {n : Int} (d : Draw H p g c n) : ∀ a ∈ [p, g], ∀ φ, H a ≠ some (.ext φ) := by
  obtain ⟨_, gs, cs, left, turn, e1, e2, e3, _⟩ := d
  intro a m φ
  rcases List.mem_cons.mp m with rfl | m
  · rw [e1]
    exact fun z => nomatch z
  · rcases List.mem_cons.mp m with rfl | m
    · rw [e2]
      exact fun z => nomatch z
    · cases m
theorem nilExt {H : Hp} : ∀ a ∈ ([] : List Addr), ∀ φ, H a ≠ some (.ext φ) := fun _ m => nomatch m
/-- an own error class: raised, caught by the package's base class, and told apart -/
structure ErrX (K : PySem.W.Frag) (mg : Str → Option Value) (CE : Addr) (x : Str) (C : Addr) : Prop extends ErrC K mg x C where
  is : ExcC K C
  hit : PySem.W.exmOne K (.ref C) (.ref CE) = some true
  own : PySem.W.kitOne K (.ref C) (.ref C) = some true
/-- not isinstance(caught(lambda: ..), C): the task raises C -/
theorem refuse_step {K : PySem.W.Frag} {mg : Str → Option Value} {CE C : Addr} {x : Str} {T : List (Addr × Str)} {t : XK → TE} {D : Ends} {σ : L2.St} {H : Hp} {yes : TS} {ex : List Addr}
    (c : ErrX K mg CE x C) (hT : Tabs T H)
    (run : ∀ H1 Q E, KeepW ex H H1 → (∀ H2, Keep [] H1 H2 → E (.ref C) none H2) → t E σ H1 Q)
    (next : ∀ H', KeepW ex H H' → Tabs T H' → D.nx σ H') :
    tIfS (tNot (tB (tCB (rIsX K) (tCons (tLam T (TTc K CE) t) (tCons (tC (.ref C)) tNil))))) yes tNext D σ H := by
  refine ⟨hT, fun H1 eN T1 => ?_⟩
  refine run H1 _ _ (extN_keep eN) fun H2 k2 => ⟨c.hit, fun a na => ?_⟩
  have k3 : Keep [] H1 (upd H2 a (Exn (.ref C) none a)) := k2.trans (Keep.new na)
  exact ⟨a, C, C, true, rfl, upd_same, c.is, c.own, true, rfl, next _ ((extN_keep eN).trans k3.nil.toKeepW) (tabs_keep k3 nilExt T1)⟩
theorem refuse_seq {K : PySem.W.Frag} {mg : Str → Option Value} {CE C : Addr} {x : Str} {T : List (Addr × Str)} {t : XK → TE} {D : Ends} {σ : L2.St} {H : Hp} {yes rest : TS}
    (c : ErrX K mg CE x C) (hT : Tabs T H)
    (run : ∀ H1 Q E, KeepW [] H H1 → (∀ H2, Keep [] H1 H2 → E (.ref C) none H2) → t E σ H1 Q)
    (next : ∀ H', KeepW [] H H' → Tabs T H' → rest D σ H') :
    tSeq (tIfS (tNot (tB (tCB (rIsX K) (tCons (tLam T (TTc K CE) t) (tCons (tC (.ref C)) tNil))))) yes tNext) rest D σ H :=
  refuse_step (D := { D with nx := rest D }) c hT run next
/-- the same as a value -/
theorem refuse_value {K : PySem.W.Frag} {mg : Str → Option Value} {CE C : Addr} {x : Str} {T : List (Addr × Str)} {t : XK → TE} {σ : L2.St} {H : Hp} {Q : VK} {ex : List Addr}
    (c : ErrX K mg CE x C) (hT : Tabs T H)
    (run : ∀ H1 Q E, KeepW ex H H1 → (∀ H2, Keep [] H1 H2 → E (.ref C) none H2) → t E σ H1 Q)
    (next : ∀ H', KeepW ex H H' → Tabs T H' → Q (.bl true) H') :
    tCB (rIsX K) (tCons (tLam T (TTc K CE) t) (tCons (tC (.ref C)) tNil)) σ H Q := by
  refine ⟨hT, fun H1 eN T1 => ?_⟩
  refine run H1 _ _ (extN_keep eN) fun H2 k2 => ⟨c.hit, fun a na => ?_⟩
  have k3 : Keep [] H1 (upd H2 a (Exn (.ref C) none a)) := k2.trans (Keep.new na)
  exact ⟨a, C, C, true, rfl, upd_same, c.is, c.own, next _ ((extN_keep eN).trans k3.nil.toKeepW) (tabs_keep k3 nilExt T1)⟩
/-- a def that makes lambdas: its code object stands at c -/
structure DefC (K : PySem.W.Frag) (mg : Str → Option Value) (x : Str) (st : Stmt) (ps : List Str) (c : Addr) : Prop where
  ex : ∃ (f : Addr) (oc : Value) (od : Option Addr) (kV doc pm : Value) (an : Option Addr) (ct : Value) (osl : Array (Option Value)),
    K.lookup f = some ⟨oc, od, .func (PySem.W.fnOf x x (defArgs st) (defBody st) (defScope st) .none kV doc pm an (.ref c) ct), osl⟩ ∧
    PySem.W.codeIn K (.ref c) x = true ∧ PySem.W.keepIn K (.ref f) = true ∧ mg x = some (.ref f) ∧
    Binds K (PySem.W.fnOf x x (defArgs st) (defBody st) (defScope st) .none kV doc pm an (.ref c) ct) ps []
section
variable {P : Program} {w : World} {K : PySem.W.Frag} {mg : Str → Option Value} {base : Heap}
theorem DefC.ok {x : Str} {st : Stmt} {N ps : List Str} {k : Nat} {sp : Sp} {c : Addr} (D : DefC K mg x st ps c) (S : FnScope N ps (defScope st))
    (len : ∀ vs H Q E, sp vs H Q E → vs.length = ps.length)
    (body : ∀ (f : Addr) (A : Around) (outer : List Env) (s : Shared) (H : Hp) (vs : List V) (Q : VK) (E : XK),
      Room k (A.deeper (envOfC x (defScope st) s.heap.objs.size f (.ref c))) → sp vs H Q E →
      ∃ t, PSs (cxOf CX0 P w K mg base N x (defScope st) f (.ref c) A outer s H E).nox (defBody st) t ∧
        t { nx := fun _ H' => Q .non H', rt := Q } (start N vs) H) :
    Callee P w K mg base CX0 (k + 1) x ps sp := by
  obtain ⟨f, oc, od, kV, doc, pm, an, ct, osl, lk, cd, kp, m, b⟩ := D.ex
  refine ⟨f, _, fn_of lk cd S len fun A outer s H vs Q E hr h => ?_, m, kp, b, ⟨_, _, _, lk⟩⟩
  obtain ⟨t, ht, q⟩ := body f A outer s H vs Q E hr h
  exact ⟨t, ht.nox, q⟩
theorem DefC.okP {x : Str} {st : Stmt} {N ps : List Str} {k : Nat} {sp : Sp} {c : Addr} (D : DefC K mg x st ps c) (S : FnScope N ps (defScope st))
    (len : ∀ vs H Q E, sp vs H Q E → vs.length = ps.length)
    (body : ∀ (f : Addr) (A : Around) (outer : List Env) (s : Shared) (H : Hp) (vs : List V) (Q : VK) (E : XK),
      NoG (A.deeper (envOfC x (defScope st) s.heap.objs.size f (.ref c))) →
      Room k (A.deeper (envOfC x (defScope st) s.heap.objs.size f (.ref c))) → sp vs H Q E →
      ∃ t, PSs (cxOf CX0 P w K mg base N x (defScope st) f (.ref c) A outer s H E).nox (defBody st) t ∧
        t { nx := fun _ H' => Q .non H', rt := Q } (start N vs) H) :
    CalleeP P w K mg base CX0 (k + 1) x ps sp := by
  obtain ⟨f, oc, od, kV, doc, pm, an, ct, osl, lk, cd, kp, m, b⟩ := D.ex
  refine ⟨f, _, ⟨len, fun A frames s H given us vs Q E room ng e0 hb hv hs => ?_⟩, m, kp, b, ⟨_, _, _, lk⟩⟩
  refine LamX.run_ofS lk cd S room e0 hb hv (len _ _ _ _ hs) fun room' => ?_
  obtain ⟨t, h, q⟩ := body f A frames s H vs Q E ng room' hs
  exact ⟨t, h.nox, q⟩
end
theorem passL2 {X : Cx} {A : Around} {outer : List Env} {s : Shared} {H : Hp} {E : XK} {scope : Scope} {f c' : Addr} :
    Passes (L2.CX X.prog X.w) (lamCx X A outer s H E scope f c') E :=
  passes_call (W := fun cls d _ H => E cls d H) (takes_of rfl rfl rfl rfl) (fun _ _ _ _ h => h)
end HG
namespace K17
open PySem PySem.Spec PyProof.Rows L2 HG LamX
/-- the law's def that catches -/
structure Catch (K : PySem.W.Frag) (mg : Str → Option Value) (CE : Addr) : Prop where
  ex : ∃ (g : Addr) (oc : Value) (od : Option Addr) (kV doc pm : Value) (an : Option Addr) (cdv ct : Value) (osl : Array (Option Value)),
    K.lookup g = some ⟨oc, od, .func (PySem.W.fnOf "_law_caught" "_law_caught" (defArgs s_l_caught) (defBody s_l_caught) (defScope s_l_caught) .none kV doc pm an cdv ct), osl⟩ ∧
    PySem.W.codeIn K cdv "_law_caught" = true ∧ PySem.W.keepIn K (.ref g) = true ∧ mg "_law_caught" = some (.ref g) ∧
    Binds K (PySem.W.fnOf "_law_caught" "_law_caught" (defArgs s_l_caught) (defBody s_l_caught) (defScope s_l_caught) .none kV doc pm an cdv ct) ["_law_task"] []
  ce : mg "ClockError" = some (.ref CE)
theorem pe_caught {X : Cx} {CE c P : Addr} {T : List (Addr × Str)} {k : Nat} {params : Arguments} {body : Expr} {scope : Scope} {t : XK → TE} {p lpos pos : Pos}
    (G : Catch X.K X.mg CE) (TB : TabB X.base X.mg c P) (hcode : X.env.code = .ref c) (hmT : (P, X.env.qual ++ "<lambda>") ∈ T)
    (hu : ∀ p ∈ T, p.1 = P → p.2 = X.env.qual ++ "<lambda>") (hr : Room (k + 2) X.A) (hg : Gl X "_law_caught") (L : LamS X.env.scope scope)
    (hdef : defaultsOf params X.env = ([], []))
    (hbind : ∀ (q : Str) (cl : List (Str × Addr)) (pm cv ctv : Value), bindArgs (PySem.W.kla_fn "<lambda>" q params body scope cl pm cv ctv) ⟨[], []⟩ = pure [])
    (hbody : ∀ (A : Around) (outer : List Env) (s : Shared) (H : Hp) (E : XK) (f c' : Addr), Room k (A.deeper (lamEnv X scope s.heap.objs.size f c')) → PE (lamCx X A outer s H E scope f c') body (t E)) :
    PE X (.Call (.Name "_law_caught" p) [.Lambda params body scope lpos] [] pos) (tLam T (TTc X.K CE) t) := by
  obtain ⟨g, oc, od, kV, doc, pm, an, cdv, ct, osl, lk, cd, kp, m, b⟩ := G.ex
  exact pe_lamcall hg m kp lk cd b sc_l_caught rfl (.inl rfl) (caught_gives G.ce) TB hcode hmT hu hr L hdef hbind hbody
theorem arg_list {ta : TA} {σ : L2.St} {H : Hp} {Q : List V → Hp → Prop}
    (h : ta σ H fun xs H1 => xs.length ≤ sizeLine ∧ ∀ p, H1 p = none → Q [.ref p] (upd H1 p (.lst xs))) : tCons (tLst ta) tNil σ H Q := h
section
variable {P : Program} {w : World} {K : PySem.W.Frag} {mg : Str → Option Value} {base : Heap}
/-- what is none of a number from 0 -/
def NumE (ex : List Addr) (K : PySem.W.Frag) (H : Hp) (v : V) : Prop := NumB ex K H v false ∨ ∃ i, v = .int i ∧ i < 0
theorem NumE.keep {ex : List Addr} {K : PySem.W.Frag} {H H' : Hp} {v : V} (k : KeepW ex H H') (h : NumE ex K H v) : NumE ex K H' v := by
  rcases h with h | h
  · exact .inl (h.keep (ex' := ex) k)
  · exact .inr h
theorem NumE.numC {ex : List Addr} {K : PySem.W.Frag} {H : Hp} {v : V} (h : NumE ex K H v) : NumC K H v false := by
  rcases h with h | h
  · exact .inl (h.less (fun _ m => nomatch m))
  · exact .inr h
def sp_refused (K : PySem.W.Frag) (T : List (Addr × Str)) : Sp := fun vs H Q _ => ∃ p g c n x y a b i j, vs = [.ref p, x, y] ∧ Draw H p g c n ∧ n < 999999000 ∧
  Pr K H x a b ∧ Pr K H y i j ∧ Sm a ∧ Sm b ∧ Sm i ∧ Sm j ∧ 0 ≤ i ∧ 0 ≤ j ∧ gI i j = 1 ∧ Tabs T H ∧
  ∀ H', KeepW [p, g] H H' → Tabs T H' → Draw H' p g c (n + 8) → Q (.bl true) H'
theorem Draw.keepW {H H' : Hp} {p g c : Addr} {n : Int} (k : KeepW [] H H') (d : Draw H p g c n) : Draw H' p g c n := d.keep k
theorem ok_refused {CE cc Pt : Addr} (D : DefC K mg "_law_refused" s_l_refused ["_law_draw", "_law_pair_here", "_law_spot_here"] cc) (G : Catch K mg CE) (zs : mg "isinstance" = none)
    (TB : TabB base mg cc Pt) {T : List (Addr × Str)} (hm : (Pt, (envOfC "_law_refused" (defScope s_l_refused) 0 0 .none).qual ++ "<lambda>") ∈ T)
    (hu : ∀ p ∈ T, p.1 = Pt → p.2 = (envOfC "_law_refused" (defScope s_l_refused) 0 0 .none).qual ++ "<lambda>")
    {CP CR CN CNA : Addr} (eP : ErrX K mg CE "BadPair" CP) (eR : ErrX K mg CE "BadPrice" CR) (eN : ErrX K mg CE "BadNumber" CN)
    (CT : CTake P w K mg base) (CK : CPick P w K mg base)
    (CNP : Callee P w K mg base CX0 5 "_law_no_price" ["_law_draw"] (sp_noprice K)) (CS : Callee P w K mg base CX0 4 "_law_strange" ["_law_draw"] (sp_strange K))
    (CW : Callee P w K mg base (L2.CX P w) 5 "worth" ["pair", "price"] (sp_worth K CP CR))
    (CA : Callee P w K mg base (L2.CX P w) 5 "is_ahead" ["one", "other"] (sp_isahead K CR))
    (CM : Callee P w K mg base (L2.CX P w) 5 "amid" ["one", "other"] (sp_amid K CR CNA))
    (CE_ : Callee P w K mg base (L2.CX P w) 4 "meeting" ["one", "other"] (sp_meeting K CP))
    (CQ : Callee P w K mg base (L2.CX P w) 2 "price_of" ["p", "q"] (sp_priceof K CN)) :
    Callee P w K mg base CX0 9 "_law_refused" ["_law_draw", "_law_pair_here", "_law_spot_here"] (sp_refused K T) := by
  refine D.ok sc_l_refused (fun vs H Q E h => ?_) (fun f A outer s H vs Q E hr h => ?_)
  · obtain ⟨p, g, c, n, x, y, a, b, i, j, rfl, _⟩ := h
    rfl
  obtain ⟨p, g, c, n, x, y, a, b, i, j, rfl, dr, small, px, py, sa, sb, si, sj, i0, j0, gij, tabs, q⟩ := h
  have nd := sc_l_refused.nd
  have L : ∀ {scope : Scope}, lamSB (defScope s_l_refused) scope = true → LamS (defScope s_l_refused) scope := fun h => lamS_by h
  refine ⟨_, pss_cons (ps_asg (pe_tup (pa_cons (pe_c CNP hr (pa_cons (pv 0) pa_nil)) (pa_cons (pe_c CS hr (pa_cons (pv 0) pa_nil)) pa_nil)))
      (pg_tup rfl (pgs_cons (pg_name (i := 3) nd rfl (.inr rfl)) (pgs_cons (pg_name (i := 5) nd rfl (.inr rfl)) pgs_nil))))
    (pss_cons (ps_if (pt_not (pt_val (pe_callB call_isX (by rfl) zs (by decide +kernel) (pa_cons (pe_caught (T := T) (k := 6) G TB rfl hm hu hr rfl (L (by decide +kernel)) rfl (fun _ _ _ _ _ => rfl)
        (fun A outer s H E f c' hr' => pe_cE CW hr' passL2 (pa_cons (pv 5) (pa_cons (pv 3) pa_nil)))) (pa_cons (pe_glob (v := .ref CP) rfl eP.at_ rfl) pa_nil))))) (pss_one (ps_ret pe_bl)) pss_nil)
    (pss_cons (ps_if (pt_not (pt_val (pe_callB call_isX (by rfl) zs (by decide +kernel) (pa_cons (pe_caught (T := T) (k := 6) G TB rfl hm hu hr rfl (L (by decide +kernel)) rfl (fun _ _ _ _ _ => rfl)
        (fun A outer s H E f c' hr' => pe_cE CW hr' passL2 (pa_cons (pv 1) (pa_cons (pv 3) pa_nil)))) (pa_cons (pe_glob (v := .ref CR) rfl eR.at_ rfl) pa_nil))))) (pss_one (ps_ret pe_bl)) pss_nil)
    (pss_cons (ps_if (pt_not (pt_val (pe_callB call_isX (by rfl) zs (by decide +kernel) (pa_cons (pe_caught (T := T) (k := 6) G TB rfl hm hu hr rfl (L (by decide +kernel)) rfl (fun _ _ _ _ _ => rfl)
        (fun A outer s H E f c' hr' => pe_cE CA hr' passL2 (pa_cons (pv 3) (pa_cons (pv 2) pa_nil)))) (pa_cons (pe_glob (v := .ref CR) rfl eR.at_ rfl) pa_nil))))) (pss_one (ps_ret pe_bl)) pss_nil)
    (pss_cons (ps_if (pt_not (pt_val (pe_callB call_isX (by rfl) zs (by decide +kernel) (pa_cons (pe_caught (T := T) (k := 6) G TB rfl hm hu hr rfl (L (by decide +kernel)) rfl (fun _ _ _ _ _ => rfl)
        (fun A outer s H E f c' hr' => pe_cE CA hr' passL2 (pa_cons (pv 2) (pa_cons (pv 3) pa_nil)))) (pa_cons (pe_glob (v := .ref CR) rfl eR.at_ rfl) pa_nil))))) (pss_one (ps_ret pe_bl)) pss_nil)
    (pss_cons (ps_if (pt_not (pt_val (pe_callB call_isX (by rfl) zs (by decide +kernel) (pa_cons (pe_caught (T := T) (k := 6) G TB rfl hm hu hr rfl (L (by decide +kernel)) rfl (fun _ _ _ _ _ => rfl)
        (fun A outer s H E f c' hr' => pe_cE CM hr' passL2 (pa_cons (pv 3) (pa_cons (pv 2) pa_nil)))) (pa_cons (pe_glob (v := .ref CR) rfl eR.at_ rfl) pa_nil))))) (pss_one (ps_ret pe_bl)) pss_nil)
    (pss_cons (ps_if (pt_not (pt_val (pe_callB call_isX (by rfl) zs (by decide +kernel) (pa_cons (pe_caught (T := T) (k := 6) G TB rfl hm hu hr rfl (L (by decide +kernel)) rfl (fun _ _ _ _ _ => rfl)
        (fun A outer s H E f c' hr' => pe_cE CM hr' passL2 (pa_cons (pv 2) (pa_cons (pv 3) pa_nil)))) (pa_cons (pe_glob (v := .ref CR) rfl eR.at_ rfl) pa_nil))))) (pss_one (ps_ret pe_bl)) pss_nil)
    (pss_cons (ps_if (pt_not (pt_val (pe_callB call_isX (by rfl) zs (by decide +kernel) (pa_cons (pe_caught (T := T) (k := 6) G TB rfl hm hu hr rfl (L (by decide +kernel)) rfl (fun _ _ _ _ _ => rfl)
        (fun A outer s H E f c' hr' => pe_cE CE_ hr' passL2 (pa_cons (pv 5) (pa_cons (pv 1) pa_nil)))) (pa_cons (pe_glob (v := .ref CP) rfl eP.at_ rfl) pa_nil))))) (pss_one (ps_ret pe_bl)) pss_nil)
    (pss_cons (ps_if (pt_not (pt_val (pe_callB call_isX (by rfl) zs (by decide +kernel) (pa_cons (pe_caught (T := T) (k := 6) G TB rfl hm hu hr rfl (L (by decide +kernel)) rfl (fun _ _ _ _ _ => rfl)
        (fun A outer s H E f c' hr' => pe_cE CE_ hr' passL2 (pa_cons (pv 1) (pa_cons (pv 5) pa_nil)))) (pa_cons (pe_glob (v := .ref CP) rfl eP.at_ rfl) pa_nil))))) (pss_one (ps_ret pe_bl)) pss_nil)
    (pss_cons (ps_set (i := 4) nd rfl (.inr rfl) (pe_c CK hr (pa_cons (pv 0) (pa_cons (pe_lst (pa_cons pe_non (pa_cons pe_bl (pa_cons pe_bl (pa_cons pe_str (pa_cons (pe_tup (pa_cons pe_int pa_nil))
      (pa_cons (pe_lst (pa_cons pe_int pa_nil)) (pa_cons (pe_un un_neg pe_int) (pa_cons (pe_op op_sub (pe_op op_sub pe_int pe_int) (pe_c CT hr (pa_cons (pv 0) (pa_cons (pe_op op_pow pe_int pe_int) pa_nil)))) pa_nil))))))))) pa_nil))))
    (pss_cons (ps_if (pt_not (pt_val (pe_callB call_isX (by rfl) zs (by decide +kernel) (pa_cons (pe_caught (T := T) (k := 6) G TB rfl hm hu hr rfl (L (by decide +kernel)) rfl (fun _ _ _ _ _ => rfl)
        (fun A outer s H E f c' hr' => pe_cE CQ hr' passL2 (pa_cons (pv 4) (pa_cons (pe_int) pa_nil)))) (pa_cons (pe_glob (v := .ref CN) rfl eN.at_ rfl) pa_nil))))) (pss_one (ps_ret pe_bl)) pss_nil)
    (pss_cons (ps_if (pt_not (pt_val (pe_callB call_isX (by rfl) zs (by decide +kernel) (pa_cons (pe_caught (T := T) (k := 6) G TB rfl hm hu hr rfl (L (by decide +kernel)) rfl (fun _ _ _ _ _ => rfl)
        (fun A outer s H E f c' hr' => pe_cE CQ hr' passL2 (pa_cons (pe_int) (pa_cons (pv 4) pa_nil)))) (pa_cons (pe_glob (v := .ref CN) rfl eN.at_ rfl) pa_nil))))) (pss_one (ps_ret pe_bl)) pss_nil)
    (pss_one (ps_ret (pe_callB call_isX (by rfl) zs (by decide +kernel) (pa_cons (pe_caught (T := T) (k := 6) G TB rfl hm hu hr rfl (L (by decide +kernel)) rfl (fun _ _ _ _ _ => rfl)
        (fun A outer s H E f c' hr' => pe_cE CQ hr' passL2 (pa_cons (pe_int) (pa_cons (pe_int) pa_nil)))) (pa_cons (pe_glob (v := .ref CN) rfl eN.at_ rfl) pa_nil)))))))))))))))), ?_⟩
  refine ⟨_, rfl, p, g, c, n, rfl, dr, by omega, fun bad H1 pb k1 d1 => ?_⟩
  refine ⟨_, rfl, p, g, c, n + 5, rfl, d1, by omega, fun odd H2 po k2 d2 => ⟨by show 2 ≤ sizeLine; decide, fun t nt => ?_⟩⟩
  have kt : Keep [] H2 (upd H2 t (.tup [bad, odd])) := Keep.new nt
  refine ⟨t, [bad, odd], rfl, .inl (.inl upd_same), rfl, bad, [odd], rfl, odd, [], rfl, rfl, ?_⟩
  have kk : Keep [p, g] H _ := (k1.trans k2).trans kt.nil
  have d3 := d2.keep kt.toKeepW
  have px3 := px.keep kk.toKeepW
  have py3 := py.keep kk.toKeepW
  have pb3 := pb.keep ((k2.trans kt.nil).toKeepW)
  have po3 := po.keep (kt.nil (ex := [p, g])).toKeepW
  have tb3 := tabs_keep kk dr.noExt tabs
  generalize upd H2 t (.tup [bad, odd]) = H3 at kk d3 px3 py3 pb3 po3 tb3 ⊢
  dsimp only [gName]
  have less : ∀ x ∈ ([] : List Addr), x ∈ [p, g] := fun _ m => nomatch m
  have oddB : ∀ {H'}, KeepW [] H3 H' → PairB [] K H' odd false := fun k => (po3.keep k.nil).less less
  have badB : ∀ {H'}, KeepW [] H3 H' → PriceB [] K H' bad false := fun k => ((pb3.keep k.nil).less less).priceB
  have spotB : ∀ {H'}, KeepW [] H3 H' → PriceB [] K H' y true := fun k => .of (py3.keep k) i0 j0 gij
  have pairB : ∀ {H'}, KeepW [] H3 H' → PairB [] K H' x true := fun k => (px3.keep k).pairB
  have nof : ∀ {A : Prop}, false = true → A := fun z => nomatch z
  have noft : ∀ {A : Prop}, true = false → A := fun z => nomatch z
  -- worth(odd, bad)
  refine refuse_seq eP tb3 (fun H4 Q4 E4 k4 h4 => ⟨_, rfl, _, rfl, odd, bad, false, false, rfl, oddB k4, fun _ => h4 _ Keep.refl, nof⟩) (fun A1 w1 t1 => ?_)
  -- worth(pair, bad)
  refine refuse_seq eR t1 (fun H4 Q4 E4 k4 h4 => ⟨_, rfl, _, rfl, x, bad, true, false, rfl, pairB (w1.trans k4), noft, fun _ => ⟨badB (w1.trans k4), fun _ => h4 _ Keep.refl, nof⟩⟩) (fun A2 v2 t2 => ?_)
  have w2 := w1.trans v2
  -- is_ahead(bad, spot)
  refine refuse_seq eR t2 (fun H4 Q4 E4 k4 h4 => ⟨_, rfl, _, rfl, bad, y, false, false, rfl, badB (w2.trans k4), fun _ => h4 _ Keep.refl, nof⟩) (fun A3 v3 t3 => ?_)
  have w3 := w2.trans v3
  refine refuse_seq eR t3 (fun H4 Q4 E4 k4 h4 => ⟨_, rfl, _, rfl, y, bad, true, false, rfl, spotB (w3.trans k4), noft, fun _ => ⟨badB (w3.trans k4), fun _ => h4 _ Keep.refl, nof⟩⟩) (fun A4 v4 t4 => ?_)
  have w4 := w3.trans v4
  -- amid
  refine refuse_seq eR t4 (fun H4 Q4 E4 k4 h4 => ⟨_, rfl, _, rfl, bad, y, false, false, rfl, badB (w4.trans k4), fun _ => h4 _ Keep.refl, nof⟩) (fun A5 v5 t5 => ?_)
  have w5 := w4.trans v5
  refine refuse_seq eR t5 (fun H4 Q4 E4 k4 h4 => ⟨_, rfl, _, rfl, y, bad, true, false, rfl, spotB (w5.trans k4), noft, fun _ => ⟨badB (w5.trans k4), fun _ => h4 _ Keep.refl, nof⟩⟩) (fun A6 v6 t6 => ?_)
  have w6 := w5.trans v6
  -- meeting
  refine refuse_seq eP t6 (fun H4 Q4 E4 k4 h4 => ⟨_, rfl, _, rfl, odd, x, false, false, rfl, oddB (w6.trans k4), fun _ => h4 _ Keep.refl, nof⟩) (fun A7 v7 t7 => ?_)
  have w7 := w6.trans v7
  refine refuse_seq eP t7 (fun H4 Q4 E4 k4 h4 => ⟨_, rfl, _, rfl, x, odd, true, false, rfl, pairB (w7.trans k4), noft, fun _ => ⟨oddB (w7.trans k4), fun _ => h4 _ Keep.refl, nof⟩⟩) (fun A8 v8 t8 => ?_)
  have w8 := w7.trans v8
  have d8 := d3.keep w8
  -- the number that is none
  let R : Hp → V → Prop := fun H v => NumE [p, g] K H v
  have kn := d8.known
  have keepR : ∀ {H H' v}, KeepW [p, g] H H' → R H v → R H' v := fun k r => NumE.keep k r
  refine ⟨_, rfl, ?_⟩
  refine arg_list ?_
  refine list_step (R := R) (H0 := A8) (gives_c fun _ _ => .inl .non) Keep.refl fun v1 h1 c1 r1 => ?_
  refine list_step (R := R) (H0 := A8) (gives_c fun _ _ => .inl (.bl _)) c1 fun v2 h2 c2 r2 => ?_
  have C2 := c1.trans c2
  refine list_step (R := R) (H0 := A8) (gives_c fun _ _ => .inl (.bl _)) C2 fun v3 h3 c3 r3 => ?_
  have C3 := C2.trans c3
  refine list_step (R := R) (H0 := A8) (gives_c fun _ _ => .inl (.str _)) C3 fun v4 h4 c4 r4 => ?_
  have C4 := C3.trans c4
  refine list_step (R := R) (H0 := A8) (fun H4 k Q1 q1 => ⟨by show 1 ≤ sizeLine; decide, fun a na => q1 _ _ (Keep.new na) (.inl (.tup (.inl (.inl upd_same)) ((kn.keep k.toKeepW).out na)))⟩) C4 fun v5 h5 c5 r5 => ?_
  have C5 := C4.trans c5
  refine list_step (R := R) (H0 := A8) (fun H4 k Q1 q1 => ⟨by show 1 ≤ sizeLine; decide, fun a na => q1 _ _ (Keep.new na) (.inl (.lst upd_same ((kn.keep k.toKeepW).out na)))⟩) C5 fun v6 h6 c6 r6 => ?_
  have C6 := C5.trans c6
  refine list_step (R := R) (H0 := A8) (fun H4 k Q1 q1 => ⟨_, rfl, q1 _ _ Keep.refl (.inr ⟨_, rfl, by decide⟩)⟩) C6 fun v7 h7 c7 r7 => ?_
  have C7 := C6.trans c7
  refine ⟨_, _, rfl, rfl, _, rfl, _, _, rfl, rfl, pw10_11, p, g, c, n + 6, _, rfl, (d8.keep C7.toKeepW).mono (by omega), by omega, by decide, by decide, fun r B1 z0 z1 kb db => ?_⟩
  refine ⟨_, _, rfl, rfl, ?_⟩
  have r8 : R B1 (.int (0 - 1 - r)) := .inr ⟨_, rfl, by omega⟩
  refine ⟨by show 8 ≤ sizeLine; decide, fun l nl => ?_⟩
  have kl : Keep [] B1 (upd B1 l (.lst [v1, v2, v3, v4, v5, v6, v7, .int (0 - 1 - r)])) := Keep.new nl
  have hl : SqL K (upd B1 l (.lst [v1, v2, v3, v4, v5, v6, v7, .int (0 - 1 - r)])) l _ := .inl (.inl upd_same)
  have T7 : Keep [p, g] h7 _ := kb.trans kl.nil
  have T6 := (c7.nil (ex := [p, g])).trans T7
  have T5 := (c6.nil (ex := [p, g])).trans T6
  have T4 := (c5.nil (ex := [p, g])).trans T5
  have T3 := (c4.nil (ex := [p, g])).trans T4
  have T2 := (c3.nil (ex := [p, g])).trans T3
  have T1 := (c2.nil (ex := [p, g])).trans T2
  have K8 : Keep [p, g] A8 _ := (C7.nil (ex := [p, g])).trans T7
  have dl := db.keep kl.toKeepW
  have out := db.known.out nl
  have r8' := r8
  replace r8 := keepR kl.nil.toKeepW r8
  generalize upd B1 l (.lst [v1, v2, v3, v4, v5, v6, v7, .int (0 - 1 - r)]) = B2 at kl hl T1 T2 T3 T4 T5 T6 T7 K8 dl r8 ⊢
  have all : ∀ x ∈ [v1, v2, v3, v4, v5, v6, v7, .int (0 - 1 - r)], R B2 x := by
    intro x hx
    simp only [List.mem_cons, List.not_mem_nil, or_false] at hx
    rcases hx with rfl | rfl | rfl | rfl | rfl | rfl | rfl | rfl
    · exact keepR T1 r1
    · exact keepR T2 r2
    · exact keepR T3 r3
    · exact keepR T4 r4
    · exact keepR T5 r5
    · exact keepR T6 r6
    · exact keepR T7 r7
    · exact r8
  refine ⟨p, g, c, n + 7, l, _, rfl, dl.mono (by omega), by omega, hl, out, by show 0 < 8; decide, by show 8 < 1000; decide, fun i v H4 hv k4 d4 => ?_⟩
  have rv : NumC K H4 v false := (keepR k4 (all v (List.mem_of_getElem? hv))).numC
  have K9 := K8.trans k4
  have t9 := tabs_keep K9 d8.noExt t8
  have kw : KeepW [p, g] H H4 := (kk.toKeepW.trans w8.nil).trans K9.toKeepW
  clear hl hv all
  dsimp only [gName]
  refine refuse_seq eN t9 (fun H5 Q5 E5 k5 h5 => ⟨_, rfl, v, .int 1, false, true, rfl, rv.keep k5, nof, fun _ => h5, nof⟩) (fun A9 v9 t9 => ?_)
  refine refuse_seq eN t9 (fun H5 Q5 E5 k5 h5 => ⟨_, rfl, .int 1, v, true, false, rfl, ⟨1, rfl, by decide⟩, fun _ => rv.keep (v9.trans k5), fun _ => h5, fun _ z => nof z⟩) (fun A10 v10 t10 => ?_)
  refine refuse_value eN t10 (ex := []) (fun H5 Q5 E5 k5 h5 => ⟨.int 0, .int 0, true, true, rfl, ⟨0, rfl, by decide⟩, fun _ => ⟨0, rfl, by decide⟩, fun z => by rcases z with z | z <;> exact nof z.symm, fun _ _ a b ea eb _ _ => by
    cases ea
    cases eb
    exact .inl ⟨rfl, rfl, h5⟩⟩) (fun A11 v11 t11 => ?_)
  have fin : KeepW [] H4 A11 := (v9.trans v10).trans v11
  exact q A11 (kw.trans fin.nil) t11 ((d4.mono (by omega)).keep fin)
end
end K17
set_option maxHeartbeats 2000000
namespace HG
open PySem PySem.Spec PyProof.Rows L2 LamX
/-! ## calls whose arguments are all named -/
/-- how the def binds its named arguments -/
def KwB (x : Str) (st : Stmt) (ps ks : List Str) : Prop :=
  ∀ (kV doc pm : Value) (an : Option Addr) (cdv ct : Value) (ws : List Value), ws.length = ps.length →
    bindArgs (PySem.W.fnOf x x (defArgs st) (defBody st) (defScope st) .none kV doc pm an cdv ct) ⟨[], ks.zip ws⟩ = pure (ps.zip ws.reverse)
theorem kwb1 {x p : Str} {st : Stmt} (h : ∀ (kV doc pm : Value) (an : Option Addr) (cdv ct a : Value),
    bindArgs (PySem.W.fnOf x x (defArgs st) (defBody st) (defScope st) .none kV doc pm an cdv ct) ⟨[], [(p, a)]⟩ = pure [(p, a)]) : KwB x st [p] [p] := by
  intro kV doc pm an cdv ct ws l
  match ws, l with
  | [a], _ => exact h kV doc pm an cdv ct a
theorem kwb2 {x p q : Str} {st : Stmt} (h : ∀ (kV doc pm : Value) (an : Option Addr) (cdv ct a b : Value),
    bindArgs (PySem.W.fnOf x x (defArgs st) (defBody st) (defScope st) .none kV doc pm an cdv ct) ⟨[], [(q, b), (p, a)]⟩ = pure [(p, a), (q, b)]) : KwB x st [p, q] [q, p] := by
  intro kV doc pm an cdv ct ws l
  match ws, l with
  | [b, a], _ => exact h kV doc pm an cdv ct a b
theorem vals_rev : ∀ {vs : List V} {us : List Value}, Vals vs us → Vals vs.reverse us.reverse
  | _, _, .nil => .nil
  | _, _, .cons r t => by
    rw [List.reverse_cons, List.reverse_cons]
    exact (vals_rev t).append (.cons r .nil)
section
variable {X : Cx} {CX : CXT} {k n : Nat} {ps ks : List Str} {sp : Sp} {E : XK} {x : Str} {p pos : Pos} {kws : List Keyword} {tk : TA} {st : Stmt}
def tKw (sp : Sp) (E : XK) (tk : TA) : TE := fun σ H Q => tk σ H fun zs H1 => sp zs.reverse H1 Q E
theorem pe_kwE (C : Callee X.prog X.w X.K X.mg X.base CX k x ps sp) (D : Def X.K X.mg x st ps) (B : KwB x st ps ks) (room : Room n X.A) (lets : Passes CX X E)
    (named : PK X kws tk) (hk : k ≤ n := by decide) (glob : Gl X x := by rfl)
    (hall : (backToKw pos (keywordEach kws X.env)).all (·.1.isSome) = true := by rfl)
    (hks : (backToKw pos (keywordEach kws X.env)).filterMap (·.1) = ks := by rfl)
    (hdb : (x == ("__debug__" : Str)) = false := by decide)
    (hpl : ((backTo pos (starEach [] X.env)).any (·.1) || (backToKw pos (keywordEach kws X.env)).any (·.1.isNone)) = false := by rfl) :
    PE X (.Call (.Name x p) [] kws pos) (tKw sp E tk) := by
  obtain ⟨f, fd, F, m, kp, _, c1, d1, s1, at1⟩ := C.ex
  obtain ⟨f2, fd2, F2, m2, _⟩ := D.ex
  rw [m] at m2
  cases m2
  obtain ⟨c2, d2, kV, doc, pm, an, cdv, ct, s2, same, at2, _⟩ := F2.ex
  rw [at1] at at2
  cases at2
  refine ⟨fun pins s σ H Q I h => ?_⟩
  refine wpAny_Call_Name_kw (ld_glob I glob m ?_ hdb)
  refine PySem.W.callWith_KW0 (h₀ := X.base) I.ok.mod.kin kp hall (thn (named.run pos pins s σ H _ I h) fun ws z ⟨zs, H2, I2, rz, q2⟩ => ⟨I2.kIn, ?_⟩) hpl
  rw [hks]
  have rv := vals_rev rz
  have len : ws.length = ps.length := by
    rw [← rz.length, ← List.length_reverse]
    exact F.len _ _ _ _ q2
  have b : BindsTo z fd ⟨[], ks.zip ws⟩ (ps.zip ws.reverse) := by
    rw [same]
    exact .of_eq (B kV doc pm an cdv ct ws len)
  refine wpAny_call (codeAny_mono (F.run X.A X.stack z H2 ⟨[], ks.zip ws⟩ ws.reverse zs.reverse Q E (room.mono hk) I2.env0 b rv q2) fun r s' hq => ?_)
  match r, hq with
  | .error e, hq => exact lets pins σ H2 z e s' I2 hq
  | .ok (.ret u), hq => exact I2.after hq
  | .ok .next, hq => exact False.elim hq
  | .ok .brk, hq => exact False.elim hq
  | .ok .cont, hq => exact False.elim hq
end
end HG
set_option maxHeartbeats 2000000
namespace K17
open PySem PySem.Spec PyProof.Rows L2 HG LamX
theorem gI_mul_div {p q : Int} (h0 : 0 ≤ p) (h1 : 0 ≤ q) (h : 0 < p + q) : p / gI p q * gI p q = p ∧ q / gI p q * gI p q = q := by
  have d1 : gI p q ∣ p := by
    have := Int.gcd_dvd_left (a := p) (b := q)
    exact this
  have d2 : gI p q ∣ q := by
    have := Int.gcd_dvd_right (a := p) (b := q)
    exact this
  exact ⟨Int.ediv_mul_cancel d1, Int.ediv_mul_cancel d2⟩
/-- what stands between -/
theorem between {a b c d : Int} (a0 : 0 ≤ a) (b0 : 0 ≤ b) (c0 : 0 ≤ c) (d0 : 0 ≤ d) (lt : c * b < a * d) :
    0 ≤ a + c ∧ 0 ≤ b + d ∧ 0 < a + c + (b + d) ∧ (a + c) / gI (a + c) (b + d) * b < a * ((b + d) / gI (a + c) (b + d)) ∧
      c * ((b + d) / gI (a + c) (b + d)) < (a + c) / gI (a + c) (b + d) * d := by
  have p0 : 0 ≤ a + c := by omega
  have q0 : 0 ≤ b + d := by omega
  have pos : 0 < a + c + (b + d) := by
    have ad : 0 < a := by
      rcases (show a = 0 ∨ 0 < a by omega) with rfl | h
      · have := Int.mul_nonneg c0 b0
        rw [Int.zero_mul] at lt
        omega
      · exact h
    omega
  have g0 := gI_pos p0 q0 pos
  obtain ⟨e1, e2⟩ := gI_mul_div p0 q0 pos
  refine ⟨p0, q0, pos, ?_, ?_⟩
  · generalize (a + c) / gI (a + c) (b + d) = m at e1 ⊢
    generalize (b + d) / gI (a + c) (b + d) = k at e2 ⊢
    generalize gI (a + c) (b + d) = g at *
    refine Int.lt_of_mul_lt_mul_right (a := g) ?_ (by omega)
    have h1 : m * b * g = (m * g) * b := by rw [Int.mul_assoc, Int.mul_comm b g, ← Int.mul_assoc]
    have h2 : a * k * g = a * (k * g) := Int.mul_assoc _ _ _
    rw [h1, h2, e1, e2, Int.add_mul, Int.mul_add]
    omega
  · generalize (a + c) / gI (a + c) (b + d) = m at e1 ⊢
    generalize (b + d) / gI (a + c) (b + d) = k at e2 ⊢
    generalize gI (a + c) (b + d) = g at *
    refine Int.lt_of_mul_lt_mul_right (a := g) ?_ (by omega)
    have h1 : m * d * g = (m * g) * d := by rw [Int.mul_assoc, Int.mul_comm d g, ← Int.mul_assoc]
    have h2 : c * k * g = c * (k * g) := Int.mul_assoc _ _ _
    rw [h1, h2, e1, e2, Int.add_mul, Int.mul_add]
    omega
structure Price (K : PySem.W.Frag) (H : Hp) (v : V) (a b : Int) : Prop where
  pr : Pr K H v a b
  a0 : 0 ≤ a
  b0 : 0 ≤ b
  a1 : a < 2 ^ 40
  b1 : b < 2 ^ 40
  g : gI a b = 1
theorem Price.keep {K : PySem.W.Frag} {ex : List Addr} {H H' : Hp} {v : V} {a b : Int} (k : KeepW ex H H') (h : Price K H v a b) : Price K H' v a b :=
  ⟨h.pr.keep k, h.a0, h.b0, h.a1, h.b1, h.g⟩
theorem Price.ok {K : PySem.W.Frag} {H : Hp} {v : V} {a b : Int} (h : Price K H v a b) : PriceB [] K H v true := .of h.pr h.a0 h.b0 h.g
theorem sm_of {a : Int} (h0 : 0 ≤ a) (h1 : a < 2 ^ 42) : Sm a := ⟨by omega, by omega⟩
theorem Price.s1 {K : PySem.W.Frag} {H : Hp} {v : V} {a b : Int} (h : Price K H v a b) : Sm a := sm_of h.a0 (by have := h.a1; omega)
theorem Price.s2 {K : PySem.W.Frag} {H : Hp} {v : V} {a b : Int} (h : Price K H v a b) : Sm b := sm_of h.b0 (by have := h.b1; omega)
section
variable {P : Program} {w : World} {K : PySem.W.Frag} {mg : Str → Option Value} {base : Heap}
def sp_ordered (K : PySem.W.Frag) (T : List (Addr × Str)) : Sp := fun vs H Q _ => ∃ x y a b c d, vs = [x, y] ∧ Price K H x a b ∧ Price K H y c d ∧ Tabs T H ∧
  ∀ H', KeepW [] H H' → Tabs T H' → Q (.bl true) H'
theorem kw_isahead : KwB "is_ahead" s_is_ahead ["one", "other"] ["other", "one"] := kwb2 fun _ _ _ _ _ _ _ _ => rfl
theorem kw_amid : KwB "amid" s_amid ["one", "other"] ["other", "one"] := kwb2 fun _ _ _ _ _ _ _ _ => rfl
theorem ok_ordered {CE cc Pt : Addr} (D : DefC K mg "_law_ordered" s_l_ordered ["_law_one", "_law_two"] cc) (G : Catch K mg CE) (zs : mg "isinstance" = none)
    (TB : TabB base mg cc Pt) {T : List (Addr × Str)} (hm : (Pt, (envOfC "_law_ordered" (defScope s_l_ordered) 0 0 .none).qual ++ "<lambda>") ∈ T)
    (hu : ∀ p ∈ T, p.1 = Pt → p.2 = (envOfC "_law_ordered" (defScope s_l_ordered) 0 0 .none).qual ++ "<lambda>")
    {CR CN : Addr} (eN : ErrX K mg CE "NotAhead" CN)
    (DA : Def K mg "is_ahead" s_is_ahead ["one", "other"]) (CA : Callee P w K mg base (L2.CX P w) 5 "is_ahead" ["one", "other"] (sp_isahead K CR))
    (DM : Def K mg "amid" s_amid ["one", "other"]) (CM : Callee P w K mg base (L2.CX P w) 5 "amid" ["one", "other"] (sp_amid K CR CN))
    (CY : Callee P w K mg base CX0 1 "_law_says" ["_law_found", "_law_due"] sp_says)
    (CL : Callee P w K mg base CX0 1 "_law_leads" ["_law_one", "_law_two"] (sp_goes K))
    (CT : Callee P w K mg base CX0 2 "_law_terms" ["_law_one", "_law_two"] sp_lterms)
    (CS : CalleeP P w K mg base CX0 2 "_law_same" ["_law_found", "_law_due"] (sp_same K)) :
    CalleeP P w K mg base CX0 9 "_law_ordered" ["_law_one", "_law_two"] (sp_ordered K T) := by
  refine D.okP sc_l_ordered (fun vs H Q E h => ?_) (fun f A outer s H vs Q E ng hr h => ?_)
  · obtain ⟨x, y, a, b, c, d, rfl, _⟩ := h
    rfl
  obtain ⟨x, y, a, b, c, d, rfl, px, py, tabs, q⟩ := h
  have nd := sc_l_ordered.nd
  have L : ∀ {scope : Scope}, lamSB (defScope s_l_ordered) scope = true → LamS (defScope s_l_ordered) scope := fun h => lamS_by h
  refine ⟨_, pss_cons (ps_if (PW.pt (pw_or
        (pt_not (pt_val (pe_c CY hr (pa_cons (pe_cx CA hr (pa_cons (pv 0) (pa_cons (pv 1) pa_nil))) (pa_cons (pe_c CL hr (pa_cons (pv 0) (pa_cons (pv 1) pa_nil))) pa_nil)))))
        (pw_or1 (pt_not (pt_val (pe_c CY hr (pa_cons (pe_kwE CA DA kw_isahead hr passL (pk_cons (pv 0) (pk_cons (pv 1) pk_nil))) (pa_cons (pe_c CL hr (pa_cons (pv 1) (pa_cons (pv 0) pa_nil))) pa_nil))))))))
      (pss_one (ps_ret pe_bl)) pss_nil)
    (pss_cons (ps_if (pt_not (pt_val (pe_c CL hr (pa_cons (pv 0) (pa_cons (pv 1) pa_nil)))))
      (pss_one (ps_ret (pe_callB call_isX (by rfl) zs (by decide +kernel) (pa_cons (pe_caught (T := T) (k := 6) G TB rfl hm hu hr rfl (L (by decide +kernel)) rfl (fun _ _ _ _ _ => rfl)
        (fun A outer s H E f c' hr' => pe_cE CM hr' passL2 (pa_cons (pv 0) (pa_cons (pv 1) pa_nil)))) (pa_cons (pe_glob (v := .ref CN) rfl eN.at_ rfl) pa_nil))))) pss_nil)
    (pss_cons (ps_set (i := 2) nd rfl (.inl rfl) (pe_cx CM hr (pa_cons (pv 0) (pa_cons (pv 1) pa_nil))))
    (pss_cons (ps_if (pt_not (pt_val (pe_cP CS hr ng (pa_cons (pv 2) (pa_cons (pe_c CT hr (pa_cons (pe_op op_add (pe_ix ix_tup (pv 0) pe_int (fun _ _ => rfl)) (pe_ix ix_tup (pv 1) pe_int (fun _ _ => rfl)))
        (pa_cons (pe_op op_add (pe_ix ix_tup (pv 0) pe_int (fun _ _ => rfl)) (pe_ix ix_tup (pv 1) pe_int (fun _ _ => rfl))) pa_nil))) pa_nil))))) (pss_one (ps_ret pe_bl)) pss_nil)
    (pss_one (ps_ret (pe_and (pe_cmpR op_isBl (pe_cx CA hr (pa_cons (pv 0) (pa_cons (pv 2) pa_nil))) pe_bl (nomark _))
      (pe_and (pe_cmpR op_isBl (pe_cx CA hr (pa_cons (pv 2) (pa_cons (pv 1) pa_nil))) pe_bl (nomark _))
      (pe_one (pe_cP CS hr ng (pa_cons (pe_kwE CM DM kw_amid hr passL (pk_cons (pv 1) (pk_cons (pv 0) pk_nil))) (pa_cons (pv 2) pa_nil))))))))))), ?_⟩
  have noB : ∀ {A : Prop}, true = false → A := fun z => nomatch z
  refine ⟨_, rfl, _, rfl, x, y, true, true, rfl, px.ok, noB, fun _ => ⟨py.ok, noB, fun _ => ⟨a, b, c, d, px.pr, py.pr, px.s1, px.s2, py.s1, py.s2, ?_⟩⟩⟩
  refine ⟨_, rfl, _, rfl, x, y, a, b, c, d, rfl, px.pr, py.pr, px.s1, px.s2, py.s1, py.s2, ?_⟩
  refine ⟨_, rfl, true, rfl, ?_⟩
  refine ⟨_, rfl, _, rfl, y, x, true, true, rfl, py.ok, noB, fun _ => ⟨px.ok, noB, fun _ => ⟨c, d, a, b, py.pr, px.pr, py.s1, py.s2, px.s1, px.s2, ?_⟩⟩⟩
  refine ⟨_, rfl, _, rfl, y, x, c, d, a, b, rfl, py.pr, px.pr, py.s1, py.s2, px.s1, px.s2, ?_⟩
  refine ⟨_, rfl, true, rfl, ?_⟩
  refine ⟨_, rfl, _, rfl, x, y, a, b, c, d, rfl, px.pr, py.pr, px.s1, px.s2, py.s1, py.s2, ?_⟩
  by_cases lt : c * b < a * d
  · rw [decide_eq_true lt]
    obtain ⟨p0, q0, pos, m1, m2⟩ := between px.a0 px.b0 py.a0 py.b0 lt
    have g0 := gI_pos p0 q0 pos
    obtain ⟨u0, u1⟩ := div_le_self p0 g0
    obtain ⟨v0, v1⟩ := div_le_self q0 g0
    have gm := gI_div p0 q0 pos
    have bounds : a + c < 2 ^ 41 ∧ b + d < 2 ^ 41 := ⟨by have := px.a1; have := py.a1; omega, by have := px.b1; have := py.b1; omega⟩
    obtain ⟨bp, bq⟩ := bounds
    refine ⟨true, rfl, ?_⟩
    refine ⟨_, rfl, _, rfl, x, y, true, true, rfl, px.ok, noB, fun _ => ⟨py.ok, noB, fun _ => ⟨a, b, c, d, px.pr, py.pr, px.s1, px.s2, py.s1, py.s2, fun z => absurd lt z, fun _ => ⟨p0, q0, pos, fun m H1 k1 pm => ?_⟩⟩⟩⟩
    dsimp only [gName]
    have px1 := px.keep k1.toKeepW
    have py1 := py.keep k1.toKeepW
    have pm1 : PriceB [] K H1 m true := .of pm u0 v0 gm
    have sM1 : Sm ((a + c) / gI (a + c) (b + d)) := sm_of u0 (by omega)
    have sM2 : Sm ((b + d) / gI (a + c) (b + d)) := sm_of v0 (by omega)
    have ok : Show (datum (some ((a + c) / gI (a + c) (b + d), (b + d) / gI (a + c) (b + d)))) := show_datum fun z e => by
      cases e
      exact ⟨by show ((a + c) / gI (a + c) (b + d)).natAbs < 2 ^ 100; omega, by show ((b + d) / gI (a + c) (b + d)).natAbs < 2 ^ 100; omega⟩
    obtain ⟨u, rfl, hu⟩ := px1.pr
    obtain ⟨v, rfl, hv⟩ := py1.pr
    refine ⟨_, rfl, _, rfl, u, _, 0, .int a, rfl, rfl, hu, rfl, _, rfl, v, _, 0, .int c, rfl, rfl, hv, rfl, _, _, rfl, rfl,
        _, rfl, u, _, 1, .int b, rfl, rfl, hu, rfl, _, rfl, v, _, 1, .int d, rfl, rfl, hv, rfl, _, _, rfl, rfl, ?_⟩
    refine ⟨a + c, b + d, rfl, p0, q0, pos, by omega, by omega, fun r nr => ?_⟩
    have kr : Keep [] H1 (upd H1 r (.tup [.int ((a + c) / gI (a + c) (b + d)), .int ((b + d) / gI (a + c) (b + d))])) := Keep.new nr
    have pr : Pr K (upd H1 r (.tup [.int ((a + c) / gI (a + c) (b + d)), .int ((b + d) / gI (a + c) (b + d))])) (.ref r) ((a + c) / gI (a + c) (b + d)) ((b + d) / gI (a + c) (b + d)) := Pr.new
    generalize upd H1 r (.tup [.int ((a + c) / gI (a + c) (b + d)), .int ((b + d) / gI (a + c) (b + d))]) = H2 at kr pr ⊢
    have pm2 := pm.keep kr.toKeepW
    have px2 := px1.keep kr.toKeepW
    have py2 := py1.keep kr.toKeepW
    have pm3 := pm1.keep kr.toKeepW
    refine ⟨_, _, _, rfl, OPr.dp (o := some (_, _)) pm2, OPr.dp (o := some (_, _)) pr, ok, true, rfl, ?_⟩
    refine ⟨_, rfl, _, rfl, _, _, true, true, rfl, px2.ok, noB, fun _ => ⟨pm3, noB, fun _ => ⟨a, b, _, _, px2.pr, pm2, px2.s1, px2.s2, sM1, sM2, ?_⟩⟩⟩
    rw [decide_eq_true m1]
    refine ⟨_, _, rfl, rfl, true, rfl, ?_⟩
    refine ⟨_, rfl, _, rfl, _, _, true, true, rfl, pm3, noB, fun _ => ⟨py2.ok, noB, fun _ => ⟨_, _, c, d, pm2, py2.pr, sM1, sM2, py2.s1, py2.s2, ?_⟩⟩⟩
    rw [decide_eq_true m2]
    refine ⟨_, _, rfl, rfl, true, rfl, ?_⟩
    refine ⟨_, rfl, _, rfl, _, _, true, true, rfl, px2.ok, noB, fun _ => ⟨py2.ok, noB, fun _ => ⟨a, b, c, d, px2.pr, py2.pr, px2.s1, px2.s2, py2.s1, py2.s2, fun z => absurd lt z, fun _ => ⟨p0, q0, pos, fun n H3 k3 pn => ?_⟩⟩⟩⟩
    refine ⟨_, rfl, _, _, _, rfl, OPr.dp (o := some (_, _)) pn, OPr.dp (o := some (_, _)) (pm2.keep k3.toKeepW), ok, ?_⟩
    have kk := (k1.trans kr).trans k3
    exact q _ kk.toKeepW (tabs_keep kk nilExt tabs)
  · rw [decide_eq_false lt]
    refine ⟨false, rfl, ?_⟩
    refine refuse_value eN tabs (ex := []) (fun H5 Q5 E5 k5 h5 => ?_) (fun A11 v11 t11 => q _ v11 t11)
    exact ⟨_, rfl, _, rfl, x, y, true, true, rfl, (px.keep k5).ok, noB, fun _ => ⟨(py.keep k5).ok, noB, fun _ => ⟨a, b, c, d, px.pr.keep k5, py.pr.keep k5, px.s1, px.s2, py.s1, py.s2, fun _ => h5 _ Keep.refl, fun z => absurd z lt⟩⟩⟩
end
end K17
set_option maxHeartbeats 4000000
namespace K17
open PySem PySem.Spec PyProof.Rows L2 HG LamX
/-! ## meetings -/
theorem cross_sym (a b c d : Int) : cross a b c d = cross c d a b := by
  unfold cross
  by_cases h : a - c < 0
  · rw [if_pos h, if_neg (by omega), show -(a - c) = c - a by omega, show -(b - d) = d - b by omega]
  · by_cases e : a = c
    · subst e
      rw [if_neg h, if_neg h, show a - a = 0 by omega]
      have z : ∀ y : Int, cr2 0 y = if y = 0 then none else some (1, 0) := fun y => by
        unfold cr2
        rw [if_neg (fun z => absurd z.1 (by decide))]
        by_cases e : y = 0
        · rw [if_neg (fun z => z.2 e), if_pos e]
        · rw [if_pos ⟨rfl, e⟩, if_neg e]
      rw [z, z]
      by_cases f : b - d = 0
      · rw [if_pos f, if_pos (by omega)]
      · rw [if_neg f, if_neg (by omega)]
    · rw [if_neg h, if_pos (by omega), show -(c - a) = a - c by omega, show -(d - b) = b - d by omega]
theorem cross_self (a b : Int) : cross a b a b = none := by
  unfold cross
  rw [show a - a = 0 by omega, show b - b = 0 by omega]
  rfl
theorem cross_shift {a b p q : Int} (p0 : 0 ≤ p) (q0 : 0 ≤ q) (g : gI p q = 1) : cross a b (a + q) (b - p) = some (p, q) := by
  unfold cross
  rw [show a - (a + q) = -q by omega, show b - (b - p) = p by omega]
  by_cases z : 0 < q
  · rw [if_pos (by omega)]
    unfold cr2
    rw [if_pos ⟨by omega, by omega⟩, show -(-q) = q by omega, show -(-p) = p by omega, g, Int.ediv_one, Int.ediv_one]
  · have e : q = 0 := by omega
    subst e
    rw [gI_zero p0] at g
    subst g
    rw [if_neg (by decide)]
    rfl
theorem cross_bound {a b c d : Int} (sa : Sm0 a) (sb : Sm0 b) (sc : Sm0 c) (sd : Sm0 d) : ∀ z, cross a b c d = some z → z.1.natAbs < 2 ^ 100 ∧ z.2.natAbs < 2 ^ 100 := by
  have core : ∀ x y : Int, 0 ≤ x → x < 2 ^ 60 → -(2 ^ 60) < y → y < 2 ^ 60 → ∀ z, cr2 x y = some z → z.1.natAbs < 2 ^ 100 ∧ z.2.natAbs < 2 ^ 100 := by
    intro x y x0 x1 y0 y1 z e
    unfold cr2 at e
    by_cases h : 0 < x ∧ y ≤ 0
    · rw [if_pos h] at e
      cases e
      have g0 := gI_pos (p := -y) (q := x) (by omega) x0 (by omega)
      obtain ⟨u0, u1⟩ := div_le_self (p := -y) (by omega) g0
      obtain ⟨v0, v1⟩ := div_le_self (p := x) x0 g0
      exact ⟨by show ((-y) / gI (-y) x).natAbs < 2 ^ 100; omega, by show (x / gI (-y) x).natAbs < 2 ^ 100; omega⟩
    · rw [if_neg h] at e
      by_cases h2 : x = 0 ∧ y ≠ 0
      · rw [if_pos h2] at e
        cases e
        exact ⟨by decide, by decide⟩
      · rw [if_neg h2] at e
        cases e
  have := sa.1; have := sa.2; have := sb.1; have := sb.2; have := sc.1; have := sc.2; have := sd.1; have := sd.2
  intro z e
  unfold cross at e
  by_cases h : a - c < 0
  · rw [if_pos h] at e
    exact core _ _ (by omega) (by omega) (by omega) (by omega) z e
  · rw [if_neg h] at e
    exact core _ _ (by omega) (by omega) (by omega) (by omega) z e
theorem OPr.keepN {K : PySem.W.Frag} {ex : List Addr} {H H' : Hp} {v : V} {o : Option (Int × Int)} (k : Keep ex H H') (h : OPr K H v o) : OPr K H' v o := by
  cases o with
  | none => exact h
  | some z => exact Pr.keep k.toKeepW h
theorem Sm0.sm {i : Int} (h : Sm0 i) : Sm i := ⟨by have := h.1; omega, by have := h.2; omega⟩
theorem kw_priceof : KwB "price_of" s_price_of ["p", "q"] ["q", "p"] := kwb2 fun _ _ _ _ _ _ _ _ => rfl
theorem kw_isprice : KwB "is_price" s_is_price ["thing"] ["thing"] := kwb1 fun _ _ _ _ _ _ _ => rfl
theorem kw_worth : KwB "worth" s_worth ["pair", "price"] ["price", "pair"] := kwb2 fun _ _ _ _ _ _ _ _ => rfl
theorem kw_meeting : KwB "meeting" s_meeting ["one", "other"] ["other", "one"] := kwb2 fun _ _ _ _ _ _ _ _ => rfl
section
variable {P : Program} {w : World} {K : PySem.W.Frag} {mg : Str → Option Value} {base : Heap}
def sp_law (K : PySem.W.Frag) (T : List (Addr × Str)) : Sp := fun vs H Q _ => ∃ (l : Addr) (ns : List Int), vs = [.ref l] ∧ SqL K H l (ns.map V.int) ∧ ns.length ≤ 63 ∧ Tabs T H ∧ ∀ H', Q (.bl true) H'
theorem ok_law (D : Def K mg "law" s_law ["_law_script"]) {T : List (Addr × Str)} (zr : mg "range" = none) (zm : mg "min" = none) (zl : mg "len" = none) (za : mg "abs" = none)
    (CB : Callee P w K mg base CX0 1 "_law_begun" ["_law_script"] (sp_begun K)) (CT : CTake P w K mg base) (CK : CPick P w K mg base)
    (CAm : Callee P w K mg base CX0 3 "_law_amount" ["_law_draw"] sp_amount) (CSp : Callee P w K mg base CX0 3 "_law_spot" ["_law_draw"] (sp_spot K))
    (CNP : Callee P w K mg base CX0 5 "_law_no_price" ["_law_draw"] (sp_noprice K)) (CPe : Callee P w K mg base CX0 4 "_law_peak" ["_law_draw"] sp_peak)
    (CLP : Callee P w K mg base CX0 3 "_law_pair" ["_law_draw", "_law_peak_here"] (sp_lpair K))
    {CN CP CR : Addr} (DQ : Def K mg "price_of" s_price_of ["p", "q"]) (CQ : Callee P w K mg base (L2.CX P w) 2 "price_of" ["p", "q"] (sp_priceof K CN))
    (CTm : Callee P w K mg base CX0 2 "_law_terms" ["_law_one", "_law_two"] sp_lterms)
    (CS : CalleeP P w K mg base CX0 2 "_law_same" ["_law_found", "_law_due"] (sp_same K))
    (DI : Def K mg "is_price" s_is_price ["thing"]) (CI : Callee P w K mg base CX0 3 "is_price" ["thing"] (sp_isprice K))
    (CLI : Callee P w K mg base CX0 3 "_law_is_price" ["_law_item"] (sp_lisprice K))
    (CY : Callee P w K mg base CX0 1 "_law_says" ["_law_found", "_law_due"] sp_says)
    (DW : Def K mg "worth" s_worth ["pair", "price"]) (CW : Callee P w K mg base (L2.CX P w) 5 "worth" ["pair", "price"] (sp_worth K CP CR))
    (CLW : Callee P w K mg base CX0 1 "_law_worth" ["_law_pair_here", "_law_spot_here"] (sp_worthat K))
    (CO : CalleeP P w K mg base CX0 9 "_law_ordered" ["_law_one", "_law_two"] (sp_ordered K T))
    (DM : Def K mg "meeting" s_meeting ["one", "other"]) (CM : Callee P w K mg base (L2.CX P w) 4 "meeting" ["one", "other"] (sp_meeting K CP))
    (CLM : Callee P w K mg base CX0 3 "_law_meet" ["_law_one", "_law_two"] (sp_lmeet K))
    (CRe : Callee P w K mg base CX0 9 "_law_refused" ["_law_draw", "_law_pair_here", "_law_spot_here"] (sp_refused K T)) :
    CalleeP P w K mg base CX0 10 "law" ["_law_script"] (sp_law K T) := by
  refine D.okP sc_law (fun vs H Q E h => ?_) (fun f cdv A outer s H vs Q E ng hr h => ?_)
  · obtain ⟨l, ns, rfl, _⟩ := h
    rfl
  obtain ⟨l, ns, rfl, hl, len, tabs, q⟩ := h
  have nd := sc_law.nd
  refine ⟨_, pss_cons (ps_set (i := 1) nd rfl (.inl rfl) (pe_c CB hr (pa_cons (pv 0) pa_nil)))
    (pss_cons (ps_for PassesOwn.never rfl (pi_range1 rfl zr (pa_cons (pe_op op_add pe_int (pe_callB (call_min2 rfl) (by rfl) zm boot_min (pa_cons (pe_callB call_len_seq (by rfl) zl PySem.boot_len (pa_cons (pv 0) pa_nil)) (pa_cons pe_int pa_nil)))) pa_nil)) (pg_name (i := 2) nd rfl (.inl rfl))
      (pss_cons (ps_set (i := 3) nd rfl (.inl rfl) (pe_op op_add pe_int (pe_c CT hr (pa_cons (pv 1) (pa_cons pe_int pa_nil)))))
      (pss_cons (ps_par (i := 4) (j := 5) rfl nd rfl rfl (by decide) rfl rfl (pa_cons (pe_op op_mul (pe_op op_fdivW (pe_c CAm hr (pa_cons (pv 1) pa_nil)) (pv 3)) (pv 3))
          (pa_cons (pe_op op_mul (pe_op op_fdivW (pe_c CAm hr (pa_cons (pv 1) pa_nil)) (pv 3)) (pv 3)) pa_nil)) (by rfl))
      (pss_cons (ps_if (pt_cmpR op_eq (pe_op op_add (pv 4) (pv 5)) pe_int (nomark _)) (pss_one (ps_set (i := 5) nd rfl (.inl rfl) (pv 3))) pss_nil)
      (pss_cons (ps_if (PW.pt (pw_or
          (pt_not (pt_val (pe_cP CS hr ng (pa_cons (pe_cx CQ hr (pa_cons (pv 4) (pa_cons (pv 5) pa_nil))) (pa_cons (pe_c CTm hr (pa_cons (pv 4) (pa_cons (pv 5) pa_nil))) pa_nil)))))
          (pw_or1 (pt_not (pt_val (pe_cP CS hr ng (pa_cons (pe_kwE CQ DQ kw_priceof hr passL (pk_cons (pv 5) (pk_cons (pv 4) pk_nil))) (pa_cons (pe_c CTm hr (pa_cons (pv 4) (pa_cons (pv 5) pa_nil))) pa_nil))))))))
        (pss_one (ps_ret pe_bl)) pss_nil)
      (pss_cons (ps_set (i := 6) nd rfl (.inl rfl) (pe_c CK hr (pa_cons (pv 1) (pa_cons (pe_lst (pa_cons (pe_c CSp hr (pa_cons (pv 1) pa_nil)) (pa_cons (pe_c CNP hr (pa_cons (pv 1) pa_nil))
          (pa_cons (pe_tup (pa_cons (pv 4) (pa_cons (pv 5) pa_nil))) (pa_cons (pe_lst (pa_cons (pv 4) (pa_cons (pv 5) pa_nil))) pa_nil))))) pa_nil))))
      (pss_cons (ps_if (PW.pt (pw_or
          (pt_not (pt_val (pe_c CY hr (pa_cons (pe_c CI hr (pa_cons (pv 6) pa_nil)) (pa_cons (pe_c CLI hr (pa_cons (pv 6) pa_nil)) pa_nil)))))
          (pw_or1 (pt_not (pt_val (pe_c CY hr (pa_cons (pe_kwE CI DI kw_isprice hr pass0 (pk_cons (pv 6) pk_nil)) (pa_cons (pe_c CLI hr (pa_cons (pv 6) pa_nil)) pa_nil))))))))
        (pss_one (ps_ret pe_bl)) pss_nil)
      (pss_cons (ps_par3 (i := 7) (j := 8) (l := 9) rfl nd rfl rfl rfl (by decide) (by decide) (by decide) rfl rfl rfl (pa_cons (pe_c CSp hr (pa_cons (pv 1) pa_nil)) (pa_cons (pe_c CSp hr (pa_cons (pv 1) pa_nil)) (pa_cons (pe_c CPe hr (pa_cons (pv 1) pa_nil)) pa_nil))) (by rfl))
      (pss_cons (ps_par (i := 10) (j := 11) rfl nd rfl rfl (by decide) rfl rfl (pa_cons (pe_c CLP hr (pa_cons (pv 1) (pa_cons (pv 9) pa_nil))) (pa_cons (pe_c CLP hr (pa_cons (pv 1) (pa_cons (pv 9) pa_nil))) pa_nil)) (by rfl))
      (pss_cons (ps_if (PW.pt (pw_or
          (pt_not (pt_val (pe_cP CS hr ng (pa_cons (pe_cx CW hr (pa_cons (pv 10) (pa_cons (pv 7) pa_nil))) (pa_cons (pe_c CLW hr (pa_cons (pv 10) (pa_cons (pv 7) pa_nil))) pa_nil)))))
          (pw_or1 (pt_not (pt_val (pe_cP CS hr ng (pa_cons (pe_kwE CW DW kw_worth hr passL (pk_cons (pv 7) (pk_cons (pv 10) pk_nil))) (pa_cons (pe_c CLW hr (pa_cons (pv 10) (pa_cons (pv 7) pa_nil))) pa_nil))))))))
        (pss_one (ps_ret pe_bl)) pss_nil)
      (pss_cons (ps_if (PW.pt (pw_or
          (pt_not (pt_val (pe_cP CO hr ng (pa_cons (pv 7) (pa_cons (pv 8) pa_nil)))))
          (pw_or (pt_not (pt_val (pe_cP CO hr ng (pa_cons (pe_tup (pa_cons pe_int (pa_cons pe_int pa_nil))) (pa_cons (pv 7) pa_nil)))))
          (pw_or1 (pt_not (pt_val (pe_cP CO hr ng (pa_cons (pv 7) (pa_cons (pe_tup (pa_cons pe_int (pa_cons pe_int pa_nil))) pa_nil)))))))))
        (pss_one (ps_ret pe_bl)) pss_nil)
      (pss_cons (ps_if (PW.pt (pw_or
          (pt_not (pt_val (pe_cP CS hr ng (pa_cons (pe_cx CM hr (pa_cons (pv 10) (pa_cons (pv 11) pa_nil))) (pa_cons (pe_c CLM hr (pa_cons (pv 10) (pa_cons (pv 11) pa_nil))) pa_nil)))))
          (pw_or1 (pt_cmpR op_notN (pe_cx CM hr (pa_cons (pv 10) (pa_cons (pv 10) pa_nil))) pe_non (nomark _)))))
        (pss_one (ps_ret pe_bl)) pss_nil)
      (pss_cons (ps_if (pt_not (pt_val (pe_cP CS hr ng (pa_cons (pe_kwE CM DM kw_meeting hr passL (pk_cons (pv 11) (pk_cons (pv 10) pk_nil))) (pa_cons (pe_c CLM hr (pa_cons (pv 11) (pa_cons (pv 10) pa_nil))) pa_nil)))))
        (pss_one (ps_ret pe_bl)) pss_nil)
      (pss_cons (ps_set (i := 12) nd rfl (.inl rfl) (pe_tup (pa_cons (pe_op op_add (pe_ix ix_tup (pv 10) pe_int (fun _ _ => rfl)) (pe_ix ix_tup (pv 7) pe_int (fun _ _ => rfl)))
          (pa_cons (pe_op op_sub (pe_ix ix_tup (pv 10) pe_int (fun _ _ => rfl)) (pe_ix ix_tup (pv 7) pe_int (fun _ _ => rfl))) pa_nil))))
      (pss_cons (ps_if (PW.pt (pw_and
          (pt_cmpR op_lt (pe_callB call_abs (by rfl) za boot_abs (pa_cons (pe_ix ix_tup (pv 12) pe_int (fun _ _ => rfl)) pa_nil)) (pe_op op_pow pe_int pe_int) (nomark _))
          (pw_and (pt_cmpR op_lt (pe_callB call_abs (by rfl) za boot_abs (pa_cons (pe_ix ix_tup (pv 12) pe_int (fun _ _ => rfl)) pa_nil)) (pe_op op_pow pe_int pe_int) (nomark _))
          (pw_and1 (pt_not (pt_val (pe_cP CS hr ng (pa_cons (pe_cx CM hr (pa_cons (pv 10) (pa_cons (pv 12) pa_nil))) (pa_cons (pv 7) pa_nil)))))))))
        (pss_one (ps_ret pe_bl)) pss_nil)
      (pss_one (ps_if (pt_not (pt_val (pe_c CRe hr (pa_cons (pv 1) (pa_cons (pv 10) (pa_cons (pv 7) pa_nil)))))) (pss_one (ps_ret pe_bl)) pss_nil)))))))))))))))))
    (pss_one (ps_ret pe_bl))), ?_⟩
  refine ⟨_, rfl, l, ns, rfl, hl, len, fun p g c H1 k1 d1 => ?_⟩
  have hl1 := sqL_keep k1.toKeepW (fun z => nomatch z) hl
  have tabs1 := tabs_keep k1 nilExt tabs
  refine ⟨_, rfl, l, _, rfl, .inl hl1, _, _, rfl, _, _, rfl, rfl, _, rfl, ?_, ?_, for_range (fun i σ H' => i ≤ 15 ∧ ∃ t2 t3 t4 t5 t6 t7 t8 t9 t10 t11 t12,
      σ = [some (.ref l), some (.ref p), t2, t3, t4, t5, t6, t7, t8, t9, t10, t11, t12] ∧ Draw H' p g c (100 * i) ∧ Tabs T H')
    ⟨by decide, none, none, none, none, none, none, none, none, none, none, none, rfl, d1.mono (by decide), tabs1⟩ (fun i σ H' hi hh => ?_) (fun σ H' hh => ?_)⟩
  · rw [List.length_map]
    split <;> omega
  · rw [List.length_map]
    split <;> omega
  · obtain ⟨i15, t2, t3, t4, t5, t6, t7, t8, t9, t10, t11, t12, rfl, dr, tb⟩ := hh
    have i14 : i + 1 ≤ 15 := by
      rw [List.length_map] at hi
      split at hi <;> omega
    dsimp only [gName]
    refine ⟨_, rfl, p, g, c, 100 * i, 12, rfl, dr, by omega, by decide, by decide, fun t H2 t0 t1 k2 d2 => ⟨_, _, rfl, rfl, ?_⟩⟩
    have dv : ∀ z : Int, CDivW z (1 + t) := fun z => wide_div (b := 65) (by omega) (by omega) (by decide) (by decide)
    have sm : ∀ z : Int, 0 ≤ z → z < 10 ^ 12 → Sm (z / (1 + t)) := fun z z0 z1 => by
      obtain ⟨u0, u1⟩ := div_le_self (p := z) z0 (show 0 < 1 + t by omega)
      exact sm_of u0 (by omega)
    have back : ∀ z : Int, 0 ≤ z → z < 10 ^ 12 → 0 ≤ z / (1 + t) * (1 + t) ∧ z / (1 + t) * (1 + t) < 2 ^ 41 := fun z z0 z1 => by
      have h1 := Int.ediv_mul_le z (show (1 + t) ≠ 0 by omega)
      have h2 := Int.mul_nonneg (div_le_self (p := z) z0 (show 0 < 1 + t by omega)).1 (show 0 ≤ 1 + t by omega)
      omega
    refine ⟨_, rfl, p, g, c, 100 * i + 1, rfl, d2, by omega, fun r H3 r0 r1 k3 d3 => ?_⟩
    refine ⟨_, rfl, _, _, rfl, rfl, dv r, _, rfl, _, _, rfl, rfl, (sm r r0 r1).mul _, ?_⟩
    refine ⟨_, rfl, p, g, c, 100 * i + 1 + 2, rfl, d3, by omega, fun r' H4 r0' r1' k4 d4 => ?_⟩
    refine ⟨_, rfl, _, _, rfl, rfl, dv r', _, rfl, _, _, rfl, rfl, (sm r' r0' r1').mul _, _, _, rfl, ?_⟩
    obtain ⟨x0, x1⟩ := back r r0 r1
    obtain ⟨y0, y1⟩ := back r' r0' r1'
    dsimp only
    have K4 : Keep [p, g] H' H4 := (k2.trans k3).trans k4
    have tb4 := tabs_keep K4 dr.noExt tb
    refine seq_join (fun σ H5 => ∃ x z : Int, σ = [some (.ref l), some (.ref p), some (.int (0 + (i : Int))), some (.int (1 + t)), some (.int x), some (.int z), t6, t7, t8, t9, t10, t11, t12] ∧ H4 = H5 ∧ 0 ≤ x ∧ x < 2 ^ 41 ∧ 0 ≤ z ∧ z < 2 ^ 41 ∧ 0 < x + z) (fun NX nx => ?_) (fun σ H5 hh => ?_)
    · refine ⟨_, rfl, _, rfl, _, _, rfl, rfl, rfl, _, rfl, ite2 (fun z => ?_) (fun z => ?_)⟩
      · have z : r / (1 + t) * (1 + t) + r' / (1 + t) * (1 + t) = 0 := V.int.inj (of_decide_eq_true z)
        exact ⟨_, rfl, nx _ _ ⟨_, 1 + t, rfl, rfl, x0, x1, by omega, by omega, by omega⟩⟩
      · have z : ¬ r / (1 + t) * (1 + t) + r' / (1 + t) * (1 + t) = 0 := fun w => z (decide_eq_true (congrArg V.int w))
        exact nx _ _ ⟨_, _, rfl, rfl, x0, x1, y0, y1, by omega⟩
    clear x0 x1
    obtain ⟨x, z, rfl, rfl, x0, x1, z0, z1, pos⟩ := hh
    clear y0 y1
    have g0 := gI_pos x0 z0 pos
    obtain ⟨u0, u1⟩ := div_le_self x0 g0
    obtain ⟨v0, v1⟩ := div_le_self z0 g0
    have ok : Show (datum (some (x / gI x z, z / gI x z))) := show_datum fun m e => by
      cases e
      exact ⟨by show (x / gI x z).natAbs < 2 ^ 100; omega, by show (z / gI x z).natAbs < 2 ^ 100; omega⟩
    have noB : ∀ {A : Prop}, true = false → A := fun z => nomatch z
    have noP : x = 0 ∧ z = 0 → False := fun w => by omega
    -- price_of
    refine ⟨_, rfl, _, rfl, .int x, .int z, true, true, rfl, ⟨x, rfl, x0⟩, fun _ => ⟨z, rfl, z0⟩, fun w => by rcases w with w | w <;> exact noB w, fun _ _ a b ea eb _ _ => ?_⟩
    cases ea
    cases eb
    refine .inr ⟨pos, by omega, by omega, fun v A1 q1 pv1 => ?_⟩
    -- the terms
    have terms : ∀ (A : Hp) (r : Addr), A r = none → ∃ A', upd A r (.tup [.int (x / gI x z), .int (z / gI x z)]) = A' ∧ Keep [] A A' ∧ Pr K A' (.ref r) (x / gI x z) (z / gI x z) :=
      fun A r nr => ⟨_, rfl, Keep.new nr, Pr.new⟩
    refine ⟨_, rfl, _, rfl, x, z, rfl, x0, z0, pos, by omega, by omega, fun r1 nr => ?_⟩
    obtain ⟨A2, e2, q2, pr2⟩ := terms A1 r1 nr
    rw [e2]
    clear e2 nr
    refine ⟨_, _, _, rfl, OPr.dp (o := some (_, _)) (pv1.keep q2.toKeepW), OPr.dp (o := some (_, _)) pr2, ok, true, rfl, ?_⟩
    refine ⟨_, rfl, _, rfl, .int x, .int z, true, true, rfl, ⟨x, rfl, x0⟩, fun _ => ⟨z, rfl, z0⟩, fun w => by rcases w with w | w <;> exact noB w, fun _ _ a b ea eb _ _ => ?_⟩
    cases ea
    cases eb
    refine .inr ⟨pos, by omega, by omega, fun v A3 q3 pv3 => ?_⟩
    refine ⟨_, rfl, _, rfl, x, z, rfl, x0, z0, pos, by omega, by omega, fun r2 nr => ?_⟩
    obtain ⟨A4, e4, q4, pr4⟩ := terms A3 r2 nr
    rw [e4]
    clear e4 nr
    refine ⟨_, _, _, rfl, OPr.dp (o := some (_, _)) (pv3.keep q4.toKeepW), OPr.dp (o := some (_, _)) pr4, ok, true, rfl, ?_⟩
    have Q4 := ((q1.trans q2).trans q3).trans q4
    have dA := d4.keep Q4.toKeepW
    have tbA := tabs_keep Q4 nilExt tb4
    -- the thing
    let R : Hp → V → Prop := fun H v => ∃ b, PriceS [p, g] K H v b
    have keepR : ∀ {H H' v}, KeepW [p, g] H H' → R H v → R H' v := fun k ⟨b, r⟩ => ⟨b, r.keep k⟩
    refine ⟨_, rfl, ?_⟩
    refine arg_list ?_
    refine ⟨_, rfl, p, g, c, 100 * i + 1 + 2 + 2, rfl, dA, by omega, fun w1 m1 n1 B1 pw1 m0 n0 mB nB mg1 kb1 db1 => ?_⟩
    refine ⟨_, rfl, p, g, c, 100 * i + 1 + 2 + 2 + 5, rfl, db1, by omega, fun w2 B2 pw2 kb2 db2 => ?_⟩
    refine ⟨_, rfl, _, rfl, by show 2 ≤ sizeLine; decide, fun a na => ?_⟩
    have kb3 : Keep [] B2 (upd B2 a (.tup [.int x, .int z])) := Keep.new na
    have pa : Pr K (upd B2 a (.tup [.int x, .int z])) (.ref a) x z := Pr.new
    generalize upd B2 a (.tup [.int x, .int z]) = B3 at kb3 pa ⊢
    refine ⟨_, rfl, _, rfl, by show 2 ≤ sizeLine; decide, fun b nb => ?_⟩
    have kb4 : Keep [] B3 (upd B3 b (.lst [.int x, .int z])) := Keep.new nb
    have db3 := db2.keep kb3.toKeepW
    have pb : PriceS [p, g] K (upd B3 b (.lst [.int x, .int z])) (.ref b) false := .no (.lstB upd_same (db3.known.out nb))
    have db4 := db3.keep kb4.toKeepW
    generalize upd B3 b (.lst [.int x, .int z]) = B4 at kb4 pb db4 ⊢
    refine ⟨by show 4 ≤ sizeLine; decide, fun ls nl => ?_⟩
    have kb5 : Keep [] B4 (upd B4 ls (.lst [w1, w2, .ref a, .ref b])) := Keep.new nl
    have hls : SqL K (upd B4 ls (.lst [w1, w2, .ref a, .ref b])) ls _ := .inl (.inl upd_same)
    have out := db4.known.out nl
    have db5 := db4.keep kb5.toKeepW
    generalize upd B4 ls (.lst [w1, w2, .ref a, .ref b]) = B5 at kb5 hls db5 ⊢
    have kb35 := (kb3.trans kb4).trans kb5
    have all : ∀ v ∈ [w1, w2, .ref a, .ref b], R B5 v := by
      intro v hv
      simp only [List.mem_cons, List.not_mem_nil, or_false] at hv
      rcases hv with rfl | rfl | rfl | rfl
      · exact ⟨true, PriceS.of (pw1.keep (kb2.trans kb35.nil).toKeepW) (by omega) (by omega) m0 n0 mg1⟩
      · exact ⟨false, pw2.keep kb35.nil.toKeepW⟩
      · exact ⟨_, PriceS.yes (pa.keep (kb4.trans kb5).toKeepW) (by omega) (by omega)⟩
      · exact ⟨false, pb.keep kb5.nil.toKeepW⟩
    refine ⟨p, g, c, 100 * i + 1 + 2 + 2 + 5 + 5, ls, _, rfl, db5, by omega, hls, out, by show 0 < 4; decide, by show 4 < 1000; decide, fun at_ thing B6 hv kb6 db6 => ?_⟩
    obtain ⟨bt, th⟩ := keepR kb6.toKeepW (all thing (List.mem_of_getElem? hv))
    have KB := (((kb1.trans kb2).trans kb35.nil).trans kb6)
    have tbB := tabs_keep KB dA.noExt tbA
    clear hv all hls out pb pa
    dsimp only [gName]
    have ths := th.less (ex' := []) (fun _ m => nomatch m)
    have thb := ths.priceB
    refine ⟨_, rfl, _, bt, rfl, thb, _, rfl, _, bt, rfl, ths, bt, rfl, true, rfl, ?_⟩
    refine ⟨_, rfl, _, bt, rfl, thb, _, rfl, _, bt, rfl, ths, bt, rfl, true, rfl, ?_⟩
    have n0 : 100 * (i : Int) + 1 + 2 + 2 + 5 + 5 + 1 = 100 * i + 16 := by omega
    rw [n0] at db6
    clear n0
    refine ⟨_, rfl, p, g, c, 100 * i + 16, rfl, db6, by omega, fun s1 m1 n1 C1 ps1 m0 n0 mB nB mg1 kc1 dc1 => ?_⟩
    refine ⟨_, rfl, p, g, c, 100 * i + 16 + 5, rfl, dc1, by omega, fun s2 m2 n2 C2 ps2 m20 n20 m2B n2B mg2 kc2 dc2 => ?_⟩
    refine ⟨_, rfl, p, g, c, 100 * i + 16 + 5 + 5, rfl, dc2, by omega, fun pk C3 pk0 pk1 kc3 dc3 => ⟨_, _, _, rfl, ?_⟩⟩
    dsimp only
    refine ⟨_, rfl, _, rfl, p, g, c, 100 * i + 16 + 5 + 5 + 1, pk, rfl, dc3, by omega, pk0, by omega, fun s3 a b C4 pp3 la ha lb hb kc4 dc4 => ?_⟩
    refine ⟨_, rfl, _, rfl, p, g, c, 100 * i + 16 + 5 + 5 + 1 + 2, pk, rfl, dc4, by omega, pk0, by omega, fun s4 a' b' C5 pp4 la' ha' lb' hb' kc5 dc5 => ⟨_, _, rfl, ?_⟩⟩
    dsimp only
    have P1 : Price K C5 s1 m1 n1 := ⟨ps1.keep (((kc2.trans kc3).trans kc4).trans kc5).toKeepW, m0, n0, mB, nB, mg1⟩
    have P2 : Price K C5 s2 m2 n2 := ⟨ps2.keep ((kc3.trans kc4).trans kc5).toKeepW, m20, n20, m2B, n2B, mg2⟩
    have A1 : Pr K C5 s3 a b := pp3.keep kc5.toKeepW
    have KC := ((((kc1.trans kc2).trans kc3).trans kc4).trans kc5)
    have tbC := tabs_keep KC db6.noExt tbB
    have zm0 : ∀ m : Int, -pk ≤ m → m ≤ pk → Sm0 m := fun m h1 h2 => ⟨by omega, by omega⟩
    have za0 := zm0 a la ha
    have zb0 := zm0 b lb hb
    have za1 := zm0 a' la' ha'
    have zb1 := zm0 b' lb' hb'
    have okW : Show (.int (m1 * a + n1 * b)) := by
      refine show_int ?_
      have h1 : (m1 * a).natAbs < 2 ^ 98 := by
        rw [Int.natAbs_mul]
        exact Nat.lt_of_le_of_lt (Nat.mul_le_mul (show m1.natAbs ≤ 2 ^ 40 by omega) (show a.natAbs ≤ 2 ^ 40 by omega)) (by decide)
      have h2 : (n1 * b).natAbs < 2 ^ 98 := by
        rw [Int.natAbs_mul]
        exact Nat.lt_of_le_of_lt (Nat.mul_le_mul (show n1.natAbs ≤ 2 ^ 40 by omega) (show b.natAbs ≤ 2 ^ 40 by omega)) (by decide)
      omega
    -- worth
    refine ⟨_, rfl, _, rfl, s3, s1, true, true, rfl, A1.pairB, noB, fun _ => ⟨P1.ok, noB, fun _ => ⟨a, b, m1, n1, A1, P1.pr, za0.sm, zb0.sm, P1.s1, P1.s2, ?_⟩⟩⟩
    refine ⟨_, rfl, _, rfl, s3, s1, a, b, m1, n1, rfl, A1, P1.pr, za0.sm, zb0.sm, P1.s1, P1.s2, ?_⟩
    refine ⟨_, _, _, rfl, .int _, .int _, okW, true, rfl, ?_⟩
    refine ⟨_, rfl, _, rfl, s3, s1, true, true, rfl, A1.pairB, noB, fun _ => ⟨P1.ok, noB, fun _ => ⟨a, b, m1, n1, A1, P1.pr, za0.sm, zb0.sm, P1.s1, P1.s2, ?_⟩⟩⟩
    refine ⟨_, rfl, _, rfl, s3, s1, a, b, m1, n1, rfl, A1, P1.pr, za0.sm, zb0.sm, P1.s1, P1.s2, ?_⟩
    refine ⟨_, _, _, rfl, .int _, .int _, okW, true, rfl, ?_⟩
    -- ordered
    refine ⟨_, rfl, _, rfl, s1, s2, m1, n1, m2, n2, rfl, P1, P2, tbC, fun D1 kd1 td1 => ⟨true, rfl, ?_⟩⟩
    refine ⟨by show 2 ≤ sizeLine; decide, fun t1 nt1 => ?_⟩
    have kt1 : Keep [] D1 (upd D1 t1 (.tup [.int 1, .int 0])) := Keep.new nt1
    have pt1 : Price K (upd D1 t1 (.tup [.int 1, .int 0])) (.ref t1) 1 0 := ⟨Pr.new, by decide, by decide, by decide, by decide, rfl⟩
    have td2 := tabs_keep kt1 nilExt td1
    generalize upd D1 t1 (.tup [.int 1, .int 0]) = D2 at kt1 pt1 td2 ⊢
    refine ⟨_, rfl, _, _, 1, 0, m1, n1, rfl, pt1, P1.keep (kd1.trans kt1.toKeepW), td2, fun D3 kd3 td3 => ⟨true, rfl, ?_⟩⟩
    refine ⟨_, rfl, by show 2 ≤ sizeLine; decide, fun t2 nt2 => ?_⟩
    have kt2 : Keep [] D3 (upd D3 t2 (.tup [.int 0, .int 1])) := Keep.new nt2
    have pt2 : Price K (upd D3 t2 (.tup [.int 0, .int 1])) (.ref t2) 0 1 := ⟨Pr.new, by decide, by decide, by decide, by decide, rfl⟩
    have td4 := tabs_keep kt2 nilExt td3
    generalize upd D3 t2 (.tup [.int 0, .int 1]) = D4 at kt2 pt2 td4 ⊢
    have kd4 := ((kd1.trans kt1.toKeepW).trans kd3).trans kt2.toKeepW
    refine ⟨_, _, m1, n1, 0, 1, rfl, P1.keep kd4, pt2, td4, fun D5 kd5 td5 => ⟨true, rfl, ?_⟩⟩
    have kd := kd4.trans kd5
    replace P1 := P1.keep kd
    replace A1 := A1.keep kd
    have A2 := pp4.keep kd
    have dd := dc5.keep kd
    clear P2 kt2 pt2 kt1 pt1
    -- meeting
    have okM := show_datum (cross_bound za0 zb0 za1 zb1)
    refine ⟨_, rfl, _, rfl, s3, s4, true, true, rfl, A1.pairB, noB, fun _ => ⟨A2.pairB, noB, fun _ => ⟨a, b, a', b', A1, A2, za0.sm, zb0.sm, za1.sm, zb1.sm, fun v1 E1 ke1 o1 => ?_⟩⟩⟩
    refine ⟨_, rfl, _, rfl, s3, s4, a, b, a', b', rfl, A1.keep ke1.toKeepW, A2.keep ke1.toKeepW, za0, zb0, za1, zb1, fun v2 E2 ke2 o2 => ?_⟩
    refine ⟨_, _, _, rfl, (OPr.keepN ke2 o1).dp, o2.dp, okM, true, rfl, ?_⟩
    have kE := ke1.trans ke2
    replace A1 := A1.keep kE.toKeepW
    replace A2 := A2.keep kE.toKeepW
    replace P1 := P1.keep kE.toKeepW
    replace dd := dd.keep kE.toKeepW
    have te := tabs_keep kE nilExt td5
    clear o1 o2
    refine ⟨_, rfl, _, rfl, s3, s3, true, true, rfl, A1.pairB, noB, fun _ => ⟨A1.pairB, noB, fun _ => ⟨a, b, a, b, A1, A1, za0.sm, zb0.sm, za0.sm, zb0.sm, fun v3 E3 ke3 o3 => ?_⟩⟩⟩
    rw [cross_self] at o3
    have o3 : v3 = .non := o3
    subst o3
    refine ⟨rfl, false, rfl, ?_⟩
    replace A1 := A1.keep ke3.toKeepW
    replace A2 := A2.keep ke3.toKeepW
    replace P1 := P1.keep ke3.toKeepW
    replace dd := dd.keep ke3.toKeepW
    replace te := tabs_keep ke3 nilExt te
    refine ⟨_, rfl, _, rfl, s3, s4, true, true, rfl, A1.pairB, noB, fun _ => ⟨A2.pairB, noB, fun _ => ⟨a, b, a', b', A1, A2, za0.sm, zb0.sm, za1.sm, zb1.sm, fun v4 E4 ke4 o4 => ?_⟩⟩⟩
    refine ⟨_, rfl, _, rfl, s4, s3, a', b', a, b, rfl, A2.keep ke4.toKeepW, A1.keep ke4.toKeepW, za1, zb1, za0, zb0, fun v5 E5 ke5 o5 => ?_⟩
    rw [cross_sym] at o5
    refine ⟨_, _, _, rfl, (OPr.keepN ke5 o4).dp, o5.dp, okM, true, rfl, ?_⟩
    have kE := ke4.trans ke5
    replace A1 := A1.keep kE.toKeepW
    replace P1 := P1.keep kE.toKeepW
    replace dd := dd.keep kE.toKeepW
    replace te := tabs_keep kE nilExt te
    clear o4 o5 A2
    -- the shift
    obtain ⟨u3, rfl, hu3⟩ := A1
    have P1' := P1
    obtain ⟨⟨u1, rfl, hu1⟩, _, _, _, _, _⟩ := P1'
    refine ⟨_, rfl, u3, _, 0, .int a, rfl, rfl, hu3, rfl, _, rfl, u1, _, 1, .int n1, rfl, rfl, hu1, rfl, _, _, rfl, rfl,
      _, rfl, u3, _, 1, .int b, rfl, rfl, hu3, rfl, _, rfl, u1, _, 0, .int m1, rfl, rfl, hu1, rfl, _, _, rfl, rfl, by show 2 ≤ sizeLine; decide, fun sh nsh => ?_⟩
    have ks : Keep [] E5 (upd E5 sh (.tup [.int (a + n1), .int (b - m1)])) := Keep.new nsh
    have hsh : SqT K (upd E5 sh (.tup [.int (a + n1), .int (b - m1)])) sh [.int (a + n1), .int (b - m1)] := .inl (.inl upd_same)
    dsimp only [gName]
    generalize upd E5 sh (.tup [.int (a + n1), .int (b - m1)]) = F1 at ks hsh ⊢
    replace hu3 := sqT_keep ks.toKeepW hu3
    replace P1 := P1.keep ks.toKeepW
    replace dd := dd.keep ks.toKeepW
    replace te := tabs_keep ks nilExt te
    refine seq_join (fun σ H5 => σ = [some (.ref l), some (.ref p), some (.int (0 + (i : Int))), some (.int (1 + t)), some (.int x), some (.int z), some thing, some (.ref u1), some s2, some (.int pk), some (.ref u3), some s4, some (.ref sh)] ∧ Keep [] F1 H5) (fun NX nx => ?_) (fun σ H5 hh => ?_)
    · refine ⟨_, rfl, sh, _, 0, .int (a + n1), rfl, rfl, hsh, rfl, _, rfl, _, _, rfl, rfl, pw10_12, _, _, rfl, rfl, _, rfl, ite2 (fun w1 => ?_) (fun w1 => ?_)⟩
      · refine ⟨_, rfl, sh, _, 1, .int (b - m1), rfl, rfl, hsh, rfl, _, rfl, _, _, rfl, rfl, pw10_12, _, _, rfl, rfl, _, rfl, ite2 (fun w2 => ?_) (fun w2 => ?_)⟩
        · refine ⟨_, rfl, _, rfl, .ref u3, .ref sh, true, true, rfl, .yes hu3, noB, fun _ => ⟨.yes hsh, noB, fun _ => ⟨a, b, a + n1, b - m1, ⟨_, rfl, hu3⟩, ⟨_, rfl, hsh⟩, za0.sm, zb0.sm, ?_, ?_, fun v6 F2 kf o6 => ?_⟩⟩⟩
          · have := za0.1
            have := za0.2
            exact ⟨by omega, by omega⟩
          · have := zb0.1
            have := zb0.2
            exact ⟨by omega, by omega⟩
          · rw [cross_shift P1.a0 P1.b0 P1.g] at o6
            refine ⟨_, rfl, _, _, _, rfl, o6.dp, OPr.dp (o := some (m1, n1)) (P1.pr.keep kf.toKeepW), show_datum fun z e => ?_, true, rfl, ?_⟩
            · cases e
              exact ⟨by show m1.natAbs < 2 ^ 100; omega, by show n1.natAbs < 2 ^ 100; omega⟩
            · exact nx _ _ ⟨rfl, kf⟩
        · exact nx _ _ ⟨rfl, Keep.refl⟩
      · exact nx _ _ ⟨rfl, Keep.refl⟩
    obtain ⟨rfl, kl⟩ := hh
    replace dd := dd.keep kl.toKeepW
    refine ⟨_, rfl, _, rfl, _, rfl, p, g, c, _, _, _, a, b, m1, n1, rfl, dd, by omega, ⟨u3, rfl, sqT_keep kl.toKeepW hu3⟩, P1.pr.keep kl.toKeepW, za0.sm, zb0.sm, P1.s1, P1.s2, P1.a0, P1.b0, P1.g, tabs_keep kl nilExt te,
      fun G1 kg tg dg => ⟨true, rfl, i14, _, _, _, _, _, _, _, _, _, _, _, rfl, dg.mono (by omega), tg⟩⟩
  · obtain ⟨_, t2, t3, t4, t5, t6, t7, t8, t9, t10, t11, t12, rfl, _⟩ := hh
    exact q _
end
end K17
set_option maxHeartbeats 4000000
namespace HG
open PySem PySem.Spec PyProof.Rows L2 LamX
/-! ## from the head's facts -/
def BindN (x : Str) (st : Stmt) (ps : List Str) : Prop :=
  ∀ (kV doc pm : Value) (an : Option Addr) (cdv ct : Value) (us : List Value), us.length = ps.length →
    bindArgs (PySem.W.fnOf x x (defArgs st) (defBody st) (defScope st) .none kV doc pm an cdv ct) ⟨us, []⟩ = pure (ps.zip us)
section
variable {K : PySem.W.Frag} {h : Heap} {mg : Str → Option Value} {x : Str} {st : Stmt} {ps : List Str} {f : Addr} {oc : Value} {od an : Option Addr}
  {osl : Array (Option Value)} {kV doc pm cdv ct : Value}
theorem def_mk (X : K.In h) (G : h.Ns mainGlobals mg) (b : BindN x st ps) (a : PySem.W.nsIn K mainGlobals x = some (some (.ref f)))
    (l : K.lookup f = some ⟨oc, od, .func (PySem.W.fnOf x x (defArgs st) (defBody st) (defScope st) .none kV doc pm an cdv ct), osl⟩)
    (c : PySem.W.codeIn K cdv x = true) (k : PySem.W.keepIn K (.ref f) = true) : Def K mg x st ps :=
  ⟨f, _, fun_mk l c k, PySem.W.mg_of X G a, (fun_mk l c k).binds b⟩
theorem defC_mk {cc : Addr} (X : K.In h) (G : h.Ns mainGlobals mg) (b : BindN x st ps) (a : PySem.W.nsIn K mainGlobals x = some (some (.ref f)))
    (l : K.lookup f = some ⟨oc, od, .func (PySem.W.fnOf x x (defArgs st) (defBody st) (defScope st) .none kV doc pm an (.ref cc) ct), osl⟩)
    (c : PySem.W.codeIn K (.ref cc) x = true) (k : PySem.W.keepIn K (.ref f) = true) : DefC K mg x st ps cc :=
  ⟨f, oc, od, kV, doc, pm, an, ct, osl, l, c, k, PySem.W.mg_of X G a, (fun_mk l c k).binds b⟩
theorem hit_of {C CE : Addr} (h1 : PySem.W.subIn K (.ref CE) (.type "BaseException") = some true) (h2 : PySem.W.isClsIn K CE = true)
    (h3 : PySem.W.typeIn K (.ref CE) = some (.type "type")) (h4 : PySem.W.subIn K (.ref C) (.ref CE) = some true) : PySem.W.exmOne K (.ref C) (.ref CE) = some true := by
  unfold PySem.W.exmOne PySem.W.kitCls
  rw [h1]
  have e : (PySem.W.clsIn K CE).isSome = true := h2
  simp only [beq_self_eq_true, if_true, e, h3, Bool.true_and, Bool.and_self, h4]
theorem own_of {C : Addr} : PySem.W.kitOne K (.ref C) (.ref C) = some true := by
  unfold PySem.W.kitOne
  rw [if_pos (by simp)]
theorem errX_mk {C CE : Addr} (X : K.In h) (G : h.Ns mainGlobals mg) (a : PySem.W.nsIn K mainGlobals x = some (some (.ref C)))
    (e : PySem.W.excIn K C [.type "ValueError", .type "Exception", .type "BaseException", .type "object"] "ValueError.__new__" = true)
    (k : PySem.W.keepIn K (.ref C) = true) (s : PySem.W.subIn K (.ref C) (.type "BaseException") = some true) (t : PySem.W.typeIn K (.ref C) = some (.type "type"))
    (g1 : PySem.W.findIn K (.ref C) "__getattribute__" = some (some (.builtin "BaseException.__getattribute__"))) (g2 : PySem.W.findIn K (.ref C) "__getattr__" = some none)
    (hd : PySem.W.hasDictIn K C = true) (ha : PySem.W.findIn K (.ref C) "__class__" = some (some (.builtin "object.__class__")))
    (hn : PySem.W.specialIn K (.builtin "object.__class__") "__get__" = some (some (.builtin "getset_descriptor.__get__")))
    (ht : PySem.W.takesIn K (.builtin "object.__class__") = some true) (hm : PySem.W.mroIn K C (.type "object") = some true)
    (h1 : PySem.W.subIn K (.ref CE) (.type "BaseException") = some true) (h2 : PySem.W.isClsIn K CE = true)
    (h3 : PySem.W.typeIn K (.ref CE) = some (.type "type")) (h4 : PySem.W.subIn K (.ref C) (.ref CE) = some true) : ErrX K mg CE x C :=
  { at_ := PySem.W.mg_of X G a, exc := e, keep := k, sub := s, ty := t, is := ⟨g1, g2, s, hd, ha, hn, ht, hm⟩, hit := hit_of h1 h2 h3 h4, own := own_of }
end
end HG
namespace K17
open PySem PySem.Spec PyProof.Rows L2 HG LamX
theorem bn_is_number : BindN "is_number" s_is_number ["thing"] := fun _ _ _ _ _ _ us hl => match us, hl with | [_], _ => rfl
theorem bn_is_tuple_of : BindN "is_tuple_of" s_is_tuple_of ["thing", "many"] := fun _ _ _ _ _ _ us hl => match us, hl with | [_, _], _ => rfl
theorem bn_is_pair : BindN "is_pair" s_is_pair ["thing"] := fun _ _ _ _ _ _ us hl => match us, hl with | [_], _ => rfl
theorem bn_reduced : BindN "reduced" s_reduced ["p", "q"] := fun _ _ _ _ _ _ us hl => match us, hl with | [_, _], _ => rfl
theorem bn_goes_ahead : BindN "goes_ahead" s_goes_ahead ["one", "other"] := fun _ _ _ _ _ _ us hl => match us, hl with | [_, _], _ => rfl
theorem bn_worth_at : BindN "worth_at" s_worth_at ["pair", "price"] := fun _ _ _ _ _ _ us hl => match us, hl with | [_, _], _ => rfl
theorem bn_crossing : BindN "crossing" s_crossing ["one", "other"] := fun _ _ _ _ _ _ us hl => match us, hl with | [_, _], _ => rfl
theorem bn_is_price : BindN "is_price" s_is_price ["thing"] := fun _ _ _ _ _ _ us hl => match us, hl with | [_], _ => rfl
theorem bn_check_price : BindN "check_price" s_check_price ["price"] := fun _ _ _ _ _ _ us hl => match us, hl with | [_], _ => rfl
theorem bn_check_pair : BindN "check_pair" s_check_pair ["pair"] := fun _ _ _ _ _ _ us hl => match us, hl with | [_], _ => rfl
theorem bn_price_of : BindN "price_of" s_price_of ["p", "q"] := fun _ _ _ _ _ _ us hl => match us, hl with | [_, _], _ => rfl
theorem bn_is_ahead : BindN "is_ahead" s_is_ahead ["one", "other"] := fun _ _ _ _ _ _ us hl => match us, hl with | [_, _], _ => rfl
theorem bn_worth : BindN "worth" s_worth ["pair", "price"] := fun _ _ _ _ _ _ us hl => match us, hl with | [_, _], _ => rfl
theorem bn_amid : BindN "amid" s_amid ["one", "other"] := fun _ _ _ _ _ _ us hl => match us, hl with | [_, _], _ => rfl
theorem bn_meeting : BindN "meeting" s_meeting ["one", "other"] := fun _ _ _ _ _ _ us hl => match us, hl with | [_, _], _ => rfl
theorem bn_l_begun : BindN "_law_begun" s_l_begun ["_law_script"] := fun _ _ _ _ _ _ us hl => match us, hl with | [_], _ => rfl
theorem bn_l_mixed : BindN "_law_mixed" s_l_mixed ["_law_draw"] := fun _ _ _ _ _ _ us hl => match us, hl with | [_], _ => rfl
theorem bn_l_take : BindN "_law_take" s_l_take ["_law_draw", "_law_many"] := fun _ _ _ _ _ _ us hl => match us, hl with | [_, _], _ => rfl
theorem bn_l_pick : BindN "_law_pick" s_l_pick ["_law_draw", "_law_some"] := fun _ _ _ _ _ _ us hl => match us, hl with | [_, _], _ => rfl
theorem bn_l_caught : BindN "_law_caught" s_l_caught ["_law_task"] := fun _ _ _ _ _ _ us hl => match us, hl with | [_], _ => rfl
theorem bn_l_is_number : BindN "_law_is_number" s_l_is_number ["_law_item"] := fun _ _ _ _ _ _ us hl => match us, hl with | [_], _ => rfl
theorem bn_l_says : BindN "_law_says" s_l_says ["_law_found", "_law_due"] := fun _ _ _ _ _ _ us hl => match us, hl with | [_, _], _ => rfl
theorem bn_l_gcd : BindN "_law_gcd" s_l_gcd ["_law_one", "_law_two"] := fun _ _ _ _ _ _ us hl => match us, hl with | [_, _], _ => rfl
theorem bn_l_terms : BindN "_law_terms" s_l_terms ["_law_one", "_law_two"] := fun _ _ _ _ _ _ us hl => match us, hl with | [_, _], _ => rfl
theorem bn_l_leads : BindN "_law_leads" s_l_leads ["_law_one", "_law_two"] := fun _ _ _ _ _ _ us hl => match us, hl with | [_, _], _ => rfl
theorem bn_l_is_pair : BindN "_law_is_pair" s_l_is_pair ["_law_item"] := fun _ _ _ _ _ _ us hl => match us, hl with | [_], _ => rfl
theorem bn_l_is_price : BindN "_law_is_price" s_l_is_price ["_law_item"] := fun _ _ _ _ _ _ us hl => match us, hl with | [_], _ => rfl
theorem bn_l_worth : BindN "_law_worth" s_l_worth ["_law_pair_here", "_law_spot_here"] := fun _ _ _ _ _ _ us hl => match us, hl with | [_, _], _ => rfl
theorem bn_l_meet : BindN "_law_meet" s_l_meet ["_law_one", "_law_two"] := fun _ _ _ _ _ _ us hl => match us, hl with | [_, _], _ => rfl
theorem bn_l_amount : BindN "_law_amount" s_l_amount ["_law_draw"] := fun _ _ _ _ _ _ us hl => match us, hl with | [_], _ => rfl
theorem bn_l_spot : BindN "_law_spot" s_l_spot ["_law_draw"] := fun _ _ _ _ _ _ us hl => match us, hl with | [_], _ => rfl
theorem bn_l_pair : BindN "_law_pair" s_l_pair ["_law_draw", "_law_peak_here"] := fun _ _ _ _ _ _ us hl => match us, hl with | [_, _], _ => rfl
theorem bn_l_peak : BindN "_law_peak" s_l_peak ["_law_draw"] := fun _ _ _ _ _ _ us hl => match us, hl with | [_], _ => rfl
theorem bn_l_same : BindN "_law_same" s_l_same ["_law_found", "_law_due"] := fun _ _ _ _ _ _ us hl => match us, hl with | [_, _], _ => rfl
theorem bn_l_strange : BindN "_law_strange" s_l_strange ["_law_draw"] := fun _ _ _ _ _ _ us hl => match us, hl with | [_], _ => rfl
theorem bn_l_no_price : BindN "_law_no_price" s_l_no_price ["_law_draw"] := fun _ _ _ _ _ _ us hl => match us, hl with | [_], _ => rfl
theorem bn_l_refused : BindN "_law_refused" s_l_refused ["_law_draw", "_law_pair_here", "_law_spot_here"] := fun _ _ _ _ _ _ us hl => match us, hl with | [_, _, _], _ => rfl
theorem bn_l_ordered : BindN "_law_ordered" s_l_ordered ["_law_one", "_law_two"] := fun _ _ _ _ _ _ us hl => match us, hl with | [_, _], _ => rfl
theorem bn_law : BindN "law" s_law ["_law_script"] := fun _ _ _ _ _ _ us hl => match us, hl with | [_], _ => rfl
theorem catch_mk {K : PySem.W.Frag} {h : Heap} {mg : Str → Option Value} {g CE : Addr} {oc : Value} {od an : Option Addr} {osl : Array (Option Value)} {kV doc pm cdv ct : Value}
    (X : K.In h) (G : h.Ns mainGlobals mg) (a : PySem.W.nsIn K mainGlobals "_law_caught" = some (some (.ref g)))
    (l : K.lookup g = some ⟨oc, od, .func (PySem.W.fnOf "_law_caught" "_law_caught" (defArgs s_l_caught) (defBody s_l_caught) (defScope s_l_caught) .none kV doc pm an cdv ct), osl⟩)
    (c : PySem.W.codeIn K cdv "_law_caught" = true) (k : PySem.W.keepIn K (.ref g) = true) (ce : PySem.W.nsIn K mainGlobals "ClockError" = some (some (.ref CE))) : Catch K mg CE :=
  { ex := ⟨g, oc, od, kV, doc, pm, an, cdv, ct, osl, l, c, k, PySem.W.mg_of X G a, (fun_mk l c k).binds bn_l_caught⟩, ce := PySem.W.mg_of X G ce }
theorem ahead_mk {K : PySem.W.Frag} {ah : Addr} {od : Option Addr} {ta tb : Tok} {n : Nat} {osl : Array (Option Value)}
    (l : K.lookup ah = some ⟨.type "tuple", od, .seq #[.int 1 ta, .int 0 tb] n, osl⟩) : ∀ H, SqT K H ah [.int 1, .int 0] := fun H =>
  .inr ⟨_, _, _, l, rfl, rfl, by show 2 ≤ sizeLine; decide, .cons ⟨_, rfl⟩ (.cons ⟨_, rfl⟩ .nil)⟩
abbrev qR : Str := (envOfC "_law_refused" (defScope s_l_refused) 0 0 .none).qual ++ "<lambda>"
abbrev qO : Str := (envOfC "_law_ordered" (defScope s_l_ordered) 0 0 .none).qual ++ "<lambda>"
theorem all_mk {l : PySem.W.OpenLaw} {w : World} {K : PySem.W.Frag} {mg : Str → Option Value} {h : Heap} {fa cR tR cO tO CE CP CR CN CA ah : Addr} (hfa : mg "law" = some (.ref fa))
    (DR : DefC K mg "_law_refused" s_l_refused ["_law_draw", "_law_pair_here", "_law_spot_here"] cR) (DO : DefC K mg "_law_ordered" s_l_ordered ["_law_one", "_law_two"] cO) (G : Catch K mg CE)
    (D_is_number : Def K mg "is_number" s_is_number ["thing"])
    (D_is_tuple_of : Def K mg "is_tuple_of" s_is_tuple_of ["thing", "many"])
    (D_is_pair : Def K mg "is_pair" s_is_pair ["thing"])
    (D_reduced : Def K mg "reduced" s_reduced ["p", "q"])
    (D_goes_ahead : Def K mg "goes_ahead" s_goes_ahead ["one", "other"])
    (D_worth_at : Def K mg "worth_at" s_worth_at ["pair", "price"])
    (D_crossing : Def K mg "crossing" s_crossing ["one", "other"])
    (D_is_price : Def K mg "is_price" s_is_price ["thing"])
    (D_check_price : Def K mg "check_price" s_check_price ["price"])
    (D_check_pair : Def K mg "check_pair" s_check_pair ["pair"])
    (D_price_of : Def K mg "price_of" s_price_of ["p", "q"])
    (D_is_ahead : Def K mg "is_ahead" s_is_ahead ["one", "other"])
    (D_worth : Def K mg "worth" s_worth ["pair", "price"])
    (D_amid : Def K mg "amid" s_amid ["one", "other"])
    (D_meeting : Def K mg "meeting" s_meeting ["one", "other"])
    (D_l_begun : Def K mg "_law_begun" s_l_begun ["_law_script"])
    (D_l_mixed : Def K mg "_law_mixed" s_l_mixed ["_law_draw"])
    (D_l_take : Def K mg "_law_take" s_l_take ["_law_draw", "_law_many"])
    (D_l_pick : Def K mg "_law_pick" s_l_pick ["_law_draw", "_law_some"])
    (D_l_is_number : Def K mg "_law_is_number" s_l_is_number ["_law_item"])
    (D_l_says : Def K mg "_law_says" s_l_says ["_law_found", "_law_due"])
    (D_l_gcd : Def K mg "_law_gcd" s_l_gcd ["_law_one", "_law_two"])
    (D_l_terms : Def K mg "_law_terms" s_l_terms ["_law_one", "_law_two"])
    (D_l_leads : Def K mg "_law_leads" s_l_leads ["_law_one", "_law_two"])
    (D_l_is_pair : Def K mg "_law_is_pair" s_l_is_pair ["_law_item"])
    (D_l_is_price : Def K mg "_law_is_price" s_l_is_price ["_law_item"])
    (D_l_worth : Def K mg "_law_worth" s_l_worth ["_law_pair_here", "_law_spot_here"])
    (D_l_meet : Def K mg "_law_meet" s_l_meet ["_law_one", "_law_two"])
    (D_l_amount : Def K mg "_law_amount" s_l_amount ["_law_draw"])
    (D_l_spot : Def K mg "_law_spot" s_l_spot ["_law_draw"])
    (D_l_pair : Def K mg "_law_pair" s_l_pair ["_law_draw", "_law_peak_here"])
    (D_l_peak : Def K mg "_law_peak" s_l_peak ["_law_draw"])
    (D_l_same : Def K mg "_law_same" s_l_same ["_law_found", "_law_due"])
    (D_l_strange : Def K mg "_law_strange" s_l_strange ["_law_draw"])
    (D_l_no_price : Def K mg "_law_no_price" s_l_no_price ["_law_draw"])
    (D_law : Def K mg "law" s_law ["_law_script"])
    (eP : ErrX K mg CE "BadPair" CP) (eR : ErrX K mg CE "BadPrice" CR) (eN : ErrX K mg CE "BadNumber" CN) (eA : ErrX K mg CE "NotAhead" CA)
    (z_gcd : mg "gcd" = some (.builtin "math.gcd")) (z_ah : mg "AHEAD_OF_ALL" = some (.ref ah)) (hA : ∀ H, SqT K H ah [.int 1, .int 0])
    (z_isinstance : mg "isinstance" = none) (z_int : mg "int" = none) (z_bool : mg "bool" = none) (z_tuple : mg "tuple" = none) (z_len : mg "len" = none) (z_abs : mg "abs" = none)
    (z_range : mg "range" = none) (z_min : mg "min" = none) (z_repr : mg "repr" = none)
    (ne : tR ≠ tO) (t1 : ∀ p ∈ [(cR, tR), (cO, tO)], h.get? p.2 = some emptyTab) (t2 : ∀ p ∈ [(cR, tR), (cO, tO)], K.lookup p.2 = none)
    (t3 : ∀ p ∈ [(cR, tR), (cO, tO)], PySem.W.CodeHd h p.1 p.2) : LawP l w K 10 63 "_law_script" mg fa h := by
  obtain ⟨f, fd, F, m, b⟩ := D_law.ex
  have e := hfa.symm.trans m
  cases e
  obtain ⟨oc, od, kV, doc, pm, an, cdv, ct, osl, same, lk, cd⟩ := F.ex
  refine ⟨fd, [(cR, tR), (cO, tO)], sp_law K [(tR, qR), (tO, qO)], t1, t2, t3, fun s u => ?_, fun H a ns len _ ht hl => ⟨a, ns, rfl, hl, len, ?_, fun _ => rfl⟩, fun base KB GB TB => ?_⟩
  · rw [same]
    exact .of_eq rfl
  · intro p hp
    rcases List.mem_cons.mp hp with rfl | hp
    · exact TabS.nil (ht (cR, tR) List.mem_cons_self)
    · rcases List.mem_cons.mp hp with rfl | hp
      · exact TabS.nil (ht (cO, tO) (List.mem_cons_of_mem _ List.mem_cons_self))
      · cases hp
  have TR := TB (cR, tR) List.mem_cons_self
  have TO := TB (cO, tO) (List.mem_cons_of_mem _ List.mem_cons_self)
  have mR : (tR, qR) ∈ [(tR, qR), (tO, qO)] := List.mem_cons_self
  have mO : (tO, qO) ∈ [(tR, qR), (tO, qO)] := List.mem_cons_of_mem _ List.mem_cons_self
  have uR : ∀ p ∈ [(tR, qR), (tO, qO)], p.1 = tR → p.2 = qR := by
    intro p hp e
    rcases List.mem_cons.mp hp with rfl | hp
    · rfl
    · rcases List.mem_cons.mp hp with rfl | hp
      · exact absurd e.symm ne
      · cases hp
  have uO : ∀ p ∈ [(tR, qR), (tO, qO)], p.1 = tO → p.2 = qO := by
    intro p hp e
    rcases List.mem_cons.mp hp with rfl | hp
    · exact absurd e ne
    · rcases List.mem_cons.mp hp with rfl | hp
      · rfl
      · cases hp
  have c_isnum := ok_isnum (P := l.prog) (w := w) (base := base) D_is_number z_isinstance z_int z_bool
  have c_tupN := ok_tupN (P := l.prog) (w := w) (base := base) D_is_tuple_of z_isinstance z_tuple z_len
  have c_ispair := ok_ispair D_is_pair c_isnum c_tupN
  have c_reduced := ok_reduced (P := l.prog) (w := w) (base := base) D_reduced z_gcd
  have c_goes := ok_goes (P := l.prog) (w := w) (base := base) D_goes_ahead
  have c_worthat := ok_worthat (P := l.prog) (w := w) (base := base) D_worth_at
  have c_crossing := ok_crossing D_crossing c_reduced z_ah hA
  have c_isprice := ok_isprice D_is_price c_ispair z_gcd
  have c_ckprice := ok_ckprice D_check_price c_isprice eR.toErrC
  have c_ckpair := ok_ckpair D_check_pair c_ispair eP.toErrC
  have c_isahead := ok_isahead D_is_ahead c_ckprice c_goes
  have c_worth := ok_worth D_worth c_ckpair c_ckprice c_worthat
  have c_meeting := ok_meeting D_meeting c_ckpair c_crossing
  have c_priceof := ok_priceof D_price_of eN.toErrC c_isnum c_reduced
  have c_amid := ok_amid D_amid c_ckprice eA.toErrC c_goes c_reduced
  have c_mixed := ok_mixed (P := l.prog) (w := w) (base := base) D_l_mixed z_int
  have c_take := ok_take D_l_take z_int c_mixed
  have c_pick := ok_pick D_l_pick z_len c_take
  have c_begun := ok_begun (P := l.prog) (w := w) (base := base) D_l_begun z_abs z_int
  have c_lgcd := ok_lgcd (P := l.prog) (w := w) (base := base) D_l_gcd z_int z_range
  have c_lterms := ok_lterms D_l_terms c_lgcd
  have c_says := ok_says (P := l.prog) (w := w) (base := base) D_l_says
  have c_leads := ok_leads (P := l.prog) (w := w) (base := base) D_l_leads
  have c_lworth := ok_lworth (P := l.prog) (w := w) (base := base) D_l_worth
  have c_lisnum := ok_lisnum (P := l.prog) (w := w) (base := base) D_l_is_number z_isinstance z_int z_bool
  have c_lispair := ok_lispair D_l_is_pair z_isinstance z_tuple z_len c_lisnum
  have c_lisprice := ok_lisprice D_l_is_price c_lispair c_lgcd
  have c_lmeet := ok_lmeet D_l_meet c_lterms
  have c_amount := ok_amount D_l_amount c_take
  have c_lpair := ok_lpair D_l_pair c_take
  have c_peak := ok_peak D_l_peak c_pick
  have c_spot := ok_spot D_l_spot c_take c_lterms
  have c_same := ok_same (P := l.prog) (w := w) (base := base) D_l_same z_repr
  have c_strange := ok_strange D_l_strange c_pick
  have c_noprice := ok_noprice D_l_no_price c_take c_pick c_strange
  have c_refused := ok_refused DR G z_isinstance TR mR uR eP eR eN c_take c_pick c_noprice c_strange c_worth c_isahead c_amid c_meeting c_priceof
  have c_ordered := ok_ordered DO G z_isinstance TO mO uO eA D_is_ahead c_isahead D_amid c_amid c_says c_leads c_lterms c_same
  have c_law := ok_law D_law z_range z_min z_len z_abs c_begun c_take c_pick c_amount c_spot c_noprice c_peak c_lpair D_price_of c_priceof c_lterms c_same D_is_price c_isprice c_lisprice c_says
    D_worth c_worth c_lworth c_ordered D_meeting c_meeting c_lmeet c_refused
  obtain ⟨f2, fd2, F2, m2, _, _, oc2, od2, osl2, at2⟩ := c_law.ex
  rw [m] at m2
  cases m2
  rw [lk] at at2
  cases at2
  exact F2
end K17
open PySem PySem.W PyProof.Rows
set_option maxHeartbeats 0 in
theorem PySem.Challenge.cw_hitclocks_k17_prices_holds : PySem.Challenge.rw_hitclocks_k17_prices.Holds := by
  w_on; o_law; k_head; (case hw => w_witness2)
  k_fill
  refine HG.walk_ofP (l := PySem.Challenge.rw_hitclocks_k17_prices) (n := 63) (k := 10) (x := "_law_script") rfl (by decide) rfl ⟨rfl, by decide, by decide⟩ (fun w h Y => PySem.W.km_in_of Y) ?F
  case F =>
    intro w mg fa h Y KX G hmg
    have tabs := PySem.W.km_tabs_of Y
    refine' K17.all_mk (tR := 356) (tO := 363) hmg ?DR ?DO ?G ?D_is_number ?D_is_tuple_of ?D_is_pair ?D_reduced ?D_goes_ahead ?D_worth_at ?D_crossing ?D_is_price ?D_check_price ?D_check_pair ?D_price_of ?D_is_ahead ?D_worth ?D_amid ?D_meeting ?D_l_begun ?D_l_mixed ?D_l_take ?D_l_pick ?D_l_is_number ?D_l_says ?D_l_gcd ?D_l_terms ?D_l_leads ?D_l_is_pair ?D_l_is_price ?D_l_worth ?D_l_meet ?D_l_amount ?D_l_spot ?D_l_pair ?D_l_peak ?D_l_same ?D_l_strange ?D_l_no_price ?D_law ?eP ?eR ?eN ?eA ?zg ?zh ?hA ?z0 ?z1 ?z2 ?z3 ?z4 ?z5 ?z6 ?z7 ?z8 ?ne ?t1 ?t2 ?t3
    case DR =>
      refine' HG.defC_mk KX G K17.bn_l_refused ?a ?l ?c ?k; (case a => k_is); (case l => k_is); (case c => k_is); (case k => k_is)
    case DO =>
      refine' HG.defC_mk KX G K17.bn_l_ordered ?a ?l ?c ?k; (case a => k_is); (case l => k_is); (case c => k_is); (case k => k_is)
    case G =>
      refine' K17.catch_mk KX G ?a ?l ?c ?k ?ce; (case a => k_is); (case l => k_is); (case c => k_is); (case k => k_is); (case ce => k_is)
    case D_is_number =>
      refine' HG.def_mk KX G K17.bn_is_number ?a ?l ?c ?k; (case a => k_is); (case l => k_is); (case c => k_is); (case k => k_is)
    case D_is_tuple_of =>
      refine' HG.def_mk KX G K17.bn_is_tuple_of ?a ?l ?c ?k; (case a => k_is); (case l => k_is); (case c => k_is); (case k => k_is)
    case D_is_pair =>
      refine' HG.def_mk KX G K17.bn_is_pair ?a ?l ?c ?k; (case a => k_is); (case l => k_is); (case c => k_is); (case k => k_is)
    case D_reduced =>
      refine' HG.def_mk KX G K17.bn_reduced ?a ?l ?c ?k; (case a => k_is); (case l => k_is); (case c => k_is); (case k => k_is)
    case D_goes_ahead =>
      refine' HG.def_mk KX G K17.bn_goes_ahead ?a ?l ?c ?k; (case a => k_is); (case l => k_is); (case c => k_is); (case k => k_is)
    case D_worth_at =>
      refine' HG.def_mk KX G K17.bn_worth_at ?a ?l ?c ?k; (case a => k_is); (case l => k_is); (case c => k_is); (case k => k_is)
    case D_crossing =>
      refine' HG.def_mk KX G K17.bn_crossing ?a ?l ?c ?k; (case a => k_is); (case l => k_is); (case c => k_is); (case k => k_is)
    case D_is_price =>
      refine' HG.def_mk KX G K17.bn_is_price ?a ?l ?c ?k; (case a => k_is); (case l => k_is); (case c => k_is); (case k => k_is)
    case D_check_price =>
      refine' HG.def_mk KX G K17.bn_check_price ?a ?l ?c ?k; (case a => k_is); (case l => k_is); (case c => k_is); (case k => k_is)
    case D_check_pair =>
      refine' HG.def_mk KX G K17.bn_check_pair ?a ?l ?c ?k; (case a => k_is); (case l => k_is); (case c => k_is); (case k => k_is)
    case D_price_of =>
      refine' HG.def_mk KX G K17.bn_price_of ?a ?l ?c ?k; (case a => k_is); (case l => k_is); (case c => k_is); (case k => k_is)
    case D_is_ahead =>
      refine' HG.def_mk KX G K17.bn_is_ahead ?a ?l ?c ?k; (case a => k_is); (case l => k_is); (case c => k_is); (case k => k_is)
    case D_worth =>
      refine' HG.def_mk KX G K17.bn_worth ?a ?l ?c ?k; (case a => k_is); (case l => k_is); (case c => k_is); (case k => k_is)
    case D_amid =>
      refine' HG.def_mk KX G K17.bn_amid ?a ?l ?c ?k; (case a => k_is); (case l => k_is); (case c => k_is); (case k => k_is)
    case D_meeting =>
      refine' HG.def_mk KX G K17.bn_meeting ?a ?l ?c ?k; (case a => k_is); (case l => k_is); (case c => k_is); (case k => k_is)
    case D_l_begun =>
      refine' HG.def_mk KX G K17.bn_l_begun ?a ?l ?c ?k; (case a => k_is); (case l => k_is); (case c => k_is); (case k => k_is)
    case D_l_mixed =>
      refine' HG.def_mk KX G K17.bn_l_mixed ?a ?l ?c ?k; (case a => k_is); (case l => k_is); (case c => k_is); (case k => k_is)
    case D_l_take =>
      refine' HG.def_mk KX G K17.bn_l_take ?a ?l ?c ?k; (case a => k_is); (case l => k_is); (case c => k_is); (case k => k_is)
    case D_l_pick =>
      refine' HG.def_mk KX G K17.bn_l_pick ?a ?l ?c ?k; (case a => k_is); (case l => k_is); (case c => k_is); (case k => k_is)
    case D_l_is_number =>
      refine' HG.def_mk KX G K17.bn_l_is_number ?a ?l ?c ?k; (case a => k_is); (case l => k_is); (case c => k_is); (case k => k_is)
    case D_l_says =>
      refine' HG.def_mk KX G K17.bn_l_says ?a ?l ?c ?k; (case a => k_is); (case l => k_is); (case c => k_is); (case k => k_is)
    case D_l_gcd =>
      refine' HG.def_mk KX G K17.bn_l_gcd ?a ?l ?c ?k; (case a => k_is); (case l => k_is); (case c => k_is); (case k => k_is)
    case D_l_terms =>
      refine' HG.def_mk KX G K17.bn_l_terms ?a ?l ?c ?k; (case a => k_is); (case l => k_is); (case c => k_is); (case k => k_is)
    case D_l_leads =>
      refine' HG.def_mk KX G K17.bn_l_leads ?a ?l ?c ?k; (case a => k_is); (case l => k_is); (case c => k_is); (case k => k_is)
    case D_l_is_pair =>
      refine' HG.def_mk KX G K17.bn_l_is_pair ?a ?l ?c ?k; (case a => k_is); (case l => k_is); (case c => k_is); (case k => k_is)
    case D_l_is_price =>
      refine' HG.def_mk KX G K17.bn_l_is_price ?a ?l ?c ?k; (case a => k_is); (case l => k_is); (case c => k_is); (case k => k_is)
    case D_l_worth =>
      refine' HG.def_mk KX G K17.bn_l_worth ?a ?l ?c ?k; (case a => k_is); (case l => k_is); (case c => k_is); (case k => k_is)
    case D_l_meet =>
      refine' HG.def_mk KX G K17.bn_l_meet ?a ?l ?c ?k; (case a => k_is); (case l => k_is); (case c => k_is); (case k => k_is)
    case D_l_amount =>
      refine' HG.def_mk KX G K17.bn_l_amount ?a ?l ?c ?k; (case a => k_is); (case l => k_is); (case c => k_is); (case k => k_is)
    case D_l_spot =>
      refine' HG.def_mk KX G K17.bn_l_spot ?a ?l ?c ?k; (case a => k_is); (case l => k_is); (case c => k_is); (case k => k_is)
    case D_l_pair =>
      refine' HG.def_mk KX G K17.bn_l_pair ?a ?l ?c ?k; (case a => k_is); (case l => k_is); (case c => k_is); (case k => k_is)
    case D_l_peak =>
      refine' HG.def_mk KX G K17.bn_l_peak ?a ?l ?c ?k; (case a => k_is); (case l => k_is); (case c => k_is); (case k => k_is)
    case D_l_same =>
      refine' HG.def_mk KX G K17.bn_l_same ?a ?l ?c ?k; (case a => k_is); (case l => k_is); (case c => k_is); (case k => k_is)
    case D_l_strange =>
      refine' HG.def_mk KX G K17.bn_l_strange ?a ?l ?c ?k; (case a => k_is); (case l => k_is); (case c => k_is); (case k => k_is)
    case D_l_no_price =>
      refine' HG.def_mk KX G K17.bn_l_no_price ?a ?l ?c ?k; (case a => k_is); (case l => k_is); (case c => k_is); (case k => k_is)
    case D_law =>
      refine' HG.def_mk KX G K17.bn_law ?a ?l ?c ?k; (case a => k_is); (case l => k_is); (case c => k_is); (case k => k_is)
    case eP =>
      refine' HG.errX_mk KX G ?a ?e ?k ?s ?t ?g1 ?g2 ?hd ?ha ?hn ?ht ?hm ?h1 ?h2 ?h3 ?h4; (case a => k_is); (case e => k_exc); (case k => k_is); (case s => k_is); (case t => k_is); (case g1 => k_is); (case g2 => k_is); (case hd => k_is); (case ha => k_is); (case hn => k_is); (case ht => k_is); (case hm => k_is); (case h1 => k_is); (case h2 => k_is); (case h3 => k_is); (case h4 => k_is)
    case eR =>
      refine' HG.errX_mk KX G ?a ?e ?k ?s ?t ?g1 ?g2 ?hd ?ha ?hn ?ht ?hm ?h1 ?h2 ?h3 ?h4; (case a => k_is); (case e => k_exc); (case k => k_is); (case s => k_is); (case t => k_is); (case g1 => k_is); (case g2 => k_is); (case hd => k_is); (case ha => k_is); (case hn => k_is); (case ht => k_is); (case hm => k_is); (case h1 => k_is); (case h2 => k_is); (case h3 => k_is); (case h4 => k_is)
    case eN =>
      refine' HG.errX_mk KX G ?a ?e ?k ?s ?t ?g1 ?g2 ?hd ?ha ?hn ?ht ?hm ?h1 ?h2 ?h3 ?h4; (case a => k_is); (case e => k_exc); (case k => k_is); (case s => k_is); (case t => k_is); (case g1 => k_is); (case g2 => k_is); (case hd => k_is); (case ha => k_is); (case hn => k_is); (case ht => k_is); (case hm => k_is); (case h1 => k_is); (case h2 => k_is); (case h3 => k_is); (case h4 => k_is)
    case eA =>
      refine' HG.errX_mk KX G ?a ?e ?k ?s ?t ?g1 ?g2 ?hd ?ha ?hn ?ht ?hm ?h1 ?h2 ?h3 ?h4; (case a => k_is); (case e => k_exc); (case k => k_is); (case s => k_is); (case t => k_is); (case g1 => k_is); (case g2 => k_is); (case hd => k_is); (case ha => k_is); (case hn => k_is); (case ht => k_is); (case hm => k_is); (case h1 => k_is); (case h2 => k_is); (case h3 => k_is); (case h4 => k_is)
    case zg =>
      refine' PySem.W.mg_of KX G ?a; (case a => k_is)
    case zh =>
      refine' PySem.W.mg_of KX G ?a; (case a => k_is)
    case hA =>
      refine' K17.ahead_mk ?l; (case l => k_is)
    case z0 =>
      refine' PySem.W.mg_none_of KX G ?a; (case a => k_is)
    case z1 =>
      refine' PySem.W.mg_none_of KX G ?a; (case a => k_is)
    case z2 =>
      refine' PySem.W.mg_none_of KX G ?a; (case a => k_is)
    case z3 =>
      refine' PySem.W.mg_none_of KX G ?a; (case a => k_is)
    case z4 =>
      refine' PySem.W.mg_none_of KX G ?a; (case a => k_is)
    case z5 =>
      refine' PySem.W.mg_none_of KX G ?a; (case a => k_is)
    case z6 =>
      refine' PySem.W.mg_none_of KX G ?a; (case a => k_is)
    case z7 =>
      refine' PySem.W.mg_none_of KX G ?a; (case a => k_is)
    case z8 =>
      refine' PySem.W.mg_none_of KX G ?a; (case a => k_is)
    case ne =>
      decide
    case t1 =>
      intro p hp
      rcases List.mem_cons.mp hp with rfl | hp
      · exact tabs _ (by k_mem)
      · rcases List.mem_cons.mp hp with rfl | hp
        · exact tabs _ (by k_mem)
        · cases hp
    case t2 =>
      intro p hp
      rcases List.mem_cons.mp hp with rfl | hp
      · kernel_rfl
      · rcases List.mem_cons.mp hp with rfl | hp
        · kernel_rfl
        · cases hp
    case t3 =>
      intro p hp
      rcases List.mem_cons.mp hp with rfl | hp
      · exact PySem.W.codeHd_of_K KX (by kernel_rfl)
      · rcases List.mem_cons.mp hp with rfl | hp
        · exact PySem.W.codeHd_of_K KX (by kernel_rfl)
        · cases hp
