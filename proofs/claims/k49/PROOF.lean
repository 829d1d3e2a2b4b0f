import PyProof.Rows.All
import Wide.All
import OpenK.AllK
import Wide.FinOn
import KE.KStateDown
import HandS.ForMost
import HandS.IsInst
import HandS.FStr
import HandS.Star
import HandS.Style
import HandS.Codes
import HandS.Walk
import HandS.Defaults
import HandS.MakeKw
import HandS.SlotsOwn
import HandS.HeadEnd
import HandS.HeadHook1
import HandS.HeadHook2
import HandS.Head0
import HandS.Head1
import HandS.Head2
import HandS.Exc
import HandS.TryMany
import KE.KTryMore
import HandS.ExcInit
import HandS.ExcField
import HandS.Lambda
import HandS.EndTab
import HandS.HeadWalk
import HandS.HeadHook4
import KE.KExcInit
import HandS.HeadHook3
import Wide.Once
import HandS.Nested
import HandS.MakeKwOnly
import HandS.TupAny
import HandS.SortKw
import KE.DataMinMax
import HandS.Rev
import PyProof.ReprNest
import PyProof.ReprLen
import HandS.Text
import PyProof.StrLawsAffix
import KE.IntTextLaws
import PyProof.NeKinds
import HandS.Dict
import HandS.NoneIn
import PyProof.DictFindH
import PyProof.EqKinds
import PySem.Challenge.RW_tidewaiter_k49_plans_judged
set_option Elab.async false
set_option linter.all false
set_option maxRecDepth 100000
set_option maxHeartbeats 4000000
/-! rules of our own over the layer: a def's promise out of its place in the top (the promises themselves are C8's), methods called with keywords, len and repr of an own instance -/
namespace Tw
open PySem PySem.Spec PyProof.Rows L2
section
variable (P : Program) (w : World) (K : PySem.W.Frag) (mg : Str → Option Value) (base : Heap)
/-- the library's promises of a def and of a method, where every parameter is handed in -/
abbrev Cal (k : Nat) (x : Str) (sp : Sp) : Prop := C8.Cal P w K mg base k x sp []
abbrev Met (k : Nat) (C : Addr) (m : Str) (sp : Sp) : Prop := C8.Met P w K mg base k C m sp []
abbrev Mak (k : Nat) (x : Str) (C : Addr) (sp : Sp) (dvs : List V) : Prop := C8.Mak P w K mg base k x C sp dvs
/-- what is owed for a body: it can be read, and under the promise's premise its reading does what the promise tells -/
abbrev BodyOk (k : Nat) (N : List Str) (qual : Str) (body : List Stmt) (scope : Scope) (f : Addr) (sp : Sp) : Prop :=
  ∀ (cdv : Value) (A : Around) (outer : List Env) (s : Shared) (H : Hp) (vs : List V) (Q : VK) (E : XK), Room k (A.deeper (envOfC qual scope s.heap.objs.size f cdv)) → sp vs H Q E →
      ∃ t, PSs (cxOf CX0 P w K mg base N qual scope f cdv A outer s H E).nox body t ∧ t { nx := fun _ H' => Q .non H', rt := Q } (start N vs) H
/-- a method of C for n positional values (self among them) and the keywords ks; gV puts them into the parameters' order -/
structure MetG (CX : CXT) (k : Nat) (C : Addr) (m : Str) (sp : Sp) (n : Nat) (ks : List Str) (gV : List V → List V → List V) : Prop where
  ex : ∃ (f : Addr) (fd : FuncData) (ps : List Str) (g : List Value → List Value → List Value), Cls K C ∧ Meth K C m f ∧ FnOk P w K mg base CX k f fd ps sp ∧ KBn K fd ps n ks g gV
abbrev MetN (k : Nat) (C : Addr) (m : Str) (sp : Sp) (n : Nat) (ks : List Str) : Prop := MetG P w K mg base CX0 k C m sp n ks (fun us ws => us ++ ws)
end
section
variable {P : Program} {w : World} {K : PySem.W.Frag} {mg : Str → Option Value} {base : Heap} {x qual : Str} {C f : Addr} {params : Arguments} {body : List Stmt} {scope : Scope} {dvs : List V} {kws : List (Str × V)} {fd : FuncData} {N ps ks : List Str} {k n : Nat} {sp : Sp}
theorem fnok_of (F : FunD K x qual params body scope dvs kws f fd) (S : FnScope N ps scope) (len : ∀ vs H Q E, sp vs H Q E → vs.length = ps.length) (owed : BodyOk P w K mg base k N qual body scope f sp) : FnOk P w K mg base CX0 (k + 1) f fd ps sp :=
  F.ok S len fun cdv A outer s H vs Q E room h => (owed cdv A outer s H vs Q E room h).imp fun _ p => ⟨p.1.nox, p.2⟩
theorem cal_of (F : FunD K x x params body scope [] [] f fd) (hm : mg x = some (.ref f)) (b : Binds K fd ps []) (S : FnScope N ps scope) (len : ∀ vs H Q E, sp vs H Q E → vs.length = ps.length) (owed : BodyOk P w K mg base k N x body scope f sp) : Cal P w K mg base (k + 1) x sp :=
  ⟨f, fd, ps, [], fnok_of F S len owed, hm, F.kp, b, .nil⟩
theorem met_of (F : FunD K x qual params body scope dvs kws f fd) (c : Cls K C) (me : Meth K C x f) (b : Binds K fd ps []) (S : FnScope N ps scope) (len : ∀ vs H Q E, sp vs H Q E → vs.length = ps.length) (owed : BodyOk P w K mg base k N qual body scope f sp) : Met P w K mg base (k + 1) C x sp :=
  ⟨f, fd, ps, [], c, me, fnok_of F S len owed, b, .nil⟩
/-- no defaults: the handed values, put in order by g, are the parameters -/
theorem kbn_by (F : FunD K x qual params body scope [] kws f fd) (g : {α : Type} → List α → List α → List α) (hrel : ∀ {vs zs : List V} {us ws : List Value}, Vals vs us → Vals zs ws → Vals (g vs zs) (g us ws))
    (h : ∀ (kV doc pm : Value) (an : Option Addr) (cdv ct : Value) (us ws : List Value), us.length = n → ws.length = ks.length → bindArgs (PySem.W.fnOf x qual params body scope .none kV doc pm an cdv ct) ⟨us, ks.zip ws⟩ = pure (ps.zip (g us ws))) :
    KBn K fd ps n ks (fun us ws => g us ws) (fun us ws => g us ws) := by
  obtain ⟨_, _, _, kV, doc, pm, an, cdv, ct, _, rfl, _, _, none_ | ⟨some_, _⟩, _⟩ := F.ex
  · cases none_.2
    exact ⟨fun _ us ws _ l1 l2 => .of_eq (h kV doc pm an cdv ct us ws l1 l2), hrel⟩
  · cases some_ rfl
theorem kbn_of (F : FunD K x qual params body scope [] kws f fd)
    (h : ∀ (kV doc pm : Value) (an : Option Addr) (cdv ct : Value) (us ws : List Value), us.length = n → ws.length = ks.length → bindArgs (PySem.W.fnOf x qual params body scope .none kV doc pm an cdv ct) ⟨us, ks.zip ws⟩ = pure (ps.zip (us ++ ws))) :
    KBn K fd ps n ks (fun us ws => us ++ ws) (fun us ws => us ++ ws) := kbn_by F (fun us ws => us ++ ws) (fun r1 r2 => r1.append r2) h
end
section
variable {X : Cx} {CX : CXT} {k j n : Nat} {C : Addr} {x m : Str} {sp : Sp} {dvs : List V} {p pos apos : Pos} {e o : Expr} {es : List Expr} {ta : TE} {t tk : TA} {ks : List Str} {kws : List Keyword} {gV : List V → List V → List V} {E : XK} {pl : Sem Bool}
/-- C() with all its parameters left out -/
theorem pe_mk0 (c : Mak X.prog X.w X.K X.mg X.base k x C sp dvs) (hr : Room j X.A) (hk : k + 1 ≤ j) (hg : Gl X x) (hdb : (x == ("__debug__" : Str)) = false := by decide) : PE X (.Call (.Name x p) [] [] pos) (tMake C sp dvs E0 tNil) :=
  let ⟨_, _, _, _, made, F, at_, b, d⟩ := c.ex
  pe_make0 made F (hr.mono hk) hg at_ b d pass0 hdb
/-- the text o.m(e, .., k = v, ..) has no star, names its keywords ks, and goes these steps -/
structure KwForm (X : Cx) (pl : Sem Bool) (o e : Expr) (es : List Expr) (kws : List Keyword) (m : Str) (apos pos : Pos) (ks : List Str) : Prop where
  named : (backToKw pos (keywordEach kws X.env)).all (·.1.isSome) = true
  names : (backToKw pos (keywordEach kws X.env)).filterMap (·.1) = ks
  first : starEach (e :: es) X.env = (false, eval e X.env) :: starEach es X.env
  plain : ((backTo pos (starEach (e :: es) X.env)).any (·.1) || (backToKw pos (keywordEach kws X.env)).any (·.1.isNone)) = false
  steps : eval (.Call (.Attribute o m apos) (e :: es) kws pos) X.env =
    (eval o X.env >>= fun ov => standAt apos.atName >>= fun _ => holding [ov] (getMethod ov m pl) >>= fun g => callWith pos g.1 g.2 (backTo pos (starEach (e :: es) X.env)) (backToKw pos (keywordEach kws X.env)))
def tMethG (C : Addr) (m : Str) (n nk : Nat) (sp : Sp) (gV : List V → List V → List V) (E : XK) (ta : TE) (t tk : TA) : TE := fun σ H Q => ta σ H fun x H1 => ∃ a dx fs, x = .ref a ∧ H1 a = some (.ins C dx fs) ∧ fs.lookup m = none ∧
  t σ H1 fun vs H2 => tk σ H2 fun zs H3 => vs.length + 1 = n ∧ zs.length = nk ∧ sp (gV (x :: vs) zs) H3 Q E
theorem pe_mg (c : MetG X.prog X.w X.K X.mg X.base CX k C m sp n ks gV) (hx : Passes CX X E) (hr : Room j X.A) (hk : k ≤ j) (he : PE X o ta) (ha : PA X (e :: es) t) (hkw : PK X kws tk) (form : KwForm X pl o e es kws m apos pos ks) :
    PE X (.Call (.Attribute o m apos) (e :: es) kws pos) (tMethG C m n ks.length sp gV E ta t tk) := by
  obtain ⟨f, fd, ps, g, cls, me, F, kb⟩ := c.ex
  obtain ⟨named, rfl, first, plain, steps⟩ := form
  constructor
  intro pins s σ H Q I h
  refine PySem.W.methodCall_KW (pl := pl) (thn (he.run pins s σ H _ I h) ?_) steps
  rintro _ s1 ⟨_, H1, I1, obj, a, dx, fs, rfl, here, own, q⟩
  cases (show _ = Value.ref a from obj)
  refine getmeth_ok I1 here cls me own (PySem.W.callWith_KW (first := [.ref a]) (h₀ := X.base) I.ok.mod.kin me.kp named (thn (ha.run pos pins s1 σ H1 _ I1 q) ?_) plain first)
  rintro us s2 ⟨vs, H2, I2, rv, q2⟩
  refine thn (hkw.run pos pins s2 σ H2 _ I2 q2) ?_
  rintro ws s3 ⟨zs, H3, I3, rz, ln, lk, q3⟩
  exact ⟨I3.kIn, run_fnN (us := .ref a :: us) (vs := .ref a :: vs) F (hr.mono hk) kb hx I3 (.cons rfl rv) rz ln lk q3⟩
/-- .. where the method raises nothing -/
theorem pe_mg0 (c : MetG X.prog X.w X.K X.mg X.base CX0 k C m sp n ks gV) (hr : Room j X.A) (hk : k ≤ j) (he : PE X o ta) (ha : PA X (e :: es) t) (hkw : PK X kws tk) (form : KwForm X pl o e es kws m apos pos ks := by exact ⟨rfl, rfl, rfl, rfl, rfl⟩) :
    PE X (.Call (.Attribute o m apos) (e :: es) kws pos) (tMethG C m n ks.length sp gV E0 ta t tk) := pe_mg c pass0 hr hk he ha hkw form
/-- an own method without values, as a builtin finds and runs it -/
theorem own0 (c : Met X.prog X.w X.K X.mg X.base k C m sp) : ∃ f, PySem.W.findIn X.K (.ref C) m = some (some (.ref f)) ∧ PySem.W.isFn X.K (.ref f) = true ∧ FnR X.prog X.w X.K X.mg X.base CX0 k f sp := by
  obtain ⟨f, _, _, _, _, me, F, b, d⟩ := c.ex
  exact ⟨f, me.at_, me.fn, (F.raw b d).imp fun vs _ _ _ h => (List.append_nil vs).symm ▸ h⟩
/-- len(o) by an own __len__ -/
def rLenO (C : Addr) (sp : Sp) : List V → Hp → VK → Prop := fun xs H Q => ∃ a dx fs, xs = [.ref a] ∧ H a = some (.ins C dx fs) ∧ sp [.ref a] H (fun v H' => ∃ i : Int, v = .int i ∧ 0 ≤ i ∧ i < 2 ^ 63 ∧ Q (.int i) H') E0
theorem call_lenO (c : Met X.prog X.w X.K X.mg X.base k C "__len__" sp) (hr : Room j X.A) (hk : k + 1 ≤ j) : CallR X (.builtin "len") (rLenO C sp) := by
  rintro pins s σ H _ us Q I r ⟨a, dx, fs, rfl, here, q⟩
  obtain rfl := Vals.ref1 r
  obtain ⟨f, hs, hf, F⟩ := own0 c
  obtain ⟨_, J0, _⟩ := ins_get I.hok here
  obtain ⟨_, J, _⟩ := J0.look
  obtain ⟨_, hF⟩ := I.fr
  refine PySem.W.len_K hF I.ok.mod.kin J hs hf (thn (wpAny_call (SlX.run_at F (hr.mono hk).in1 I.env0.in1 pass0 I r q)) ?_)
  rintro _ s1 ⟨_, H1, I1, rv, i, rfl, low, high, q1⟩
  obtain ⟨_, rfl⟩ := rv
  exact ⟨⟨low, high⟩, .int i, H1, I1.tok _, ⟨_, rfl⟩, q1⟩
/-- repr(o) by an own __repr__ -/
def rReprO (C : Addr) (sp : Sp) : List V → Hp → VK → Prop := fun xs H Q => ∃ a dx fs, xs = [.ref a] ∧ H a = some (.ins C dx fs) ∧ sp [.ref a] H (fun v H' => ∃ z : Str, v = .str z ∧ Q (.str z) H') E0
theorem call_reprO (c : Met X.prog X.w X.K X.mg X.base k C "__repr__" sp) (hr : Room j X.A) (hk : k + 1 ≤ j) : CallR X (.builtin "repr") (rReprO C sp) := by
  rintro pins s σ H _ us Q I r ⟨a, dx, fs, rfl, here, q⟩
  obtain rfl := Vals.ref1 r
  obtain ⟨f, hs, hf, F⟩ := own0 c
  obtain ⟨_, J0, _⟩ := ins_get I.hok here
  obtain ⟨_, J, _⟩ := J0.look
  obtain ⟨_, hF⟩ := I.fr
  have room : Room k X.A.in1 := (hr.mono hk).in1
  refine PySem.W.repr_K room.units0 hF I.ok.mod.kin J hs hf (thn (wpAny_call (SlX.run_at F room I.env0.in1 pass0 I r q)) ?_)
  rintro _ s1 ⟨_, H1, I1, rv, z, rfl, q1⟩
  obtain ⟨_, rfl⟩ := rv
  exact ⟨.str z, H1, I1, ⟨_, rfl⟩, q1⟩
end
end Tw

set_option maxHeartbeats 4000000
/-! what the program's and the law's data are, and what heaps keep -/
namespace Tw
open PySem PySem.Spec PyProof.Rows L2
theorem bb_len : bootBuiltins "len" = some (.builtin "len") := by decide +kernel
theorem bb_all : bootBuiltins "all" = some (.builtin "all") := by decide +kernel
theorem bb_abs : bootBuiltins "abs" = some (.builtin "abs") := by decide +kernel
theorem bb_repr : bootBuiltins "repr" = some (.builtin "repr") := by decide +kernel
theorem bb_isinstance : bootBuiltins "isinstance" = some (.builtin "isinstance") := by decide +kernel
theorem bb_list : bootBuiltins "list" = some (.type "list") := by decide +kernel
theorem bb_tuple : bootBuiltins "tuple" = some (.type "tuple") := by decide +kernel
theorem bb_str : bootBuiltins "str" = some (.type "str") := by decide +kernel
theorem bb_bool : bootBuiltins "bool" = some (.type "bool") := by decide +kernel
theorem bb_int : bootBuiltins "int" = some (.type "int") := by decide +kernel
theorem bb_dict : bootBuiltins "dict" = some (.type "dict") := by decide +kernel
/-! isinstance with a built-in class -/
def kitT : String → String → Bool
  | "bool", "bool" => true
  | "bool", "int" => true
  | "int", "int" => true
  | "str", "str" => true
  | "list", "list" => true
  | "tuple", "tuple" => true
  | "dict", "dict" => true
  | _, _ => false
def kinds : List String := ["NoneType", "bool", "int", "str", "list", "tuple", "dict"]
theorem kitB_all : (kinds.all fun a => (kinds.drop 1).all fun b => decide (kitB a b = some (kitT a b))) = true := by decide +kernel
theorem kitB_of {a b : String} (ha : a ∈ kinds) (hb : b ∈ kinds.drop 1) : kitB a b = some (kitT a b) :=
  of_decide_eq_true (List.all_eq_true.mp (List.all_eq_true.mp kitB_all a ha) b hb)
/-- isinstance(x, T): the reading asks the kind of x -/
def rIsK (K : PySem.W.Frag) : List V → Hp → VK → Prop := fun xs H Q => ∃ (x : V) (n a : String), xs = [x, .ty n] ∧ TyX K H x (.type a) ∧ a ∈ kinds ∧ n ∈ kinds.drop 1 ∧ Q (.bl (kitT a n)) H
theorem call_isK {X : Cx} : CallR X (.builtin "isinstance") (rIsK X.K) := by
  intro pins s σ H xs us Q I r h
  obtain ⟨x, n, a, rfl, ty, ha, hn, q⟩ := h
  exact call_isi pins s σ H _ us Q I r ⟨x, .ty n, .type a, .type n, kitT a n, rfl, .ty n, ty, kit_ty (kitB_of ha hn), q⟩
/-! the same rules inside a comprehension's block, where the written part is the def's -/
section
variable {X : Cx} {K : PySem.W.Frag}
theorem ix_tupK (h : X.K = K) : IxR X (rIxT K) := h ▸ ix_tup
theorem ix_listK (h : X.K = K) : IxR X (rIxL K) := h ▸ ix_list
theorem ix_seqK (h : X.K = K) : IxR X (rIx K) := h ▸ ix_seq
theorem op_in_seqK (h : X.K = K) : OpR X (compareOp .In) (rIn K false) := h ▸ op_in_seq
theorem op_notIn_seqK (h : X.K = K) : OpR X (compareOp .NotIn) (rIn K true) := h ▸ op_notIn_seq
theorem call_len_seqK (h : X.K = K) : CallR X (.builtin "len") (fun xs H Q => ∃ p ys, xs = [.ref p] ∧ (SqL K H p ys ∨ SqT K H p ys) ∧ Q (.int ys.length) H) := h ▸ call_len_seq
theorem call_isKK (h : X.K = K) : CallR X (.builtin "isinstance") (rIsK K) := h ▸ call_isK
theorem pe_fldK {e : Expr} {f : Str} {ta : TE} {pos : Pos} (h : X.K = K) (ha : PE X e ta) (hb : attributeBase e f X.env (eval e X.env) = eval e X.env) : PE X (.Attribute e f pos) (tFld K ta f) := h ▸ pe_fld ha hb
theorem pg_tupK {es : List Expr} {k : Nat} {t : TGs} {n : Nat} {pos : Pos} (h : X.K = K) (hc : X.calm = true) (hg : PGs X es t) (hn : (assignEach es X.env).length = n := by rfl) (hst : (assignEach es X.env).findIdx? (·.1) = none := by rfl) : PG X (.Tuple es k pos) (gTup K n t) := h ▸ pg_tup hc hg hn hst
end
theorem yes_i {σ : L2.St} {H : Hp} {Q : Bool → Hp → Prop} (h : Q true H) : tYes σ H Q := h
/-! ### heaps -/
theorem same_upd {H : Hp} {p : Addr} {o : HO} (h : H p = none) : Same H (upd H p o) := fun b x e => by
  rw [upd_ne (ne_of_none e h)]
  exact e
/-- all but the place f stays -/
def Sb (f : Addr) (H H' : Hp) : Prop := ∀ b o, H b = some o → b ≠ f → H' b = some o
theorem Sb.refl {f : Addr} {H : Hp} : Sb f H H := fun _ _ h _ => h
theorem Sb.of {f : Addr} {H H' : Hp} (s : Same H H') : Sb f H H' := fun b o h _ => s b o h
theorem Sb.trans {f : Addr} {H H1 H2 : Hp} (a : Sb f H H1) (b : Sb f H1 H2) : Sb f H H2 := fun c o h n => b c o (a c o h n) n
theorem Sb.upd {f : Addr} {H : Hp} {o : HO} : Sb f H (upd H f o) := fun b x e n => by
  rw [upd_ne n]
  exact e
/-- tuples stay -/
def Kt (H H' : Hp) : Prop := ∀ b xs, H b = some (.tup xs) → H' b = some (.tup xs)
theorem Kt.of {H H' : Hp} (s : Same H H') : Kt H H' := fun b _ h => s b _ h
theorem Kt.trans {H H1 H2 : Hp} (a : Kt H H1) (b : Kt H1 H2) : Kt H H2 := fun c o h => b c o (a c o h)
theorem Sb.kt {f : Addr} {H H' : Hp} {xs : List V} (s : Sb f H H') (hf : H f = some (.lst xs)) : Kt H H' := fun b _ h => s b _ h (ne_of h hf (by intro z; cases z))
theorem Kt.upd {H : Hp} {p : Addr} {o : HO} (h : ∀ xs, H p = some (.tup xs) → o = .tup xs) : Kt H (upd H p o) := fun b xs e => by
  by_cases hb : b = p
  · subst hb
    rw [upd_same, h xs e]
  · rw [upd_ne hb]
    exact e
/-! ### the data -/
structure Wd where
  en : Str
  bg : Str
  lo : Int
  hi : Int
  la : Option Int
structure Bd where
  one : Str
  oth : Str
  bot : Option Int
  top : Option Int
/-- a web as the law keeps it -/
structure Md where
  last : Int
  own : List Str
  wd : List Wd
  bd : List Bd
def oV : Option Int → V
  | none => .non
  | some i => .int i
def Wd.row (x : Wd) : List V := [.str x.en, .str x.bg, .int x.lo, .int x.hi, oV x.la]
def Bd.row (x : Bd) : List V := [.str x.one, .str x.oth, oV x.bot, oV x.top]
def Md.pts (m : Md) : List Str := "start" :: (m.own ++ m.wd.map (·.en))
/-- tuples stand at these places -/
def Rows (H : Hp) (xs : List V) (rs : List (List V)) : Prop := Paired (fun x r => ∃ t, x = V.ref t ∧ H t = some (.tup r)) xs rs
theorem Rows.keep {H H' : Hp} (k : Kt H H') {xs : List V} {rs : List (List V)} (h : Rows H xs rs) : Rows H' xs rs := Paired.mono (fun _ _ ⟨t, e, ht⟩ => ⟨t, e, k t _ ht⟩) h
theorem Rows.len {H : Hp} {xs : List V} {rs : List (List V)} (h : Rows H xs rs) : xs.length = rs.length := Paired.length h
theorem Rows.snoc {H : Hp} {xs : List V} {rs : List (List V)} {t : Addr} {r : List V} (h : Rows H xs rs) (e : H t = some (.tup r)) : Rows H (xs ++ [.ref t]) (rs ++ [r]) := Paired.snoc h ⟨t, rfl, e⟩
theorem paired_at {α β : Type} {F : α → β → Prop} : ∀ {l : List α} {m : List β} {i : Nat} {a : α}, Paired F l m → l[i]? = some a → ∃ b, m[i]? = some b ∧ F a b
  | _, _, 0, _, .cons h _, e => by
    cases e
    exact ⟨_, rfl, h⟩
  | _, _, i + 1, a, .cons _ t, e => by
    obtain ⟨b, h1, h2⟩ := paired_at (i := i) t e
    exact ⟨b, h1, h2⟩
theorem Rows.at {H : Hp} {xs : List V} {rs : List (List V)} {i : Nat} {x : V} (h : Rows H xs rs) (e : xs[i]? = some x) : ∃ t r, x = .ref t ∧ rs[i]? = some r ∧ H t = some (.tup r) := by
  obtain ⟨r, h1, t, h2, h3⟩ := paired_at h e
  exact ⟨t, r, h2, h1, h3⟩
/-- a Web's attributes -/
def wf (last : Int) (a b c : Addr) : List (Str × V) := [("by", .int last), ("moment_rows", .ref a), ("span_rows", .ref b), ("tie_rows", .ref c)]
theorem wf_by {l : Int} {a b c : Addr} : (wf l a b c).lookup ("by" : Str) = some (.int l) := by
  unfold wf
  rw [List.lookup_cons_self]
theorem wf_m {l : Int} {a b c : Addr} : (wf l a b c).lookup ("moment_rows" : Str) = some (.ref a) := by
  unfold wf
  rw [List.lookup_cons, show (("moment_rows" : Str) == "by") = false by decide +kernel, List.lookup_cons_self]
theorem wf_s {l : Int} {a b c : Addr} : (wf l a b c).lookup ("span_rows" : Str) = some (.ref b) := by
  unfold wf
  rw [List.lookup_cons, show (("span_rows" : Str) == "by") = false by decide +kernel, List.lookup_cons, show (("span_rows" : Str) == "moment_rows") = false by decide +kernel, List.lookup_cons_self]
theorem wf_t {l : Int} {a b c : Addr} : (wf l a b c).lookup ("tie_rows" : Str) = some (.ref c) := by
  unfold wf
  rw [List.lookup_cons, show (("tie_rows" : Str) == "by") = false by decide +kernel, List.lookup_cons, show (("tie_rows" : Str) == "moment_rows") = false by decide +kernel, List.lookup_cons, show (("tie_rows" : Str) == "span_rows") = false by decide +kernel, List.lookup_cons_self]
def webAttrs : List Str := ["by", "moment_rows", "span_rows", "tie_rows"]
theorem wf_no {l : Int} {a b c : Addr} {m : Str} (h : webAttrs.all (fun x => !(m == x)) = true) : (wf l a b c).lookup m = none := by
  unfold webAttrs at h
  simp only [List.all_cons, List.all_nil, Bool.and_true, Bool.and_eq_true, Bool.not_eq_true'] at h
  obtain ⟨h1, h2, h3, h4⟩ := h
  unfold wf
  rw [List.lookup_cons, h1, List.lookup_cons, h2, List.lookup_cons, h3, List.lookup_cons, h4]
  rfl
/-- a web stands at p -/
structure WebAt (C : Addr) (H : Hp) (p : Addr) (m : Md) : Prop where
  ex : ∃ (dx a b c : Addr) (ws bs : List V), H p = some (.ins C dx (wf m.last a b c)) ∧ H a = some (.tup (m.own.map V.str)) ∧ H b = some (.tup ws) ∧ Rows H ws (m.wd.map Wd.row) ∧ H c = some (.tup bs) ∧ Rows H bs (m.bd.map Bd.row)
  len : m.own.length ≤ 10 ∧ m.wd.length ≤ 4 ∧ m.bd.length ≤ 40
  last : 1 ≤ m.last ∧ m.last ≤ 1000
theorem WebAt.keep {C : Addr} {H H' : Hp} {p : Addr} {m : Md} (h : WebAt C H p m) (hp : ∀ dx fs, H p = some (.ins C dx fs) → H' p = some (.ins C dx fs)) (k : Kt H H') : WebAt C H' p m := by
  obtain ⟨dx, a, b, c, ws, bs, h1, h2, h3, h4, h5, h6⟩ := h.ex
  exact ⟨⟨dx, a, b, c, ws, bs, hp _ _ h1, k _ _ h2, k _ _ h3, h4.keep k, k _ _ h5, h6.keep k⟩, h.len, h.last⟩
theorem WebAt.same {C : Addr} {H H' : Hp} {p : Addr} {m : Md} (h : WebAt C H p m) (s : Same H H') : WebAt C H' p m := h.keep (fun _ _ e => s _ _ e) (Kt.of s)
theorem WebAt.sb {C : Addr} {H H' : Hp} {p f : Addr} {m : Md} {xs : List V} (h : WebAt C H p m) (s : Sb f H H') (hf : H f = some (.lst xs)) : WebAt C H' p m :=
  h.keep (fun _ _ e => s _ _ e (ne_of e hf (by intro z; cases z))) (s.kt hf)
/-- what is a name -/
abbrev letters : Str := "abcdefghijklmnopqrstuvwxyz"
def Nm (z : Str) : Prop := 1 ≤ z.length ∧ z.length ≤ 8 ∧ ∀ c ∈ z.cps.toList, c ∈ letters.cps.toList
end Tw

set_option maxHeartbeats 4000000
/-! a try with several clauses, each of one, two or three classes, each with a name -/
namespace Tw
open PySem PySem.Spec PyProof.Rows L2
/-- the classes that a clause names -/
inductive Cls3 (X : Cx) : Expr → List Value → Prop
  | one {x : Str} {c : Value} {np : Pos} (h : Names X x c) : Cls3 X (.Name x np) [c]
  | two {x y : Str} {c d : Value} {p q r : Pos} {kk : Nat} (h1 : Names X x c) (h2 : Names X y d) : Cls3 X (.Tuple [.Name x p, .Name y q] kk r) [c, d]
  | three {x y z : Str} {c d e : Value} {p q r t : Pos} {kk : Nat} (h1 : Names X x c) (h2 : Names X y d) (h3 : Names X z e) : Cls3 X (.Tuple [.Name x p, .Name y q, .Name z r] kk t) [c, d, e]
theorem exm1 {K : PySem.W.Frag} {cls c : Value} {b : Bool} (h : PySem.W.exmAny K cls [c] = some b) : PySem.W.exmOne K cls c = some b := by
  obtain ⟨b1, d1, h1, h2, e⟩ := PySem.W.exmAny_cons h
  have e2 : d1 = false := (Option.some.inj h2).symm
  rw [e, e2, Bool.or_false]
  exact h1
section
variable {X : Cx} {a : Addr} {pn : List (Addr × Obj)} {σ : L2.St} {H : Hp}
theorem named {s : Shared} {x : Str} {c : Value} {np : Pos} {Q : Value → Shared → Prop} {E : Value → Shared → Prop} (S : Inv (X.suite a pn) [] σ H s) (h : Names X x c) (q : Q c s) : wpAny (model X.prog X.w) (X.A.mark (some (.ref a))) (eval (.Name x np) X.env) Q E s := by
  obtain ⟨hg, hd, hm | ⟨hm, hv, hn⟩⟩ := h
  · exact ld_glob (X := X.suite a pn) S hg hm q hd
  · exact ld_blt (X := X.suite a pn) S hg hm hv q hn hd
/-- whether a clause takes the exception; a tuple of classes is laid -/
theorem cls3_test {s : Shared} {te : Expr} {cs : List Value} {cls : Value} {b : Bool} {Q : Bool → Shared → Prop} {E : Value → Shared → Prop} (T : Cls3 X te cs) (S : Inv (X.suite a pn) [] σ H s) (LT : PySem.W.Looks (model X.prog X.w) s.heap (typeOf (.ref a)) cls) (hb : PySem.W.exmAny X.K cls cs = some b)
    (q : ∀ h', (∀ b o, s.heap.get? b = some o → h'.get? b = some o) → Q b { s with heap := h' }) :
    wpAny (model X.prog X.w) (X.A.mark (some (.ref a))) (eval te X.env) (fun c s₁ => wpAny (model X.prog X.w) (X.A.mark (some (.ref a))) (excMatches (.ref a) c) Q E s₁) E s := by
  have kin : X.K.In s.heap := S.kIn
  cases T with
  | one h => exact named S h ((PySem.W.exm_one kin LT (exm1 hb)).here (q s.heap fun _ _ z => z))
  | @two x y c d p1 p2 p3 kk h1 h2 =>
    have kp : ∀ b o, s.heap.get? b = some o → (s.heap.push { cls := .type "tuple", data := .seq [c, d].toArray }).get? b = some o := fun b o z => Heap.get?_push_of_some _ z
    refine wpAny_Tuple (wpAny_items_cons (named S h1 (wpAny_items_cons (named S h2 (wpAny_items_nil ⟨by show 2 ≤ sizeLine; decide, ?_⟩)))))
    exact (PySem.W.exm_tup2 (kin.keeps kp) (LT.keeps kp) (Heap.get?_push_size s.heap rfl) hb).here (q _ kp)
  | @three x y z c d e p1 p2 p3 p4 kk h1 h2 h3 =>
    have kp : ∀ b o, s.heap.get? b = some o → (s.heap.push { cls := .type "tuple", data := .seq [c, d, e].toArray }).get? b = some o := fun b o z => Heap.get?_push_of_some _ z
    refine wpAny_Tuple (wpAny_items_cons (named S h1 (wpAny_items_cons (named S h2 (wpAny_items_cons (named S h3 (wpAny_items_nil ⟨by show 3 ≤ sizeLine; decide, ?_⟩)))))))
    exact (PySem.W.exm_tup3 (kin.keeps kp) (LT.keeps kp) (Heap.get?_push_size s.heap rfl) hb).here (q _ kp)
end
theorem fly_more {B h h' : Heap} {l : List Env} {e : Addr} {Z : Obj → Prop} (f : HandSPX.FlyingZ B l e Z h) (k : ∀ b o, h.get? b = some o → h'.get? b = some o) : HandSPX.FlyingZ B l e Z h' := by
  obtain ⟨f1, f2, f3, oe, vs, T, oT, ts, t1, t2, t3, t4, t5, t6, t7, t8⟩ := f
  exact ⟨fun b o z => k b o (f1 b o z), f2, f3.of_keeps fun b o z _ => ⟨o, k b o z, rfl⟩, oe, vs, T, oT, ts, k _ _ t1, t2, t3, t4, t5, t6, k _ _ t7, t8⟩
abbrev Hdl := List Value × (Addr → Value → Option Addr → TS)
/-- how a suite with a name in slot i ends -/
def endsAs (i : Nat) (D : Ends) : Ends := { nx := fun σ H => D.nx (σ.set i none) H, rt := D.rt, bk := fun σ H => D.bk (σ.set i none) H, ct := fun σ H => D.ct (σ.set i none) H }
/-- what the clauses wish of an exception, one behind the other -/
def wAsM (K : PySem.W.Frag) (i : Nat) (Wo : WX) (D : Ends) : List Hdl → WX
  | [] => Wo
  | (cs, ts) :: r => fun cls d σ H => ∃ b, PySem.W.exmAny K cls cs = some b ∧ (b = true → ∀ a, H a = none → ts a cls d (endsAs i D) (σ.set i (some (.ref a))) H) ∧ (b = false → wAsM K i Wo D r cls d σ H)
inductive HdAs (X : Cx) (n : Str) : List ExceptHandler → List Hdl → Prop
  | nil : HdAs X n [] []
  | cons {te : Expr} {cs : List Value} {ts : Addr → Value → Option Addr → TS} {st : Stmt} {su : List Stmt} {pos : Pos} {hds : List ExceptHandler} {l : List Hdl} (hc : Cls3 X te cs)
      (hsu : ∀ (a : Addr) (oe : Obj) (cls : Value) (d : Option Addr) (pn : List (Addr × Obj)), Zc cls d oe → (∃ vs, oe.data = .fields vs) → PSs (X.suite a ((a, oe) :: pn)) (st :: su) (ts a cls d)) (r : HdAs X n hds l) :
      HdAs X n (.ExceptHandler (some te) (some n) (st :: su) pos :: hds) ((cs, ts) :: l)
/-- an exception a that has come down at this frame, as the heap h has it; sI: the state without it -/
structure Down (X : Cx) (pins : List (Addr × Obj)) (σ : L2.St) (H : Hp) (sI s' : Shared) (B : Heap) (a : Addr) (cls : Value) (d : Option Addr) (h : Heap) : Prop where
  inv : Inv X pins σ H sI
  ground : ∀ b o, sI.heap.get? b = some o → b ∉ frs X.stack → B.get? b = some o
  fly : HandSPX.FlyingZ B (X.env :: X.outer) a (Zc cls d) h
  up : sI.heap.UpToSlots h
  free : H a = none
  os : s'.os = sI.os
  bare : AllBare s'.gens
/-- what is to be done with an exception of the body -/
def onCatch (X : Cx) (pins : List (Addr × Obj)) (D : Ends) (hds : List ExceptHandler) (e : Value) (s : Shared) : Prop :=
  wpAny (model X.prog X.w) X.A (noteFrame e X.env) (fun _ s1 => wpAny (model X.prog X.w) X.A (setFlight e none) (fun _ s2 => wpAny (model X.prog X.w) X.A (handleBy e X.env hds) (SP X pins D) X.xe s2) X.xe s1) X.xe s
section
variable {X : Cx} {pins : List (Addr × Obj)} {σ : L2.St} {H : Hp} {sI s' : Shared} {B h h' : Heap} {a : Addr} {cls : Value} {d : Option Addr} {i : Nat} {n : Str} {Wo : WX} {D : Ends} {hds : List ExceptHandler} {l : List Hdl}
theorem Down.more (dn : Down X pins σ H sI s' B a cls d h) (k : ∀ b o, h.get? b = some o → h'.get? b = some o) : Down X pins σ H sI s' B a cls d h' := { dn with fly := fly_more dn.fly k, up := dn.up.trans (Heap.UpToSlots.of_keeps k) }
/-- its suite may begin -/
theorem Down.suite (dn : Down X pins σ H sI s' B a cls d h) (hf : X.env.frame = some X.env.locals) : ∃ oe, h.get? a = some oe ∧ Zc cls d oe ∧ (∃ vs, oe.data = .fields vs) ∧ Inv (X.suite a ((a, oe) :: (X.pn ++ pins))) [] σ H { s' with heap := h } := by
  obtain ⟨oe, vs, at_, zc, hd⟩ := dn.fly.there
  have noFrame : ∀ e ∈ X.env :: X.outer, e.frame ≠ some a := fun e he hfr => by
    obtain ⟨_, o, ho, no⟩ := dn.fly.2.2.1.mem (List.mem_filterMap.mpr ⟨e, he, hfr⟩)
    cases ho.symm.trans at_
    exact no _ hd
  refine ⟨oe, at_, zc, ⟨vs, hd⟩, (dn.inv.landed (s' := { s' with heap := h }) dn.ground dn.fly.1 dn.up dn.os dn.bare).suite at_ hd dn.free ?_ ?_⟩
  · rintro rfl
    exact noFrame X.env (.head _) hf
  · intro inFs
    obtain ⟨e, he, hfr⟩ := List.mem_filterMap.mp inFs
    exact noFrame e (.tail _ he) hfr
/-- no clause takes it: it goes on -/
theorem Down.pass (dn : Down X pins σ H sI s' B a cls d h) (hs : X.stack = X.env :: X.outer) (hf : X.env.frame = some X.env.locals) (tk : Takes X Wo) (wish : Wo cls d σ H) : wpAny (model X.prog X.w) X.A (handleBy (.ref a) X.env []) (SP X pins D) X.xe { s' with heap := h } := by
  have goes : ∀ h4, HandSPX.HeldZ B (X.env :: X.outer) a (Zc cls d) X.env.locals h4 → h.UpToSlots h4 → X.xe (.ref a) { s' with heap := h4 } := fun h4 held up4 =>
    tk _ _ ⟨a, B, sI, pins, σ, H, cls, d, rfl, dn.inv, dn.ground, dn.up.trans up4, .inr (.inr (hs ▸ held)), dn.free, dn.os, dn.bare, wish⟩
  obtain ⟨_, _, T, _, _, at_, _, hd, traced, _⟩ := dn.fly.2.2.2
  refine wpAny_handleBy_nil ?_
  unfold PySem.passOn
  rw [hf]
  refine wpAny_bind (wpAny_field at_ hd traced ?_)
  rw [if_neg (by simp)]
  repeat (first | with_reducible refine HandSPX.setFlight_upZ dn.fly fun h4 held up4 => ?_ | with_reducible refine wpAny_throw (goes _ held up4) | wp_step)
/-- behind a suite its name goes -/
theorem suite_ends {q : Addr × Obj} {f : Flow} {s6 : Shared} {pos : Pos} (ok : X.Ok) (hN : X.N.Nodup) (hi : X.N[i]? = some n) (hln : X.env.kindOf n = some .local) (ended : SP (X.suite a (q :: (X.pn ++ pins))) [] (endsAs i D) f s6) :
    wpAny (model X.prog X.w) X.A (do bindName X.env n .none; unbindBehindTheSuite X.env n pos) (fun _ s7 => SP X pins D f s7) X.xe s6 := by
  cases f with
  | ret u =>
    obtain ⟨v, _, H6, S6, r, q6⟩ := ended
    exact gone_ok (S6.unsuite ok) hN hi hln fun s7 J => ⟨v, _, H6, J, r, q6⟩
  | next =>
    obtain ⟨_, H6, S6, q6⟩ := ended
    exact gone_ok (S6.unsuite ok) hN hi hln fun s7 J => ⟨_, H6, J, q6⟩
  | brk =>
    obtain ⟨_, H6, S6, q6⟩ := ended
    exact gone_ok (S6.unsuite ok) hN hi hln fun s7 J => ⟨_, H6, J, q6⟩
  | cont =>
    obtain ⟨_, H6, S6, q6⟩ := ended
    exact gone_ok (S6.unsuite ok) hN hi hln fun s7 J => ⟨_, H6, J, q6⟩
theorem Down.clauses (hs : X.stack = X.env :: X.outer) (hf : X.env.frame = some X.env.locals) (hN : X.N.Nodup) (hi : X.N[i]? = some n) (hln : X.env.kindOf n = some .local) (tk : Takes X Wo) (hh : HdAs X n hds l) :
    ∀ {h : Heap}, Down X pins σ H sI s' B a cls d h → wAsM X.K i Wo D l cls d σ H → wpAny (model X.prog X.w) X.A (handleBy (.ref a) X.env hds) (SP X pins D) X.xe { s' with heap := h } := by
  induction hh with
  | nil => exact fun dn wish => dn.pass hs hf tk wish
  | cons hc hsu _ further =>
    rintro h dn ⟨b, fits, yes, no⟩
    obtain ⟨oe, at_, zc, _, S⟩ := dn.suite hf
    have kind : PySem.W.Looks (model X.prog X.w) h (typeOf (.ref a)) cls := fun _ _ _ _ k q => wpAny_typeOf_ref (k _ _ at_) (by rw [zc.1]; exact q)
    refine wpAny_handleBy_cons (codeAny_handlers_test (cls3_test hc S kind fits fun h6 k6 => ?_)) (fun q => nomatch q)
    cases b with
    | false => exact further (dn.more k6) (no rfl)
    | true =>
      refine codeAny_handlers_suite_as (HandSPX.lands_againZ (dn.more k6).fly fun h4 fl4 up4 => ?_)
      obtain ⟨o4, _, zc4, hd4, S4⟩ := Down.suite { dn.more k6 with fly := fl4, up := (dn.more k6).up.trans up4 } hf
      refine store_ok (X := X.suite a ((a, o4) :: (X.pn ++ pins))) (v := .ref a) S4 hN hi (.inl hln) rfl (fun s5 S5 => ?_) (.inr hln)
      exact wpAny_mono ((hsu a o4 cls d (X.pn ++ pins) zc4 hd4).run [] s5 _ H _ S5 (yes rfl a dn.free)) (fun f s6 ended => suite_ends dn.inv.ok hN hi hln ended) fun _ _ z => z.elim
end
section
variable {X : Cx} {i : Nat} {n : Str} {body : List Stmt} {h₀ : ExceptHandler} {hds : List ExceptHandler} {l : List Hdl} {pos : Pos} {tb : WX → TS} {Wo : WX}
/-- try: body, except (A, B) as n: .., except C as n: .. -/
theorem ps_tryM (hs : X.stack = X.env :: X.outer) (hf : X.env.frame = some X.env.locals) (hN : X.N.Nodup) (hi : X.N[i]? = some n) (hln : X.env.kindOf n = some .local) (tk : Takes X Wo)
    (hb : ∀ (W : WX) (pn : List (Addr × Obj)) (xe : Value → Shared → Prop), Takes (X.tr pn xe) W → PassesOwn (model X.prog X.w) X.A X.env xe → PSs (X.tr pn xe) body (tb W)) (hh : HdAs X n (h₀ :: hds) l) :
    PS X (.Try body (h₀ :: hds) [] [] pos) (fun D σ H => tb (fun cls d σ' H' => σ'.length = X.N.length → wAsM X.K i Wo D l cls d σ' H') D σ H) := by
  constructor
  intro pins s σ H D I h
  have ok := I.ok
  have caught : Takes (X.tr (X.pn ++ pins) (onCatch X pins D (h₀ :: hds))) (fun cls d σ' H' => σ'.length = X.N.length → wAsM X.K i Wo D l cls d σ' H') := by
    rintro _ s1 ⟨a, B, sI, _, σ1, H1, cls, d, rfl, J, ground, up, sky, free, os, bare, wish⟩
    exact Sky.land Zc.steady (ok.frames.trans (congrArg some hs)) hf (hs ▸ sky) fun h3 fly up3 => Down.clauses hs hf hN hi hln tk hh ⟨J.ofTry ok, ground, fly, up.trans up3, free, os, bare⟩ (wish J.len)
  refine wpAny_Try_except (wpAny_mono ((hb _ _ _ caught PassesOwn.looking).run [] s σ H D (I.toTry _) h) (fun f s1 ended => ?_) fun _ _ z => z)
  cases f with
  | ret u =>
    obtain ⟨v, σ1, H1, J, r, q⟩ := ended
    exact ⟨v, σ1, H1, J.ofTry ok, r, q⟩
  | next =>
    obtain ⟨σ1, H1, J, q⟩ := ended
    exact wpAny_execs_nil ⟨σ1, H1, J.ofTry ok, q⟩
  | brk =>
    obtain ⟨σ1, H1, J, q⟩ := ended
    exact ⟨σ1, H1, J.ofTry ok, q⟩
  | cont =>
    obtain ⟨σ1, H1, J, q⟩ := ended
    exact ⟨σ1, H1, J.ofTry ok, q⟩
end
end Tw

set_option maxHeartbeats 4000000
/-! own exceptions: fields read in a suite, __init__ called through its class, defs that raise, the head with tables -/
namespace Tw
open PySem PySem.Spec PyProof.Rows L2
/-! ### a field of the caught exception, whatever its class -/
def tXw (K : PySem.W.Frag) (a : Addr) (cls : Value) (d : Option Addr) (f : Str) (te : TE) : TE := fun σ H Q => te σ H fun x H1 => x = .ref a ∧ ∃ (C dd : Addr) (fs : List (Str × V)) (v : V), cls = .ref C ∧ XfC K C ∧ PySem.W.findIn K (.ref C) f = some none ∧ d = some dd ∧ H1 dd = some (.xd fs) ∧ fs.lookup f = some v ∧ Q v H1
theorem xd_field {P : Program} {w : World} {H : Hp} {h : Heap} {dd : Addr} {fs : List (Str × V)} {n : Str} {v : V} (hok : HOk P w H h) (at_ : H dd = some (.xd fs)) (l : fs.lookup n = some v) : ∃ od z, h.get? dd = some od ∧ PySem.W.lookIn n od = some (some z) ∧ RelV v z := by
  obtain ⟨m, ns, rel⟩ := (show ObjOk P w H h dd (.xd fs) from hok dd _ at_)
  obtain ⟨od, ho, look⟩ := lookIn_ns ns
  obtain ⟨z, hz, rz⟩ := RelO.some_of (v := v) (o := m n) (l ▸ rel n)
  exact ⟨od, z, ho, (look n).trans (congrArg some hz), rz⟩
theorem pe_xw {X : Cx} {a : Addr} {oe : Obj} {cls : Value} {d : Option Addr} {pn : List (Addr × Obj)} {e : Expr} {te : TE} {pos : Pos} {n : Str} (hz : Zc cls d oe) (hf : ∃ vs, oe.data = .fields vs) (he : PE (X.suite a ((a, oe) :: pn)) e te)
    (hb : attributeBase e n X.env (eval e X.env) = eval e X.env := by rfl) : PE (X.suite a ((a, oe) :: pn)) (.Attribute e n pos) (tXw X.K a cls d n te) := by
  constructor
  intro pins s σ H Q I h
  refine attr_of hb (thn (he.run pins s σ H _ I h) ?_)
  rintro _ s1 ⟨_, H1, I1, obj, rfl, C, dd, fs, v, rfl, T, no, rfl, ea, l, q⟩
  cases (show _ = Value.ref a from obj)
  obtain ⟨od, z, ho, look, rz⟩ := xd_field I1.hok ea l
  obtain ⟨vs, hd⟩ := hf
  have caught : s1.heap.get? a = some oe := (I1.pin (a, oe) (by simp)).1
  have whole : PySem.W.InstAt s1.heap a oe C (some od) := ⟨caught, hz.1, by simp [PySem.W.notCls, hd], by simpa [hz.2] using ho⟩
  exact HandSPX.exc_get I1.kIn whole T.ga T.gg T.exC (PySem.W.findObj_own T.hdC no rfl look) (handed_of rz) ⟨v, H1, I1.tok _, rz, q⟩
/-! ### the forms of a text: plain values only -/
/-- x(e, ..) -/
structure Flat (X : Cx) (x : Str) (e : Expr) (es : List Expr) (pos : Pos) : Prop where
  dbg : (x == ("__debug__" : Str)) = false
  first : starEach (e :: es) X.env = (false, eval e X.env) :: starEach es X.env
  plain : (backTo pos (starEach es X.env)).any (·.1) = false
/-- o.m(e, ..) -/
structure MeForm (X : Cx) (pl : Sem Bool) (o e : Expr) (es : List Expr) (m : Str) (apos pos : Pos) : Prop where
  first : starEach (e :: es) X.env = (false, eval e X.env) :: starEach es X.env
  plain : (backTo pos (starEach es X.env)).any (·.1) = false
  steps : eval (.Call (.Attribute o m apos) (e :: es) [] pos) X.env =
    (eval o X.env >>= fun ov => standAt apos.atName >>= fun _ => holding [ov] (getMethod ov m pl) >>= fun g => callWith pos g.1 g.2 (backTo pos (starEach (e :: es) X.env)) (backToKw pos (keywordEach [] X.env)))
/-! ### x.m(..): a def read off a class -/
structure ClsDef (K : PySem.W.Frag) (C f : Addr) (m : Str) : Prop where
  reads : PySem.W.readsIn K C (.type "type") = true
  special : PySem.W.specialIn K (.ref C) "__getattribute__" = some (some (.builtin "type.__getattribute__"))
  find : PySem.W.findCls K (.ref C) (.type "type") m = some (.val (.ref f))
section
variable {X : Cx} {k j : Nat} {f C : Addr} {fd : FuncData} {ps : List Str} {sp : Sp} {x m : Str} {p1 p2 pos : Pos} {e : Expr} {es : List Expr} {t : TA} {pl : Sem Bool}
theorem pe_ci (T : ClsDef X.K C f m) (hg : Gl X x) (hm : X.mg x = some (.ref C)) (hk : PySem.W.keepIn X.K (.ref f) = true) (F : FnOk X.prog X.w X.K X.mg X.base CX0 k f fd ps sp) (hr : Room j X.A) (hj : k ≤ j) (hb : Binds X.K fd ps []) (ha : PA X (e :: es) t)
    (form : MeForm X pl (.Name x p1) e es m p2 pos := by exact ⟨rfl, rfl, rfl⟩) (hdb : (x == ("__debug__" : Str)) = false := by decide) :
    PE X (.Call (.Attribute (.Name x p1) m p2) (e :: es) [] pos) (tCall sp [] E0 t) := by
  constructor
  intro pins s σ H Q I h
  refine PySem.W.methodCall_KW (pl := pl) (ld_glob I hg hm (PySem.W.method_cls I.kIn T.special (PySem.W.cls_value I.kIn T.reads T.find rfl ?_)) hdb) form.steps
  refine PySem.W.callWith_K (first := []) (h₀ := X.base) I.ok.mod.kin hk (thn (ha.run pos pins _ σ H _ (I.tok _) h) ?_) form.first form.plain
  rintro us s2 ⟨vs, H2, I2, r, q2⟩
  exact ⟨I2.kIn, run_fn (us := us) (vs := vs) F (hr.mono hj) hb .nil pass0 I2 r q2⟩
end
/-! ### defs that raise -/
structure CalX (P : Program) (w : World) (K : PySem.W.Frag) (mg : Str → Option Value) (base : Heap) (k : Nat) (x : Str) (sp : Sp) : Prop where
  ex : ∃ (f : Addr) (fd : FuncData) (ps : List Str), FnOk P w K mg base (L2.CX P w) k f fd ps sp ∧ mg x = some (.ref f) ∧ PySem.W.keepIn K (.ref f) = true ∧ Binds K fd ps []
structure MetX (P : Program) (w : World) (K : PySem.W.Frag) (mg : Str → Option Value) (base : Heap) (k : Nat) (C : Addr) (m : Str) (sp : Sp) : Prop where
  ex : ∃ (f : Addr) (fd : FuncData) (ps : List Str), Cls K C ∧ Meth K C m f ∧ FnOk P w K mg base (L2.CX P w) k f fd ps sp ∧ Binds K fd ps []
/-- the body's part, what is raised told -/
abbrev BodyX (P : Program) (w : World) (K : PySem.W.Frag) (mg : Str → Option Value) (base : Heap) (k : Nat) (N : List Str) (qual : Str) (body : List Stmt) (scope : Scope) (f : Addr) (sp : Sp) : Prop :=
  ∀ (cdv : Value) (A : Around) (outer : List Env) (s : Shared) (H : Hp) (vs : List V) (Q : VK) (E : XK), Room k (A.deeper (envOfC qual scope s.heap.objs.size f cdv)) → sp vs H Q E →
    Takes (cxOf (L2.CX P w) P w K mg base N qual scope f cdv A outer s H E) (fun cls d _ H' => E cls d H') → ∃ t, PSs (cxOf (L2.CX P w) P w K mg base N qual scope f cdv A outer s H E) body t ∧ t { nx := fun _ H' => Q .non H', rt := Q } (start N vs) H
section
variable {P : Program} {w : World} {K : PySem.W.Frag} {mg : Str → Option Value} {base : Heap} {x qual : Str} {params : Arguments} {body : List Stmt} {scope : Scope} {f C : Addr} {fd : FuncData} {N ps : List Str} {k : Nat} {sp : Sp} {dvs : List V} {kws : List (Str × V)}
theorem fnx_of (F : FunD K x qual params body scope dvs kws f fd) (S : FnScope N ps scope) (len : ∀ vs H Q E, sp vs H Q E → vs.length = ps.length) (hb : BodyX P w K mg base k N qual body scope f sp) : FnOk P w K mg base (L2.CX P w) (k + 1) f fd ps sp :=
  F.ok S len fun cdv A outer s H vs Q E hr hsp => hb cdv A outer s H vs Q E hr hsp (takes_of rfl rfl rfl rfl)
theorem calx_of (F : FunD K x x params body scope [] [] f fd) (hm : mg x = some (.ref f)) (b : Binds K fd ps []) (S : FnScope N ps scope) (len : ∀ vs H Q E, sp vs H Q E → vs.length = ps.length) (hb : BodyX P w K mg base k N x body scope f sp) : CalX P w K mg base (k + 1) x sp :=
  ⟨f, fd, ps, fnx_of F S len hb, hm, F.kp, b⟩
theorem metx_of (F : FunD K x qual params body scope dvs kws f fd) (c : Cls K C) (me : Meth K C x f) (b : Binds K fd ps []) (S : FnScope N ps scope) (len : ∀ vs H Q E, sp vs H Q E → vs.length = ps.length) (hb : BodyX P w K mg base k N qual body scope f sp) : MetX P w K mg base (k + 1) C x sp :=
  ⟨f, fd, ps, c, me, fnx_of F S len hb, b⟩
end
section
variable {X : Cx} {k j : Nat} {C : Addr} {x m : Str} {sp : Sp} {p pos apos : Pos} {e o : Expr} {es : List Expr} {ta : TE} {t : TA} {W : WX} {E : XK}
theorem pe_cx (c : CalX X.prog X.w X.K X.mg X.base k x sp) (tk : Takes X W) (hW : ∀ cls d σ H, E cls d H → W cls d σ H) (hr : Room j X.A) (hk : k ≤ j) (hg : Gl X x) (ha : PA X (e :: es) t) (form : Flat X x e es pos := by exact ⟨by decide, rfl, rfl⟩) :
    PE X (.Call (.Name x p) (e :: es) [] pos) (tCall sp [] E t) :=
  let ⟨_, _, _, F, at_, kept, b⟩ := c.ex
  pe_call F (hr.mono hk) hg at_ kept b .nil (passes_call tk hW) ha form.dbg form.first form.plain
theorem pe_mx {pl : Sem Bool} (c : MetX X.prog X.w X.K X.mg X.base k C m sp) (tk : Takes X W) (hW : ∀ cls d σ H, E cls d H → W cls d σ H) (hr : Room j X.A) (hk : k ≤ j) (he : PE X o ta) (ha : PA X (e :: es) t) (form : MeForm X pl o e es m apos pos := by exact ⟨rfl, rfl, rfl⟩) :
    PE X (.Call (.Attribute o m apos) (e :: es) [] pos) (tMeth C m sp [] E ta t) :=
  let ⟨_, _, _, cls, me, F, b⟩ := c.ex
  pe_meth (pl := pl) he cls me F (hr.mono hk) b .nil (passes_call tk hW) ha form.first form.plain form.steps
end
/-! ### the head: facts, one more Bool, the tables of some defs -/
def frY (g : Addr → Option Obj) (n : Nat) : PySem.W.Frag := He.frT g (He.asD g n ++ [cStatics])
structure SaysY (fa : List He.Fa) (fn : List He.DefD) (tf : List He.Defn) (ex : PySem.W.Frag → Bool) (h : Heap) (K : PySem.W.Frag) : Prop where
  d : He.SaysD fa fn K
  more : ex K = true
  code : ∀ p ∈ tf, PySem.W.codeHdIn K (He.cT K p).1 (He.cT K p).2 = true
  out : ∀ p ∈ tf, K.lookup (He.cT K p).2 = none
  empty : ∀ p ∈ tf, h.get? (He.cT K p).2 = some { cls := .none, data := .fields #[] }
abbrev AlY : Type := He.AlD × Bool
def obsY (n : Nat) (fa : List He.Fa) (fn : List He.DefD) (tf : List He.Defn) (ex : PySem.W.Frag → Bool) (g : Addr → Option Obj) : AlY := (He.obsD fa fn (frY g n), ex (frY g n) && He.tabsB g tf (frY g n))
theorem saysY_of {n : Nat} {fa : List He.Fa} {fn : List He.DefD} {tf : List He.Defn} {ex : PySem.W.Frag → Bool} {h : Heap} (e : obsY n fa fn tf ex h.get? = (He.valD fn, true)) : SaysY fa fn tf ex h (frY h.get? n) := by
  have e1 : He.obsD fa fn (frY h.get? n) = He.valD fn := congrArg (fun z : AlY => z.1) e
  have e2 : (ex (frY h.get? n) && He.tabsB h.get? tf (frY h.get? n)) = true := congrArg (fun z : AlY => z.2) e
  obtain ⟨h1, h2⟩ := Bool.and_eq_true_iff.mp e2
  have tab : ∀ p ∈ tf, PySem.W.codeHdIn (frY h.get? n) (He.cT (frY h.get? n) p).1 (He.cT (frY h.get? n) p).2 = true ∧ ∃ o, h.get? (He.cT (frY h.get? n) p).2 = some o ∧ He.emptyTab o = true := fun p hp => by
    obtain ⟨h3, h4⟩ := Bool.and_eq_true_iff.mp (List.all_eq_true.mp h2 p hp)
    refine ⟨h3, ?_⟩
    cases q : h.get? (He.cT (frY h.get? n) p).2 with
    | none => rw [q] at h4; cases h4
    | some o => rw [q] at h4; exact ⟨o, rfl, h4⟩
  refine ⟨e1, h1, fun p hp => (tab p hp).1, fun p hp => ?_, fun p hp => ?_⟩
  · obtain ⟨_, o, q, z⟩ := tab p hp
    exact He.frT_none q z
  · obtain ⟨_, o, q, z⟩ := tab p hp
    rw [q]
    exact congrArg some (He.emptyTab_eq z)
def hookY (n : Nat) (fa : List He.Fa) (fn : List He.DefD) (tf : List He.Defn) (ex : PySem.W.Frag → Bool) : PySem.W.Hook where
  α := AlY
  obs := fun s => obsY n fa fn tf ex s.heap.get?
  val := fun _ => (He.valD fn, true)
  says := fun _ h => ∃ K : PySem.W.Frag, K.In h ∧ SaysY fa fn tf ex h K
  of := fun _ _ e => ⟨_, He.frT_in, saysY_of e⟩
  keeps := fun _ _ _ ⟨K, hK, c⟩ k => ⟨K, hK.keeps k, c.d, c.more, c.code, c.out, fun p hp => k _ _ (c.empty p hp)⟩
theorem obsY_eq {n : Nat} {fa : List He.Fa} {fn : List He.DefD} {tf : List He.Defn} {ex : PySem.W.Frag → Bool} {g : Addr → Option Obj} {s : Shared} (h : ∀ a, g a = s.heap.get? a) : obsY n fa fn tf ex g = (hookY n fa fn tf ex).obs s := by
  have e : g = s.heap.get? := funext h
  rw [e]
  rfl
def clsDefB (K : PySem.W.Frag) (C f : Addr) (m : Str) : Bool := PySem.W.readsIn K C (.type "type") && (decide (PySem.W.specialIn K (.ref C) "__getattribute__" = some (some (.builtin "type.__getattribute__"))) && (match PySem.W.findCls K (.ref C) (.type "type") m with
  | some (.val (.ref g)) => decide (g = f)
  | _ => false))
theorem clsDefB_ok {K : PySem.W.Frag} {C f : Addr} {m : Str} (h : clsDefB K C f m = true) : ClsDef K C f m := by
  obtain ⟨h1, h⟩ := Bool.and_eq_true_iff.mp h
  obtain ⟨h2, h3⟩ := Bool.and_eq_true_iff.mp h
  refine ⟨h1, of_decide_eq_true h2, ?_⟩
  split at h3
  · rename_i g e
    rw [e, of_decide_eq_true h3]
  · cases h3
/-- the __init__ of an own class -/
structure InitAt (K : PySem.W.Frag) (C f : Addr) : Prop where
  find : PySem.W.findIn K (.ref C) "__init__" = some (some (.ref f))
  fn : PySem.W.typeIn K (.ref f) = some (.type "function")
def initB (K : PySem.W.Frag) (C : Addr) : Bool := decide (PySem.W.findIn K (.ref C) "__init__" = some (some (.ref (He.ma K C "__init__")))) && decide (PySem.W.typeIn K (.ref (He.ma K C "__init__")) = some (.type "function"))
theorem initB_ok {K : PySem.W.Frag} {C : Addr} (h : initB K C = true) : InitAt K C (He.ma K C "__init__") :=
  let ⟨h1, h2⟩ := Bool.and_eq_true_iff.mp h
  ⟨of_decide_eq_true h1, of_decide_eq_true h2⟩
/-- a def with defaults, all parameters handed in -/
theorem bindsD {K : PySem.W.Frag} {x qual : Str} {params : Arguments} {body : List Stmt} {scope : Scope} {dvs : List V} {kws : List (Str × V)} {f : Addr} {fd : FuncData} {ps : List Str} (F : FunD K x qual params body scope dvs kws f fd)
    (h : ∀ (dV kV doc pm : Value) (an : Option Addr) (cdv ct : Value) (us : List Value), us.length = ps.length → bindArgs (PySem.W.fnOf x qual params body scope dV kV doc pm an cdv ct) ⟨us, []⟩ = pure (ps.zip us)) : Binds K fd ps [] := by
  obtain ⟨_, _, dV, kV, doc, pm, an, cdv, ct, _, rfl, _⟩ := F.ex
  exact .all (h dV kV doc pm an cdv ct)
def viB (K : PySem.W.Frag) (b i : String) : Bool := match PySem.W.findCls K (.type b) (.type "type") "__init__" with
  | some (.val (.builtin j)) => decide (j = i)
  | _ => false
theorem viB_ok {K : PySem.W.Frag} {b i : String} (h : viB K b i = true) : PySem.W.findCls K (.type b) (.type "type") "__init__" = some (.val (.builtin i)) := by
  unfold viB at h
  split at h
  · rename_i j e
    rw [e, of_decide_eq_true h]
  · cases h
end Tw

set_option maxHeartbeats 4000000
/-! own exception classes over any of some built-in ones: made, stored into, raised. The class is read off by the library's excInitIn, excOver, hasDictIn; the store goes by osa_openX. -/
namespace Tw
open PySem PySem.Spec PyProof.Rows L2
/-- a built-in class of exceptions: its name, its makers, the line of its elders -/
structure Bs where
  name : String
  newId : String
  initId : String
  tail : List Value
structure BsOk (b : Bs) : Prop where
  fac : ExcBaseFacts b.name b.newId b.initId b.tail
  sto : StoreFacts b.name b.tail "object.__setattr__" "object"
  typ : typeOf (.type b.name) = pure (.type "type")
  stub : Manifest.isStub b.name = false
abbrev bVE : Bs := ⟨"ValueError", "ValueError.__new__", "ValueError.__init__", [.type "ValueError", .type "Exception", .type "BaseException", .type "object"]⟩
abbrev bLE : Bs := ⟨"LookupError", "LookupError.__new__", "LookupError.__init__", [.type "LookupError", .type "Exception", .type "BaseException", .type "object"]⟩
abbrev bRE : Bs := ⟨"RuntimeError", "RuntimeError.__new__", "RuntimeError.__init__", [.type "RuntimeError", .type "Exception", .type "BaseException", .type "object"]⟩
abbrev bIE : Bs := ⟨"IndexError", "IndexError.__new__", "IndexError.__init__", [.type "IndexError", .type "LookupError", .type "Exception", .type "BaseException", .type "object"]⟩
theorem bb_ValueError : bootBuiltins "ValueError" = some (.type "ValueError") := by decide +kernel
theorem bb_LookupError : bootBuiltins "LookupError" = some (.type "LookupError") := by decide +kernel
theorem bb_RuntimeError : bootBuiltins "RuntimeError" = some (.type "RuntimeError") := by decide +kernel
theorem bb_IndexError : bootBuiltins "IndexError" = some (.type "IndexError") := by decide +kernel
theorem bVE_ok : BsOk bVE := ⟨F.excBase_ValueError, F.store_ValueError, by kernel_rfl, by decide +kernel⟩
theorem bIE_ok : BsOk bIE := ⟨F.excBase_IndexError, F.store_IndexError, by kernel_rfl, by decide +kernel⟩
theorem bLE_ok : BsOk bLE := ⟨F.excBase_LookupError, F.store_LookupError, by kernel_rfl, by decide +kernel⟩
theorem bRE_ok : BsOk bRE := ⟨F.excBase_RuntimeError, F.store_RuntimeError, by kernel_rfl, by decide +kernel⟩
/-- what the written part says of an own class over b -/
structure OxC (b : Bs) (K : PySem.W.Frag) (C : Addr) : Prop where
  ok : BsOk b
  makes : PySem.W.excInitIn K C b.tail b.newId = true
  over : PySem.W.excOver K C b.tail = true
  dict : PySem.W.hasDictIn K C = true
  store : PySem.W.findIn K (.ref C) "__setattr__" = some (some (.builtin "object.__setattr__"))
  exc : PySem.W.subIn K (.ref C) (.type "BaseException") = some true
  typ : PySem.W.typeIn K (.ref C) = some (.type "type")
  keep : PySem.W.keepIn K (.ref C) = true
def oxB (b : Bs) (K : PySem.W.Frag) (C : Addr) : Bool :=
  [PySem.W.excInitIn K C b.tail b.newId, PySem.W.excOver K C b.tail, PySem.W.hasDictIn K C, decide (PySem.W.findIn K (.ref C) "__setattr__" = some (some (.builtin "object.__setattr__"))), decide (PySem.W.subIn K (.ref C) (.type "BaseException") = some true), decide (PySem.W.typeIn K (.ref C) = some (.type "type")), PySem.W.keepIn K (.ref C)].all id
theorem oxB_ok {b : Bs} (okb : BsOk b) {K : PySem.W.Frag} {C : Addr} (h : oxB b K C = true) : OxC b K C := by
  simp only [oxB, List.all_cons, List.all_nil, id, Bool.and_true, Bool.and_eq_true, decide_eq_true_eq] at h
  obtain ⟨q1, q2, q3, q4, q5, q6, q7⟩ := h
  exact ⟨okb, q1, q2, q3, q4, q5, q6, q7⟩
section
variable {b : Bs} {X : Cx} {pins : List (Addr × Obj)} {σ : L2.St} {H : Hp} {s : Shared} {a C dx : Addr} {f : Str} {y : V} {u : Value} {fs : List (Str × V)} {E : Value → Shared → Prop} {A : Around}
theorem taker0 {K : PySem.W.Frag} (no : PySem.W.findIn K (.ref C) f = some none) : PySem.W.takerIn K C f = some none := by
  unfold PySem.W.takerIn
  rw [no]
  rfl
/-- the first field: a dict is laid, then the exception is made to hold it -/
theorem oxs_first {Q : Unit → Shared → Prop} (T : OxC b X.K C) (I : Inv X pins σ H s) (e : H a = some (exo a C none)) (no : PySem.W.findIn X.K (.ref C) f = some none) (ry : RelV y u)
    (h : ∀ dx s', H dx = none → dx ≠ a → Inv X pins σ (upd (upd H dx (exd dx [(f, y)])) a (exo a C (some dx))) s' → Q () s') : wpAny (model X.prog X.w) A (setAttr (.ref a) f u) Q E s := by
  obtain ⟨t1, old⟩ := exo_at I.hok e
  obtain ⟨hp, g, d, t, os⟩ := s
  obtain ⟨cd, hc, hd⟩ := PySem.W.any_some T.dict
  have ne : a ≠ hp.objs.size := Nat.ne_of_lt (Heap.lt_size old)
  refine PySem.W.set_plain (od := none) I.kIn ⟨old, rfl, rfl, trivial⟩ T.store (PySem.W.osa_openX (od := none) T.ok.sto I.kIn ⟨old, rfl, rfl, trivial⟩ T.over (taker0 no) fun _ => ?_)
  refine wpAny_bind (wpAny_pure (wpAny_bind (PySem.W.instanceDict_exc old (PySem.W.looks_clsIn I.kIn hc) hd ?_)))
  have held : ((hp.push (PySem.W.dictOf [] 0)).update a fun o => { o with dict := some hp.objs.size }).get? a = some { cls := .ref C, dict := some hp.objs.size, data := .fields #[.ref t1, .none, .none, .none, .bool false, .none] } := Heap.get?_update_self _ (Heap.get?_push_of_some _ old) rfl
  refine HandSPX.store_in_new ⟨_, #[], _, (Heap.get?_update_ne _ _ _ _ ne.symm).trans (Heap.get?_push_at rfl rfl), rfl, fun e he => absurd he (by simp), fun _ => rfl⟩ fun h' tk' hn hs => ?_
  have atA : h'.get? a = _ := (hs.2 a ne).trans held
  -- the heap between: the dict filled, the exception not yet touched
  have back : (h'.update a fun _ => { cls := .ref C, dict := none, data := .fields #[.ref t1, .none, .none, .none, .bool false, .none] }).get? a = some { cls := .ref C, dict := none, data := .fields #[.ref t1, .none, .none, .none, .bool false, .none] } := Heap.get?_update_self _ atA rfl
  have mid := I.laid (h' := h'.update a fun _ => { cls := .ref C, dict := none, data := .fields #[.ref t1, .none, .none, .none, .bool false, .none] }) (t' := tk') (o := exd hp.objs.size [(f, y)]) (fun c o q => ?_) (Nat.le_refl _)
    (exd_ok (hn.at fun o q => (Heap.get?_update_ne _ _ _ _ ne.symm).trans q) (relO_put (fs := []) ry fun _ => True.intro))
  · refine h hp.objs.size _ (I.hok.fresh (Nat.le_refl _)) ne.symm (mid.write (h' := h') (t' := tk') (x := a) (e := a) (o := exo a C (some hp.objs.size)) (by rw [upd_ne ne, e]; exact True.intro) (.inl rfl) (fun c o hc q => ?_) ⟨_, atA⟩ (exo_ok atA))
    exact (Heap.get?_update_ne _ _ _ _ hc).symm.trans q
  · by_cases hca : c = a
    · subst hca
      rw [back]
      exact old.symm.trans q
    · rw [Heap.get?_update_ne _ _ _ _ hca, hs.2 c (Nat.ne_of_lt (Heap.lt_size q)), Heap.get?_update_ne _ _ _ _ hca]
      exact Heap.get?_push_of_some _ q
/-- a further field -/
theorem oxs_more {Q : Unit → Shared → Prop} (T : OxC b X.K C) (I : Inv X pins σ H s) (e : H a = some (exo a C (some dx))) (ed : H dx = some (exd dx fs)) (hl : fs.length ≤ 900) (no : PySem.W.findIn X.K (.ref C) f = some none) (ry : RelV y u) (h : ∀ s', Inv X pins σ (upd H dx (exd dx ((f, y) :: fs))) s' → Q () s') :
    wpAny (model X.prog X.w) A (setAttr (.ref a) f u) Q E s := by
  obtain ⟨t1, old⟩ := exo_at I.hok e
  obtain ⟨m0, ns, rel⟩ := exd_at I.hok ed
  obtain ⟨hp, g, d, t, os⟩ := s
  obtain ⟨cd, hc, hd⟩ := PySem.W.any_some T.dict
  obtain ⟨od, _, _, atD, _⟩ := ns.count (within_of rel)
  refine PySem.W.set_plain (od := some od) I.kIn ⟨old, rfl, rfl, atD⟩ T.store (PySem.W.osa_openX (od := some od) T.ok.sto I.kIn ⟨old, rfl, rfl, atD⟩ T.over (taker0 no) fun _ => ?_)
  refine wpAny_bind (wpAny_pure (wpAny_bind (wpAny_bind (wpAny_loadPart old (wpAny_bind ((PySem.W.looks_clsIn I.kIn hc).at ?_))))))
  rw [hd]
  refine wpAny_pure (a := some dx) (PySem.OEX.store_in_old ns (within_of rel) (by rw [List.length_map]; omega) fun h' tk' hn hs => ?_)
  obtain ⟨_, _, _, there, _⟩ := id hn
  exact h _ (I.write (t' := tk') (x := dx) (e := dx) (o := exd dx ((f, y) :: fs)) (by rw [ed]; exact True.intro) (.inl rfl) (fun c o hc q => (hs.2 c hc).trans q) ⟨_, there⟩ (exd_ok hn (relO_put ry rel)))
theorem upd_idem {o : HO} (e : H a = some o) : upd H a o = H := funext fun c => by
  by_cases hc : c = a
  · subst hc
    exact upd_same.trans e.symm
  · exact upd_ne hc
/-- B.__init__ of the built-in class: the exception keeps its shape -/
theorem ox_init {us : List Value} {Q : Value → Shared → Prop} (T : OxC b X.K C) (I : Inv X pins σ H s) (e : H a = some (exo a C none)) (hl : us.length ≤ sizeLine) (h : ∀ s', Inv X pins σ H s' → Q .none s') : wpAny (model X.prog X.w) A (call (.builtin b.initId) (.ref a :: us)) Q E s := by
  obtain ⟨_, _, _, _, _, _, _, _, _, _, _, _, _, _, _, _, cls, line⟩ := PySem.W.excInit_of I.kIn T.makes
  obtain ⟨t1, old⟩ := exo_at I.hok e
  obtain ⟨hp, g, d, t, os⟩ := s
  refine wpAny_call (PySem.HandSPX.init_base T.ok.fac line cls old hl fun h' t2 k new => h _ ?_)
  have J := I.write (t' := t) (x := a) (e := a) (o := exo a C none) (by rw [e]; exact True.intro) (.inl rfl) k ⟨_, new⟩ (exo_ok new)
  rwa [upd_idem e] at J
end
/-- B.__init__(self, ..), B the built-in one -/
def tBi (b : Bs) (K : PySem.W.Frag) (ta : TA) : TE := fun σ H Q => ta σ H fun vs H1 => ∃ (a C : Addr) (ws : List V), vs = .ref a :: ws ∧ ws.length ≤ 1000 ∧ OxC b K C ∧ H1 a = some (exo a C none) ∧ Q .non H1
/-- self.f = e -/
def tOx (b : Bs) (K : PySem.W.Frag) (f : Str) (to te : TE) : TS := fun D σ H => te σ H fun y H1 => to σ H1 fun x H2 => ∃ a C : Addr, x = .ref a ∧ OxC b K C ∧ PySem.W.findIn K (.ref C) f = some none ∧
  ((H2 a = some (exo a C none) ∧ ∀ dx, H2 dx = none → dx ≠ a → D.nx σ (upd (upd H2 dx (exd dx [(f, y)])) a (exo a C (some dx)))) ∨ ∃ (dx : Addr) (fs : List (Str × V)), H2 a = some (exo a C (some dx)) ∧ H2 dx = some (exd dx fs) ∧ fs.length ≤ 900 ∧ D.nx σ (upd H2 dx (exd dx ((f, y) :: fs))))
section
variable {b : Bs} {X : Cx} {o e : Expr} {es : List Expr} {to te : TE} {ta : TA} {f x : Str} {p p' p1 p2 pos : Pos} {pl : Sem Bool}
theorem pe_binit (okb : BsOk b) (hv : bootBuiltins x = some (.type b.name)) (hg : Gl X x) (hm : X.mg x = none) (vV : PySem.W.findCls X.K (.type b.name) (.type "type") "__init__" = some (.val (.builtin b.initId))) (hh : PySem.W.handedIn (.builtin b.initId) = true) (ha : PA X (e :: es) ta)
    (form : MeForm X pl (.Name x p1) e es "__init__" p2 pos := by exact ⟨rfl, rfl, rfl⟩) (hn : x ≠ "__name__" := by decide) (hdb : (x == ("__debug__" : Str)) = false := by decide) :
    PE X (.Call (.Attribute (.Name x p1) "__init__" p2) (e :: es) [] pos) (tBi b X.K ta) := by
  constructor
  intro pins s σ H Q I h
  obtain ⟨_, fr⟩ := I.fr
  refine PySem.W.methodCall_KW (pl := pl) (ld_blt I hg hm hv (PySem.W.method_type fr I.ok.mod.kin okb.typ okb.stub vV hh ?_) hn hdb) form.steps
  refine PyProof.Rows.callWith_method1 (thn (ha.run pos pins _ σ H _ (I.tok _) h) ?_) form.first form.plain
  rintro _ s1 ⟨_, H1, I1, rel, a, C, ws, rfl, hl, T, ea, q⟩
  cases rel with
  | cons ra rr =>
    cases (show _ = Value.ref a from ra)
    exact ox_init T I1 ea (Nat.le_trans (Nat.le_of_eq (Paired.length rr).symm) (by rw [sizeLine_eq]; omega)) fun s' J => ⟨.non, H1, J, rfl, q⟩
theorem ps_ox (ho : PE X o to) (he : PE X e te) (hs : swapsWith e (some (.Attribute o f p')) pos.line X.env = pure false := by rfl) : PS X (.Assign [.Attribute o f p'] e pos) (tOx b X.K f to te) := by
  constructor
  intro pins s σ H D I h
  refine plainObj_wpAny_Assign_Attribute (thn (he.run pins s σ H _ I h) ?_) hs
  rintro v s1 ⟨y, H1, I1, ry, q1⟩
  refine thn (ho.run pins s1 σ H1 _ I1 q1) ?_
  rintro _ s2 ⟨_, H2, I2, ro, a, C, rfl, T, no, new | more⟩ <;> cases (show _ = Value.ref a from ro)
  · exact oxs_first T I2 new.1 no ry fun dx s' n ne J => ⟨σ, _, J, new.2 dx n ne⟩
  · obtain ⟨dx, fs, ea, ed, hl, q⟩ := more
    exact oxs_more T I2 ea ed hl no ry fun s' J => ⟨σ, _, J, q⟩
/-- an own exception class over b that is made by its name -/
structure MkB (b : Bs) (P : Program) (w : World) (K : PySem.W.Frag) (mg : Str → Option Value) (base : Heap) (k : Nat) (x : Str) (C : Addr) (sp : Sp) : Prop where
  ex : ∃ (f : Addr) (fd : FuncData) (ps : List Str), OxC b K C ∧ InitAt K C f ∧ FnOk P w K mg base CX0 k f fd ps sp ∧ mg x = some (.ref C) ∧ Binds K fd ps []
theorem pmk_b {k j : Nat} {C : Addr} {sp : Sp} (c : MkB b X.prog X.w X.K X.mg X.base k x C sp) (hr : Room j X.A) (hk : k + 1 ≤ j) (hg : Gl X x) (ha : PA X (e :: es) ta) (form : Flat X x e es pos := by exact ⟨by decide, rfl, rfl⟩) : PMk X (.Call (.Name x p) (e :: es) [] pos) (tMkO C sp [] ta) := by
  intro pins s σ H Q I h
  obtain ⟨init, fd, ps, T, at_, F0, hm, bnd⟩ := c.ex
  have F := F0.raw bnd .nil
  refine wpAny_Call_Name_kw (ld_glob I hg hm (PySem.W.callWith_K (h₀ := X.base) I.ok.mod.kin T.keep (thn (ha.run pos pins s σ H _ I h) ?_) form.first form.plain) form.dbg)
  rintro us ⟨hp, g, d, t, os⟩ ⟨vs, H1, I1, rel, few, q⟩
  refine ⟨I1.kIn, ?_⟩
  obtain ⟨_, _, _, _, _, _, _, _, _, _, _, _, _, _, _, _, cls, line⟩ := PySem.W.excInit_of I1.kIn T.makes
  -- the args' tuple and the exception lie behind one another
  have next : hp.objs.size ≤ hp.objs.size + 1 := Nat.le_succ _
  have kept : ∀ c o, hp.get? c = some o → ((hp.push (PySem.W.kdv_tup us)).push (PySem.HandSPX.excO C hp.objs.size)).get? c = some o := fun c o z => Heap.get?_push_of_some _ (Heap.get?_push_of_some _ z)
  have I2 := I1.laid (h' := (hp.push (PySem.W.kdv_tup us)).push (PySem.HandSPX.excO C hp.objs.size)) (t' := t) (o := exo (hp.objs.size + 1) C none) kept next (exo_ok (t1 := hp.objs.size) (by heap_get))
  have fits : us.length ≤ sizeLine := Nat.le_trans (Nat.le_of_eq (Paired.length rel).symm) (by rw [sizeLine_eq]; omega)
  have ran := F _ X.stack _ _ (.ref (hp.objs.size + 1) :: us) (.ref (hp.objs.size + 1) :: vs) _ E0 ((hr.mono hk).make C us []) (I2.env0.make C us []) (.cons rfl rel) (q _ (I1.hok.fresh next))
  refine wpAny_call (PySem.HandSPX.call_own T.ok.fac line cls (PySem.W.looks_findIn I1.kIn at_.find) (fun self => PySem.W.bind_fn I1.kIn self at_.fn) fits (codeAny_mono ran ?_))
  rintro (_ | (_ | _ | _ | _)) ⟨h2, g2, d2, t2, os2⟩ z <;> first
    | exact False.elim z
    | (obtain ⟨_, H2, os', bare, un, hok, rv, rfl, dd, fs, ea, ed, new, q2⟩ := z
       exact ⟨rv, mk_end (raises_own T.exc T.typ) I1 next kept un hok os' bare ea ed new q2⟩)
end
end Tw

set_option maxHeartbeats 4000000
/-! a head that looks only at the globals that are wanted, and what hangs on them; of some at nothing but themselves -/
namespace Tw
open PySem PySem.Spec PyProof.Rows L2
/-- what is met anew, with the marks of all that was met (a number's bits: no list is searched) -/
def metZ (p : Nat × List Addr) (a : Addr) : Nat × List Addr := match p with
  | (m, l) => cond (Nat.beq (Nat.land (Nat.shiftRight m a) 1) 1) (m, l) (Nat.lor m (Nat.shiftLeft 1 a), a :: l)
def nextZ (g : Addr → Option Obj) (m : Nat) (f : List Addr) : Nat × List Addr := f.foldl (fun p a => match g a with
  | some o => (He.refsD o).foldl metZ p
  | none => p) (m, [])
/-- what the addresses f reach in n steps -/
def goZ (g : Addr → Option Obj) : Nat → Nat → List Addr → List Addr
  | 0, _, f => f
  | n + 1, m, f => match nextZ g m f with
    | (m', f') => f ++ goZ g n m' f'
/-- what is wanted: with all that it reaches in n steps; with what it holds itself (defs: their code); as it is -/
abbrev Want : Type := List Str × List Str × List Str
/-- never back into the globals -/
def asZ (g : Addr → Option Obj) (want : Want) (n : Nat) : List Addr := match (want.1.map (He.ga (He.frT g [mainGlobals]))).foldl metZ (Nat.shiftLeft 1 mainGlobals, []) with
  | (m, f) => (want.2.1.map (He.ga (He.frT g [mainGlobals]))).flatMap (fun a => a :: match g a with
    | some o => (He.refsD o).filter fun b => !(Nat.beq b mainGlobals)
    | none => []) ++ goZ g n m f.reverse
def frZ (g : Addr → Option Obj) (want : Want) (n : Nat) : PySem.W.Frag := He.frT g (mainGlobals :: (asZ g want n ++ (want.2.2.map (He.ga (He.frT g [mainGlobals])) ++ [cStatics])))
def obsZ (n : Nat) (want : Want) (fa : List He.Fa) (fn : List He.DefD) (tf : List He.Defn) (ex : PySem.W.Frag → Bool) (g : Addr → Option Obj) : AlY := (He.obsD fa fn (frZ g want n), ex (frZ g want n) && He.tabsB g tf (frZ g want n))
theorem saysZ_of {n : Nat} {want : Want} {fa : List He.Fa} {fn : List He.DefD} {tf : List He.Defn} {ex : PySem.W.Frag → Bool} {h : Heap} (e : obsZ n want fa fn tf ex h.get? = (He.valD fn, true)) : SaysY fa fn tf ex h (frZ h.get? want n) := by
  have e1 := congrArg (fun z : AlY => z.1) e
  obtain ⟨m1, m2⟩ := Bool.and_eq_true_iff.mp (congrArg (fun z : AlY => z.2) e)
  have at_ : ∀ p ∈ tf, PySem.W.codeHdIn (frZ h.get? want n) (He.cT (frZ h.get? want n) p).1 (He.cT (frZ h.get? want n) p).2 = true ∧ ∃ o, h.get? (He.cT (frZ h.get? want n) p).2 = some o ∧ He.emptyTab o = true := by
    intro p hp
    obtain ⟨c1, c2⟩ := Bool.and_eq_true_iff.mp (List.all_eq_true.mp m2 p hp)
    revert c2
    cases h.get? (He.cT (frZ h.get? want n) p).2 with
    | none => exact fun z => nomatch z
    | some o => exact fun z => ⟨c1, o, rfl, z⟩
  refine ⟨e1, m1, fun p hp => (at_ p hp).1, fun p hp => ?_, fun p hp => ?_⟩
  · obtain ⟨_, o, q, z⟩ := at_ p hp
    exact He.frT_none q z
  · obtain ⟨_, o, q, z⟩ := at_ p hp
    rw [q, He.emptyTab_eq z]
def hookZ (n : Nat) (want : Want) (fa : List He.Fa) (fn : List He.DefD) (tf : List He.Defn) (ex : PySem.W.Frag → Bool) : PySem.W.Hook where
  α := AlY
  obs := fun s => obsZ n want fa fn tf ex s.heap.get?
  val := fun _ => (He.valD fn, true)
  says := fun _ h => ∃ K : PySem.W.Frag, K.In h ∧ SaysY fa fn tf ex h K
  of := fun _ _ e => ⟨_, He.frT_in, saysZ_of e⟩
  keeps := fun _ _ _ ⟨K, hK, c⟩ k => ⟨K, hK.keeps k, c.d, c.more, c.code, c.out, fun p hp => k _ _ (c.empty p hp)⟩
theorem obsZ_eq {n : Nat} {want : Want} {fa : List He.Fa} {fn : List He.DefD} {tf : List He.Defn} {ex : PySem.W.Frag → Bool} {g : Addr → Option Obj} {s : Shared} (h : ∀ a, g a = s.heap.get? a) : obsZ n want fa fn tf ex g = (hookZ n want fa fn tf ex).obs s := by
  rw [show g = s.heap.get? from funext h]
  rfl
/-! .. with dicts of the top whose keys are texts -/
structure SaysW (fa : List He.Fa) (fn : List He.DefD) (tf : List He.Defn) (ex : PySem.W.Frag → Bool) (tb : List He.Tab) (w : World) (h : Heap) (K : PySem.W.Frag) : Prop where
  y : SaysY fa fn tf ex h K
  tab : ∀ t ∈ tb, ∃ es n, KDict K w (t.1 K) es n
  tabo : ∀ t ∈ tb, He.dicW K (t.1 K) = some (He.keysIn w.params t.2)
abbrev AlW : Type := AlY × List (Option (List (Option (Str × Int))))
def obsW (n : Nat) (want : Want) (fa : List He.Fa) (fn : List He.DefD) (tf : List He.Defn) (ex : PySem.W.Frag → Bool) (tb : List He.Tab) (g : Addr → Option Obj) : AlW := (obsZ n want fa fn tf ex g, tb.map fun t => He.dicW (frZ g want n) (t.1 (frZ g want n)))
def valW (fn : List He.DefD) (tb : List He.Tab) (w : World) : AlW := ((He.valD fn, true), tb.map fun t => some (He.keysIn w.params t.2))
theorem saysW_of {n : Nat} {want : Want} {fa : List He.Fa} {fn : List He.DefD} {tf : List He.Defn} {ex : PySem.W.Frag → Bool} {tb : List He.Tab} {w : World} {h : Heap} (e : obsW n want fa fn tf ex tb h.get? = valW fn tb w) : SaysW fa fn tf ex tb w h (frZ h.get? want n) := by
  have e2 : (tb.map fun t => He.dicW (frZ h.get? want n) (t.1 (frZ h.get? want n))) = tb.map fun t => some (He.keysIn w.params t.2) := congrArg Prod.snd e
  exact ⟨saysZ_of (congrArg Prod.fst e), fun t ht => He.dicW_ok (ks := t.2) (List.map_inj_left.mp e2 t ht), fun t ht => List.map_inj_left.mp e2 t ht⟩
def hookW (n : Nat) (want : Want) (fa : List He.Fa) (fn : List He.DefD) (tf : List He.Defn) (ex : PySem.W.Frag → Bool) (tb : List He.Tab) : PySem.W.Hook where
  α := AlW
  obs := fun s => obsW n want fa fn tf ex tb s.heap.get?
  val := fun w => valW fn tb w
  says := fun w h => ∃ K : PySem.W.Frag, K.In h ∧ SaysW fa fn tf ex tb w h K
  of := fun _ _ e => ⟨_, He.frT_in, saysW_of e⟩
  keeps := fun _ _ _ ⟨K, hK, c⟩ k => ⟨K, hK.keeps k, ⟨c.y.d, c.y.more, c.y.code, c.y.out, fun p hp => k _ _ (c.y.empty p hp)⟩, c.tab, c.tabo⟩
theorem obsW_eq {n : Nat} {want : Want} {fa : List He.Fa} {fn : List He.DefD} {tf : List He.Defn} {ex : PySem.W.Frag → Bool} {tb : List He.Tab} {g : Addr → Option Obj} {s : Shared} (h : ∀ a, g a = s.heap.get? a) : obsW n want fa fn tf ex tb g = (hookW n want fa fn tf ex tb).obs s := by
  rw [show g = s.heap.get? from funext h]
  rfl
/-- three looks at one end, taken one by one -/
theorem three_of {α β γ δ : Type} {o : Option α} {f : α → β} {g : α → γ} {h : α → δ} {x : β} {y : γ} {z : δ} (e1 : o.map (fun s => (f s, g s)) = some (x, y)) (e2 : o.map h = some z) : o.map (fun s => (f s, g s, h s)) = some (x, y, z) := by
  cases o with
  | none => cases e1
  | some s =>
    have h1 := Option.some.inj e1
    have h2 : h s = z := Option.some.inj e2
    show some (f s, g s, h s) = some (x, y, z)
    rw [h2, show f s = x from congrArg Prod.fst h1, show g s = y from congrArg Prod.snd h1]
end Tw

set_option maxHeartbeats 4000000
namespace Tw
open PySem PySem.Spec PyProof.Rows L2

def top (i : Nat) : Stmt := PySem.Challenge.pw_tidewaiter_k49_plans_judged.main.body.getD i (.Pass ⟨0, 0, 0, 0⟩)
abbrev s_is_number : Stmt := top 4
abbrev s_is_whole : Stmt := top 5
abbrev s_is_one_of : Stmt := top 6
abbrev s_is_name : Stmt := top 7
abbrev s_TideError_UinitU : Stmt := inClass (top 9) 0
abbrev s_BadPlan_UinitU : Stmt := inClass (top 20) 0
abbrev s_Web_UinitU : Stmt := inClass (top 49) 0
abbrev s_Web_with_moment : Stmt := inClass (top 49) 2
abbrev s_Web_with_span : Stmt := inClass (top 49) 3
abbrev s_Web_with_tie : Stmt := inClass (top 49) 4
abbrev s_Web_without : Stmt := inClass (top 49) 5
abbrev s_Web_moments : Stmt := inClass (top 49) 7
abbrev s_Web_spans : Stmt := inClass (top 49) 8
abbrev s_Web_ties : Stmt := inClass (top 49) 9
abbrev s_Web_points : Stmt := inClass (top 49) 10
abbrev s_Web_UeqU : Stmt := inClass (top 49) 11
abbrev s_Web_UlenU : Stmt := inClass (top 49) 12
abbrev s_Web_UreprU : Stmt := inClass (top 49) 13
abbrev s_woven : Stmt := top 50
abbrev s_is_begin : Stmt := top 51
abbrev s_are_lengths : Stmt := top 52
abbrev s_is_lateness : Stmt := top 53
abbrev s_is_used : Stmt := top 54
abbrev s_are_bounds : Stmt := top 55
abbrev s_need_free_name : Stmt := top 56
abbrev s_need_point : Stmt := top 57
abbrev s_bases : Stmt := top 59
abbrev s_offset : Stmt := top 60
abbrev s_bounds : Stmt := top 61
abbrev s_tie_bounds : Stmt := top 62
abbrev s_heard_spans : Stmt := top 63
abbrev s_heard_begins : Stmt := top 67
abbrev s_late_waits : Stmt := top 68
abbrev s_sure : Stmt := top 69
abbrev s_soon : Stmt := top 70
abbrev s_ahead : Stmt := top 71
abbrev s_Making_UinitU : Stmt := inClass (top 74) 0
abbrev s_Making_offer : Stmt := inClass (top 74) 1
abbrev s_Making_tell : Stmt := inClass (top 74) 2
abbrev s_Making_go_round : Stmt := inClass (top 74) 3
abbrev s_Making_go_along : Stmt := inClass (top 74) 4
abbrev s_Making_go_wait : Stmt := inClass (top 74) 5
abbrev s_Making_go_single : Stmt := inClass (top 74) 6
abbrev s_Table_UinitU : Stmt := inClass (top 76) 0
abbrev s_Table_until : Stmt := inClass (top 76) 2
abbrev s_Table_betweens : Stmt := inClass (top 76) 3
abbrev s_Table_untils : Stmt := inClass (top 76) 4
abbrev s_Table_UeqU : Stmt := inClass (top 76) 5
abbrev s_Table_UlenU : Stmt := inClass (top 76) 6
abbrev s_Table_UreprU : Stmt := inClass (top 76) 7
abbrev s_need_base : Stmt := top 77
abbrev s_settled : Stmt := top 79
abbrev s_steered : Stmt := top 80
abbrev s_make_all : Stmt := top 81
abbrev s_table_of : Stmt := top 82
abbrev s_paper_of : Stmt := top 83
abbrev s_row_places : Stmt := top 84
abbrev s_moved_row : Stmt := top 85
abbrev s_need_plan : Stmt := top 92
abbrev s_is_made : Stmt := top 93
abbrev s_inner_plans : Stmt := top 94
abbrev s_part_count : Stmt := top 95
abbrev s_reading_count : Stmt := top 96
abbrev s_readings : Stmt := top 97
abbrev s_reading : Stmt := top 98
abbrev s_taken : Stmt := top 99
abbrev s_has_either : Stmt := top 100
abbrev s_laid : Stmt := top 101
abbrev s_lay : Stmt := top 102
abbrev s_lay_then : Stmt := top 103
abbrev s_lay_beside : Stmt := top 104
abbrev s_gather : Stmt := top 105
abbrev s_fresh_name : Stmt := top 106
abbrev s_chosen : Stmt := top 107
abbrev s__law_flow : Stmt := top 109
abbrev s__law_draw : Stmt := top 110
abbrev s__law_pick : Stmt := top 111
abbrev s__law_same : Stmt := top 112
abbrev s__law_strange : Stmt := top 113
abbrev s__law_whole : Stmt := top 114
abbrev s__law_field : Stmt := top 115
abbrev s__law_leaf : Stmt := top 116
abbrev s__law_plan : Stmt := top 117
abbrev s__law_kids : Stmt := top 118
abbrev s__law_leaf_count : Stmt := top 119
abbrev s__law_plan_depth : Stmt := top 120
abbrev s__law_reading_count : Stmt := top 121
abbrev s__law_good_leaf : Stmt := top 122
abbrev s__law_good_form : Stmt := top 123
abbrev s__law_good_plan : Stmt := top 124
abbrev s__law_bent_plan : Stmt := top 125
abbrev s__law_edge_plan : Stmt := top 126
abbrev s_law : Stmt := top 127
abbrev N_is_number : List Str := ["thing"]
theorem sc_is_number : FnScope N_is_number ["thing"] (defScope s_is_number) := ⟨rfl, rfl, rfl, by decide +kernel, rfl, by decide +kernel, by decide +kernel⟩
abbrev N_is_whole : List Str := ["thing", "least", "most"]
theorem sc_is_whole : FnScope N_is_whole ["thing", "least", "most"] (defScope s_is_whole) := ⟨rfl, rfl, rfl, by decide +kernel, rfl, by decide +kernel, by decide +kernel⟩
abbrev N_is_one_of : List Str := ["thing", "names"]
theorem sc_is_one_of : FnScope N_is_one_of ["thing", "names"] (defScope s_is_one_of) := ⟨rfl, rfl, rfl, by decide +kernel, rfl, by decide +kernel, by decide +kernel⟩
abbrev N_is_name : List Str := ["thing", "letter"]
theorem sc_is_name : FnScope N_is_name ["thing"] (defScope s_is_name) := ⟨rfl, rfl, rfl, by decide +kernel, rfl, by decide +kernel, by decide +kernel⟩
abbrev N_TideError_UinitU : List Str := ["self", "word", "why"]
theorem sc_TideError_UinitU : FnScope N_TideError_UinitU ["self", "word", "why"] (defScope s_TideError_UinitU) := ⟨rfl, rfl, rfl, by decide +kernel, rfl, by decide +kernel, by decide +kernel⟩
abbrev N_BadPlan_UinitU : List Str := ["self"]
theorem sc_BadPlan_UinitU : FnScope N_BadPlan_UinitU ["self"] (defScope s_BadPlan_UinitU) := ⟨rfl, rfl, rfl, by decide +kernel, rfl, by decide +kernel, by decide +kernel⟩
abbrev N_Web_UinitU : List Str := ["self", "by"]
theorem sc_Web_UinitU : FnScope N_Web_UinitU ["self", "by"] (defScope s_Web_UinitU) := ⟨rfl, rfl, rfl, by decide +kernel, rfl, by decide +kernel, by decide +kernel⟩
abbrev N_Web_with_moment : List Str := ["self", "name"]
theorem sc_Web_with_moment : FnScope N_Web_with_moment ["self", "name"] (defScope s_Web_with_moment) := ⟨rfl, rfl, rfl, by decide +kernel, rfl, by decide +kernel, by decide +kernel⟩
abbrev N_Web_with_span : List Str := ["self", "end", "begin", "low", "high", "late", "span"]
theorem sc_Web_with_span : FnScope N_Web_with_span ["self", "end", "begin", "low", "high", "late"] (defScope s_Web_with_span) := ⟨rfl, rfl, rfl, by decide +kernel, rfl, by decide +kernel, by decide +kernel⟩
abbrev N_Web_with_tie : List Str := ["self", "one", "other", "least", "most", "tie"]
theorem sc_Web_with_tie : FnScope N_Web_with_tie ["self", "one", "other", "least", "most"] (defScope s_Web_with_tie) := ⟨rfl, rfl, rfl, by decide +kernel, rfl, by decide +kernel, by decide +kernel⟩
abbrev N_Web_without : List Str := ["self", "name", "moments", "spans", "moment", "span"]
theorem sc_Web_without : FnScope N_Web_without ["self", "name"] (defScope s_Web_without) := ⟨rfl, rfl, rfl, by decide +kernel, rfl, by decide +kernel, by decide +kernel⟩
abbrev N_Web_moments : List Str := ["self"]
theorem sc_Web_moments : FnScope N_Web_moments ["self"] (defScope s_Web_moments) := ⟨rfl, rfl, rfl, by decide +kernel, rfl, by decide +kernel, by decide +kernel⟩
abbrev N_Web_spans : List Str := ["self"]
theorem sc_Web_spans : FnScope N_Web_spans ["self"] (defScope s_Web_spans) := ⟨rfl, rfl, rfl, by decide +kernel, rfl, by decide +kernel, by decide +kernel⟩
abbrev N_Web_ties : List Str := ["self"]
theorem sc_Web_ties : FnScope N_Web_ties ["self"] (defScope s_Web_ties) := ⟨rfl, rfl, rfl, by decide +kernel, rfl, by decide +kernel, by decide +kernel⟩
abbrev N_Web_points : List Str := ["self", "ends", "span"]
theorem sc_Web_points : FnScope N_Web_points ["self"] (defScope s_Web_points) := ⟨rfl, rfl, rfl, by decide +kernel, rfl, by decide +kernel, by decide +kernel⟩
abbrev N_Web_UeqU : List Str := ["self", "other"]
theorem sc_Web_UeqU : FnScope N_Web_UeqU ["self", "other"] (defScope s_Web_UeqU) := ⟨rfl, rfl, rfl, by decide +kernel, rfl, by decide +kernel, by decide +kernel⟩
abbrev N_Web_UlenU : List Str := ["self"]
theorem sc_Web_UlenU : FnScope N_Web_UlenU ["self"] (defScope s_Web_UlenU) := ⟨rfl, rfl, rfl, by decide +kernel, rfl, by decide +kernel, by decide +kernel⟩
abbrev N_Web_UreprU : List Str := ["self"]
theorem sc_Web_UreprU : FnScope N_Web_UreprU ["self"] (defScope s_Web_UreprU) := ⟨rfl, rfl, rfl, by decide +kernel, rfl, by decide +kernel, by decide +kernel⟩
abbrev N_woven : List Str := ["by", "moments", "spans", "ties", "web"]
theorem sc_woven : FnScope N_woven ["by", "moments", "spans", "ties"] (defScope s_woven) := ⟨rfl, rfl, rfl, by decide +kernel, rfl, by decide +kernel, by decide +kernel⟩
abbrev N_is_begin : List Str := ["web", "name"]
theorem sc_is_begin : FnScope N_is_begin ["web", "name"] (defScope s_is_begin) := ⟨rfl, rfl, rfl, by decide +kernel, rfl, by decide +kernel, by decide +kernel⟩
abbrev N_are_lengths : List Str := ["low", "high"]
theorem sc_are_lengths : FnScope N_are_lengths ["low", "high"] (defScope s_are_lengths) := ⟨rfl, rfl, rfl, by decide +kernel, rfl, by decide +kernel, by decide +kernel⟩
abbrev N_is_lateness : List Str := ["late"]
theorem sc_is_lateness : FnScope N_is_lateness ["late"] (defScope s_is_lateness) := ⟨rfl, rfl, rfl, by decide +kernel, rfl, by decide +kernel, by decide +kernel⟩
abbrev N_is_used : List Str := ["web", "name", "begins", "span", "tie"]
theorem sc_is_used : FnScope N_is_used ["web", "name"] (defScope s_is_used) := ⟨rfl, rfl, rfl, by decide +kernel, rfl, by decide +kernel, by decide +kernel⟩
abbrev N_are_bounds : List Str := ["least", "most", "told", "bound"]
theorem sc_are_bounds : FnScope N_are_bounds ["least", "most"] (defScope s_are_bounds) := ⟨rfl, rfl, rfl, by decide +kernel, rfl, by decide +kernel, by decide +kernel⟩
abbrev N_need_free_name : List Str := ["web", "name"]
theorem sc_need_free_name : FnScope N_need_free_name ["web", "name"] (defScope s_need_free_name) := ⟨rfl, rfl, rfl, by decide +kernel, rfl, by decide +kernel, by decide +kernel⟩
abbrev N_need_point : List Str := ["web", "name"]
theorem sc_need_point : FnScope N_need_point ["web", "name"] (defScope s_need_point) := ⟨rfl, rfl, rfl, by decide +kernel, rfl, by decide +kernel, by decide +kernel⟩
abbrev N_bases : List Str := ["web", "ends", "span"]
theorem sc_bases : FnScope N_bases ["web"] (defScope s_bases) := ⟨rfl, rfl, rfl, by decide +kernel, rfl, by decide +kernel, by decide +kernel⟩
abbrev N_offset : List Str := ["web", "name", "end", "begin", "low", "high", "late"]
theorem sc_offset : FnScope N_offset ["web", "name"] (defScope s_offset) := ⟨rfl, rfl, rfl, by decide +kernel, rfl, by decide +kernel, by decide +kernel⟩
abbrev N_bounds : List Str := ["web", "found", "moment", "end", "begin", "first", "last", "tie"]
theorem sc_bounds : FnScope N_bounds ["web"] (defScope s_bounds) := ⟨rfl, rfl, rfl, by decide +kernel, rfl, by decide +kernel, by decide +kernel⟩
abbrev N_tie_bounds : List Str := ["web", "tie", "one", "other", "least", "most", "one_base", "one_least", "one_most", "other_base", "other_least", "other_most", "found"]
theorem sc_tie_bounds : FnScope N_tie_bounds ["web", "tie"] (defScope s_tie_bounds) := ⟨rfl, rfl, rfl, by decide +kernel, rfl, by decide +kernel, by decide +kernel⟩
abbrev N_heard_spans : List Str := ["web", "end", "begin", "low", "high", "late"]
theorem sc_heard_spans : FnScope N_heard_spans ["web"] (defScope s_heard_spans) := ⟨rfl, rfl, rfl, by decide +kernel, rfl, by decide +kernel, by decide +kernel⟩
abbrev N_heard_begins : List Str := ["web", "end", "begin", "first", "last"]
theorem sc_heard_begins : FnScope N_heard_begins ["web"] (defScope s_heard_begins) := ⟨rfl, rfl, rfl, by decide +kernel, rfl, by decide +kernel, by decide +kernel⟩
abbrev N_late_waits : List Str := ["web", "end", "begin", "first", "last"]
theorem sc_late_waits : FnScope N_late_waits ["web"] (defScope s_late_waits) := ⟨rfl, rfl, rfl, by decide +kernel, rfl, by decide +kernel, by decide +kernel⟩
abbrev N_sure : List Str := ["heard", "one", "begin", "first"]
theorem sc_sure : FnScope N_sure ["heard", "one"] (defScope s_sure) := ⟨rfl, rfl, rfl, by decide +kernel, rfl, by decide +kernel, by decide +kernel⟩
abbrev N_soon : List Str := ["heard", "one", "begin", "first"]
theorem sc_soon : FnScope N_soon ["heard", "one"] (defScope s_soon) := ⟨rfl, rfl, rfl, by decide +kernel, rfl, by decide +kernel, by decide +kernel⟩
abbrev N_ahead : List Str := ["heard", "one", "begin", "first"]
theorem sc_ahead : FnScope N_ahead ["heard", "one"] (defScope s_ahead) := ⟨rfl, rfl, rfl, by decide +kernel, rfl, by decide +kernel, by decide +kernel⟩
abbrev N_Making_UinitU : List Str := ["self", "web", "facts", "span", "fact"]
theorem sc_Making_UinitU : FnScope N_Making_UinitU ["self", "web", "facts"] (defScope s_Making_UinitU) := ⟨rfl, rfl, rfl, by decide +kernel, rfl, by decide +kernel, by decide +kernel⟩
abbrev N_Making_offer : List Str := ["self", "kind", "x", "y", "amount", "row", "held", "place"]
theorem sc_Making_offer : FnScope N_Making_offer ["self", "kind", "x", "y", "amount", "row"] (defScope s_Making_offer) := ⟨rfl, rfl, rfl, by decide +kernel, rfl, by decide +kernel, by decide +kernel⟩
abbrev N_Making_tell : List Str := ["self", "x", "y", "amount", "kind", "end"]
theorem sc_Making_tell : FnScope N_Making_tell ["self"] (defScope s_Making_tell) := ⟨rfl, rfl, rfl, by decide +kernel, rfl, by decide +kernel, by decide +kernel⟩
abbrev N_Making_go_round : List Str := ["self", "y", "x", "end", "word"]
theorem sc_Making_go_round : FnScope N_Making_go_round ["self"] (defScope s_Making_go_round) := ⟨rfl, rfl, rfl, by decide +kernel, rfl, by decide +kernel, by decide +kernel⟩
abbrev N_Making_go_along : List Str := ["self", "x", "y", "one", "z", "other"]
theorem sc_Making_go_along : FnScope N_Making_go_along ["self", "x", "y"] (defScope s_Making_go_along) := ⟨rfl, rfl, rfl, by decide +kernel, rfl, by decide +kernel, by decide +kernel⟩
abbrev N_Making_go_wait : List Str := ["self", "end", "y", "other", "x", "one"]
theorem sc_Making_go_wait : FnScope N_Making_go_wait ["self", "end", "y"] (defScope s_Making_go_wait) := ⟨rfl, rfl, rfl, by decide +kernel, rfl, by decide +kernel, by decide +kernel⟩
abbrev N_Making_go_single : List Str := ["self", "word", "rule", "kind", "x", "y", "amount", "place", "fact"]
theorem sc_Making_go_single : FnScope N_Making_go_single ["self", "word"] (defScope s_Making_go_single) := ⟨rfl, rfl, rfl, by decide +kernel, rfl, by decide +kernel, by decide +kernel⟩
abbrev N_Table_UinitU : List Str := ["self", "betweens", "untils", "names", "pair", "name"]
theorem sc_Table_UinitU : FnScope N_Table_UinitU ["self", "betweens", "untils"] (defScope s_Table_UinitU) := ⟨rfl, rfl, rfl, by decide +kernel, rfl, by decide +kernel, by decide +kernel⟩
abbrev N_Table_until : List Str := ["self", "end", "x"]
theorem sc_Table_until : FnScope N_Table_until ["self", "end", "x"] (defScope s_Table_until) := ⟨rfl, rfl, rfl, by decide +kernel, rfl, by decide +kernel, by decide +kernel⟩
abbrev N_Table_betweens : List Str := ["self", "pair"]
theorem sc_Table_betweens : FnScope N_Table_betweens ["self"] (defScope s_Table_betweens) := ⟨rfl, rfl, rfl, by decide +kernel, rfl, by decide +kernel, by decide +kernel⟩
abbrev N_Table_untils : List Str := ["self", "pair"]
theorem sc_Table_untils : FnScope N_Table_untils ["self"] (defScope s_Table_untils) := ⟨rfl, rfl, rfl, by decide +kernel, rfl, by decide +kernel, by decide +kernel⟩
abbrev N_Table_UeqU : List Str := ["self", "other"]
theorem sc_Table_UeqU : FnScope N_Table_UeqU ["self", "other"] (defScope s_Table_UeqU) := ⟨rfl, rfl, rfl, by decide +kernel, rfl, by decide +kernel, by decide +kernel⟩
abbrev N_Table_UlenU : List Str := ["self"]
theorem sc_Table_UlenU : FnScope N_Table_UlenU ["self"] (defScope s_Table_UlenU) := ⟨rfl, rfl, rfl, by decide +kernel, rfl, by decide +kernel, by decide +kernel⟩
abbrev N_Table_UreprU : List Str := ["self"]
theorem sc_Table_UreprU : FnScope N_Table_UreprU ["self"] (defScope s_Table_UreprU) := ⟨rfl, rfl, rfl, by decide +kernel, rfl, by decide +kernel, by decide +kernel⟩
abbrev N_need_base : List Str := ["table", "name"]
theorem sc_need_base : FnScope N_need_base ["table", "name"] (defScope s_need_base) := ⟨rfl, rfl, rfl, by decide +kernel, rfl, by decide +kernel, by decide +kernel⟩
abbrev N_settled : List Str := ["web", "making", "base"]
theorem sc_settled : FnScope N_settled ["web"] (defScope s_settled) := ⟨rfl, rfl, rfl, by decide +kernel, rfl, by decide +kernel, by decide +kernel⟩
abbrev N_steered : List Str := ["web"]
theorem sc_steered : FnScope N_steered ["web"] (defScope s_steered) := ⟨rfl, rfl, rfl, by decide +kernel, rfl, by decide +kernel, by decide +kernel⟩
abbrev N_make_all : List Str := ["making", "count"]
theorem sc_make_all : FnScope N_make_all ["making"] (defScope s_make_all) := ⟨rfl, rfl, rfl, by decide +kernel, rfl, by decide +kernel, by decide +kernel⟩
abbrev N_table_of : List Str := ["making", "made", "betweens", "untils", "kind", "x", "y", "end"]
theorem sc_table_of : FnScope N_table_of ["making"] (defScope s_table_of) := ⟨rfl, rfl, rfl, by decide +kernel, rfl, by decide +kernel, by decide +kernel⟩
abbrev N_paper_of : List Str := ["rows", "fault", "needed", "at", "place", "kept", "moved"]
theorem sc_paper_of : FnScope N_paper_of ["rows", "fault"] (defScope s_paper_of) := ⟨rfl, rfl, rfl, by decide +kernel, rfl, by decide +kernel, by decide +kernel⟩
abbrev N_row_places : List Str := ["row"]
theorem sc_row_places : FnScope N_row_places ["row"] (defScope s_row_places) := ⟨rfl, rfl, rfl, by decide +kernel, rfl, by decide +kernel, by decide +kernel⟩
abbrev N_moved_row : List Str := ["row", "moved", "places", "place"]
theorem sc_moved_row : FnScope N_moved_row ["row", "moved"] (defScope s_moved_row) := ⟨rfl, rfl, rfl, by decide +kernel, rfl, by decide +kernel, by decide +kernel⟩
abbrev N_need_plan : List Str := ["plan"]
theorem sc_need_plan : FnScope N_need_plan ["plan"] (defScope s_need_plan) := ⟨rfl, rfl, rfl, by decide +kernel, rfl, by decide +kernel, by decide +kernel⟩
abbrev N_is_made : List Str := ["plan", "depth", "word", "part"]
theorem sc_is_made : FnScope N_is_made ["plan", "depth"] (defScope s_is_made) := ⟨rfl, rfl, rfl, by decide +kernel, rfl, by decide +kernel, by decide +kernel⟩
abbrev N_inner_plans : List Str := ["plan"]
theorem sc_inner_plans : FnScope N_inner_plans ["plan"] (defScope s_inner_plans) := ⟨rfl, rfl, rfl, by decide +kernel, rfl, by decide +kernel, by decide +kernel⟩
abbrev N_part_count : List Str := ["plan", "part"]
theorem sc_part_count : FnScope N_part_count ["plan"] (defScope s_part_count) := ⟨rfl, rfl, rfl, by decide +kernel, rfl, by decide +kernel, by decide +kernel⟩
abbrev N_reading_count : List Str := ["plan", "counts", "product", "count", "part"]
theorem sc_reading_count : FnScope N_reading_count ["plan"] (defScope s_reading_count) := ⟨rfl, rfl, rfl, by decide +kernel, rfl, by decide +kernel, by decide +kernel⟩
abbrev N_readings : List Str := ["plan", "at"]
theorem sc_readings : FnScope N_readings ["plan"] (defScope s_readings) := ⟨rfl, rfl, rfl, by decide +kernel, rfl, by decide +kernel, by decide +kernel⟩
abbrev N_reading : List Str := ["plan", "at", "word", "parts", "part", "own"]
theorem sc_reading : FnScope N_reading ["plan", "at"] (defScope s_reading) := ⟨rfl, rfl, rfl, by decide +kernel, rfl, by decide +kernel, by decide +kernel⟩
abbrev N_taken : List Str := ["plans", "at", "part", "count"]
theorem sc_taken : FnScope N_taken ["plans", "at"] (defScope s_taken) := ⟨rfl, rfl, rfl, by decide +kernel, rfl, by decide +kernel, by decide +kernel⟩
abbrev N_has_either : List Str := ["plan", "part"]
theorem sc_has_either : FnScope N_has_either ["plan"] (defScope s_has_either) := ⟨rfl, rfl, rfl, by decide +kernel, rfl, by decide +kernel, by decide +kernel⟩
abbrev N_laid : List Str := ["plan", "by", "web", "end"]
theorem sc_laid : FnScope N_laid ["plan", "by"] (defScope s_laid) := ⟨rfl, rfl, rfl, by decide +kernel, rfl, by decide +kernel, by decide +kernel⟩
abbrev N_lay : List Str := ["web", "plan", "begin", "word", "name", "end"]
theorem sc_lay : FnScope N_lay ["web", "plan", "begin"] (defScope s_lay) := ⟨rfl, rfl, rfl, by decide +kernel, rfl, by decide +kernel, by decide +kernel⟩
abbrev N_lay_then : List Str := ["web", "plans", "begin", "end", "part"]
theorem sc_lay_then : FnScope N_lay_then ["web", "plans", "begin"] (defScope s_lay_then) := ⟨rfl, rfl, rfl, by decide +kernel, rfl, by decide +kernel, by decide +kernel⟩
abbrev N_lay_beside : List Str := ["web", "plans", "begin", "ends", "part", "end"]
theorem sc_lay_beside : FnScope N_lay_beside ["web", "plans", "begin"] (defScope s_lay_beside) := ⟨rfl, rfl, rfl, by decide +kernel, rfl, by decide +kernel, by decide +kernel⟩
abbrev N_gather : List Str := ["web", "points", "name", "point"]
theorem sc_gather : FnScope N_gather ["web", "points"] (defScope s_gather) := ⟨rfl, rfl, rfl, by decide +kernel, rfl, by decide +kernel, by decide +kernel⟩
abbrev N_fresh_name : List Str := ["web"]
theorem sc_fresh_name : FnScope N_fresh_name ["web"] (defScope s_fresh_name) := ⟨rfl, rfl, rfl, by decide +kernel, rfl, by decide +kernel, by decide +kernel⟩
abbrev N_chosen : List Str := ["plan", "by", "way"]
theorem sc_chosen : FnScope N_chosen ["plan", "by"] (defScope s_chosen) := ⟨rfl, rfl, rfl, by decide +kernel, rfl, by decide +kernel, by decide +kernel⟩
abbrev N__law_flow : List Str := ["_law_script"]
theorem sc__law_flow : FnScope N__law_flow ["_law_script"] (defScope s__law_flow) := ⟨rfl, rfl, rfl, by decide +kernel, rfl, by decide +kernel, by decide +kernel⟩
abbrev N__law_draw : List Str := ["_law_flow_here", "_law_size", "_law_found", "_law_cell", "_law_here"]
theorem sc__law_draw : FnScope N__law_draw ["_law_flow_here", "_law_size"] (defScope s__law_draw) := ⟨rfl, rfl, rfl, by decide +kernel, rfl, by decide +kernel, by decide +kernel⟩
abbrev N__law_pick : List Str := ["_law_flow_here", "_law_row"]
theorem sc__law_pick : FnScope N__law_pick ["_law_flow_here", "_law_row"] (defScope s__law_pick) := ⟨rfl, rfl, rfl, by decide +kernel, rfl, by decide +kernel, by decide +kernel⟩
abbrev N__law_same : List Str := ["_law_found", "_law_due", "_law_key", "_law_k"]
theorem sc__law_same : FnScope N__law_same ["_law_found", "_law_due"] (defScope s__law_same) := ⟨rfl, rfl, rfl, by decide +kernel, rfl, by decide +kernel, by decide +kernel⟩
abbrev N__law_strange : List Str := ["_law_flow_here", "_law_low", "_law_high", "_law_far"]
theorem sc__law_strange : FnScope N__law_strange ["_law_flow_here", "_law_low", "_law_high"] (defScope s__law_strange) := ⟨rfl, rfl, rfl, by decide +kernel, rfl, by decide +kernel, by decide +kernel⟩
abbrev N__law_whole : List Str := ["_law_thing", "_law_low", "_law_high"]
theorem sc__law_whole : FnScope N__law_whole ["_law_thing", "_law_low", "_law_high"] (defScope s__law_whole) := ⟨rfl, rfl, rfl, by decide +kernel, rfl, by decide +kernel, by decide +kernel⟩
abbrev N__law_field : List Str := ["_law_ask", "_law_found", "e"]
theorem sc__law_field : FnScope N__law_field ["_law_ask"] (defScope s__law_field) := ⟨rfl, rfl, rfl, by decide +kernel, rfl, by decide +kernel, by decide +kernel⟩
abbrev N__law_leaf : List Str := ["_law_flow_here", "_law_far", "_law_low", "_law_hush"]
theorem sc__law_leaf : FnScope N__law_leaf ["_law_flow_here", "_law_far"] (defScope s__law_leaf) := ⟨rfl, rfl, rfl, by decide +kernel, rfl, by decide +kernel, by decide +kernel⟩
abbrev N__law_plan : List Str := ["_law_flow_here", "_law_bottom", "_law_words", "_law_far", "_law_kind", "_law_word", "_law_many", "_law_k"]
theorem sc__law_plan : FnScope N__law_plan ["_law_flow_here", "_law_bottom", "_law_words", "_law_far"] (defScope s__law_plan) := ⟨rfl, rfl, rfl, by decide +kernel, rfl, by decide +kernel, by decide +kernel⟩
abbrev N__law_kids : List Str := ["_law_plan_here"]
theorem sc__law_kids : FnScope N__law_kids ["_law_plan_here"] (defScope s__law_kids) := ⟨rfl, rfl, rfl, by decide +kernel, rfl, by decide +kernel, by decide +kernel⟩
abbrev N__law_leaf_count : List Str := ["_law_plan_here", "_law_kids_here", "_law_one"]
theorem sc__law_leaf_count : FnScope N__law_leaf_count ["_law_plan_here"] (defScope s__law_leaf_count) := ⟨rfl, rfl, rfl, by decide +kernel, rfl, by decide +kernel, by decide +kernel⟩
abbrev N__law_plan_depth : List Str := ["_law_plan_here", "_law_one"]
theorem sc__law_plan_depth : FnScope N__law_plan_depth ["_law_plan_here"] (defScope s__law_plan_depth) := ⟨rfl, rfl, rfl, by decide +kernel, rfl, by decide +kernel, by decide +kernel⟩
abbrev N__law_reading_count : List Str := ["_law_plan_here", "_law_found", "_law_one"]
theorem sc__law_reading_count : FnScope N__law_reading_count ["_law_plan_here"] (defScope s__law_reading_count) := ⟨rfl, rfl, rfl, by decide +kernel, rfl, by decide +kernel, by decide +kernel⟩
abbrev N__law_good_leaf : List Str := ["_law_plan_here", "_law_good"]
theorem sc__law_good_leaf : FnScope N__law_good_leaf ["_law_plan_here"] (defScope s__law_good_leaf) := ⟨rfl, rfl, rfl, by decide +kernel, rfl, by decide +kernel, by decide +kernel⟩
abbrev N__law_good_form : List Str := ["_law_plan_here", "_law_sizes", "_law_one"]
theorem sc__law_good_form : FnScope N__law_good_form ["_law_plan_here"] (defScope s__law_good_form) := ⟨rfl, rfl, rfl, by decide +kernel, rfl, by decide +kernel, by decide +kernel⟩
abbrev N__law_good_plan : List Str := ["_law_plan_here"]
theorem sc__law_good_plan : FnScope N__law_good_plan ["_law_plan_here"] (defScope s__law_good_plan) := ⟨rfl, rfl, rfl, by decide +kernel, rfl, by decide +kernel, by decide +kernel⟩
abbrev N__law_bent_plan : List Str := ["_law_flow_here", "_law_plan_here", "_law_kids_here", "_law_at", "_law_kind", "_law_rows"]
theorem sc__law_bent_plan : FnScope N__law_bent_plan ["_law_flow_here", "_law_plan_here"] (defScope s__law_bent_plan) := ⟨rfl, rfl, rfl, by decide +kernel, rfl, by decide +kernel, by decide +kernel⟩
abbrev N__law_edge_plan : List Str := ["_law_flow_here", "_law_one", "_law_two", "_law_chain", "_law_k", "_law_four", "_law_rows", "_law_three"]
theorem sc__law_edge_plan : FnScope N__law_edge_plan ["_law_flow_here"] (defScope s__law_edge_plan) := ⟨rfl, rfl, rfl, by decide +kernel, rfl, by decide +kernel, by decide +kernel⟩
abbrev N_law : List Str := ["_law_script", "_law_flow_here", "_law_words", "_law_turn", "_law_plan_here", "_law_kind", "_law_good", "_law_kept", "_law_due", "_law_found"]
theorem sc_law : FnScope N_law ["_law_script"] (defScope s_law) := ⟨rfl, rfl, rfl, by decide +kernel, rfl, by decide +kernel, by decide +kernel⟩
def d_is_number : He.DefD := ⟨("is_number", none), "is_number", "is_number", defArgs s_is_number, defBody s_is_number, defScope s_is_number, [], []⟩
def d_is_whole : He.DefD := ⟨("is_whole", none), "is_whole", "is_whole", defArgs s_is_whole, defBody s_is_whole, defScope s_is_whole, [], []⟩
def d_is_one_of : He.DefD := ⟨("is_one_of", none), "is_one_of", "is_one_of", defArgs s_is_one_of, defBody s_is_one_of, defScope s_is_one_of, [], []⟩
def d_is_name : He.DefD := ⟨("is_name", none), "is_name", "is_name", defArgs s_is_name, defBody s_is_name, defScope s_is_name, [], []⟩
def d_TideError_UinitU : He.DefD := ⟨("TideError", some "__init__"), "__init__", "TideError.__init__", defArgs s_TideError_UinitU, defBody s_TideError_UinitU, defScope s_TideError_UinitU, [.str "TideError", .str "refused"], []⟩
def d_BadPlan_UinitU : He.DefD := ⟨("BadPlan", some "__init__"), "__init__", "BadPlan.__init__", defArgs s_BadPlan_UinitU, defBody s_BadPlan_UinitU, defScope s_BadPlan_UinitU, [], []⟩
def d_Web_UinitU : He.DefD := ⟨("Web", some "__init__"), "__init__", "Web.__init__", defArgs s_Web_UinitU, defBody s_Web_UinitU, defScope s_Web_UinitU, [.int 100], []⟩
def d_Web_with_moment : He.DefD := ⟨("Web", some "with_moment"), "with_moment", "Web.with_moment", defArgs s_Web_with_moment, defBody s_Web_with_moment, defScope s_Web_with_moment, [], []⟩
def d_Web_with_span : He.DefD := ⟨("Web", some "with_span"), "with_span", "Web.with_span", defArgs s_Web_with_span, defBody s_Web_with_span, defScope s_Web_with_span, [], [("late", .int 0)]⟩
def d_Web_with_tie : He.DefD := ⟨("Web", some "with_tie"), "with_tie", "Web.with_tie", defArgs s_Web_with_tie, defBody s_Web_with_tie, defScope s_Web_with_tie, [], [("least", .non), ("most", .non)]⟩
def d_Web_without : He.DefD := ⟨("Web", some "without"), "without", "Web.without", defArgs s_Web_without, defBody s_Web_without, defScope s_Web_without, [], []⟩
def d_Web_moments : He.DefD := ⟨("Web", some "moments"), "moments", "Web.moments", defArgs s_Web_moments, defBody s_Web_moments, defScope s_Web_moments, [], []⟩
def d_Web_spans : He.DefD := ⟨("Web", some "spans"), "spans", "Web.spans", defArgs s_Web_spans, defBody s_Web_spans, defScope s_Web_spans, [], []⟩
def d_Web_ties : He.DefD := ⟨("Web", some "ties"), "ties", "Web.ties", defArgs s_Web_ties, defBody s_Web_ties, defScope s_Web_ties, [], []⟩
def d_Web_points : He.DefD := ⟨("Web", some "points"), "points", "Web.points", defArgs s_Web_points, defBody s_Web_points, defScope s_Web_points, [], []⟩
def d_Web_UeqU : He.DefD := ⟨("Web", some "__eq__"), "__eq__", "Web.__eq__", defArgs s_Web_UeqU, defBody s_Web_UeqU, defScope s_Web_UeqU, [], []⟩
def d_Web_UlenU : He.DefD := ⟨("Web", some "__len__"), "__len__", "Web.__len__", defArgs s_Web_UlenU, defBody s_Web_UlenU, defScope s_Web_UlenU, [], []⟩
def d_Web_UreprU : He.DefD := ⟨("Web", some "__repr__"), "__repr__", "Web.__repr__", defArgs s_Web_UreprU, defBody s_Web_UreprU, defScope s_Web_UreprU, [], []⟩
def d_woven : He.DefD := ⟨("woven", none), "woven", "woven", defArgs s_woven, defBody s_woven, defScope s_woven, [], []⟩
def d_is_begin : He.DefD := ⟨("is_begin", none), "is_begin", "is_begin", defArgs s_is_begin, defBody s_is_begin, defScope s_is_begin, [], []⟩
def d_are_lengths : He.DefD := ⟨("are_lengths", none), "are_lengths", "are_lengths", defArgs s_are_lengths, defBody s_are_lengths, defScope s_are_lengths, [], []⟩
def d_is_lateness : He.DefD := ⟨("is_lateness", none), "is_lateness", "is_lateness", defArgs s_is_lateness, defBody s_is_lateness, defScope s_is_lateness, [], []⟩
def d_is_used : He.DefD := ⟨("is_used", none), "is_used", "is_used", defArgs s_is_used, defBody s_is_used, defScope s_is_used, [], []⟩
def d_are_bounds : He.DefD := ⟨("are_bounds", none), "are_bounds", "are_bounds", defArgs s_are_bounds, defBody s_are_bounds, defScope s_are_bounds, [], []⟩
def d_need_free_name : He.DefD := ⟨("need_free_name", none), "need_free_name", "need_free_name", defArgs s_need_free_name, defBody s_need_free_name, defScope s_need_free_name, [], []⟩
def d_need_point : He.DefD := ⟨("need_point", none), "need_point", "need_point", defArgs s_need_point, defBody s_need_point, defScope s_need_point, [], []⟩
def d_bases : He.DefD := ⟨("bases", none), "bases", "bases", defArgs s_bases, defBody s_bases, defScope s_bases, [], []⟩
def d_offset : He.DefD := ⟨("offset", none), "offset", "offset", defArgs s_offset, defBody s_offset, defScope s_offset, [], []⟩
def d_bounds : He.DefD := ⟨("bounds", none), "bounds", "bounds", defArgs s_bounds, defBody s_bounds, defScope s_bounds, [], []⟩
def d_tie_bounds : He.DefD := ⟨("tie_bounds", none), "tie_bounds", "tie_bounds", defArgs s_tie_bounds, defBody s_tie_bounds, defScope s_tie_bounds, [], []⟩
def d_heard_spans : He.DefD := ⟨("heard_spans", none), "heard_spans", "heard_spans", defArgs s_heard_spans, defBody s_heard_spans, defScope s_heard_spans, [], []⟩
def d_heard_begins : He.DefD := ⟨("heard_begins", none), "heard_begins", "heard_begins", defArgs s_heard_begins, defBody s_heard_begins, defScope s_heard_begins, [], []⟩
def d_late_waits : He.DefD := ⟨("late_waits", none), "late_waits", "late_waits", defArgs s_late_waits, defBody s_late_waits, defScope s_late_waits, [], []⟩
def d_sure : He.DefD := ⟨("sure", none), "sure", "sure", defArgs s_sure, defBody s_sure, defScope s_sure, [], []⟩
def d_soon : He.DefD := ⟨("soon", none), "soon", "soon", defArgs s_soon, defBody s_soon, defScope s_soon, [], []⟩
def d_ahead : He.DefD := ⟨("ahead", none), "ahead", "ahead", defArgs s_ahead, defBody s_ahead, defScope s_ahead, [], []⟩
def d_Making_UinitU : He.DefD := ⟨("Making", some "__init__"), "__init__", "Making.__init__", defArgs s_Making_UinitU, defBody s_Making_UinitU, defScope s_Making_UinitU, [], []⟩
def d_Making_offer : He.DefD := ⟨("Making", some "offer"), "offer", "Making.offer", defArgs s_Making_offer, defBody s_Making_offer, defScope s_Making_offer, [], []⟩
def d_Making_tell : He.DefD := ⟨("Making", some "tell"), "tell", "Making.tell", defArgs s_Making_tell, defBody s_Making_tell, defScope s_Making_tell, [], []⟩
def d_Making_go_round : He.DefD := ⟨("Making", some "go_round"), "go_round", "Making.go_round", defArgs s_Making_go_round, defBody s_Making_go_round, defScope s_Making_go_round, [], []⟩
def d_Making_go_along : He.DefD := ⟨("Making", some "go_along"), "go_along", "Making.go_along", defArgs s_Making_go_along, defBody s_Making_go_along, defScope s_Making_go_along, [], []⟩
def d_Making_go_wait : He.DefD := ⟨("Making", some "go_wait"), "go_wait", "Making.go_wait", defArgs s_Making_go_wait, defBody s_Making_go_wait, defScope s_Making_go_wait, [], []⟩
def d_Making_go_single : He.DefD := ⟨("Making", some "go_single"), "go_single", "Making.go_single", defArgs s_Making_go_single, defBody s_Making_go_single, defScope s_Making_go_single, [], []⟩
def d_Table_UinitU : He.DefD := ⟨("Table", some "__init__"), "__init__", "Table.__init__", defArgs s_Table_UinitU, defBody s_Table_UinitU, defScope s_Table_UinitU, [], []⟩
def d_Table_until : He.DefD := ⟨("Table", some "until"), "until", "Table.until", defArgs s_Table_until, defBody s_Table_until, defScope s_Table_until, [], []⟩
def d_Table_betweens : He.DefD := ⟨("Table", some "betweens"), "betweens", "Table.betweens", defArgs s_Table_betweens, defBody s_Table_betweens, defScope s_Table_betweens, [], []⟩
def d_Table_untils : He.DefD := ⟨("Table", some "untils"), "untils", "Table.untils", defArgs s_Table_untils, defBody s_Table_untils, defScope s_Table_untils, [], []⟩
def d_Table_UeqU : He.DefD := ⟨("Table", some "__eq__"), "__eq__", "Table.__eq__", defArgs s_Table_UeqU, defBody s_Table_UeqU, defScope s_Table_UeqU, [], []⟩
def d_Table_UlenU : He.DefD := ⟨("Table", some "__len__"), "__len__", "Table.__len__", defArgs s_Table_UlenU, defBody s_Table_UlenU, defScope s_Table_UlenU, [], []⟩
def d_Table_UreprU : He.DefD := ⟨("Table", some "__repr__"), "__repr__", "Table.__repr__", defArgs s_Table_UreprU, defBody s_Table_UreprU, defScope s_Table_UreprU, [], []⟩
def d_need_base : He.DefD := ⟨("need_base", none), "need_base", "need_base", defArgs s_need_base, defBody s_need_base, defScope s_need_base, [], []⟩
def d_settled : He.DefD := ⟨("settled", none), "settled", "settled", defArgs s_settled, defBody s_settled, defScope s_settled, [], []⟩
def d_steered : He.DefD := ⟨("steered", none), "steered", "steered", defArgs s_steered, defBody s_steered, defScope s_steered, [], []⟩
def d_make_all : He.DefD := ⟨("make_all", none), "make_all", "make_all", defArgs s_make_all, defBody s_make_all, defScope s_make_all, [], []⟩
def d_table_of : He.DefD := ⟨("table_of", none), "table_of", "table_of", defArgs s_table_of, defBody s_table_of, defScope s_table_of, [], []⟩
def d_paper_of : He.DefD := ⟨("paper_of", none), "paper_of", "paper_of", defArgs s_paper_of, defBody s_paper_of, defScope s_paper_of, [], []⟩
def d_row_places : He.DefD := ⟨("row_places", none), "row_places", "row_places", defArgs s_row_places, defBody s_row_places, defScope s_row_places, [], []⟩
def d_moved_row : He.DefD := ⟨("moved_row", none), "moved_row", "moved_row", defArgs s_moved_row, defBody s_moved_row, defScope s_moved_row, [], []⟩
def d_need_plan : He.DefD := ⟨("need_plan", none), "need_plan", "need_plan", defArgs s_need_plan, defBody s_need_plan, defScope s_need_plan, [], []⟩
def d_is_made : He.DefD := ⟨("is_made", none), "is_made", "is_made", defArgs s_is_made, defBody s_is_made, defScope s_is_made, [], []⟩
def d_inner_plans : He.DefD := ⟨("inner_plans", none), "inner_plans", "inner_plans", defArgs s_inner_plans, defBody s_inner_plans, defScope s_inner_plans, [], []⟩
def d_part_count : He.DefD := ⟨("part_count", none), "part_count", "part_count", defArgs s_part_count, defBody s_part_count, defScope s_part_count, [], []⟩
def d_reading_count : He.DefD := ⟨("reading_count", none), "reading_count", "reading_count", defArgs s_reading_count, defBody s_reading_count, defScope s_reading_count, [], []⟩
def d_readings : He.DefD := ⟨("readings", none), "readings", "readings", defArgs s_readings, defBody s_readings, defScope s_readings, [], []⟩
def d_reading : He.DefD := ⟨("reading", none), "reading", "reading", defArgs s_reading, defBody s_reading, defScope s_reading, [], []⟩
def d_taken : He.DefD := ⟨("taken", none), "taken", "taken", defArgs s_taken, defBody s_taken, defScope s_taken, [], []⟩
def d_has_either : He.DefD := ⟨("has_either", none), "has_either", "has_either", defArgs s_has_either, defBody s_has_either, defScope s_has_either, [], []⟩
def d_laid : He.DefD := ⟨("laid", none), "laid", "laid", defArgs s_laid, defBody s_laid, defScope s_laid, [], [("by", .int 100)]⟩
def d_lay : He.DefD := ⟨("lay", none), "lay", "lay", defArgs s_lay, defBody s_lay, defScope s_lay, [], []⟩
def d_lay_then : He.DefD := ⟨("lay_then", none), "lay_then", "lay_then", defArgs s_lay_then, defBody s_lay_then, defScope s_lay_then, [], []⟩
def d_lay_beside : He.DefD := ⟨("lay_beside", none), "lay_beside", "lay_beside", defArgs s_lay_beside, defBody s_lay_beside, defScope s_lay_beside, [], []⟩
def d_gather : He.DefD := ⟨("gather", none), "gather", "gather", defArgs s_gather, defBody s_gather, defScope s_gather, [], []⟩
def d_fresh_name : He.DefD := ⟨("fresh_name", none), "fresh_name", "fresh_name", defArgs s_fresh_name, defBody s_fresh_name, defScope s_fresh_name, [], []⟩
def d_chosen : He.DefD := ⟨("chosen", none), "chosen", "chosen", defArgs s_chosen, defBody s_chosen, defScope s_chosen, [], [("by", .int 100)]⟩
def d__law_flow : He.DefD := ⟨("_law_flow", none), "_law_flow", "_law_flow", defArgs s__law_flow, defBody s__law_flow, defScope s__law_flow, [], []⟩
def d__law_draw : He.DefD := ⟨("_law_draw", none), "_law_draw", "_law_draw", defArgs s__law_draw, defBody s__law_draw, defScope s__law_draw, [], []⟩
def d__law_pick : He.DefD := ⟨("_law_pick", none), "_law_pick", "_law_pick", defArgs s__law_pick, defBody s__law_pick, defScope s__law_pick, [], []⟩
def d__law_same : He.DefD := ⟨("_law_same", none), "_law_same", "_law_same", defArgs s__law_same, defBody s__law_same, defScope s__law_same, [], []⟩
def d__law_strange : He.DefD := ⟨("_law_strange", none), "_law_strange", "_law_strange", defArgs s__law_strange, defBody s__law_strange, defScope s__law_strange, [], []⟩
def d__law_whole : He.DefD := ⟨("_law_whole", none), "_law_whole", "_law_whole", defArgs s__law_whole, defBody s__law_whole, defScope s__law_whole, [], []⟩
def d__law_field : He.DefD := ⟨("_law_field", none), "_law_field", "_law_field", defArgs s__law_field, defBody s__law_field, defScope s__law_field, [], []⟩
def d__law_leaf : He.DefD := ⟨("_law_leaf", none), "_law_leaf", "_law_leaf", defArgs s__law_leaf, defBody s__law_leaf, defScope s__law_leaf, [], []⟩
def d__law_plan : He.DefD := ⟨("_law_plan", none), "_law_plan", "_law_plan", defArgs s__law_plan, defBody s__law_plan, defScope s__law_plan, [], []⟩
def d__law_kids : He.DefD := ⟨("_law_kids", none), "_law_kids", "_law_kids", defArgs s__law_kids, defBody s__law_kids, defScope s__law_kids, [], []⟩
def d__law_leaf_count : He.DefD := ⟨("_law_leaf_count", none), "_law_leaf_count", "_law_leaf_count", defArgs s__law_leaf_count, defBody s__law_leaf_count, defScope s__law_leaf_count, [], []⟩
def d__law_plan_depth : He.DefD := ⟨("_law_plan_depth", none), "_law_plan_depth", "_law_plan_depth", defArgs s__law_plan_depth, defBody s__law_plan_depth, defScope s__law_plan_depth, [], []⟩
def d__law_reading_count : He.DefD := ⟨("_law_reading_count", none), "_law_reading_count", "_law_reading_count", defArgs s__law_reading_count, defBody s__law_reading_count, defScope s__law_reading_count, [], []⟩
def d__law_good_leaf : He.DefD := ⟨("_law_good_leaf", none), "_law_good_leaf", "_law_good_leaf", defArgs s__law_good_leaf, defBody s__law_good_leaf, defScope s__law_good_leaf, [], []⟩
def d__law_good_form : He.DefD := ⟨("_law_good_form", none), "_law_good_form", "_law_good_form", defArgs s__law_good_form, defBody s__law_good_form, defScope s__law_good_form, [], []⟩
def d__law_good_plan : He.DefD := ⟨("_law_good_plan", none), "_law_good_plan", "_law_good_plan", defArgs s__law_good_plan, defBody s__law_good_plan, defScope s__law_good_plan, [], []⟩
def d__law_bent_plan : He.DefD := ⟨("_law_bent_plan", none), "_law_bent_plan", "_law_bent_plan", defArgs s__law_bent_plan, defBody s__law_bent_plan, defScope s__law_bent_plan, [], []⟩
def d__law_edge_plan : He.DefD := ⟨("_law_edge_plan", none), "_law_edge_plan", "_law_edge_plan", defArgs s__law_edge_plan, defBody s__law_edge_plan, defScope s__law_edge_plan, [], []⟩
def d_law : He.DefD := ⟨("law", none), "law", "law", defArgs s_law, defBody s_law, defScope s_law, [], []⟩
def fn : List He.DefD := [d_is_number, d_is_whole, d_is_one_of, d_is_name, d_TideError_UinitU, d_BadPlan_UinitU, d_Web_UinitU, d_Web_with_moment, d_Web_with_span, d_Web_with_tie, d_Web_without, d_Web_moments, d_Web_spans, d_Web_ties, d_Web_points, d_Web_UeqU, d_Web_UlenU, d_Web_UreprU, d_woven, d_is_begin, d_are_lengths, d_is_lateness, d_is_used, d_are_bounds, d_need_free_name, d_need_point, d_bases, d_offset, d_bounds, d_tie_bounds, d_heard_spans, d_heard_begins, d_late_waits, d_sure, d_soon, d_ahead, d_Making_UinitU, d_Making_offer, d_Making_tell, d_Making_go_round, d_Making_go_along, d_Making_go_wait, d_Making_go_single, d_Table_UinitU, d_Table_until, d_Table_betweens, d_Table_untils, d_Table_UeqU, d_Table_UlenU, d_Table_UreprU, d_need_base, d_settled, d_steered, d_make_all, d_table_of, d_paper_of, d_row_places, d_moved_row, d_need_plan, d_is_made, d_inner_plans, d_part_count, d_reading_count, d_readings, d_reading, d_taken, d_has_either, d_laid, d_lay, d_lay_then, d_lay_beside, d_gather, d_fresh_name, d_chosen, d__law_flow, d__law_draw, d__law_pick, d__law_same, d__law_strange, d__law_whole, d__law_field, d__law_leaf, d__law_plan, d__law_kids, d__law_leaf_count, d__law_plan_depth, d__law_reading_count, d__law_good_leaf, d__law_good_form, d__law_good_plan, d__law_bent_plan, d__law_edge_plan, d_law]
def fa0 : List He.Fa := [.glo "is_number", .glo "is_whole", .glo "is_one_of", .glo "is_name", .glo "woven", .glo "is_begin", .glo "are_lengths", .glo "is_lateness", .glo "is_used", .glo "are_bounds", .glo "need_free_name", .glo "need_point", .glo "bases", .glo "offset", .glo "bounds", .glo "tie_bounds", .glo "heard_spans", .glo "heard_begins", .glo "late_waits", .glo "sure", .glo "soon", .glo "ahead", .glo "need_base", .glo "settled", .glo "steered", .glo "make_all", .glo "table_of", .glo "paper_of", .glo "row_places", .glo "moved_row"]
def fa1 : List He.Fa := [.glo "need_plan", .glo "is_made", .glo "inner_plans", .glo "part_count", .glo "reading_count", .glo "readings", .glo "reading", .glo "taken", .glo "has_either", .glo "laid", .glo "lay", .glo "lay_then", .glo "lay_beside", .glo "gather", .glo "fresh_name", .glo "chosen", .glo "_law_flow", .glo "_law_draw", .glo "_law_pick", .glo "_law_same", .glo "_law_strange", .glo "_law_whole", .glo "_law_field", .glo "_law_leaf", .glo "_law_plan", .glo "_law_kids", .glo "_law_leaf_count", .glo "_law_plan_depth", .glo "_law_reading_count", .glo "_law_good_leaf"]
def fa2 : List He.Fa := [.glo "_law_good_form", .glo "_law_good_plan", .glo "_law_bent_plan", .glo "_law_edge_plan", .glo "law", .free "isinstance", .free "int", .free "bool", .free "str", .free "all", .free "len", .free "ValueError", .free "list", .free "tuple", .free "any", .free "max", .free "reversed", .free "sorted", .free "range", .free "sum", .free "divmod", .free "abs", .free "dict", .free "repr", .str "LETTERS" "abcdefghijklmnopqrstuvwxyz", .int "LONGEST_NAME" 8, .int "BY" 100, .str "START" "start", .int "MOST_BY" 1000, .int "MOST_MOMENTS" 10]
def fa3 : List He.Fa := [.int "MOST_SPANS" 4, .int "MOST_TIES" 40, .int "MOST_LENGTH" 1000, .int "MOST_LATE" 1000, .int "MOST_BOUND" 1000, .str "MOST" "most", .str "UNTIL" "until", .int "MOST_TICKS" 1000, .int "MOST_PLANS" 4, .int "MOST_DEPTH" 6, .int "MOST_PARTS" 12, .int "MOST_READINGS" 64, .glo "Web", .cls "Web", .mkr "Web", .noat "Web" "by", .noat "Web" "moment_rows", .noat "Web" "span_rows", .noat "Web" "tie_rows", .noat "Web" "__bool__", .meth "Web" "__init__", .meth "Web" "with_moment", .meth "Web" "with_span", .meth "Web" "with_tie", .meth "Web" "without", .meth "Web" "moments", .meth "Web" "spans", .meth "Web" "ties", .meth "Web" "points", .meth "Web" "__eq__"]
def fa4 : List He.Fa := [.meth "Web" "__len__", .meth "Web" "__repr__", .glo "Making", .cls "Making", .mkr "Making", .noat "Making" "web", .noat "Making" "names", .noat "Making" "ends", .noat "Making" "heard", .noat "Making" "made", .noat "Making" "rows", .noat "Making" "fault", .meth "Making" "__init__", .meth "Making" "offer", .meth "Making" "tell", .meth "Making" "go_round", .meth "Making" "go_along", .meth "Making" "go_wait", .meth "Making" "go_single", .glo "Table", .cls "Table", .mkr "Table", .noat "Table" "bound_amounts", .noat "Table" "wait_amounts", .noat "Table" "base_names", .noat "Table" "span_names", .meth "Table" "__init__", .meth "Table" "until", .meth "Table" "betweens", .meth "Table" "untils"]
def fa5 : List He.Fa := [.meth "Table" "__eq__", .meth "Table" "__len__", .meth "Table" "__repr__", .glo "BadBy", .glo "BadDeed", .glo "BadName", .glo "Taken", .glo "Used", .glo "Full", .glo "BadLength", .glo "BadLate", .glo "BadTie", .glo "NoMoment", .glo "NoPoint", .glo "NoSpan", .glo "NoTie", .glo "NoDeed", .glo "Done", .glo "Unbegun", .glo "Unheard", .glo "TooEarly", .glo "TooLate", .glo "BadNews", .glo "BadKeeper", .glo "Over", .glo "BadPaper", .glo "BadText", .glo "BadPlan", .glo "Unsteered", .glo "NothingBack"]
def fa6 : List He.Fa := [.glo "TideError"]
def fa : List He.Fa := fa0 ++ fa1 ++ fa2 ++ fa3 ++ fa4 ++ fa5 ++ fa6
def exl0 (K : PySem.W.Frag) : List Bool := [viB K "ValueError" "ValueError.__init__", clsDefB K (He.ga K "TideError") (He.ma K (He.ga K "TideError") "__init__") "__init__", oxB bVE K (He.ga K "BadPlan"), xfB K (He.ga K "BadPlan"), initB K (He.ga K "BadPlan"), decide (PySem.W.findIn K (.ref (He.ga K "BadPlan")) "word" = some none), decide (PySem.W.exmAny K (.ref (He.ga K "BadPlan")) [.ref (He.ga K "BadBy"), .ref (He.ga K "BadDeed")] = some false), decide (PySem.W.exmAny K (.ref (He.ga K "BadPlan")) [.ref (He.ga K "BadName"), .ref (He.ga K "Taken"), .ref (He.ga K "Used")] = some false), decide (PySem.W.exmAny K (.ref (He.ga K "BadPlan")) [.ref (He.ga K "Full")] = some false), decide (PySem.W.exmAny K (.ref (He.ga K "BadPlan")) [.ref (He.ga K "BadLength")] = some false), decide (PySem.W.exmAny K (.ref (He.ga K "BadPlan")) [.ref (He.ga K "BadLate")] = some false), decide (PySem.W.exmAny K (.ref (He.ga K "BadPlan")) [.ref (He.ga K "BadTie")] = some false), decide (PySem.W.exmAny K (.ref (He.ga K "BadPlan")) [.ref (He.ga K "NoMoment"), .ref (He.ga K "NoPoint"), .ref (He.ga K "NoSpan")] = some false), decide (PySem.W.exmAny K (.ref (He.ga K "BadPlan")) [.ref (He.ga K "NoTie"), .ref (He.ga K "NoDeed")] = some false), decide (PySem.W.exmAny K (.ref (He.ga K "BadPlan")) [.ref (He.ga K "Done"), .ref (He.ga K "Unbegun"), .ref (He.ga K "Unheard")] = some false), decide (PySem.W.exmAny K (.ref (He.ga K "BadPlan")) [.ref (He.ga K "TooEarly"), .ref (He.ga K "TooLate"), .ref (He.ga K "BadNews")] = some false), decide (PySem.W.exmAny K (.ref (He.ga K "BadPlan")) [.ref (He.ga K "BadKeeper"), .ref (He.ga K "Over")] = some false), decide (PySem.W.exmAny K (.ref (He.ga K "BadPlan")) [.ref (He.ga K "BadPaper"), .ref (He.ga K "BadText")] = some false), decide (PySem.W.exmAny K (.ref (He.ga K "BadPlan")) [.ref (He.ga K "BadPlan"), .ref (He.ga K "Unsteered"), .ref (He.ga K "NothingBack")] = some true)]
def exl (K : PySem.W.Frag) : List Bool := exl0 K
def ex (K : PySem.W.Frag) : Bool := (exl K).all id
theorem exAt {K : PySem.W.Frag} (h : ex K = true) {b : Bool} (e : b ∈ exl K) : b = true := List.all_eq_true.mp h b e
theorem exAt0 {K : PySem.W.Frag} (h : ex K = true) (i : Nat) {b : Bool} (e : (exl0 K)[i]? = some b) : b = true := exAt h (List.mem_of_getElem? e)
/-- what the top has written -/
structure Tp (K : PySem.W.Frag) (mg : Str → Option Value) : Prop where
  c : He.SaysD fa fn K
  m : ex K = true
  glo : ∀ (i : Nat) (x : Str), fa[i]? = some (.glo x) → mg x = some (.ref (He.ga K x))
  free : ∀ (i : Nat) (x : Str), fa[i]? = some (.free x) → mg x = none
  int : ∀ (i : Nat) (x : Str) (n : Int), fa[i]? = some (.int x n) → ∃ u, mg x = some u ∧ RelV (.int n) u
  str : ∀ (i : Nat) (x z : Str), fa[i]? = some (.str x z) → ∃ u, mg x = some u ∧ RelV (.str z) u
theorem tp_mk {K : PySem.W.Frag} {h : Heap} {mg : Str → Option Value} (X : K.In h) (G : h.Ns mainGlobals mg) (c : He.SaysD fa fn K) (m : ex K = true) : Tp K mg :=
  ⟨c, m, fun i x e => He.glo_ok X G (c.fact i e), fun i x e => He.free_ok X G (c.fact i e), fun i x n e => let ⟨t, h⟩ := He.int_ok X G (c.fact i e); ⟨_, h, t, rfl⟩, fun i x z e => let ⟨t, h⟩ := He.str_ok X G (c.fact i e); ⟨_, h, t, rfl⟩⟩
section
variable {K : PySem.W.Frag} {mg : Str → Option Value}
theorem g_is_number (T : Tp K mg) : mg "is_number" = some (.ref (He.ga K "is_number")) := T.glo 0 _ rfl
theorem g_is_whole (T : Tp K mg) : mg "is_whole" = some (.ref (He.ga K "is_whole")) := T.glo 1 _ rfl
theorem g_is_one_of (T : Tp K mg) : mg "is_one_of" = some (.ref (He.ga K "is_one_of")) := T.glo 2 _ rfl
theorem g_is_name (T : Tp K mg) : mg "is_name" = some (.ref (He.ga K "is_name")) := T.glo 3 _ rfl
theorem g_woven (T : Tp K mg) : mg "woven" = some (.ref (He.ga K "woven")) := T.glo 4 _ rfl
theorem g_is_begin (T : Tp K mg) : mg "is_begin" = some (.ref (He.ga K "is_begin")) := T.glo 5 _ rfl
theorem g_are_lengths (T : Tp K mg) : mg "are_lengths" = some (.ref (He.ga K "are_lengths")) := T.glo 6 _ rfl
theorem g_is_lateness (T : Tp K mg) : mg "is_lateness" = some (.ref (He.ga K "is_lateness")) := T.glo 7 _ rfl
theorem g_is_used (T : Tp K mg) : mg "is_used" = some (.ref (He.ga K "is_used")) := T.glo 8 _ rfl
theorem g_are_bounds (T : Tp K mg) : mg "are_bounds" = some (.ref (He.ga K "are_bounds")) := T.glo 9 _ rfl
theorem g_need_free_name (T : Tp K mg) : mg "need_free_name" = some (.ref (He.ga K "need_free_name")) := T.glo 10 _ rfl
theorem g_need_point (T : Tp K mg) : mg "need_point" = some (.ref (He.ga K "need_point")) := T.glo 11 _ rfl
theorem g_bases (T : Tp K mg) : mg "bases" = some (.ref (He.ga K "bases")) := T.glo 12 _ rfl
theorem g_offset (T : Tp K mg) : mg "offset" = some (.ref (He.ga K "offset")) := T.glo 13 _ rfl
theorem g_bounds (T : Tp K mg) : mg "bounds" = some (.ref (He.ga K "bounds")) := T.glo 14 _ rfl
theorem g_tie_bounds (T : Tp K mg) : mg "tie_bounds" = some (.ref (He.ga K "tie_bounds")) := T.glo 15 _ rfl
theorem g_heard_spans (T : Tp K mg) : mg "heard_spans" = some (.ref (He.ga K "heard_spans")) := T.glo 16 _ rfl
theorem g_heard_begins (T : Tp K mg) : mg "heard_begins" = some (.ref (He.ga K "heard_begins")) := T.glo 17 _ rfl
theorem g_late_waits (T : Tp K mg) : mg "late_waits" = some (.ref (He.ga K "late_waits")) := T.glo 18 _ rfl
theorem g_sure (T : Tp K mg) : mg "sure" = some (.ref (He.ga K "sure")) := T.glo 19 _ rfl
theorem g_soon (T : Tp K mg) : mg "soon" = some (.ref (He.ga K "soon")) := T.glo 20 _ rfl
theorem g_ahead (T : Tp K mg) : mg "ahead" = some (.ref (He.ga K "ahead")) := T.glo 21 _ rfl
theorem g_need_base (T : Tp K mg) : mg "need_base" = some (.ref (He.ga K "need_base")) := T.glo 22 _ rfl
theorem g_settled (T : Tp K mg) : mg "settled" = some (.ref (He.ga K "settled")) := T.glo 23 _ rfl
theorem g_steered (T : Tp K mg) : mg "steered" = some (.ref (He.ga K "steered")) := T.glo 24 _ rfl
theorem g_make_all (T : Tp K mg) : mg "make_all" = some (.ref (He.ga K "make_all")) := T.glo 25 _ rfl
theorem g_table_of (T : Tp K mg) : mg "table_of" = some (.ref (He.ga K "table_of")) := T.glo 26 _ rfl
theorem g_paper_of (T : Tp K mg) : mg "paper_of" = some (.ref (He.ga K "paper_of")) := T.glo 27 _ rfl
theorem g_row_places (T : Tp K mg) : mg "row_places" = some (.ref (He.ga K "row_places")) := T.glo 28 _ rfl
theorem g_moved_row (T : Tp K mg) : mg "moved_row" = some (.ref (He.ga K "moved_row")) := T.glo 29 _ rfl
theorem g_need_plan (T : Tp K mg) : mg "need_plan" = some (.ref (He.ga K "need_plan")) := T.glo 30 _ rfl
theorem g_is_made (T : Tp K mg) : mg "is_made" = some (.ref (He.ga K "is_made")) := T.glo 31 _ rfl
theorem g_inner_plans (T : Tp K mg) : mg "inner_plans" = some (.ref (He.ga K "inner_plans")) := T.glo 32 _ rfl
theorem g_part_count (T : Tp K mg) : mg "part_count" = some (.ref (He.ga K "part_count")) := T.glo 33 _ rfl
theorem g_reading_count (T : Tp K mg) : mg "reading_count" = some (.ref (He.ga K "reading_count")) := T.glo 34 _ rfl
theorem g_readings (T : Tp K mg) : mg "readings" = some (.ref (He.ga K "readings")) := T.glo 35 _ rfl
theorem g_reading (T : Tp K mg) : mg "reading" = some (.ref (He.ga K "reading")) := T.glo 36 _ rfl
theorem g_taken (T : Tp K mg) : mg "taken" = some (.ref (He.ga K "taken")) := T.glo 37 _ rfl
theorem g_has_either (T : Tp K mg) : mg "has_either" = some (.ref (He.ga K "has_either")) := T.glo 38 _ rfl
theorem g_laid (T : Tp K mg) : mg "laid" = some (.ref (He.ga K "laid")) := T.glo 39 _ rfl
theorem g_lay (T : Tp K mg) : mg "lay" = some (.ref (He.ga K "lay")) := T.glo 40 _ rfl
theorem g_lay_then (T : Tp K mg) : mg "lay_then" = some (.ref (He.ga K "lay_then")) := T.glo 41 _ rfl
theorem g_lay_beside (T : Tp K mg) : mg "lay_beside" = some (.ref (He.ga K "lay_beside")) := T.glo 42 _ rfl
theorem g_gather (T : Tp K mg) : mg "gather" = some (.ref (He.ga K "gather")) := T.glo 43 _ rfl
theorem g_fresh_name (T : Tp K mg) : mg "fresh_name" = some (.ref (He.ga K "fresh_name")) := T.glo 44 _ rfl
theorem g_chosen (T : Tp K mg) : mg "chosen" = some (.ref (He.ga K "chosen")) := T.glo 45 _ rfl
theorem g__law_flow (T : Tp K mg) : mg "_law_flow" = some (.ref (He.ga K "_law_flow")) := T.glo 46 _ rfl
theorem g__law_draw (T : Tp K mg) : mg "_law_draw" = some (.ref (He.ga K "_law_draw")) := T.glo 47 _ rfl
theorem g__law_pick (T : Tp K mg) : mg "_law_pick" = some (.ref (He.ga K "_law_pick")) := T.glo 48 _ rfl
theorem g__law_same (T : Tp K mg) : mg "_law_same" = some (.ref (He.ga K "_law_same")) := T.glo 49 _ rfl
theorem g__law_strange (T : Tp K mg) : mg "_law_strange" = some (.ref (He.ga K "_law_strange")) := T.glo 50 _ rfl
theorem g__law_whole (T : Tp K mg) : mg "_law_whole" = some (.ref (He.ga K "_law_whole")) := T.glo 51 _ rfl
theorem g__law_field (T : Tp K mg) : mg "_law_field" = some (.ref (He.ga K "_law_field")) := T.glo 52 _ rfl
theorem g__law_leaf (T : Tp K mg) : mg "_law_leaf" = some (.ref (He.ga K "_law_leaf")) := T.glo 53 _ rfl
theorem g__law_plan (T : Tp K mg) : mg "_law_plan" = some (.ref (He.ga K "_law_plan")) := T.glo 54 _ rfl
theorem g__law_kids (T : Tp K mg) : mg "_law_kids" = some (.ref (He.ga K "_law_kids")) := T.glo 55 _ rfl
theorem g__law_leaf_count (T : Tp K mg) : mg "_law_leaf_count" = some (.ref (He.ga K "_law_leaf_count")) := T.glo 56 _ rfl
theorem g__law_plan_depth (T : Tp K mg) : mg "_law_plan_depth" = some (.ref (He.ga K "_law_plan_depth")) := T.glo 57 _ rfl
theorem g__law_reading_count (T : Tp K mg) : mg "_law_reading_count" = some (.ref (He.ga K "_law_reading_count")) := T.glo 58 _ rfl
theorem g__law_good_leaf (T : Tp K mg) : mg "_law_good_leaf" = some (.ref (He.ga K "_law_good_leaf")) := T.glo 59 _ rfl
theorem g__law_good_form (T : Tp K mg) : mg "_law_good_form" = some (.ref (He.ga K "_law_good_form")) := T.glo 60 _ rfl
theorem g__law_good_plan (T : Tp K mg) : mg "_law_good_plan" = some (.ref (He.ga K "_law_good_plan")) := T.glo 61 _ rfl
theorem g__law_bent_plan (T : Tp K mg) : mg "_law_bent_plan" = some (.ref (He.ga K "_law_bent_plan")) := T.glo 62 _ rfl
theorem g__law_edge_plan (T : Tp K mg) : mg "_law_edge_plan" = some (.ref (He.ga K "_law_edge_plan")) := T.glo 63 _ rfl
theorem g_law (T : Tp K mg) : mg "law" = some (.ref (He.ga K "law")) := T.glo 64 _ rfl
theorem z_isinstance (T : Tp K mg) : mg "isinstance" = none := T.free 65 _ rfl
theorem z_int (T : Tp K mg) : mg "int" = none := T.free 66 _ rfl
theorem z_bool (T : Tp K mg) : mg "bool" = none := T.free 67 _ rfl
theorem z_str (T : Tp K mg) : mg "str" = none := T.free 68 _ rfl
theorem z_all (T : Tp K mg) : mg "all" = none := T.free 69 _ rfl
theorem z_len (T : Tp K mg) : mg "len" = none := T.free 70 _ rfl
theorem z_ValueError (T : Tp K mg) : mg "ValueError" = none := T.free 71 _ rfl
theorem z_list (T : Tp K mg) : mg "list" = none := T.free 72 _ rfl
theorem z_tuple (T : Tp K mg) : mg "tuple" = none := T.free 73 _ rfl
theorem z_any (T : Tp K mg) : mg "any" = none := T.free 74 _ rfl
theorem z_max (T : Tp K mg) : mg "max" = none := T.free 75 _ rfl
theorem z_reversed (T : Tp K mg) : mg "reversed" = none := T.free 76 _ rfl
theorem z_sorted (T : Tp K mg) : mg "sorted" = none := T.free 77 _ rfl
theorem z_range (T : Tp K mg) : mg "range" = none := T.free 78 _ rfl
theorem z_sum (T : Tp K mg) : mg "sum" = none := T.free 79 _ rfl
theorem z_divmod (T : Tp K mg) : mg "divmod" = none := T.free 80 _ rfl
theorem z_abs (T : Tp K mg) : mg "abs" = none := T.free 81 _ rfl
theorem z_dict (T : Tp K mg) : mg "dict" = none := T.free 82 _ rfl
theorem z_repr (T : Tp K mg) : mg "repr" = none := T.free 83 _ rfl
theorem c_LETTERS (T : Tp K mg) : ∃ u, mg "LETTERS" = some u ∧ RelV (.str "abcdefghijklmnopqrstuvwxyz") u := T.str 84 _ _ rfl
theorem c_LONGEST_NAME (T : Tp K mg) : ∃ u, mg "LONGEST_NAME" = some u ∧ RelV (.int 8) u := T.int 85 _ _ rfl
theorem c_BY (T : Tp K mg) : ∃ u, mg "BY" = some u ∧ RelV (.int 100) u := T.int 86 _ _ rfl
theorem c_START (T : Tp K mg) : ∃ u, mg "START" = some u ∧ RelV (.str "start") u := T.str 87 _ _ rfl
theorem c_MOST_BY (T : Tp K mg) : ∃ u, mg "MOST_BY" = some u ∧ RelV (.int 1000) u := T.int 88 _ _ rfl
theorem c_MOST_MOMENTS (T : Tp K mg) : ∃ u, mg "MOST_MOMENTS" = some u ∧ RelV (.int 10) u := T.int 89 _ _ rfl
theorem c_MOST_SPANS (T : Tp K mg) : ∃ u, mg "MOST_SPANS" = some u ∧ RelV (.int 4) u := T.int 90 _ _ rfl
theorem c_MOST_TIES (T : Tp K mg) : ∃ u, mg "MOST_TIES" = some u ∧ RelV (.int 40) u := T.int 91 _ _ rfl
theorem c_MOST_LENGTH (T : Tp K mg) : ∃ u, mg "MOST_LENGTH" = some u ∧ RelV (.int 1000) u := T.int 92 _ _ rfl
theorem c_MOST_LATE (T : Tp K mg) : ∃ u, mg "MOST_LATE" = some u ∧ RelV (.int 1000) u := T.int 93 _ _ rfl
theorem c_MOST_BOUND (T : Tp K mg) : ∃ u, mg "MOST_BOUND" = some u ∧ RelV (.int 1000) u := T.int 94 _ _ rfl
theorem c_MOST (T : Tp K mg) : ∃ u, mg "MOST" = some u ∧ RelV (.str "most") u := T.str 95 _ _ rfl
theorem c_UNTIL (T : Tp K mg) : ∃ u, mg "UNTIL" = some u ∧ RelV (.str "until") u := T.str 96 _ _ rfl
theorem c_MOST_TICKS (T : Tp K mg) : ∃ u, mg "MOST_TICKS" = some u ∧ RelV (.int 1000) u := T.int 97 _ _ rfl
theorem c_MOST_PLANS (T : Tp K mg) : ∃ u, mg "MOST_PLANS" = some u ∧ RelV (.int 4) u := T.int 98 _ _ rfl
theorem c_MOST_DEPTH (T : Tp K mg) : ∃ u, mg "MOST_DEPTH" = some u ∧ RelV (.int 6) u := T.int 99 _ _ rfl
theorem c_MOST_PARTS (T : Tp K mg) : ∃ u, mg "MOST_PARTS" = some u ∧ RelV (.int 12) u := T.int 100 _ _ rfl
theorem c_MOST_READINGS (T : Tp K mg) : ∃ u, mg "MOST_READINGS" = some u ∧ RelV (.int 64) u := T.int 101 _ _ rfl
theorem g_Web (T : Tp K mg) : mg "Web" = some (.ref (He.ga K "Web")) := T.glo 102 _ rfl
theorem cl_Web (T : Tp K mg) : Cls K (He.ga K "Web") := He.cls_ok (T.c.fact 103 (f := .cls "Web") rfl)
theorem mk_Web (T : Tp K mg) : Mk K (He.ga K "Web") (He.ma K (He.ga K "Web") "__init__") := He.mkr_ok (T.c.fact 104 (f := .mkr "Web") rfl)
theorem na_by (T : Tp K mg) : NoAttr K (He.ga K "Web") "by" := He.noat_ok (T.c.fact 105 (f := .noat "Web" "by") rfl)
theorem na_moment_rows (T : Tp K mg) : NoAttr K (He.ga K "Web") "moment_rows" := He.noat_ok (T.c.fact 106 (f := .noat "Web" "moment_rows") rfl)
theorem na_span_rows (T : Tp K mg) : NoAttr K (He.ga K "Web") "span_rows" := He.noat_ok (T.c.fact 107 (f := .noat "Web" "span_rows") rfl)
theorem na_tie_rows (T : Tp K mg) : NoAttr K (He.ga K "Web") "tie_rows" := He.noat_ok (T.c.fact 108 (f := .noat "Web" "tie_rows") rfl)
theorem na_bool (T : Tp K mg) : NoAttr K (He.ga K "Web") "__bool__" := He.noat_ok (T.c.fact 109 (f := .noat "Web" "__bool__") rfl)
theorem me_Web_UinitU (T : Tp K mg) : Meth K (He.ga K "Web") "__init__" (He.ma K (He.ga K "Web") "__init__") := He.meth_ok (T.c.fact 110 (f := .meth "Web" "__init__") rfl)
theorem me_Web_with_moment (T : Tp K mg) : Meth K (He.ga K "Web") "with_moment" (He.ma K (He.ga K "Web") "with_moment") := He.meth_ok (T.c.fact 111 (f := .meth "Web" "with_moment") rfl)
theorem me_Web_with_span (T : Tp K mg) : Meth K (He.ga K "Web") "with_span" (He.ma K (He.ga K "Web") "with_span") := He.meth_ok (T.c.fact 112 (f := .meth "Web" "with_span") rfl)
theorem me_Web_with_tie (T : Tp K mg) : Meth K (He.ga K "Web") "with_tie" (He.ma K (He.ga K "Web") "with_tie") := He.meth_ok (T.c.fact 113 (f := .meth "Web" "with_tie") rfl)
theorem me_Web_without (T : Tp K mg) : Meth K (He.ga K "Web") "without" (He.ma K (He.ga K "Web") "without") := He.meth_ok (T.c.fact 114 (f := .meth "Web" "without") rfl)
theorem me_Web_moments (T : Tp K mg) : Meth K (He.ga K "Web") "moments" (He.ma K (He.ga K "Web") "moments") := He.meth_ok (T.c.fact 115 (f := .meth "Web" "moments") rfl)
theorem me_Web_spans (T : Tp K mg) : Meth K (He.ga K "Web") "spans" (He.ma K (He.ga K "Web") "spans") := He.meth_ok (T.c.fact 116 (f := .meth "Web" "spans") rfl)
theorem me_Web_ties (T : Tp K mg) : Meth K (He.ga K "Web") "ties" (He.ma K (He.ga K "Web") "ties") := He.meth_ok (T.c.fact 117 (f := .meth "Web" "ties") rfl)
theorem me_Web_points (T : Tp K mg) : Meth K (He.ga K "Web") "points" (He.ma K (He.ga K "Web") "points") := He.meth_ok (T.c.fact 118 (f := .meth "Web" "points") rfl)
theorem me_Web_UeqU (T : Tp K mg) : Meth K (He.ga K "Web") "__eq__" (He.ma K (He.ga K "Web") "__eq__") := He.meth_ok (T.c.fact 119 (f := .meth "Web" "__eq__") rfl)
theorem me_Web_UlenU (T : Tp K mg) : Meth K (He.ga K "Web") "__len__" (He.ma K (He.ga K "Web") "__len__") := He.meth_ok (T.c.fact 120 (f := .meth "Web" "__len__") rfl)
theorem me_Web_UreprU (T : Tp K mg) : Meth K (He.ga K "Web") "__repr__" (He.ma K (He.ga K "Web") "__repr__") := He.meth_ok (T.c.fact 121 (f := .meth "Web" "__repr__") rfl)
theorem g_Making (T : Tp K mg) : mg "Making" = some (.ref (He.ga K "Making")) := T.glo 122 _ rfl
theorem cl_Making (T : Tp K mg) : Cls K (He.ga K "Making") := He.cls_ok (T.c.fact 123 (f := .cls "Making") rfl)
theorem mk_Making (T : Tp K mg) : Mk K (He.ga K "Making") (He.ma K (He.ga K "Making") "__init__") := He.mkr_ok (T.c.fact 124 (f := .mkr "Making") rfl)
theorem na_Making_web (T : Tp K mg) : NoAttr K (He.ga K "Making") "web" := He.noat_ok (T.c.fact 125 (f := .noat "Making" "web") rfl)
theorem na_Making_names (T : Tp K mg) : NoAttr K (He.ga K "Making") "names" := He.noat_ok (T.c.fact 126 (f := .noat "Making" "names") rfl)
theorem na_Making_ends (T : Tp K mg) : NoAttr K (He.ga K "Making") "ends" := He.noat_ok (T.c.fact 127 (f := .noat "Making" "ends") rfl)
theorem na_Making_heard (T : Tp K mg) : NoAttr K (He.ga K "Making") "heard" := He.noat_ok (T.c.fact 128 (f := .noat "Making" "heard") rfl)
theorem na_Making_made (T : Tp K mg) : NoAttr K (He.ga K "Making") "made" := He.noat_ok (T.c.fact 129 (f := .noat "Making" "made") rfl)
theorem na_Making_rows (T : Tp K mg) : NoAttr K (He.ga K "Making") "rows" := He.noat_ok (T.c.fact 130 (f := .noat "Making" "rows") rfl)
theorem na_Making_fault (T : Tp K mg) : NoAttr K (He.ga K "Making") "fault" := He.noat_ok (T.c.fact 131 (f := .noat "Making" "fault") rfl)
theorem me_Making_UinitU (T : Tp K mg) : Meth K (He.ga K "Making") "__init__" (He.ma K (He.ga K "Making") "__init__") := He.meth_ok (T.c.fact 132 (f := .meth "Making" "__init__") rfl)
theorem me_Making_offer (T : Tp K mg) : Meth K (He.ga K "Making") "offer" (He.ma K (He.ga K "Making") "offer") := He.meth_ok (T.c.fact 133 (f := .meth "Making" "offer") rfl)
theorem me_Making_tell (T : Tp K mg) : Meth K (He.ga K "Making") "tell" (He.ma K (He.ga K "Making") "tell") := He.meth_ok (T.c.fact 134 (f := .meth "Making" "tell") rfl)
theorem me_Making_go_round (T : Tp K mg) : Meth K (He.ga K "Making") "go_round" (He.ma K (He.ga K "Making") "go_round") := He.meth_ok (T.c.fact 135 (f := .meth "Making" "go_round") rfl)
theorem me_Making_go_along (T : Tp K mg) : Meth K (He.ga K "Making") "go_along" (He.ma K (He.ga K "Making") "go_along") := He.meth_ok (T.c.fact 136 (f := .meth "Making" "go_along") rfl)
theorem me_Making_go_wait (T : Tp K mg) : Meth K (He.ga K "Making") "go_wait" (He.ma K (He.ga K "Making") "go_wait") := He.meth_ok (T.c.fact 137 (f := .meth "Making" "go_wait") rfl)
theorem me_Making_go_single (T : Tp K mg) : Meth K (He.ga K "Making") "go_single" (He.ma K (He.ga K "Making") "go_single") := He.meth_ok (T.c.fact 138 (f := .meth "Making" "go_single") rfl)
theorem g_Table (T : Tp K mg) : mg "Table" = some (.ref (He.ga K "Table")) := T.glo 139 _ rfl
theorem cl_Table (T : Tp K mg) : Cls K (He.ga K "Table") := He.cls_ok (T.c.fact 140 (f := .cls "Table") rfl)
theorem mk_Table (T : Tp K mg) : Mk K (He.ga K "Table") (He.ma K (He.ga K "Table") "__init__") := He.mkr_ok (T.c.fact 141 (f := .mkr "Table") rfl)
theorem na_Table_bound_amounts (T : Tp K mg) : NoAttr K (He.ga K "Table") "bound_amounts" := He.noat_ok (T.c.fact 142 (f := .noat "Table" "bound_amounts") rfl)
theorem na_Table_wait_amounts (T : Tp K mg) : NoAttr K (He.ga K "Table") "wait_amounts" := He.noat_ok (T.c.fact 143 (f := .noat "Table" "wait_amounts") rfl)
theorem na_Table_base_names (T : Tp K mg) : NoAttr K (He.ga K "Table") "base_names" := He.noat_ok (T.c.fact 144 (f := .noat "Table" "base_names") rfl)
theorem na_Table_span_names (T : Tp K mg) : NoAttr K (He.ga K "Table") "span_names" := He.noat_ok (T.c.fact 145 (f := .noat "Table" "span_names") rfl)
theorem me_Table_UinitU (T : Tp K mg) : Meth K (He.ga K "Table") "__init__" (He.ma K (He.ga K "Table") "__init__") := He.meth_ok (T.c.fact 146 (f := .meth "Table" "__init__") rfl)
theorem me_Table_until (T : Tp K mg) : Meth K (He.ga K "Table") "until" (He.ma K (He.ga K "Table") "until") := He.meth_ok (T.c.fact 147 (f := .meth "Table" "until") rfl)
theorem me_Table_betweens (T : Tp K mg) : Meth K (He.ga K "Table") "betweens" (He.ma K (He.ga K "Table") "betweens") := He.meth_ok (T.c.fact 148 (f := .meth "Table" "betweens") rfl)
theorem me_Table_untils (T : Tp K mg) : Meth K (He.ga K "Table") "untils" (He.ma K (He.ga K "Table") "untils") := He.meth_ok (T.c.fact 149 (f := .meth "Table" "untils") rfl)
theorem me_Table_UeqU (T : Tp K mg) : Meth K (He.ga K "Table") "__eq__" (He.ma K (He.ga K "Table") "__eq__") := He.meth_ok (T.c.fact 150 (f := .meth "Table" "__eq__") rfl)
theorem me_Table_UlenU (T : Tp K mg) : Meth K (He.ga K "Table") "__len__" (He.ma K (He.ga K "Table") "__len__") := He.meth_ok (T.c.fact 151 (f := .meth "Table" "__len__") rfl)
theorem me_Table_UreprU (T : Tp K mg) : Meth K (He.ga K "Table") "__repr__" (He.ma K (He.ga K "Table") "__repr__") := He.meth_ok (T.c.fact 152 (f := .meth "Table" "__repr__") rfl)
theorem g_BadBy (T : Tp K mg) : mg "BadBy" = some (.ref (He.ga K "BadBy")) := T.glo 153 _ rfl
theorem g_BadDeed (T : Tp K mg) : mg "BadDeed" = some (.ref (He.ga K "BadDeed")) := T.glo 154 _ rfl
theorem g_BadName (T : Tp K mg) : mg "BadName" = some (.ref (He.ga K "BadName")) := T.glo 155 _ rfl
theorem g_Taken (T : Tp K mg) : mg "Taken" = some (.ref (He.ga K "Taken")) := T.glo 156 _ rfl
theorem g_Used (T : Tp K mg) : mg "Used" = some (.ref (He.ga K "Used")) := T.glo 157 _ rfl
theorem g_Full (T : Tp K mg) : mg "Full" = some (.ref (He.ga K "Full")) := T.glo 158 _ rfl
theorem g_BadLength (T : Tp K mg) : mg "BadLength" = some (.ref (He.ga K "BadLength")) := T.glo 159 _ rfl
theorem g_BadLate (T : Tp K mg) : mg "BadLate" = some (.ref (He.ga K "BadLate")) := T.glo 160 _ rfl
theorem g_BadTie (T : Tp K mg) : mg "BadTie" = some (.ref (He.ga K "BadTie")) := T.glo 161 _ rfl
theorem g_NoMoment (T : Tp K mg) : mg "NoMoment" = some (.ref (He.ga K "NoMoment")) := T.glo 162 _ rfl
theorem g_NoPoint (T : Tp K mg) : mg "NoPoint" = some (.ref (He.ga K "NoPoint")) := T.glo 163 _ rfl
theorem g_NoSpan (T : Tp K mg) : mg "NoSpan" = some (.ref (He.ga K "NoSpan")) := T.glo 164 _ rfl
theorem g_NoTie (T : Tp K mg) : mg "NoTie" = some (.ref (He.ga K "NoTie")) := T.glo 165 _ rfl
theorem g_NoDeed (T : Tp K mg) : mg "NoDeed" = some (.ref (He.ga K "NoDeed")) := T.glo 166 _ rfl
theorem g_Done (T : Tp K mg) : mg "Done" = some (.ref (He.ga K "Done")) := T.glo 167 _ rfl
theorem g_Unbegun (T : Tp K mg) : mg "Unbegun" = some (.ref (He.ga K "Unbegun")) := T.glo 168 _ rfl
theorem g_Unheard (T : Tp K mg) : mg "Unheard" = some (.ref (He.ga K "Unheard")) := T.glo 169 _ rfl
theorem g_TooEarly (T : Tp K mg) : mg "TooEarly" = some (.ref (He.ga K "TooEarly")) := T.glo 170 _ rfl
theorem g_TooLate (T : Tp K mg) : mg "TooLate" = some (.ref (He.ga K "TooLate")) := T.glo 171 _ rfl
theorem g_BadNews (T : Tp K mg) : mg "BadNews" = some (.ref (He.ga K "BadNews")) := T.glo 172 _ rfl
theorem g_BadKeeper (T : Tp K mg) : mg "BadKeeper" = some (.ref (He.ga K "BadKeeper")) := T.glo 173 _ rfl
theorem g_Over (T : Tp K mg) : mg "Over" = some (.ref (He.ga K "Over")) := T.glo 174 _ rfl
theorem g_BadPaper (T : Tp K mg) : mg "BadPaper" = some (.ref (He.ga K "BadPaper")) := T.glo 175 _ rfl
theorem g_BadText (T : Tp K mg) : mg "BadText" = some (.ref (He.ga K "BadText")) := T.glo 176 _ rfl
theorem g_BadPlan (T : Tp K mg) : mg "BadPlan" = some (.ref (He.ga K "BadPlan")) := T.glo 177 _ rfl
theorem g_Unsteered (T : Tp K mg) : mg "Unsteered" = some (.ref (He.ga K "Unsteered")) := T.glo 178 _ rfl
theorem g_NothingBack (T : Tp K mg) : mg "NothingBack" = some (.ref (He.ga K "NothingBack")) := T.glo 179 _ rfl
theorem g_TideError (T : Tp K mg) : mg "TideError" = some (.ref (He.ga K "TideError")) := T.glo 180 _ rfl
theorem vi_ValueError (T : Tp K mg) : PySem.W.findCls K (.type "ValueError") (.type "type") "__init__" = some (.val (.builtin "ValueError.__init__")) := viB_ok (exAt0 T.m 0 rfl)
theorem cd_TideError (T : Tp K mg) : ClsDef K (He.ga K "TideError") (He.ma K (He.ga K "TideError") "__init__") "__init__" := clsDefB_ok (exAt0 T.m 1 rfl)
theorem oe_BadPlan (T : Tp K mg) : OxC bVE K (He.ga K "BadPlan") := oxB_ok bVE_ok (exAt0 T.m 2 rfl)
theorem xf_BadPlan (T : Tp K mg) : XfC K (He.ga K "BadPlan") := xfB_ok (exAt0 T.m 3 rfl)
theorem in_BadPlan (T : Tp K mg) : InitAt K (He.ga K "BadPlan") (He.ma K (He.ga K "BadPlan") "__init__") := initB_ok (exAt0 T.m 4 rfl)
theorem nf_BadPlan_word (T : Tp K mg) : PySem.W.findIn K (.ref (He.ga K "BadPlan")) "word" = some none := of_decide_eq_true (exAt0 T.m 5 rfl)
theorem em_BadPlan_0 (T : Tp K mg) : PySem.W.exmAny K (.ref (He.ga K "BadPlan")) [.ref (He.ga K "BadBy"), .ref (He.ga K "BadDeed")] = some false := of_decide_eq_true (exAt0 T.m 6 rfl)
theorem em_BadPlan_1 (T : Tp K mg) : PySem.W.exmAny K (.ref (He.ga K "BadPlan")) [.ref (He.ga K "BadName"), .ref (He.ga K "Taken"), .ref (He.ga K "Used")] = some false := of_decide_eq_true (exAt0 T.m 7 rfl)
theorem em_BadPlan_2 (T : Tp K mg) : PySem.W.exmAny K (.ref (He.ga K "BadPlan")) [.ref (He.ga K "Full")] = some false := of_decide_eq_true (exAt0 T.m 8 rfl)
theorem em_BadPlan_3 (T : Tp K mg) : PySem.W.exmAny K (.ref (He.ga K "BadPlan")) [.ref (He.ga K "BadLength")] = some false := of_decide_eq_true (exAt0 T.m 9 rfl)
theorem em_BadPlan_4 (T : Tp K mg) : PySem.W.exmAny K (.ref (He.ga K "BadPlan")) [.ref (He.ga K "BadLate")] = some false := of_decide_eq_true (exAt0 T.m 10 rfl)
theorem em_BadPlan_5 (T : Tp K mg) : PySem.W.exmAny K (.ref (He.ga K "BadPlan")) [.ref (He.ga K "BadTie")] = some false := of_decide_eq_true (exAt0 T.m 11 rfl)
theorem em_BadPlan_6 (T : Tp K mg) : PySem.W.exmAny K (.ref (He.ga K "BadPlan")) [.ref (He.ga K "NoMoment"), .ref (He.ga K "NoPoint"), .ref (He.ga K "NoSpan")] = some false := of_decide_eq_true (exAt0 T.m 12 rfl)
theorem em_BadPlan_7 (T : Tp K mg) : PySem.W.exmAny K (.ref (He.ga K "BadPlan")) [.ref (He.ga K "NoTie"), .ref (He.ga K "NoDeed")] = some false := of_decide_eq_true (exAt0 T.m 13 rfl)
theorem em_BadPlan_8 (T : Tp K mg) : PySem.W.exmAny K (.ref (He.ga K "BadPlan")) [.ref (He.ga K "Done"), .ref (He.ga K "Unbegun"), .ref (He.ga K "Unheard")] = some false := of_decide_eq_true (exAt0 T.m 14 rfl)
theorem em_BadPlan_9 (T : Tp K mg) : PySem.W.exmAny K (.ref (He.ga K "BadPlan")) [.ref (He.ga K "TooEarly"), .ref (He.ga K "TooLate"), .ref (He.ga K "BadNews")] = some false := of_decide_eq_true (exAt0 T.m 15 rfl)
theorem em_BadPlan_10 (T : Tp K mg) : PySem.W.exmAny K (.ref (He.ga K "BadPlan")) [.ref (He.ga K "BadKeeper"), .ref (He.ga K "Over")] = some false := of_decide_eq_true (exAt0 T.m 16 rfl)
theorem em_BadPlan_11 (T : Tp K mg) : PySem.W.exmAny K (.ref (He.ga K "BadPlan")) [.ref (He.ga K "BadPaper"), .ref (He.ga K "BadText")] = some false := of_decide_eq_true (exAt0 T.m 17 rfl)
theorem em_BadPlan_12 (T : Tp K mg) : PySem.W.exmAny K (.ref (He.ga K "BadPlan")) [.ref (He.ga K "BadPlan"), .ref (He.ga K "Unsteered"), .ref (He.ga K "NothingBack")] = some true := of_decide_eq_true (exAt0 T.m 18 rfl)
theorem f_is_number (T : Tp K mg) : ∃ fd, FunD K "is_number" "is_number" (defArgs s_is_number) (defBody s_is_number) (defScope s_is_number) [] [] (He.ga K "is_number") fd := T.c.def_ 0 (d := d_is_number) rfl
theorem b_is_number {f : Addr} {fd : FuncData} (F : FunD K "is_number" "is_number" (defArgs s_is_number) (defBody s_is_number) (defScope s_is_number) [] [] f fd) : Binds K fd ["thing"] [] := F.bindsN fun _ _ _ _ _ _ us hl => match us, hl with | [_], _ => rfl
theorem f_is_whole (T : Tp K mg) : ∃ fd, FunD K "is_whole" "is_whole" (defArgs s_is_whole) (defBody s_is_whole) (defScope s_is_whole) [] [] (He.ga K "is_whole") fd := T.c.def_ 1 (d := d_is_whole) rfl
theorem b_is_whole {f : Addr} {fd : FuncData} (F : FunD K "is_whole" "is_whole" (defArgs s_is_whole) (defBody s_is_whole) (defScope s_is_whole) [] [] f fd) : Binds K fd ["thing", "least", "most"] [] := F.bindsN fun _ _ _ _ _ _ us hl => match us, hl with | [_, _, _], _ => rfl
theorem f_is_one_of (T : Tp K mg) : ∃ fd, FunD K "is_one_of" "is_one_of" (defArgs s_is_one_of) (defBody s_is_one_of) (defScope s_is_one_of) [] [] (He.ga K "is_one_of") fd := T.c.def_ 2 (d := d_is_one_of) rfl
theorem b_is_one_of {f : Addr} {fd : FuncData} (F : FunD K "is_one_of" "is_one_of" (defArgs s_is_one_of) (defBody s_is_one_of) (defScope s_is_one_of) [] [] f fd) : Binds K fd ["thing", "names"] [] := F.bindsN fun _ _ _ _ _ _ us hl => match us, hl with | [_, _], _ => rfl
theorem f_is_name (T : Tp K mg) : ∃ fd, FunD K "is_name" "is_name" (defArgs s_is_name) (defBody s_is_name) (defScope s_is_name) [] [] (He.ga K "is_name") fd := T.c.def_ 3 (d := d_is_name) rfl
theorem b_is_name {f : Addr} {fd : FuncData} (F : FunD K "is_name" "is_name" (defArgs s_is_name) (defBody s_is_name) (defScope s_is_name) [] [] f fd) : Binds K fd ["thing"] [] := F.bindsN fun _ _ _ _ _ _ us hl => match us, hl with | [_], _ => rfl
theorem f_TideError_UinitU (T : Tp K mg) : ∃ fd, FunD K "__init__" "TideError.__init__" (defArgs s_TideError_UinitU) (defBody s_TideError_UinitU) (defScope s_TideError_UinitU) [(V.str "TideError" : V), (V.str "refused" : V)] [] (He.ma K (He.ga K "TideError") "__init__") fd := T.c.def_ 4 (d := d_TideError_UinitU) rfl
theorem f_BadPlan_UinitU (T : Tp K mg) : ∃ fd, FunD K "__init__" "BadPlan.__init__" (defArgs s_BadPlan_UinitU) (defBody s_BadPlan_UinitU) (defScope s_BadPlan_UinitU) [] [] (He.ma K (He.ga K "BadPlan") "__init__") fd := T.c.def_ 5 (d := d_BadPlan_UinitU) rfl
theorem b_BadPlan_UinitU {f : Addr} {fd : FuncData} (F : FunD K "__init__" "BadPlan.__init__" (defArgs s_BadPlan_UinitU) (defBody s_BadPlan_UinitU) (defScope s_BadPlan_UinitU) [] [] f fd) : Binds K fd ["self"] [] := F.bindsN fun _ _ _ _ _ _ us hl => match us, hl with | [_], _ => rfl
theorem f_Web_UinitU (T : Tp K mg) : ∃ fd, FunD K "__init__" "Web.__init__" (defArgs s_Web_UinitU) (defBody s_Web_UinitU) (defScope s_Web_UinitU) [(V.int 100 : V)] [] (He.ma K (He.ga K "Web") "__init__") fd := T.c.def_ 6 (d := d_Web_UinitU) rfl
theorem f_Web_with_moment (T : Tp K mg) : ∃ fd, FunD K "with_moment" "Web.with_moment" (defArgs s_Web_with_moment) (defBody s_Web_with_moment) (defScope s_Web_with_moment) [] [] (He.ma K (He.ga K "Web") "with_moment") fd := T.c.def_ 7 (d := d_Web_with_moment) rfl
theorem b_Web_with_moment {f : Addr} {fd : FuncData} (F : FunD K "with_moment" "Web.with_moment" (defArgs s_Web_with_moment) (defBody s_Web_with_moment) (defScope s_Web_with_moment) [] [] f fd) : Binds K fd ["self", "name"] [] := F.bindsN fun _ _ _ _ _ _ us hl => match us, hl with | [_, _], _ => rfl
theorem f_Web_with_span (T : Tp K mg) : ∃ fd, FunD K "with_span" "Web.with_span" (defArgs s_Web_with_span) (defBody s_Web_with_span) (defScope s_Web_with_span) [] [("late", V.int 0)] (He.ma K (He.ga K "Web") "with_span") fd := T.c.def_ 8 (d := d_Web_with_span) rfl
theorem f_Web_with_tie (T : Tp K mg) : ∃ fd, FunD K "with_tie" "Web.with_tie" (defArgs s_Web_with_tie) (defBody s_Web_with_tie) (defScope s_Web_with_tie) [] [("least", V.non), ("most", V.non)] (He.ma K (He.ga K "Web") "with_tie") fd := T.c.def_ 9 (d := d_Web_with_tie) rfl
theorem f_Web_without (T : Tp K mg) : ∃ fd, FunD K "without" "Web.without" (defArgs s_Web_without) (defBody s_Web_without) (defScope s_Web_without) [] [] (He.ma K (He.ga K "Web") "without") fd := T.c.def_ 10 (d := d_Web_without) rfl
theorem b_Web_without {f : Addr} {fd : FuncData} (F : FunD K "without" "Web.without" (defArgs s_Web_without) (defBody s_Web_without) (defScope s_Web_without) [] [] f fd) : Binds K fd ["self", "name"] [] := F.bindsN fun _ _ _ _ _ _ us hl => match us, hl with | [_, _], _ => rfl
theorem f_Web_moments (T : Tp K mg) : ∃ fd, FunD K "moments" "Web.moments" (defArgs s_Web_moments) (defBody s_Web_moments) (defScope s_Web_moments) [] [] (He.ma K (He.ga K "Web") "moments") fd := T.c.def_ 11 (d := d_Web_moments) rfl
theorem b_Web_moments {f : Addr} {fd : FuncData} (F : FunD K "moments" "Web.moments" (defArgs s_Web_moments) (defBody s_Web_moments) (defScope s_Web_moments) [] [] f fd) : Binds K fd ["self"] [] := F.bindsN fun _ _ _ _ _ _ us hl => match us, hl with | [_], _ => rfl
theorem f_Web_spans (T : Tp K mg) : ∃ fd, FunD K "spans" "Web.spans" (defArgs s_Web_spans) (defBody s_Web_spans) (defScope s_Web_spans) [] [] (He.ma K (He.ga K "Web") "spans") fd := T.c.def_ 12 (d := d_Web_spans) rfl
theorem b_Web_spans {f : Addr} {fd : FuncData} (F : FunD K "spans" "Web.spans" (defArgs s_Web_spans) (defBody s_Web_spans) (defScope s_Web_spans) [] [] f fd) : Binds K fd ["self"] [] := F.bindsN fun _ _ _ _ _ _ us hl => match us, hl with | [_], _ => rfl
theorem f_Web_ties (T : Tp K mg) : ∃ fd, FunD K "ties" "Web.ties" (defArgs s_Web_ties) (defBody s_Web_ties) (defScope s_Web_ties) [] [] (He.ma K (He.ga K "Web") "ties") fd := T.c.def_ 13 (d := d_Web_ties) rfl
theorem b_Web_ties {f : Addr} {fd : FuncData} (F : FunD K "ties" "Web.ties" (defArgs s_Web_ties) (defBody s_Web_ties) (defScope s_Web_ties) [] [] f fd) : Binds K fd ["self"] [] := F.bindsN fun _ _ _ _ _ _ us hl => match us, hl with | [_], _ => rfl
theorem f_Web_points (T : Tp K mg) : ∃ fd, FunD K "points" "Web.points" (defArgs s_Web_points) (defBody s_Web_points) (defScope s_Web_points) [] [] (He.ma K (He.ga K "Web") "points") fd := T.c.def_ 14 (d := d_Web_points) rfl
theorem b_Web_points {f : Addr} {fd : FuncData} (F : FunD K "points" "Web.points" (defArgs s_Web_points) (defBody s_Web_points) (defScope s_Web_points) [] [] f fd) : Binds K fd ["self"] [] := F.bindsN fun _ _ _ _ _ _ us hl => match us, hl with | [_], _ => rfl
theorem f_Web_UeqU (T : Tp K mg) : ∃ fd, FunD K "__eq__" "Web.__eq__" (defArgs s_Web_UeqU) (defBody s_Web_UeqU) (defScope s_Web_UeqU) [] [] (He.ma K (He.ga K "Web") "__eq__") fd := T.c.def_ 15 (d := d_Web_UeqU) rfl
theorem b_Web_UeqU {f : Addr} {fd : FuncData} (F : FunD K "__eq__" "Web.__eq__" (defArgs s_Web_UeqU) (defBody s_Web_UeqU) (defScope s_Web_UeqU) [] [] f fd) : Binds K fd ["self", "other"] [] := F.bindsN fun _ _ _ _ _ _ us hl => match us, hl with | [_, _], _ => rfl
theorem f_Web_UlenU (T : Tp K mg) : ∃ fd, FunD K "__len__" "Web.__len__" (defArgs s_Web_UlenU) (defBody s_Web_UlenU) (defScope s_Web_UlenU) [] [] (He.ma K (He.ga K "Web") "__len__") fd := T.c.def_ 16 (d := d_Web_UlenU) rfl
theorem b_Web_UlenU {f : Addr} {fd : FuncData} (F : FunD K "__len__" "Web.__len__" (defArgs s_Web_UlenU) (defBody s_Web_UlenU) (defScope s_Web_UlenU) [] [] f fd) : Binds K fd ["self"] [] := F.bindsN fun _ _ _ _ _ _ us hl => match us, hl with | [_], _ => rfl
theorem f_Web_UreprU (T : Tp K mg) : ∃ fd, FunD K "__repr__" "Web.__repr__" (defArgs s_Web_UreprU) (defBody s_Web_UreprU) (defScope s_Web_UreprU) [] [] (He.ma K (He.ga K "Web") "__repr__") fd := T.c.def_ 17 (d := d_Web_UreprU) rfl
theorem b_Web_UreprU {f : Addr} {fd : FuncData} (F : FunD K "__repr__" "Web.__repr__" (defArgs s_Web_UreprU) (defBody s_Web_UreprU) (defScope s_Web_UreprU) [] [] f fd) : Binds K fd ["self"] [] := F.bindsN fun _ _ _ _ _ _ us hl => match us, hl with | [_], _ => rfl
theorem f_woven (T : Tp K mg) : ∃ fd, FunD K "woven" "woven" (defArgs s_woven) (defBody s_woven) (defScope s_woven) [] [] (He.ga K "woven") fd := T.c.def_ 18 (d := d_woven) rfl
theorem b_woven {f : Addr} {fd : FuncData} (F : FunD K "woven" "woven" (defArgs s_woven) (defBody s_woven) (defScope s_woven) [] [] f fd) : Binds K fd ["by", "moments", "spans", "ties"] [] := F.bindsN fun _ _ _ _ _ _ us hl => match us, hl with | [_, _, _, _], _ => rfl
theorem f_is_begin (T : Tp K mg) : ∃ fd, FunD K "is_begin" "is_begin" (defArgs s_is_begin) (defBody s_is_begin) (defScope s_is_begin) [] [] (He.ga K "is_begin") fd := T.c.def_ 19 (d := d_is_begin) rfl
theorem b_is_begin {f : Addr} {fd : FuncData} (F : FunD K "is_begin" "is_begin" (defArgs s_is_begin) (defBody s_is_begin) (defScope s_is_begin) [] [] f fd) : Binds K fd ["web", "name"] [] := F.bindsN fun _ _ _ _ _ _ us hl => match us, hl with | [_, _], _ => rfl
theorem f_are_lengths (T : Tp K mg) : ∃ fd, FunD K "are_lengths" "are_lengths" (defArgs s_are_lengths) (defBody s_are_lengths) (defScope s_are_lengths) [] [] (He.ga K "are_lengths") fd := T.c.def_ 20 (d := d_are_lengths) rfl
theorem b_are_lengths {f : Addr} {fd : FuncData} (F : FunD K "are_lengths" "are_lengths" (defArgs s_are_lengths) (defBody s_are_lengths) (defScope s_are_lengths) [] [] f fd) : Binds K fd ["low", "high"] [] := F.bindsN fun _ _ _ _ _ _ us hl => match us, hl with | [_, _], _ => rfl
theorem f_is_lateness (T : Tp K mg) : ∃ fd, FunD K "is_lateness" "is_lateness" (defArgs s_is_lateness) (defBody s_is_lateness) (defScope s_is_lateness) [] [] (He.ga K "is_lateness") fd := T.c.def_ 21 (d := d_is_lateness) rfl
theorem b_is_lateness {f : Addr} {fd : FuncData} (F : FunD K "is_lateness" "is_lateness" (defArgs s_is_lateness) (defBody s_is_lateness) (defScope s_is_lateness) [] [] f fd) : Binds K fd ["late"] [] := F.bindsN fun _ _ _ _ _ _ us hl => match us, hl with | [_], _ => rfl
theorem f_is_used (T : Tp K mg) : ∃ fd, FunD K "is_used" "is_used" (defArgs s_is_used) (defBody s_is_used) (defScope s_is_used) [] [] (He.ga K "is_used") fd := T.c.def_ 22 (d := d_is_used) rfl
theorem b_is_used {f : Addr} {fd : FuncData} (F : FunD K "is_used" "is_used" (defArgs s_is_used) (defBody s_is_used) (defScope s_is_used) [] [] f fd) : Binds K fd ["web", "name"] [] := F.bindsN fun _ _ _ _ _ _ us hl => match us, hl with | [_, _], _ => rfl
theorem f_are_bounds (T : Tp K mg) : ∃ fd, FunD K "are_bounds" "are_bounds" (defArgs s_are_bounds) (defBody s_are_bounds) (defScope s_are_bounds) [] [] (He.ga K "are_bounds") fd := T.c.def_ 23 (d := d_are_bounds) rfl
theorem b_are_bounds {f : Addr} {fd : FuncData} (F : FunD K "are_bounds" "are_bounds" (defArgs s_are_bounds) (defBody s_are_bounds) (defScope s_are_bounds) [] [] f fd) : Binds K fd ["least", "most"] [] := F.bindsN fun _ _ _ _ _ _ us hl => match us, hl with | [_, _], _ => rfl
theorem f_need_free_name (T : Tp K mg) : ∃ fd, FunD K "need_free_name" "need_free_name" (defArgs s_need_free_name) (defBody s_need_free_name) (defScope s_need_free_name) [] [] (He.ga K "need_free_name") fd := T.c.def_ 24 (d := d_need_free_name) rfl
theorem b_need_free_name {f : Addr} {fd : FuncData} (F : FunD K "need_free_name" "need_free_name" (defArgs s_need_free_name) (defBody s_need_free_name) (defScope s_need_free_name) [] [] f fd) : Binds K fd ["web", "name"] [] := F.bindsN fun _ _ _ _ _ _ us hl => match us, hl with | [_, _], _ => rfl
theorem f_need_point (T : Tp K mg) : ∃ fd, FunD K "need_point" "need_point" (defArgs s_need_point) (defBody s_need_point) (defScope s_need_point) [] [] (He.ga K "need_point") fd := T.c.def_ 25 (d := d_need_point) rfl
theorem b_need_point {f : Addr} {fd : FuncData} (F : FunD K "need_point" "need_point" (defArgs s_need_point) (defBody s_need_point) (defScope s_need_point) [] [] f fd) : Binds K fd ["web", "name"] [] := F.bindsN fun _ _ _ _ _ _ us hl => match us, hl with | [_, _], _ => rfl
theorem f_bases (T : Tp K mg) : ∃ fd, FunD K "bases" "bases" (defArgs s_bases) (defBody s_bases) (defScope s_bases) [] [] (He.ga K "bases") fd := T.c.def_ 26 (d := d_bases) rfl
theorem b_bases {f : Addr} {fd : FuncData} (F : FunD K "bases" "bases" (defArgs s_bases) (defBody s_bases) (defScope s_bases) [] [] f fd) : Binds K fd ["web"] [] := F.bindsN fun _ _ _ _ _ _ us hl => match us, hl with | [_], _ => rfl
theorem f_offset (T : Tp K mg) : ∃ fd, FunD K "offset" "offset" (defArgs s_offset) (defBody s_offset) (defScope s_offset) [] [] (He.ga K "offset") fd := T.c.def_ 27 (d := d_offset) rfl
theorem b_offset {f : Addr} {fd : FuncData} (F : FunD K "offset" "offset" (defArgs s_offset) (defBody s_offset) (defScope s_offset) [] [] f fd) : Binds K fd ["web", "name"] [] := F.bindsN fun _ _ _ _ _ _ us hl => match us, hl with | [_, _], _ => rfl
theorem f_bounds (T : Tp K mg) : ∃ fd, FunD K "bounds" "bounds" (defArgs s_bounds) (defBody s_bounds) (defScope s_bounds) [] [] (He.ga K "bounds") fd := T.c.def_ 28 (d := d_bounds) rfl
theorem b_bounds {f : Addr} {fd : FuncData} (F : FunD K "bounds" "bounds" (defArgs s_bounds) (defBody s_bounds) (defScope s_bounds) [] [] f fd) : Binds K fd ["web"] [] := F.bindsN fun _ _ _ _ _ _ us hl => match us, hl with | [_], _ => rfl
theorem f_tie_bounds (T : Tp K mg) : ∃ fd, FunD K "tie_bounds" "tie_bounds" (defArgs s_tie_bounds) (defBody s_tie_bounds) (defScope s_tie_bounds) [] [] (He.ga K "tie_bounds") fd := T.c.def_ 29 (d := d_tie_bounds) rfl
theorem b_tie_bounds {f : Addr} {fd : FuncData} (F : FunD K "tie_bounds" "tie_bounds" (defArgs s_tie_bounds) (defBody s_tie_bounds) (defScope s_tie_bounds) [] [] f fd) : Binds K fd ["web", "tie"] [] := F.bindsN fun _ _ _ _ _ _ us hl => match us, hl with | [_, _], _ => rfl
theorem f_heard_spans (T : Tp K mg) : ∃ fd, FunD K "heard_spans" "heard_spans" (defArgs s_heard_spans) (defBody s_heard_spans) (defScope s_heard_spans) [] [] (He.ga K "heard_spans") fd := T.c.def_ 30 (d := d_heard_spans) rfl
theorem b_heard_spans {f : Addr} {fd : FuncData} (F : FunD K "heard_spans" "heard_spans" (defArgs s_heard_spans) (defBody s_heard_spans) (defScope s_heard_spans) [] [] f fd) : Binds K fd ["web"] [] := F.bindsN fun _ _ _ _ _ _ us hl => match us, hl with | [_], _ => rfl
theorem f_heard_begins (T : Tp K mg) : ∃ fd, FunD K "heard_begins" "heard_begins" (defArgs s_heard_begins) (defBody s_heard_begins) (defScope s_heard_begins) [] [] (He.ga K "heard_begins") fd := T.c.def_ 31 (d := d_heard_begins) rfl
theorem b_heard_begins {f : Addr} {fd : FuncData} (F : FunD K "heard_begins" "heard_begins" (defArgs s_heard_begins) (defBody s_heard_begins) (defScope s_heard_begins) [] [] f fd) : Binds K fd ["web"] [] := F.bindsN fun _ _ _ _ _ _ us hl => match us, hl with | [_], _ => rfl
theorem f_late_waits (T : Tp K mg) : ∃ fd, FunD K "late_waits" "late_waits" (defArgs s_late_waits) (defBody s_late_waits) (defScope s_late_waits) [] [] (He.ga K "late_waits") fd := T.c.def_ 32 (d := d_late_waits) rfl
theorem b_late_waits {f : Addr} {fd : FuncData} (F : FunD K "late_waits" "late_waits" (defArgs s_late_waits) (defBody s_late_waits) (defScope s_late_waits) [] [] f fd) : Binds K fd ["web"] [] := F.bindsN fun _ _ _ _ _ _ us hl => match us, hl with | [_], _ => rfl
theorem f_sure (T : Tp K mg) : ∃ fd, FunD K "sure" "sure" (defArgs s_sure) (defBody s_sure) (defScope s_sure) [] [] (He.ga K "sure") fd := T.c.def_ 33 (d := d_sure) rfl
theorem b_sure {f : Addr} {fd : FuncData} (F : FunD K "sure" "sure" (defArgs s_sure) (defBody s_sure) (defScope s_sure) [] [] f fd) : Binds K fd ["heard", "one"] [] := F.bindsN fun _ _ _ _ _ _ us hl => match us, hl with | [_, _], _ => rfl
theorem f_soon (T : Tp K mg) : ∃ fd, FunD K "soon" "soon" (defArgs s_soon) (defBody s_soon) (defScope s_soon) [] [] (He.ga K "soon") fd := T.c.def_ 34 (d := d_soon) rfl
theorem b_soon {f : Addr} {fd : FuncData} (F : FunD K "soon" "soon" (defArgs s_soon) (defBody s_soon) (defScope s_soon) [] [] f fd) : Binds K fd ["heard", "one"] [] := F.bindsN fun _ _ _ _ _ _ us hl => match us, hl with | [_, _], _ => rfl
theorem f_ahead (T : Tp K mg) : ∃ fd, FunD K "ahead" "ahead" (defArgs s_ahead) (defBody s_ahead) (defScope s_ahead) [] [] (He.ga K "ahead") fd := T.c.def_ 35 (d := d_ahead) rfl
theorem b_ahead {f : Addr} {fd : FuncData} (F : FunD K "ahead" "ahead" (defArgs s_ahead) (defBody s_ahead) (defScope s_ahead) [] [] f fd) : Binds K fd ["heard", "one"] [] := F.bindsN fun _ _ _ _ _ _ us hl => match us, hl with | [_, _], _ => rfl
theorem f_Making_UinitU (T : Tp K mg) : ∃ fd, FunD K "__init__" "Making.__init__" (defArgs s_Making_UinitU) (defBody s_Making_UinitU) (defScope s_Making_UinitU) [] [] (He.ma K (He.ga K "Making") "__init__") fd := T.c.def_ 36 (d := d_Making_UinitU) rfl
theorem b_Making_UinitU {f : Addr} {fd : FuncData} (F : FunD K "__init__" "Making.__init__" (defArgs s_Making_UinitU) (defBody s_Making_UinitU) (defScope s_Making_UinitU) [] [] f fd) : Binds K fd ["self", "web", "facts"] [] := F.bindsN fun _ _ _ _ _ _ us hl => match us, hl with | [_, _, _], _ => rfl
theorem f_Making_offer (T : Tp K mg) : ∃ fd, FunD K "offer" "Making.offer" (defArgs s_Making_offer) (defBody s_Making_offer) (defScope s_Making_offer) [] [] (He.ma K (He.ga K "Making") "offer") fd := T.c.def_ 37 (d := d_Making_offer) rfl
theorem b_Making_offer {f : Addr} {fd : FuncData} (F : FunD K "offer" "Making.offer" (defArgs s_Making_offer) (defBody s_Making_offer) (defScope s_Making_offer) [] [] f fd) : Binds K fd ["self", "kind", "x", "y", "amount", "row"] [] := F.bindsN fun _ _ _ _ _ _ us hl => match us, hl with | [_, _, _, _, _, _], _ => rfl
theorem f_Making_tell (T : Tp K mg) : ∃ fd, FunD K "tell" "Making.tell" (defArgs s_Making_tell) (defBody s_Making_tell) (defScope s_Making_tell) [] [] (He.ma K (He.ga K "Making") "tell") fd := T.c.def_ 38 (d := d_Making_tell) rfl
theorem b_Making_tell {f : Addr} {fd : FuncData} (F : FunD K "tell" "Making.tell" (defArgs s_Making_tell) (defBody s_Making_tell) (defScope s_Making_tell) [] [] f fd) : Binds K fd ["self"] [] := F.bindsN fun _ _ _ _ _ _ us hl => match us, hl with | [_], _ => rfl
theorem f_Making_go_round (T : Tp K mg) : ∃ fd, FunD K "go_round" "Making.go_round" (defArgs s_Making_go_round) (defBody s_Making_go_round) (defScope s_Making_go_round) [] [] (He.ma K (He.ga K "Making") "go_round") fd := T.c.def_ 39 (d := d_Making_go_round) rfl
theorem b_Making_go_round {f : Addr} {fd : FuncData} (F : FunD K "go_round" "Making.go_round" (defArgs s_Making_go_round) (defBody s_Making_go_round) (defScope s_Making_go_round) [] [] f fd) : Binds K fd ["self"] [] := F.bindsN fun _ _ _ _ _ _ us hl => match us, hl with | [_], _ => rfl
theorem f_Making_go_along (T : Tp K mg) : ∃ fd, FunD K "go_along" "Making.go_along" (defArgs s_Making_go_along) (defBody s_Making_go_along) (defScope s_Making_go_along) [] [] (He.ma K (He.ga K "Making") "go_along") fd := T.c.def_ 40 (d := d_Making_go_along) rfl
theorem b_Making_go_along {f : Addr} {fd : FuncData} (F : FunD K "go_along" "Making.go_along" (defArgs s_Making_go_along) (defBody s_Making_go_along) (defScope s_Making_go_along) [] [] f fd) : Binds K fd ["self", "x", "y"] [] := F.bindsN fun _ _ _ _ _ _ us hl => match us, hl with | [_, _, _], _ => rfl
theorem f_Making_go_wait (T : Tp K mg) : ∃ fd, FunD K "go_wait" "Making.go_wait" (defArgs s_Making_go_wait) (defBody s_Making_go_wait) (defScope s_Making_go_wait) [] [] (He.ma K (He.ga K "Making") "go_wait") fd := T.c.def_ 41 (d := d_Making_go_wait) rfl
theorem b_Making_go_wait {f : Addr} {fd : FuncData} (F : FunD K "go_wait" "Making.go_wait" (defArgs s_Making_go_wait) (defBody s_Making_go_wait) (defScope s_Making_go_wait) [] [] f fd) : Binds K fd ["self", "end", "y"] [] := F.bindsN fun _ _ _ _ _ _ us hl => match us, hl with | [_, _, _], _ => rfl
theorem f_Making_go_single (T : Tp K mg) : ∃ fd, FunD K "go_single" "Making.go_single" (defArgs s_Making_go_single) (defBody s_Making_go_single) (defScope s_Making_go_single) [] [] (He.ma K (He.ga K "Making") "go_single") fd := T.c.def_ 42 (d := d_Making_go_single) rfl
theorem b_Making_go_single {f : Addr} {fd : FuncData} (F : FunD K "go_single" "Making.go_single" (defArgs s_Making_go_single) (defBody s_Making_go_single) (defScope s_Making_go_single) [] [] f fd) : Binds K fd ["self", "word"] [] := F.bindsN fun _ _ _ _ _ _ us hl => match us, hl with | [_, _], _ => rfl
theorem f_Table_UinitU (T : Tp K mg) : ∃ fd, FunD K "__init__" "Table.__init__" (defArgs s_Table_UinitU) (defBody s_Table_UinitU) (defScope s_Table_UinitU) [] [] (He.ma K (He.ga K "Table") "__init__") fd := T.c.def_ 43 (d := d_Table_UinitU) rfl
theorem b_Table_UinitU {f : Addr} {fd : FuncData} (F : FunD K "__init__" "Table.__init__" (defArgs s_Table_UinitU) (defBody s_Table_UinitU) (defScope s_Table_UinitU) [] [] f fd) : Binds K fd ["self", "betweens", "untils"] [] := F.bindsN fun _ _ _ _ _ _ us hl => match us, hl with | [_, _, _], _ => rfl
theorem f_Table_until (T : Tp K mg) : ∃ fd, FunD K "until" "Table.until" (defArgs s_Table_until) (defBody s_Table_until) (defScope s_Table_until) [] [] (He.ma K (He.ga K "Table") "until") fd := T.c.def_ 44 (d := d_Table_until) rfl
theorem b_Table_until {f : Addr} {fd : FuncData} (F : FunD K "until" "Table.until" (defArgs s_Table_until) (defBody s_Table_until) (defScope s_Table_until) [] [] f fd) : Binds K fd ["self", "end", "x"] [] := F.bindsN fun _ _ _ _ _ _ us hl => match us, hl with | [_, _, _], _ => rfl
theorem f_Table_betweens (T : Tp K mg) : ∃ fd, FunD K "betweens" "Table.betweens" (defArgs s_Table_betweens) (defBody s_Table_betweens) (defScope s_Table_betweens) [] [] (He.ma K (He.ga K "Table") "betweens") fd := T.c.def_ 45 (d := d_Table_betweens) rfl
theorem b_Table_betweens {f : Addr} {fd : FuncData} (F : FunD K "betweens" "Table.betweens" (defArgs s_Table_betweens) (defBody s_Table_betweens) (defScope s_Table_betweens) [] [] f fd) : Binds K fd ["self"] [] := F.bindsN fun _ _ _ _ _ _ us hl => match us, hl with | [_], _ => rfl
theorem f_Table_untils (T : Tp K mg) : ∃ fd, FunD K "untils" "Table.untils" (defArgs s_Table_untils) (defBody s_Table_untils) (defScope s_Table_untils) [] [] (He.ma K (He.ga K "Table") "untils") fd := T.c.def_ 46 (d := d_Table_untils) rfl
theorem b_Table_untils {f : Addr} {fd : FuncData} (F : FunD K "untils" "Table.untils" (defArgs s_Table_untils) (defBody s_Table_untils) (defScope s_Table_untils) [] [] f fd) : Binds K fd ["self"] [] := F.bindsN fun _ _ _ _ _ _ us hl => match us, hl with | [_], _ => rfl
theorem f_Table_UeqU (T : Tp K mg) : ∃ fd, FunD K "__eq__" "Table.__eq__" (defArgs s_Table_UeqU) (defBody s_Table_UeqU) (defScope s_Table_UeqU) [] [] (He.ma K (He.ga K "Table") "__eq__") fd := T.c.def_ 47 (d := d_Table_UeqU) rfl
theorem b_Table_UeqU {f : Addr} {fd : FuncData} (F : FunD K "__eq__" "Table.__eq__" (defArgs s_Table_UeqU) (defBody s_Table_UeqU) (defScope s_Table_UeqU) [] [] f fd) : Binds K fd ["self", "other"] [] := F.bindsN fun _ _ _ _ _ _ us hl => match us, hl with | [_, _], _ => rfl
theorem f_Table_UlenU (T : Tp K mg) : ∃ fd, FunD K "__len__" "Table.__len__" (defArgs s_Table_UlenU) (defBody s_Table_UlenU) (defScope s_Table_UlenU) [] [] (He.ma K (He.ga K "Table") "__len__") fd := T.c.def_ 48 (d := d_Table_UlenU) rfl
theorem b_Table_UlenU {f : Addr} {fd : FuncData} (F : FunD K "__len__" "Table.__len__" (defArgs s_Table_UlenU) (defBody s_Table_UlenU) (defScope s_Table_UlenU) [] [] f fd) : Binds K fd ["self"] [] := F.bindsN fun _ _ _ _ _ _ us hl => match us, hl with | [_], _ => rfl
theorem f_Table_UreprU (T : Tp K mg) : ∃ fd, FunD K "__repr__" "Table.__repr__" (defArgs s_Table_UreprU) (defBody s_Table_UreprU) (defScope s_Table_UreprU) [] [] (He.ma K (He.ga K "Table") "__repr__") fd := T.c.def_ 49 (d := d_Table_UreprU) rfl
theorem b_Table_UreprU {f : Addr} {fd : FuncData} (F : FunD K "__repr__" "Table.__repr__" (defArgs s_Table_UreprU) (defBody s_Table_UreprU) (defScope s_Table_UreprU) [] [] f fd) : Binds K fd ["self"] [] := F.bindsN fun _ _ _ _ _ _ us hl => match us, hl with | [_], _ => rfl
theorem f_need_base (T : Tp K mg) : ∃ fd, FunD K "need_base" "need_base" (defArgs s_need_base) (defBody s_need_base) (defScope s_need_base) [] [] (He.ga K "need_base") fd := T.c.def_ 50 (d := d_need_base) rfl
theorem b_need_base {f : Addr} {fd : FuncData} (F : FunD K "need_base" "need_base" (defArgs s_need_base) (defBody s_need_base) (defScope s_need_base) [] [] f fd) : Binds K fd ["table", "name"] [] := F.bindsN fun _ _ _ _ _ _ us hl => match us, hl with | [_, _], _ => rfl
theorem f_settled (T : Tp K mg) : ∃ fd, FunD K "settled" "settled" (defArgs s_settled) (defBody s_settled) (defScope s_settled) [] [] (He.ga K "settled") fd := T.c.def_ 51 (d := d_settled) rfl
theorem b_settled {f : Addr} {fd : FuncData} (F : FunD K "settled" "settled" (defArgs s_settled) (defBody s_settled) (defScope s_settled) [] [] f fd) : Binds K fd ["web"] [] := F.bindsN fun _ _ _ _ _ _ us hl => match us, hl with | [_], _ => rfl
theorem f_steered (T : Tp K mg) : ∃ fd, FunD K "steered" "steered" (defArgs s_steered) (defBody s_steered) (defScope s_steered) [] [] (He.ga K "steered") fd := T.c.def_ 52 (d := d_steered) rfl
theorem b_steered {f : Addr} {fd : FuncData} (F : FunD K "steered" "steered" (defArgs s_steered) (defBody s_steered) (defScope s_steered) [] [] f fd) : Binds K fd ["web"] [] := F.bindsN fun _ _ _ _ _ _ us hl => match us, hl with | [_], _ => rfl
theorem f_make_all (T : Tp K mg) : ∃ fd, FunD K "make_all" "make_all" (defArgs s_make_all) (defBody s_make_all) (defScope s_make_all) [] [] (He.ga K "make_all") fd := T.c.def_ 53 (d := d_make_all) rfl
theorem b_make_all {f : Addr} {fd : FuncData} (F : FunD K "make_all" "make_all" (defArgs s_make_all) (defBody s_make_all) (defScope s_make_all) [] [] f fd) : Binds K fd ["making"] [] := F.bindsN fun _ _ _ _ _ _ us hl => match us, hl with | [_], _ => rfl
theorem f_table_of (T : Tp K mg) : ∃ fd, FunD K "table_of" "table_of" (defArgs s_table_of) (defBody s_table_of) (defScope s_table_of) [] [] (He.ga K "table_of") fd := T.c.def_ 54 (d := d_table_of) rfl
theorem b_table_of {f : Addr} {fd : FuncData} (F : FunD K "table_of" "table_of" (defArgs s_table_of) (defBody s_table_of) (defScope s_table_of) [] [] f fd) : Binds K fd ["making"] [] := F.bindsN fun _ _ _ _ _ _ us hl => match us, hl with | [_], _ => rfl
theorem f_paper_of (T : Tp K mg) : ∃ fd, FunD K "paper_of" "paper_of" (defArgs s_paper_of) (defBody s_paper_of) (defScope s_paper_of) [] [] (He.ga K "paper_of") fd := T.c.def_ 55 (d := d_paper_of) rfl
theorem b_paper_of {f : Addr} {fd : FuncData} (F : FunD K "paper_of" "paper_of" (defArgs s_paper_of) (defBody s_paper_of) (defScope s_paper_of) [] [] f fd) : Binds K fd ["rows", "fault"] [] := F.bindsN fun _ _ _ _ _ _ us hl => match us, hl with | [_, _], _ => rfl
theorem f_row_places (T : Tp K mg) : ∃ fd, FunD K "row_places" "row_places" (defArgs s_row_places) (defBody s_row_places) (defScope s_row_places) [] [] (He.ga K "row_places") fd := T.c.def_ 56 (d := d_row_places) rfl
theorem b_row_places {f : Addr} {fd : FuncData} (F : FunD K "row_places" "row_places" (defArgs s_row_places) (defBody s_row_places) (defScope s_row_places) [] [] f fd) : Binds K fd ["row"] [] := F.bindsN fun _ _ _ _ _ _ us hl => match us, hl with | [_], _ => rfl
theorem f_moved_row (T : Tp K mg) : ∃ fd, FunD K "moved_row" "moved_row" (defArgs s_moved_row) (defBody s_moved_row) (defScope s_moved_row) [] [] (He.ga K "moved_row") fd := T.c.def_ 57 (d := d_moved_row) rfl
theorem b_moved_row {f : Addr} {fd : FuncData} (F : FunD K "moved_row" "moved_row" (defArgs s_moved_row) (defBody s_moved_row) (defScope s_moved_row) [] [] f fd) : Binds K fd ["row", "moved"] [] := F.bindsN fun _ _ _ _ _ _ us hl => match us, hl with | [_, _], _ => rfl
theorem f_need_plan (T : Tp K mg) : ∃ fd, FunD K "need_plan" "need_plan" (defArgs s_need_plan) (defBody s_need_plan) (defScope s_need_plan) [] [] (He.ga K "need_plan") fd := T.c.def_ 58 (d := d_need_plan) rfl
theorem b_need_plan {f : Addr} {fd : FuncData} (F : FunD K "need_plan" "need_plan" (defArgs s_need_plan) (defBody s_need_plan) (defScope s_need_plan) [] [] f fd) : Binds K fd ["plan"] [] := F.bindsN fun _ _ _ _ _ _ us hl => match us, hl with | [_], _ => rfl
theorem f_is_made (T : Tp K mg) : ∃ fd, FunD K "is_made" "is_made" (defArgs s_is_made) (defBody s_is_made) (defScope s_is_made) [] [] (He.ga K "is_made") fd := T.c.def_ 59 (d := d_is_made) rfl
theorem b_is_made {f : Addr} {fd : FuncData} (F : FunD K "is_made" "is_made" (defArgs s_is_made) (defBody s_is_made) (defScope s_is_made) [] [] f fd) : Binds K fd ["plan", "depth"] [] := F.bindsN fun _ _ _ _ _ _ us hl => match us, hl with | [_, _], _ => rfl
theorem f_inner_plans (T : Tp K mg) : ∃ fd, FunD K "inner_plans" "inner_plans" (defArgs s_inner_plans) (defBody s_inner_plans) (defScope s_inner_plans) [] [] (He.ga K "inner_plans") fd := T.c.def_ 60 (d := d_inner_plans) rfl
theorem b_inner_plans {f : Addr} {fd : FuncData} (F : FunD K "inner_plans" "inner_plans" (defArgs s_inner_plans) (defBody s_inner_plans) (defScope s_inner_plans) [] [] f fd) : Binds K fd ["plan"] [] := F.bindsN fun _ _ _ _ _ _ us hl => match us, hl with | [_], _ => rfl
theorem f_part_count (T : Tp K mg) : ∃ fd, FunD K "part_count" "part_count" (defArgs s_part_count) (defBody s_part_count) (defScope s_part_count) [] [] (He.ga K "part_count") fd := T.c.def_ 61 (d := d_part_count) rfl
theorem b_part_count {f : Addr} {fd : FuncData} (F : FunD K "part_count" "part_count" (defArgs s_part_count) (defBody s_part_count) (defScope s_part_count) [] [] f fd) : Binds K fd ["plan"] [] := F.bindsN fun _ _ _ _ _ _ us hl => match us, hl with | [_], _ => rfl
theorem f_reading_count (T : Tp K mg) : ∃ fd, FunD K "reading_count" "reading_count" (defArgs s_reading_count) (defBody s_reading_count) (defScope s_reading_count) [] [] (He.ga K "reading_count") fd := T.c.def_ 62 (d := d_reading_count) rfl
theorem b_reading_count {f : Addr} {fd : FuncData} (F : FunD K "reading_count" "reading_count" (defArgs s_reading_count) (defBody s_reading_count) (defScope s_reading_count) [] [] f fd) : Binds K fd ["plan"] [] := F.bindsN fun _ _ _ _ _ _ us hl => match us, hl with | [_], _ => rfl
theorem f_readings (T : Tp K mg) : ∃ fd, FunD K "readings" "readings" (defArgs s_readings) (defBody s_readings) (defScope s_readings) [] [] (He.ga K "readings") fd := T.c.def_ 63 (d := d_readings) rfl
theorem b_readings {f : Addr} {fd : FuncData} (F : FunD K "readings" "readings" (defArgs s_readings) (defBody s_readings) (defScope s_readings) [] [] f fd) : Binds K fd ["plan"] [] := F.bindsN fun _ _ _ _ _ _ us hl => match us, hl with | [_], _ => rfl
theorem f_reading (T : Tp K mg) : ∃ fd, FunD K "reading" "reading" (defArgs s_reading) (defBody s_reading) (defScope s_reading) [] [] (He.ga K "reading") fd := T.c.def_ 64 (d := d_reading) rfl
theorem b_reading {f : Addr} {fd : FuncData} (F : FunD K "reading" "reading" (defArgs s_reading) (defBody s_reading) (defScope s_reading) [] [] f fd) : Binds K fd ["plan", "at"] [] := F.bindsN fun _ _ _ _ _ _ us hl => match us, hl with | [_, _], _ => rfl
theorem f_taken (T : Tp K mg) : ∃ fd, FunD K "taken" "taken" (defArgs s_taken) (defBody s_taken) (defScope s_taken) [] [] (He.ga K "taken") fd := T.c.def_ 65 (d := d_taken) rfl
theorem b_taken {f : Addr} {fd : FuncData} (F : FunD K "taken" "taken" (defArgs s_taken) (defBody s_taken) (defScope s_taken) [] [] f fd) : Binds K fd ["plans", "at"] [] := F.bindsN fun _ _ _ _ _ _ us hl => match us, hl with | [_, _], _ => rfl
theorem f_has_either (T : Tp K mg) : ∃ fd, FunD K "has_either" "has_either" (defArgs s_has_either) (defBody s_has_either) (defScope s_has_either) [] [] (He.ga K "has_either") fd := T.c.def_ 66 (d := d_has_either) rfl
theorem b_has_either {f : Addr} {fd : FuncData} (F : FunD K "has_either" "has_either" (defArgs s_has_either) (defBody s_has_either) (defScope s_has_either) [] [] f fd) : Binds K fd ["plan"] [] := F.bindsN fun _ _ _ _ _ _ us hl => match us, hl with | [_], _ => rfl
theorem f_laid (T : Tp K mg) : ∃ fd, FunD K "laid" "laid" (defArgs s_laid) (defBody s_laid) (defScope s_laid) [] [("by", V.int 100)] (He.ga K "laid") fd := T.c.def_ 67 (d := d_laid) rfl
theorem f_lay (T : Tp K mg) : ∃ fd, FunD K "lay" "lay" (defArgs s_lay) (defBody s_lay) (defScope s_lay) [] [] (He.ga K "lay") fd := T.c.def_ 68 (d := d_lay) rfl
theorem b_lay {f : Addr} {fd : FuncData} (F : FunD K "lay" "lay" (defArgs s_lay) (defBody s_lay) (defScope s_lay) [] [] f fd) : Binds K fd ["web", "plan", "begin"] [] := F.bindsN fun _ _ _ _ _ _ us hl => match us, hl with | [_, _, _], _ => rfl
theorem f_lay_then (T : Tp K mg) : ∃ fd, FunD K "lay_then" "lay_then" (defArgs s_lay_then) (defBody s_lay_then) (defScope s_lay_then) [] [] (He.ga K "lay_then") fd := T.c.def_ 69 (d := d_lay_then) rfl
theorem b_lay_then {f : Addr} {fd : FuncData} (F : FunD K "lay_then" "lay_then" (defArgs s_lay_then) (defBody s_lay_then) (defScope s_lay_then) [] [] f fd) : Binds K fd ["web", "plans", "begin"] [] := F.bindsN fun _ _ _ _ _ _ us hl => match us, hl with | [_, _, _], _ => rfl
theorem f_lay_beside (T : Tp K mg) : ∃ fd, FunD K "lay_beside" "lay_beside" (defArgs s_lay_beside) (defBody s_lay_beside) (defScope s_lay_beside) [] [] (He.ga K "lay_beside") fd := T.c.def_ 70 (d := d_lay_beside) rfl
theorem b_lay_beside {f : Addr} {fd : FuncData} (F : FunD K "lay_beside" "lay_beside" (defArgs s_lay_beside) (defBody s_lay_beside) (defScope s_lay_beside) [] [] f fd) : Binds K fd ["web", "plans", "begin"] [] := F.bindsN fun _ _ _ _ _ _ us hl => match us, hl with | [_, _, _], _ => rfl
theorem f_gather (T : Tp K mg) : ∃ fd, FunD K "gather" "gather" (defArgs s_gather) (defBody s_gather) (defScope s_gather) [] [] (He.ga K "gather") fd := T.c.def_ 71 (d := d_gather) rfl
theorem b_gather {f : Addr} {fd : FuncData} (F : FunD K "gather" "gather" (defArgs s_gather) (defBody s_gather) (defScope s_gather) [] [] f fd) : Binds K fd ["web", "points"] [] := F.bindsN fun _ _ _ _ _ _ us hl => match us, hl with | [_, _], _ => rfl
theorem f_fresh_name (T : Tp K mg) : ∃ fd, FunD K "fresh_name" "fresh_name" (defArgs s_fresh_name) (defBody s_fresh_name) (defScope s_fresh_name) [] [] (He.ga K "fresh_name") fd := T.c.def_ 72 (d := d_fresh_name) rfl
theorem b_fresh_name {f : Addr} {fd : FuncData} (F : FunD K "fresh_name" "fresh_name" (defArgs s_fresh_name) (defBody s_fresh_name) (defScope s_fresh_name) [] [] f fd) : Binds K fd ["web"] [] := F.bindsN fun _ _ _ _ _ _ us hl => match us, hl with | [_], _ => rfl
theorem f_chosen (T : Tp K mg) : ∃ fd, FunD K "chosen" "chosen" (defArgs s_chosen) (defBody s_chosen) (defScope s_chosen) [] [("by", V.int 100)] (He.ga K "chosen") fd := T.c.def_ 73 (d := d_chosen) rfl
theorem f__law_flow (T : Tp K mg) : ∃ fd, FunD K "_law_flow" "_law_flow" (defArgs s__law_flow) (defBody s__law_flow) (defScope s__law_flow) [] [] (He.ga K "_law_flow") fd := T.c.def_ 74 (d := d__law_flow) rfl
theorem b__law_flow {f : Addr} {fd : FuncData} (F : FunD K "_law_flow" "_law_flow" (defArgs s__law_flow) (defBody s__law_flow) (defScope s__law_flow) [] [] f fd) : Binds K fd ["_law_script"] [] := F.bindsN fun _ _ _ _ _ _ us hl => match us, hl with | [_], _ => rfl
theorem f__law_draw (T : Tp K mg) : ∃ fd, FunD K "_law_draw" "_law_draw" (defArgs s__law_draw) (defBody s__law_draw) (defScope s__law_draw) [] [] (He.ga K "_law_draw") fd := T.c.def_ 75 (d := d__law_draw) rfl
theorem b__law_draw {f : Addr} {fd : FuncData} (F : FunD K "_law_draw" "_law_draw" (defArgs s__law_draw) (defBody s__law_draw) (defScope s__law_draw) [] [] f fd) : Binds K fd ["_law_flow_here", "_law_size"] [] := F.bindsN fun _ _ _ _ _ _ us hl => match us, hl with | [_, _], _ => rfl
theorem f__law_pick (T : Tp K mg) : ∃ fd, FunD K "_law_pick" "_law_pick" (defArgs s__law_pick) (defBody s__law_pick) (defScope s__law_pick) [] [] (He.ga K "_law_pick") fd := T.c.def_ 76 (d := d__law_pick) rfl
theorem b__law_pick {f : Addr} {fd : FuncData} (F : FunD K "_law_pick" "_law_pick" (defArgs s__law_pick) (defBody s__law_pick) (defScope s__law_pick) [] [] f fd) : Binds K fd ["_law_flow_here", "_law_row"] [] := F.bindsN fun _ _ _ _ _ _ us hl => match us, hl with | [_, _], _ => rfl
theorem f__law_same (T : Tp K mg) : ∃ fd, FunD K "_law_same" "_law_same" (defArgs s__law_same) (defBody s__law_same) (defScope s__law_same) [] [] (He.ga K "_law_same") fd := T.c.def_ 77 (d := d__law_same) rfl
theorem b__law_same {f : Addr} {fd : FuncData} (F : FunD K "_law_same" "_law_same" (defArgs s__law_same) (defBody s__law_same) (defScope s__law_same) [] [] f fd) : Binds K fd ["_law_found", "_law_due"] [] := F.bindsN fun _ _ _ _ _ _ us hl => match us, hl with | [_, _], _ => rfl
theorem f__law_strange (T : Tp K mg) : ∃ fd, FunD K "_law_strange" "_law_strange" (defArgs s__law_strange) (defBody s__law_strange) (defScope s__law_strange) [] [] (He.ga K "_law_strange") fd := T.c.def_ 78 (d := d__law_strange) rfl
theorem b__law_strange {f : Addr} {fd : FuncData} (F : FunD K "_law_strange" "_law_strange" (defArgs s__law_strange) (defBody s__law_strange) (defScope s__law_strange) [] [] f fd) : Binds K fd ["_law_flow_here", "_law_low", "_law_high"] [] := F.bindsN fun _ _ _ _ _ _ us hl => match us, hl with | [_, _, _], _ => rfl
theorem f__law_whole (T : Tp K mg) : ∃ fd, FunD K "_law_whole" "_law_whole" (defArgs s__law_whole) (defBody s__law_whole) (defScope s__law_whole) [] [] (He.ga K "_law_whole") fd := T.c.def_ 79 (d := d__law_whole) rfl
theorem b__law_whole {f : Addr} {fd : FuncData} (F : FunD K "_law_whole" "_law_whole" (defArgs s__law_whole) (defBody s__law_whole) (defScope s__law_whole) [] [] f fd) : Binds K fd ["_law_thing", "_law_low", "_law_high"] [] := F.bindsN fun _ _ _ _ _ _ us hl => match us, hl with | [_, _, _], _ => rfl
theorem f__law_field (T : Tp K mg) : ∃ fd, FunD K "_law_field" "_law_field" (defArgs s__law_field) (defBody s__law_field) (defScope s__law_field) [] [] (He.ga K "_law_field") fd := T.c.def_ 80 (d := d__law_field) rfl
theorem b__law_field {f : Addr} {fd : FuncData} (F : FunD K "_law_field" "_law_field" (defArgs s__law_field) (defBody s__law_field) (defScope s__law_field) [] [] f fd) : Binds K fd ["_law_ask"] [] := F.bindsN fun _ _ _ _ _ _ us hl => match us, hl with | [_], _ => rfl
theorem f__law_leaf (T : Tp K mg) : ∃ fd, FunD K "_law_leaf" "_law_leaf" (defArgs s__law_leaf) (defBody s__law_leaf) (defScope s__law_leaf) [] [] (He.ga K "_law_leaf") fd := T.c.def_ 81 (d := d__law_leaf) rfl
theorem b__law_leaf {f : Addr} {fd : FuncData} (F : FunD K "_law_leaf" "_law_leaf" (defArgs s__law_leaf) (defBody s__law_leaf) (defScope s__law_leaf) [] [] f fd) : Binds K fd ["_law_flow_here", "_law_far"] [] := F.bindsN fun _ _ _ _ _ _ us hl => match us, hl with | [_, _], _ => rfl
theorem f__law_plan (T : Tp K mg) : ∃ fd, FunD K "_law_plan" "_law_plan" (defArgs s__law_plan) (defBody s__law_plan) (defScope s__law_plan) [] [] (He.ga K "_law_plan") fd := T.c.def_ 82 (d := d__law_plan) rfl
theorem b__law_plan {f : Addr} {fd : FuncData} (F : FunD K "_law_plan" "_law_plan" (defArgs s__law_plan) (defBody s__law_plan) (defScope s__law_plan) [] [] f fd) : Binds K fd ["_law_flow_here", "_law_bottom", "_law_words", "_law_far"] [] := F.bindsN fun _ _ _ _ _ _ us hl => match us, hl with | [_, _, _, _], _ => rfl
theorem f__law_kids (T : Tp K mg) : ∃ fd, FunD K "_law_kids" "_law_kids" (defArgs s__law_kids) (defBody s__law_kids) (defScope s__law_kids) [] [] (He.ga K "_law_kids") fd := T.c.def_ 83 (d := d__law_kids) rfl
theorem b__law_kids {f : Addr} {fd : FuncData} (F : FunD K "_law_kids" "_law_kids" (defArgs s__law_kids) (defBody s__law_kids) (defScope s__law_kids) [] [] f fd) : Binds K fd ["_law_plan_here"] [] := F.bindsN fun _ _ _ _ _ _ us hl => match us, hl with | [_], _ => rfl
theorem f__law_leaf_count (T : Tp K mg) : ∃ fd, FunD K "_law_leaf_count" "_law_leaf_count" (defArgs s__law_leaf_count) (defBody s__law_leaf_count) (defScope s__law_leaf_count) [] [] (He.ga K "_law_leaf_count") fd := T.c.def_ 84 (d := d__law_leaf_count) rfl
theorem b__law_leaf_count {f : Addr} {fd : FuncData} (F : FunD K "_law_leaf_count" "_law_leaf_count" (defArgs s__law_leaf_count) (defBody s__law_leaf_count) (defScope s__law_leaf_count) [] [] f fd) : Binds K fd ["_law_plan_here"] [] := F.bindsN fun _ _ _ _ _ _ us hl => match us, hl with | [_], _ => rfl
theorem f__law_plan_depth (T : Tp K mg) : ∃ fd, FunD K "_law_plan_depth" "_law_plan_depth" (defArgs s__law_plan_depth) (defBody s__law_plan_depth) (defScope s__law_plan_depth) [] [] (He.ga K "_law_plan_depth") fd := T.c.def_ 85 (d := d__law_plan_depth) rfl
theorem b__law_plan_depth {f : Addr} {fd : FuncData} (F : FunD K "_law_plan_depth" "_law_plan_depth" (defArgs s__law_plan_depth) (defBody s__law_plan_depth) (defScope s__law_plan_depth) [] [] f fd) : Binds K fd ["_law_plan_here"] [] := F.bindsN fun _ _ _ _ _ _ us hl => match us, hl with | [_], _ => rfl
theorem f__law_reading_count (T : Tp K mg) : ∃ fd, FunD K "_law_reading_count" "_law_reading_count" (defArgs s__law_reading_count) (defBody s__law_reading_count) (defScope s__law_reading_count) [] [] (He.ga K "_law_reading_count") fd := T.c.def_ 86 (d := d__law_reading_count) rfl
theorem b__law_reading_count {f : Addr} {fd : FuncData} (F : FunD K "_law_reading_count" "_law_reading_count" (defArgs s__law_reading_count) (defBody s__law_reading_count) (defScope s__law_reading_count) [] [] f fd) : Binds K fd ["_law_plan_here"] [] := F.bindsN fun _ _ _ _ _ _ us hl => match us, hl with | [_], _ => rfl
theorem f__law_good_leaf (T : Tp K mg) : ∃ fd, FunD K "_law_good_leaf" "_law_good_leaf" (defArgs s__law_good_leaf) (defBody s__law_good_leaf) (defScope s__law_good_leaf) [] [] (He.ga K "_law_good_leaf") fd := T.c.def_ 87 (d := d__law_good_leaf) rfl
theorem b__law_good_leaf {f : Addr} {fd : FuncData} (F : FunD K "_law_good_leaf" "_law_good_leaf" (defArgs s__law_good_leaf) (defBody s__law_good_leaf) (defScope s__law_good_leaf) [] [] f fd) : Binds K fd ["_law_plan_here"] [] := F.bindsN fun _ _ _ _ _ _ us hl => match us, hl with | [_], _ => rfl
theorem f__law_good_form (T : Tp K mg) : ∃ fd, FunD K "_law_good_form" "_law_good_form" (defArgs s__law_good_form) (defBody s__law_good_form) (defScope s__law_good_form) [] [] (He.ga K "_law_good_form") fd := T.c.def_ 88 (d := d__law_good_form) rfl
theorem b__law_good_form {f : Addr} {fd : FuncData} (F : FunD K "_law_good_form" "_law_good_form" (defArgs s__law_good_form) (defBody s__law_good_form) (defScope s__law_good_form) [] [] f fd) : Binds K fd ["_law_plan_here"] [] := F.bindsN fun _ _ _ _ _ _ us hl => match us, hl with | [_], _ => rfl
theorem f__law_good_plan (T : Tp K mg) : ∃ fd, FunD K "_law_good_plan" "_law_good_plan" (defArgs s__law_good_plan) (defBody s__law_good_plan) (defScope s__law_good_plan) [] [] (He.ga K "_law_good_plan") fd := T.c.def_ 89 (d := d__law_good_plan) rfl
theorem b__law_good_plan {f : Addr} {fd : FuncData} (F : FunD K "_law_good_plan" "_law_good_plan" (defArgs s__law_good_plan) (defBody s__law_good_plan) (defScope s__law_good_plan) [] [] f fd) : Binds K fd ["_law_plan_here"] [] := F.bindsN fun _ _ _ _ _ _ us hl => match us, hl with | [_], _ => rfl
theorem f__law_bent_plan (T : Tp K mg) : ∃ fd, FunD K "_law_bent_plan" "_law_bent_plan" (defArgs s__law_bent_plan) (defBody s__law_bent_plan) (defScope s__law_bent_plan) [] [] (He.ga K "_law_bent_plan") fd := T.c.def_ 90 (d := d__law_bent_plan) rfl
theorem b__law_bent_plan {f : Addr} {fd : FuncData} (F : FunD K "_law_bent_plan" "_law_bent_plan" (defArgs s__law_bent_plan) (defBody s__law_bent_plan) (defScope s__law_bent_plan) [] [] f fd) : Binds K fd ["_law_flow_here", "_law_plan_here"] [] := F.bindsN fun _ _ _ _ _ _ us hl => match us, hl with | [_, _], _ => rfl
theorem f__law_edge_plan (T : Tp K mg) : ∃ fd, FunD K "_law_edge_plan" "_law_edge_plan" (defArgs s__law_edge_plan) (defBody s__law_edge_plan) (defScope s__law_edge_plan) [] [] (He.ga K "_law_edge_plan") fd := T.c.def_ 91 (d := d__law_edge_plan) rfl
theorem b__law_edge_plan {f : Addr} {fd : FuncData} (F : FunD K "_law_edge_plan" "_law_edge_plan" (defArgs s__law_edge_plan) (defBody s__law_edge_plan) (defScope s__law_edge_plan) [] [] f fd) : Binds K fd ["_law_flow_here"] [] := F.bindsN fun _ _ _ _ _ _ us hl => match us, hl with | [_], _ => rfl
theorem f_law (T : Tp K mg) : ∃ fd, FunD K "law" "law" (defArgs s_law) (defBody s_law) (defScope s_law) [] [] (He.ga K "law") fd := T.c.def_ 92 (d := d_law) rfl
theorem b_law {f : Addr} {fd : FuncData} (F : FunD K "law" "law" (defArgs s_law) (defBody s_law) (defScope s_law) [] [] f fd) : Binds K fd ["_law_script"] [] := F.bindsN fun _ _ _ _ _ _ us hl => match us, hl with | [_], _ => rfl
end
/-! the head -/
def loose0 : List PySem.Str := ["_wall", "__name__", "LETTERS", "LONGEST_NAME", "is_number", "is_whole", "is_one_of", "is_name", "TideError", "BadBy", "BadName", "Taken", "Full", "BadLength", "BadLate", "BadTie", "Used", "BadPaper", "BadKeeper", "BadPlan", "BadText", "BadDeed", "Unsteered", "Missing", "NoMoment", "NoPoint", "NoSpan", "NoTie", "NoDeed", "RunFault"]
def loose1 : List PySem.Str := ["Done", "TooEarly", "TooLate", "Unbegun", "Unheard", "BadNews", "Over", "NothingBack", "BY", "START", "MOST_BY", "MOST_MOMENTS", "MOST_SPANS", "MOST_TIES", "MOST_LENGTH", "MOST_LATE", "MOST_BOUND", "Web", "woven", "is_begin", "are_lengths", "is_lateness", "is_used", "are_bounds", "need_free_name", "need_point", "bases", "offset", "bounds", "tie_bounds"]
def loose2 : List PySem.Str := ["heard_spans", "MOST", "UNTIL", "heard_begins", "late_waits", "sure", "soon", "ahead", "SINGLE_RULES", "Making", "Table", "need_base", "settled", "steered", "make_all", "table_of", "paper_of", "row_places", "moved_row", "MOST_TICKS", "MOST_PLANS", "MOST_DEPTH", "MOST_PARTS", "MOST_READINGS", "need_plan", "is_made", "inner_plans", "part_count", "reading_count", "readings"]
def loose3 : List PySem.Str := ["reading", "taken", "has_either", "laid", "lay", "lay_then", "lay_beside", "gather", "fresh_name", "chosen", "_law_flow", "_law_draw", "_law_pick", "_law_same", "_law_strange", "_law_whole", "_law_field", "_law_leaf", "_law_plan", "_law_kids", "_law_leaf_count", "_law_plan_depth", "_law_reading_count", "_law_good_leaf", "_law_good_form", "_law_good_plan", "_law_bent_plan", "_law_edge_plan"]
def loose : List PySem.Str := loose0 ++ loose1 ++ loose2 ++ loose3
abbrev R : PySem.W.OpenRow := PySem.W.OpenLaw.row PySem.Challenge.rw_tidewaiter_k49_plans_judged
def tf : List He.Defn := [("law", none)]
def wand0 : List PySem.Str := ["is_number", "is_whole", "is_one_of", "is_name", "woven", "is_begin", "are_lengths", "is_lateness", "is_used", "are_bounds", "need_free_name", "need_point", "bases", "offset", "bounds", "tie_bounds", "heard_spans", "heard_begins", "late_waits", "sure", "soon", "ahead", "need_base", "settled", "steered", "make_all", "table_of", "paper_of"]
def wand1 : List PySem.Str := ["row_places", "moved_row", "need_plan", "is_made", "inner_plans", "part_count", "reading_count", "readings", "reading", "taken", "has_either", "laid", "lay", "lay_then", "lay_beside", "gather", "fresh_name", "chosen", "_law_flow", "_law_draw", "_law_pick", "_law_same", "_law_strange", "_law_whole", "_law_field", "_law_leaf", "_law_plan", "_law_kids"]
def wand2 : List PySem.Str := ["_law_leaf_count", "_law_plan_depth", "_law_reading_count", "_law_good_leaf", "_law_good_form", "_law_good_plan", "_law_bent_plan", "_law_edge_plan", "law"]
def want3 : List PySem.Str := ["Web", "Making", "Table", "TideError", "BadPlan"]
def want : Want := (want3, wand0 ++ wand1 ++ wand2, ["BadBy", "BadDeed", "BadName", "Taken", "Used", "Full", "BadLength", "BadLate", "BadTie", "NoMoment", "NoPoint", "NoSpan", "NoTie", "NoDeed", "Done", "Unbegun", "Unheard", "TooEarly", "TooLate", "BadNews", "BadKeeper", "Over", "BadPaper", "BadText", "Unsteered", "NothingBack"])
abbrev hk : PySem.W.Hook := hookZ 3 want fa fn tf ex
def ob (s : PySem.W.SharedT) : AlY := obsZ 3 want fa fn tf ex (HandSHeadRun.getT s)
theorem ob_eq (s : PySem.W.SharedT) : ob s = hk.obs s.abs := obsZ_eq (HandSHeadRun.getT_eq s)
abbrev lawAt : Nat := 127
end Tw

set_option maxHeartbeats 0
namespace Tw
open PySem PySem.Spec PyProof.Rows L2
/-! a top that fills a dict asks the world one question: both answers, each in two parts -/
abbrev Rn (w : World) : Prop := HandSHeadRun.RunEq R (PySem.W.view R.prog [lawAt]) hk ob 30000 loose w
abbrev wB (w : World) (b : Bool) : World := w.withFollow "special-get-raises" b
noncomputable abbrev en (w : World) (os : OsState) : Option PySem.W.SharedT := HandSHeadRun.endF (HandSHeadRun.stepQ (HandSHeadRun.denQ HandSHeadRun.tabQ) R.prog w) 30000 R.prog w os
abbrev L1 (w : World) (os : OsState) : Prop := (en w os).map (fun s => (HandSHeadRun.looksF R.prog (PySem.W.boot_heap w.params) s.abs, HandSHeadRun.seenQ (PySem.W.view R.prog [lawAt]) loose (importedModules R.prog.main.body) (fun s => PySem.W.xlAt (PySem.W.view R.prog [lawAt]) [] s && PySem.W.recOk R.records s) s.abs)) = some (true, PySem.W.openGood (PySem.W.view R.prog [lawAt]) loose)
abbrev L2' (w : World) (os : OsState) : Prop := (en w os).map ob = some (hk.val w)
theorem no1 (w : World) (os : OsState) : L1 (wB w false) os := by kernel_rfl
theorem no2 (w : World) (os : OsState) : L2' (wB w false) os := by kernel_rfl
theorem yes1 (w : World) (os : OsState) : L1 (wB w true) os := by kernel_rfl
theorem yes2 (w : World) (os : OsState) : L2' (wB w true) os := by kernel_rfl
theorem run (w : World) : Rn w := PySem.W.byRow2 "special-get-raises" (P := Rn) (fun w os => three_of (no1 w os) (no2 w os)) (fun w os => three_of (yes1 w os) (yes2 w os)) w
end Tw

set_option maxHeartbeats 4000000
/-! comprehensions whose block changes nothing -/
namespace Tw
open PySem PySem.Spec PyProof.Rows L2
section
variable {α β : Type} {J : It} {G : Hp → Prop} {Y : Nat → Hp → V → Hp → Prop} {g : TG} {tt : TT} {te : TE} {vs : List Nat} {σ : L2.St} {H0 : Hp} {D : Addr} {Qd : Hp → Prop}
/-- [elt for target in source if test]: as the source's items as data, f the item's own (none: left out), S what a told item is -/
theorem lc_pure (as : List α) (w : Walk J as.length G Y) (f : α → Option β) (S : Hp → V → β → Prop) (Sk : ∀ {H H' v b}, Kt H H' → S H v b → S H' v b) (nD : H0 D = none) (hn : as.length ≤ 1000) (hG : ∀ H, Same H0 H → G H)
    (hs : ∀ i a x H H', as[i]? = some a → Same H0 H → Y i H x H' → ∀ (Good : V → Hp → Prop) (Bad : Hp → Prop), (∀ y c H4, f a = some c → Same H H4 → S H4 y c → Good y H4) → (f a = none → ∀ H3, Same H H3 → Bad H3) →
      g x (wipe σ vs) H' fun σ2 H2 => wipe σ2 vs = wipe σ vs ∧ tt σ2 H2 fun b H3 => if b = true then te σ2 H3 Good else Bad H3)
    (hd : ∀ H acc, Same H0 H → H D = some (.lst acc) → Paired (S H) acc (as.filterMap f) → Qd H) :
    ∃ W : Nat → Nat → Hp → Prop, (∃ m, W 0 m (upd H0 D (.lst []))) ∧ ∀ i m H, W i m H →
      (J.stop i H ∧ Qd H) ∨ (J.go i H ∧ ∃ Nx : Hp → Prop, (∀ H', Nx H' → ∃ m', m' < m ∧ W (i + 1) m' H') ∧ ∀ x H', J.yld i H x H' → g x (wipe σ vs) H' fun σ2 H2 => wipe σ2 vs = wipe σ vs ∧ tt σ2 H2 fun b H3 =>
        if b = true then te σ2 H3 fun y H4 => ∃ acc, H4 D = some (.lst acc) ∧ acc.length < sizeLine ∧ Nx (upd H4 D (.lst (acc ++ [y]))) else Nx H3) := by
  refine lc_it w (fun i H => Same H0 H ∧ ∃ acc, H D = some (.lst acc) ∧ Paired (S H) acc ((as.take i).filterMap f)) ⟨same_upd nD, [], upd_same, .nil⟩ (fun _ H _ h => hG H h.1) ?_ ?_
  · rintro i x H H' hi ⟨s1, acc, d1, p1⟩ y
    obtain ⟨a, ea⟩ : ∃ a, as[i]? = some a := ⟨as[i], by simp [hi]⟩
    have e2 : (as.take (i + 1)).filterMap f = (as.take i).filterMap f ++ (f a).toList := by
      rw [List.take_add_one, ea, List.filterMap_append]
      cases h : f a <;> simp [List.filterMap, h]
    refine hs i a x H H' ea s1 y _ _ (fun z c H4 ec s4 hz => ⟨acc, s4 _ _ d1, ?_, ?_, acc ++ [z], upd_same, ?_⟩) (fun en H3 s3 => ⟨s1.trans s3, acc, s3 _ _ d1, ?_⟩)
    · have hl := Paired.length p1
      have h2 : ((as.take i).filterMap f).length ≤ as.length := Nat.le_trans (List.length_filterMap_le _ _) (by rw [List.length_take]; omega)
      exact small1000 (by omega)
    · intro b o e
      rw [upd_ne (ne_of_none e nD)]
      exact s4 _ _ (s1 b o e)
    · rw [e2, ec]
      have kk : Kt H4 (upd H4 D (.lst (acc ++ [z]))) := Kt.upd fun xs e => by
        rw [s4 _ _ d1] at e
        cases e
      exact Paired.snoc (Paired.mono (fun v b h => Sk kk (Sk (Kt.of s4) h)) p1) (Sk kk hz)
    · rw [e2, en]
      show Paired _ _ (_ ++ [])
      rw [List.append_nil]
      exact Paired.mono (fun v b h => Sk (Kt.of s3) h) p1
  · rintro H ⟨s1, acc, d1, p1⟩
    rw [List.take_of_length_le (Nat.le_refl _)] at p1
    exact hd H acc s1 d1 p1
end
theorem walk_listN {K : PySem.W.Frag} {a : Addr} {xs : List V} {n : Nat} (h : xs.length = n) : Walk (Itl K a) n (fun H => SqL K H a xs) (YAt xs) := h ▸ walk_list
theorem walk_tupN {K : PySem.W.Frag} {a : Addr} {xs : List V} {n : Nat} (h : xs.length = n) : Walk (Itt K a) n (fun H => SqT K H a xs) (YAt xs) := h ▸ walk_tup
theorem sl_tupK {X : Cx} {K : PySem.W.Frag} (h : X.K = K) : SlR X (rSlT K) := h ▸ sl_tup
theorem sl_listK {X : Cx} {K : PySem.W.Frag} (h : X.K = K) : SlR X (rSlL K) := h ▸ sl_list
theorem flat_bls (l : List Bool) : (l.map V.bl).all flatV = true := by
  rw [List.all_map]
  exact List.all_eq_true.mpr fun _ _ => rfl
/-- a told item that is plain -/
def SV {β : Type} (enc : β → V) : Hp → V → β → Prop := fun _ v b => v = enc b
theorem paired_enc {β : Type} {enc : β → V} {H : Hp} : ∀ {acc : List V} {bs : List β}, Paired (SV enc H) acc bs → acc = bs.map enc
  | _, _, .nil => rfl
  | _, _, .cons h t => by
    rw [List.map_cons, ← paired_enc t, ← show _ = _ from h]
/-- a told item that is a tuple -/
def SR {β : Type} (row : β → List V) : Hp → V → β → Prop := fun H v b => ∃ t, v = .ref t ∧ H t = some (.tup (row b))
theorem sr_k {β : Type} {row : β → List V} {H H' : Hp} {v : V} {b : β} (k : Kt H H') (h : SR row H v b) : SR row H' v b := by
  obtain ⟨t, e, ht⟩ := h
  exact ⟨t, e, k _ _ ht⟩
theorem paired_rows {β : Type} {row : β → List V} {H : Hp} : ∀ {acc : List V} {bs : List β}, Paired (SR row H) acc bs → Rows H acc (bs.map row)
  | _, _, .nil => .nil
  | _, _, .cons h t => .cons h (paired_rows t)
theorem rows_at {β : Type} {row : β → List V} {H : Hp} {xs : List V} {bs : List β} {i : Nat} {x : V} {b : β} (h : Rows H xs (bs.map row)) (e : xs[i]? = some x) (eb : bs[i]? = some b) : ∃ t, x = .ref t ∧ H t = some (.tup (row b)) := by
  obtain ⟨t, r, h1, h2, h3⟩ := h.at e
  rw [List.getElem?_map, eb] at h2
  cases h2
  exact ⟨t, h1, h3⟩
end Tw

set_option maxHeartbeats 4000000
/-! own exceptions in the air: none, one or two fields beside the word -/
namespace Tw
open PySem PySem.Spec PyProof.Rows L2
section
variable {P : Program} {w : World} {K : PySem.W.Frag} {mg : Str → Option Value} {base : Heap} {k : Nat} {f C : Addr} {fd : FuncData} {ps : List Str} {sp : Sp} {x m : Str}
/-- where nothing may be raised, the raising promise is a plain one -/
theorem fn_calm (F : FnOk P w K mg base (L2.CX P w) k f fd ps sp) : FnOk P w K mg base CX0 k f fd ps (fun vs H Q _ => sp vs H Q E0) :=
  ⟨fun vs H Q E h => F.len vs H Q E0 h, fun A outer s H args us vs Q E hr e0 hb r h => codeAny_mono (F.run A outer s H args us vs Q E0 hr e0 hb r h) fun r s' hq => by
    cases r with
    | error e =>
      obtain ⟨_, _, _, _, _, _, _, _, _, _, _, _, hE⟩ := hq
      exact False.elim hE
    | ok fl =>
      cases fl with
      | ret u => exact hq
      | next => exact False.elim hq
      | brk => exact False.elim hq
      | cont => exact False.elim hq⟩
theorem MetX.calm (c : MetX P w K mg base k C m sp) : Met P w K mg base k C m (fun vs H Q _ => sp vs H Q E0) :=
  let ⟨f, fd, ps, cls, me, F, b⟩ := c.ex
  ⟨f, fd, ps, [], cls, me, fn_calm F, b, .nil⟩
theorem CalX.calm (c : CalX P w K mg base k x sp) : Cal P w K mg base k x (fun vs H Q _ => sp vs H Q E0) :=
  let ⟨f, fd, ps, F, here, kept, b⟩ := c.ex
  ⟨f, fd, ps, [], fn_calm F, here, kept, b, .nil⟩
end
def OutF (H : Hp) (E : XK) (C : Addr) (fs : List (Str × V)) : Prop := ∀ (d : Addr) (H' : Hp), Same H H' → H d = none → H' d = some (.xd fs) → E (.ref C) (some d) H'
theorem OutF.same {H H1 : Hp} {E : XK} {C : Addr} {fs : List (Str × V)} (o : OutF H E C fs) (s : Same H H1) : OutF H1 E C fs := fun d H' s' n e => o d H' (s.trans s') (s.free n) e
abbrev Out0 (H : Hp) (E : XK) (C : Addr) (w : Str) : Prop := OutF H E C [(("word" : Str), .str w)]
abbrev Out (H : Hp) (E : XK) (C : Addr) (w f : Str) (v : V) : Prop := OutF H E C [(f, v), (("word" : Str), .str w)]
abbrev Out2 (H : Hp) (E : XK) (C : Addr) (w f g : Str) (v u : V) : Prop := OutF H E C [(g, u), (f, v), (("word" : Str), .str w)]
theorem Out.same {H H1 : Hp} {E : XK} {C : Addr} {w f : Str} {v : V} (o : Out H E C w f v) (s : Same H H1) : Out H1 E C w f v := OutF.same o s
def sp_miss (b : Bs) (K : PySem.W.Frag) : Sp := fun vs H Q _ => ∃ (a C : Addr) (u y : Str), vs = [.ref a, .str u, .str y] ∧ OxC b K C ∧ PySem.W.findIn K (.ref C) "word" = some none ∧ H a = some (exo a C none) ∧ u.length ≤ 100 ∧ y.length ≤ 100 ∧
  ∀ d, H d = none → d ≠ a → Q .non (upd (upd H d (exd d [(("word" : Str), .str u)])) a (exo a C (some d)))
/-- what an own exception's making leaves -/
def Made (H : Hp) (a C : Addr) (fs : List (Str × V)) (Q : VK) : Prop := ∀ (d : Addr) (H2 : Hp), H d = none → d ≠ a → (∀ b, b ≠ a → b ≠ d → H2 b = H b) → H2 a = some (exo a C (some d)) → H2 d = some (exd d fs) → Q .non H2
def sp_exc0 (K : PySem.W.Frag) (C : Addr) (u : Str) : Sp := fun vs H Q _ => ∃ (a : Addr), vs = [.ref a] ∧ H a = some (exo a C none) ∧ Made H a C [(("word" : Str), .str u)] Q
def sp_exc1 (K : PySem.W.Frag) (C : Addr) (u f : Str) : Sp := fun vs H Q _ => ∃ (a : Addr) (v : V), vs = [.ref a, v] ∧ H a = some (exo a C none) ∧ Made H a C [(f, v), (("word" : Str), .str u)] Q
def sp_exc2 (K : PySem.W.Frag) (C : Addr) (u f g : Str) : Sp := fun vs H Q _ => ∃ (a : Addr) (v z : V), vs = [.ref a, v, z] ∧ H a = some (exo a C none) ∧ Made H a C [(g, z), (f, v), (("word" : Str), .str u)] Q
theorem made_out {C a : Addr} {fs : List (Str × V)} {H : Hp} {E : XK} (h : OutF H E C fs) (na : H a = none) : Made (upd H a (exo a C none)) a C fs
    (fun x H2 => x = .non ∧ ∃ (d : Addr) (fs : List (Str × V)), H2 a = some (exo a C (some d)) ∧ H2 d = some (exd d fs) ∧ H d = none ∧ E (.ref C) (some d) (upd (del H2 a) d (.xd fs))) := by
  intro d H2 nd da k e1 e2
  have nd2 : H d = none := by
    rw [upd_ne da] at nd
    exact nd
  refine ⟨rfl, d, _, e1, e2, nd2, h d _ (fun b o hb => ?_) nd2 upd_same⟩
  have h1 : b ≠ a := ne_of_none hb na
  have h2 : b ≠ d := ne_of_none hb nd2
  rw [upd_ne h2, del_ne h1, k b h1 h2, upd_ne h1]
  exact hb
section
variable {K : PySem.W.Frag} {C : Addr} {u f g : Str} {v z : V} {H : Hp} {E : XK}
theorem mk_out0 (h : Out0 H E C u) : ([] : List V).length ≤ 1000 ∧ ∀ a, H a = none → sp_exc0 K C u (.ref a :: ([] ++ [])) (upd H a (exo a C none))
    (fun x H2 => x = .non ∧ ∃ (d : Addr) (fs : List (Str × V)), H2 a = some (exo a C (some d)) ∧ H2 d = some (exd d fs) ∧ H d = none ∧ E (.ref C) (some d) (upd (del H2 a) d (.xd fs))) (fun _ _ _ => False) :=
  ⟨by show 0 ≤ 1000; decide, fun a na => ⟨a, rfl, upd_same, made_out h na⟩⟩
theorem mk_out (h : Out H E C u f v) : ([v] : List V).length ≤ 1000 ∧ ∀ a, H a = none → sp_exc1 K C u f (.ref a :: ([v] ++ [])) (upd H a (exo a C none))
    (fun x H2 => x = .non ∧ ∃ (d : Addr) (fs : List (Str × V)), H2 a = some (exo a C (some d)) ∧ H2 d = some (exd d fs) ∧ H d = none ∧ E (.ref C) (some d) (upd (del H2 a) d (.xd fs))) (fun _ _ _ => False) :=
  ⟨by show 1 ≤ 1000; decide, fun a na => ⟨a, v, rfl, upd_same, made_out h na⟩⟩
theorem mk_out2 (h : Out2 H E C u f g v z) : ([v, z] : List V).length ≤ 1000 ∧ ∀ a, H a = none → sp_exc2 K C u f g (.ref a :: ([v, z] ++ [])) (upd H a (exo a C none))
    (fun x H2 => x = .non ∧ ∃ (d : Addr) (fs : List (Str × V)), H2 a = some (exo a C (some d)) ∧ H2 d = some (exd d fs) ∧ H d = none ∧ E (.ref C) (some d) (upd (del H2 a) d (.xd fs))) (fun _ _ _ => False) :=
  ⟨by show 2 ≤ 1000; decide, fun a na => ⟨a, v, z, rfl, upd_same, made_out h na⟩⟩
end
end Tw

set_option maxHeartbeats 4000000
/-! a lambda without parameters that a name keeps: made and stored, handed on by its name, called by its name -/
namespace Tw
open PySem PySem.Spec PyProof.Rows L2
open LamX (ExtN Tabs TabB LamS CodeO)
/-- the object of the lambda made in X -/
abbrev lamAt (X : Cx) (ps : Arguments) (b : Expr) (sc : Scope) (c' : Addr) (pm ct : Value) : Obj := PySem.W.kla_obj "<lambda>" (X.env.qual ++ "<lambda>") ps b sc (cloFrom X.env.cells sc.names []) pm c' ct
/-- the lambda at f is known in X -/
structure KeptL (X : Cx) (ps : Arguments) (b : Expr) (sc : Scope) (f c' : Addr) : Prop where
  ex : ∃ pm ct, (f, lamAt X ps b sc c' pm ct) ∈ X.pn
section
variable {X : Cx} {pins : List (Addr × Obj)} {σ : L2.St} {H : Hp} {s : Shared} {ps : Arguments} {b : Expr} {sc : Scope} {f c' : Addr}
theorem pin_lam {pm ct : Value} (I : Inv X pins σ H s) (h1 : s.heap.get? f = some (lamAt X ps b sc c' pm ct)) (h2 : H f = none) (h3 : f ∉ frs X.stack) : Inv X ((f, lamAt X ps b sc c' pm ct) :: pins) σ H s := by
  have nl : f ≠ X.env.locals := by
    rintro rfl
    obtain ⟨m, ⟨o, es, ep, e1, e2, _⟩, _⟩ := I.loc
    rw [h1] at e1
    cases e1
    cases e2
  have nf : f ∉ X.fs := by
    intro hf
    refine h3 ?_
    rcases I.ok.stk with e | ⟨e, fr⟩
    · rw [e]
      exact hf
    · rw [e]
      show f ∈ List.filterMap (·.frame) (X.env :: X.outer)
      rw [List.filterMap_cons, fr]
      exact List.mem_cons_of_mem _ hf
  refine { I with pin := fun p hp => ?_ }
  rcases List.mem_append.mp hp with h | h
  · exact I.pin p (List.mem_append_left _ h)
  · rcases List.mem_cons.mp h with e | h
    · subst e
      exact ⟨h1, h2, nl, nf, fun v z => by cases z⟩
    · exact I.pin p (List.mem_append_right _ h)
theorem KeptL.at (k : KeptL X ps b sc f c') (I : Inv X pins σ H s) : ∃ pm ct, s.heap.get? f = some (lamAt X ps b sc c' pm ct) ∧ H f = none ∧ f ∉ frs X.stack := by
  obtain ⟨pm, ct, hm⟩ := k.ex
  obtain ⟨h1, h2, h3, h4, _⟩ := I.pin _ (List.mem_append_left _ hm)
  refine ⟨pm, ct, h1, h2, fun hf => ?_⟩
  rcases List.mem_cons.mp (I.stkSub _ hf) with e | e
  · exact h3 e
  · exact h4 e
end
section
variable {X : Cx} {ps : Arguments} {b : Expr} {sc : Scope} {T : List (Addr × Str)} {c P : Addr} {i : Nat} {x : Str} {rest : List Stmt} {u : Addr → Addr → List (Addr × Obj) → TS} {lpos pos' pos : Pos}
def tLamS (T : List (Addr × Str)) (q : Str) (i : Nat) (u : Addr → Addr → List (Addr × Obj) → TS) : TS := fun D σ H => Tabs T H ∧ ∀ (H1 : Hp) (f c' : Addr) (pn : List (Addr × Obj)), ExtN H H1 → Tabs T H1 → H1 c' = some (CodeO c' q) → u f c' pn D (σ.set i (some (.ref f))) H1
/-- x = lambda: b, and what follows -/
theorem pss_lam (hN : X.N.Nodup) (hi : X.N[i]? = some x) (hx : Loc X.env.scope x) (TB : TabB X.base X.mg c P) (hcode : X.env.code = .ref c) (hm : (P, X.env.qual ++ "<lambda>") ∈ T) (hu : ∀ p ∈ T, p.1 = P → p.2 = X.env.qual ++ "<lambda>") (L : LamS X.env.scope sc)
    (hrest : ∀ (f c' : Addr) (pn : List (Addr × Obj)), KeptL (X.tr pn X.xe) ps b sc f c' → PSs (X.tr pn X.xe) rest (u f c' pn)) (hdef : defaultsOf ps X.env = ([], []) := by rfl)
    (hs : swapsWith (.Lambda ps b sc lpos) (some (.Name x pos')) pos.line X.env = pure false := by rfl) (hf : X.fn x = true ∨ X.env.scope.names.lookup x = some .local := by first | exact .inl rfl | exact .inr rfl | assumption) :
    PSs X (.Assign [.Name x pos'] (.Lambda ps b sc lpos) pos :: rest) (tLamS T (X.env.qual ++ "<lambda>") i u) := by
  constructor
  intro pins s σ H D I h
  refine wpAny_execs_cons (wpAny_Assign_Name ?_ hs)
  refine LamX.lam_make2 I TB hcode hm hu h.1 hdef (L.has I.ok) ?_
  intro f c' pm ct H1 s1 I1 e1 t1 g1 g2 g3 g4
  have J := pin_lam I1 g1 g2 g3
  refine store_ok J hN hi hx (v := .ref f) rfl (fun s2 J2 => ?_) hf
  have K2 := J2.toTry X.xe
  have kp : KeptL (X.tr (X.pn ++ ((f, lamAt X ps b sc c' pm ct) :: pins)) X.xe) ps b sc f c' := ⟨pm, ct, List.mem_append_right _ List.mem_cons_self⟩
  have back : ∀ {pn' : List (Addr × Obj)} {σ' : L2.St} {H' : Hp} {s' : Shared}, Inv (X.tr (X.pn ++ ((f, lamAt X ps b sc c' pm ct) :: pins)) X.xe) pn' σ' H' s' → Inv X pins σ' H' s' := fun {pn' σ' H' s'} J' => by
    have Z := J'.ofTry (X := X) I.ok
    refine { Z with pin := fun p hp => Z.pin p ?_ }
    rcases List.mem_append.mp hp with h | h
    · exact List.mem_append_left _ h
    · exact List.mem_append_right _ (List.mem_cons_of_mem _ h)
  refine thn ((hrest f c' _ kp).run [] s2 _ H1 D K2 (h.2 H1 f c' _ e1 t1 g4)) fun fl s3 hq => ?_
  cases fl with
  | next =>
    obtain ⟨σ', H', J', q⟩ := hq
    exact ⟨σ', H', back J', q⟩
  | brk =>
    obtain ⟨σ', H', J', q⟩ := hq
    exact ⟨σ', H', back J', q⟩
  | cont =>
    obtain ⟨σ', H', J', q⟩ := hq
    exact ⟨σ', H', back J', q⟩
  | ret w =>
    obtain ⟨v, σ', H', J', r, q⟩ := hq
    exact ⟨v, σ', H', back J', r, q⟩
end
section
variable {X : Cx} {ps : Arguments} {b : Expr} {sc : Scope} {c P : Addr} {i : Nat} {x : Str} {rest : List Stmt} {u : Addr → Addr → List (Addr × Obj) → TS} {lpos pos' pos : Pos}
theorem pss_lam1 (hN : X.N.Nodup) (hi : X.N[i]? = some x) (hx : Loc X.env.scope x) (TB : TabB X.base X.mg c P) (hcode : X.env.code = .ref c) (L : LamS X.env.scope sc)
    (hrest : ∀ (f c' : Addr) (pn : List (Addr × Obj)), KeptL (X.tr pn X.xe) ps b sc f c' → PSs (X.tr pn X.xe) rest (u f c' pn)) (hdef : defaultsOf ps X.env = ([], []) := by rfl)
    (hs : swapsWith (.Lambda ps b sc lpos) (some (.Name x pos')) pos.line X.env = pure false := by rfl) (hf : X.fn x = true ∨ X.env.scope.names.lookup x = some .local := by first | exact .inl rfl | exact .inr rfl | assumption) :
    PSs X (.Assign [.Name x pos'] (.Lambda ps b sc lpos) pos :: rest) (tLamS [(P, X.env.qual ++ "<lambda>")] (X.env.qual ++ "<lambda>") i u) :=
  pss_lam hN hi hx TB hcode List.mem_cons_self (fun p hp _ => by rw [List.mem_singleton.mp hp]) L hrest hdef hs hf
end
section
variable {X : Cx} {ps : Arguments} {b : Expr} {sc : Scope} {f c' : Addr} {i k : Nat} {v : Str} {p p2 pos : Pos}
def tHand (q : Str) (f c' : Addr) (i : Nat) (TT : (XK → Hp → VK → Prop) → Hp → VK → Prop) (t : XK → TE) : TE := fun σ H Q => σ[i]? = some (some (.ref f)) ∧ H c' = some (CodeO c' q) ∧ TT (fun E H' Q' => t E σ H' Q') H Q
/-- g(v), v a name that keeps a lambda -/
theorem pe_hand {TT : (XK → Hp → VK → Prop) → Hp → VK → Prop} {x a : Str} {g : Addr} {ag : Arguments} {bg : List Stmt} {sg : Scope} {dV kV doc pm cdv ct oc : Value} {an od : Option Addr} {osl : Array (Option Value)} {Ng : List Str} {t : XK → TE}
    (hg : Gl X x) (hm : X.mg x = some (.ref g)) (hk : PySem.W.keepIn X.K (.ref g) = true) (lk : X.K.lookup g = some ⟨oc, od, .func (PySem.W.fnOf x x ag bg sg dV kV doc pm an cdv ct), osl⟩) (hcg : PySem.W.codeIn X.K cdv x = true)
    (hb : L2.Binds X.K (PySem.W.fnOf x x ag bg sg dV kV doc pm an cdv ct) [a] []) (Sg : FnScope Ng [a] sg) (hNg : Ng[0]? = some a) (hva : Vis sg a) (hG : LamX.GivesTo X Ng x sg g cdv bg a (X.env.qual ++ "<lambda>") TT)
    (kp : KeptL X ps b sc f c') (hN : X.N[i]? = some v) (hv : Vis X.env.scope v) (hr : Room (k + 2) X.A) (L : LamS X.env.scope sc)
    (hbind : ∀ (q : Str) (cl : List (Str × Addr)) (pm cv ctv : Value), bindArgs (PySem.W.kla_fn "<lambda>" q ps b sc cl pm cv ctv) ⟨[], []⟩ = pure [])
    (hbody : ∀ (A : Around) (outer : List Env) (s : Shared) (H : Hp) (E : XK), Room k (A.deeper (LamX.lamEnv X sc s.heap.objs.size f c')) → PE (LamX.lamCx X A outer s H E sc f c') b (t E))
    (hdb : (x == ("__debug__" : Str)) = false := by decide) (hd : (a == ("__debug__" : Str)) = false := by decide) (hcd : (a == ("__classdict__" : Str)) = false := by decide)
    (hd2 : (v == ("__debug__" : Str)) = false := by decide) (hcd2 : (v == ("__classdict__" : Str)) = false := by decide) :
    PE X (.Call (.Name x p) [.Name v p2] [] pos) (tHand (X.env.qual ++ "<lambda>") f c' i TT t) := by
  constructor
  intro pins s σ H Q I ⟨w1, w2, w3⟩
  have ev := (pe_var (pos := p2) hN hv hd2 hcd2).run pins s σ H (fun z H1 => z = .ref f ∧ H1 = H) I ⟨.ref f, w1, rfl, rfl⟩
  refine wpAny_Call_Name_kw (ld_glob I hg hm (PySem.W.callWith_K (h₀ := X.base) I.ok.mod.kin hk ?_ (by rfl) (by rfl)) hdb)
  show wpAny _ _ (spliced ((false, eval (.Name v p2) X.env) :: backTo pos (starEach [] X.env))) _ _ s
  refine Calls.spliced_cons (thn ev ?_)
  rintro val s1 ⟨z, H1, I1, rz, ez, eH⟩
  subst ez eH
  obtain rfl : val = Value.ref f := rz
  refine Calls.spliced_nil ⟨I1.kIn, ?_⟩
  obtain ⟨pm1, ct1, g1, g2, g3⟩ := kp.at I1
  refine wpAny_call (codeAny_mono (LamX.run_ofS (CX := C8.CX0) (Q := Q) (E := C8.E0) (N := Ng) (us := [.ref f]) (vs := [.ref f]) lk hcg Sg hr I1.env0 (hb s1 [.ref f] I1.kIn rfl) (.cons rfl .nil) rfl ?_) ?_)
  · intro hr'
    have act := hG f c' s1 H1 Q (fun E H' Q' => t E σ H' Q') (fun W pn xe E p1 p2 tk hW => LamX.pe_act (i := 0) I1 L g1 g2 g3 (hbind _ _ _ _ _) tk hW hr' (fun A outer s H hr2 => hbody A outer s H E hr2) hNg hva hd hcd) w2 w3
    obtain ⟨t', ht, hq⟩ := act
    exact ⟨t', ht.nox, hq⟩
  · intro r s2 hq
    match r, hq with
    | .error _, hq => exact (show False from hq).elim
    | .ok (.ret _), hq => exact I1.after hq
    | .ok .next, hq => exact False.elim hq
    | .ok .brk, hq => exact False.elim hq
    | .ok .cont, hq => exact False.elim hq
def tAct (q : Str) (f c' : Addr) (i : Nat) (t : TE) : TE := fun σ H Q => σ[i]? = some (some (.ref f)) ∧ H c' = some (CodeO c' q) ∧ t σ H Q
/-- v(), v a name that keeps a lambda; nothing is raised -/
theorem pe_act0 {t : TE} (kp : KeptL X ps b sc f c') (hN : X.N[i]? = some v) (hv : Vis X.env.scope v) (hr : Room (k + 1) X.A) (L : LamS X.env.scope sc)
    (hbind : ∀ (q : Str) (cl : List (Str × Addr)) (pm cv ctv : Value), bindArgs (PySem.W.kla_fn "<lambda>" q ps b sc cl pm cv ctv) ⟨[], []⟩ = pure [])
    (hbody : ∀ (A : Around) (outer : List Env) (s : Shared) (H : Hp), Room k (A.deeper (LamX.lamEnv X sc s.heap.objs.size f c')) → PE (LamX.lamCx X A outer s H E0 sc f c') b t)
    (hd2 : (v == ("__debug__" : Str)) = false := by decide) (hcd2 : (v == ("__classdict__" : Str)) = false := by decide) : PE X (.Call (.Name v p) [] [] pos) (tAct (X.env.qual ++ "<lambda>") f c' i t) := by
  constructor
  intro pins s σ H Q I ⟨w1, w2, w3⟩
  have ev := (pe_var (pos := p) hN hv hd2 hcd2).run pins s σ H (fun z H1 => z = .ref f ∧ H1 = H) I ⟨.ref f, w1, rfl, rfl⟩
  refine wpAny_Call_Name_kw (thn ev ?_)
  rintro val s1 ⟨z, H1, I1, rz, ez, eH⟩
  subst ez eH
  obtain rfl : val = Value.ref f := rz
  obtain ⟨pm1, ct1, g1, g2, g3⟩ := kp.at I1
  obtain ⟨⟨oc, vs, tk, k1, k2, k3⟩, _, _⟩ := I1.hok c' _ w2
  refine PySem.W.callWith_F0 ⟨_, _, _, _, g1⟩ (wpAny_call (codeAny_mono (R := CR (L2.CX X.prog X.w) X.stack X.prog X.w H1 s1 Q E0) ?_ ?_))
  · refine PySem.W.kla_callFunE hr.depth g1 rfl L.co L.gen rfl ⟨c', oc, vs, tk, rfl, k1, k2, k3⟩ ?_
    rw [show ([] : List Value) ++ [] = [] from rfl, hbind]
    refine wpAny_pure (wpAny_newFunctionEnv (fun y hy => (L.own y hy).2) (fun y hy => absurd hy (by simp)) (fun h1 n1 n2 => ⟨I1.nolimit.fresh _ n2, ?_⟩) L.kind)
    have kk : ∀ a o, s1.heap.get? a = some o → h1.get? a = some o := fun a o e => n2.extBut a o (Nat.ne_of_lt (Heap.lt_size e)) (Heap.get?_push_of_some _ e)
    have J := LamX.lam_start2 (E := E0) (f := f) (c' := c') (tk := s1.toks + ([] : List (Str × Value)).length) I1 L I1.env0 hr.hd Un.refl n1 kk
    refine PySem.W.kla_codeExpr (wpAny_mono ((hbody _ _ s1 H1 (hr.deeper _)).run [] _ _ H1 Q J w3) ?_ fun e s' hq => hq)
    rintro r s' ⟨z, H', J', rz, q⟩
    exact ⟨z, H', J'.os, J'.bare, J'.base, J'.hok, rz, q⟩
  · intro r s2 hq
    match r, hq with
    | .error _, hq =>
      obtain ⟨_, _, _, _, _, _, _, _, _, _, _, _, hE⟩ := hq
      exact False.elim hE
    | .ok (.ret _), hq => exact I1.after hq
    | .ok .next, hq => exact False.elim hq
    | .ok .brk, hq => exact False.elim hq
    | .ok .cont, hq => exact False.elim hq
end
end Tw

set_option maxHeartbeats 400000
/-! a lambda with parameters that is handed to a def as its third value, and called there by the parameter's name -/
namespace Tw
open PySem PySem.Spec PyProof.Rows L2
open LamX (ExtN Tabs TabB CodeO)
open NdefX (NF NScope CellsAt startF ncx Caps slotAt)
/-- the lambda as the layer's nested functions tell of theirs -/
abbrev parF (X : Cx) (pr : Arguments) (sc : Scope) (c' : Addr) : NF := ⟨"<lambda>", X.env.qual ++ "<lambda>", pr, [], sc, cloFrom X.env.cells sc.names [], c'⟩
section
variable {X : Cx} {pr : Arguments} {b : Expr} {sc : Scope} {f c' : Addr} {pm ct : Value} {N ps fr : List Str} {A : Around} {outer : List Env} {s : Shared} {H : Hp} {us : List Value} {vs : List V} {ws : List (Option V)} {Q : VK} {k : Nat} {t : TE}
/-- its run: the parameters' values, and what the captured cells hold -/
theorem par_run (S : NScope N ps fr sc) (here : s.heap.get? f = some (lamAt X pr b sc c' pm ct)) (known : s.heap.CodeRec (.ref c') (X.env.qual ++ "<lambda>")) (room : Room (k + 1) A) (e0 : Env0 X.prog X.w X.K X.mg X.base A outer s H)
    (C : CellsAt (cloFrom X.env.cells sc.names []) fr ws s.heap H) (r : Vals vs us) (many : vs.length = ps.length) (bind : bindArgs (PySem.W.kla_fn "<lambda>" (X.env.qual ++ "<lambda>") pr b sc (cloFrom X.env.cells sc.names []) pm (.ref c') ct) ⟨us, []⟩ = pure (ps.zip us))
    (body : Room k (A.deeper (NdefX.envF (parF X pr sc c') f s.heap.objs.size)) → PE (ncx CX0 X.prog X.w X.K X.mg X.base N (parF X pr sc c') f A outer s H E0) b t) (h : t (startF N vs ws) H Q) :
    codeAny (model X.prog X.w) A (.call (.ref f) ⟨us, []⟩) (CR CX0 outer X.prog X.w H s Q E0) s := by
  have free_ := e0.mod.nolimit.keeps fun a o z => (e0.bs a o z).1
  refine PySem.W.kla_callFunE room.depth here rfl S.co S.gen rfl known ?_
  rw [bind]
  refine wpAny_pure (wpAny_newFunctionEnv S.nocell (fun y hy => S.par y.1 (List.of_mem_zip (a := y.1) (b := y.2) hy).1) (fun h1 named new => ⟨free_.fresh _ new, ?_⟩) S.kind)
  have J := NdefX.inv_startN (E := E0) (CX := CX0) (f := f) (F := parF X pr sc c') (tk := s.toks + (ps.zip us).length) S room.hd e0 many r C named fun a o z => new.extBut a o (Nat.ne_of_lt (Heap.lt_size z)) (Heap.get?_push_of_some _ z)
  refine PySem.W.kla_codeExpr (wpAny_mono ((body (room.deeper _)).run [] _ _ H Q J h) ?_ fun _ _ z => z)
  rintro u s1 ⟨v, H1, J1, rv, q⟩
  exact ⟨v, H1, J1.os, J1.bare, J1.base, J1.hok, rv, q⟩
end
/-- captured cells hold still, whatever happens to the frames -/
theorem cells_un {cl : List (Str × Addr)} {fr : List Str} {ws : List (Option V)} {fs ex : List Addr} {H H' : Hp} {h h' : Heap} (C : CellsAt cl fr ws h H) (un : Un fs ex H H' h h') (hx : ∀ a, a ∉ ex) : CellsAt cl fr ws h' H' := by
  have still : ∀ {a : Addr} {v : Option Value}, H a = none → h.IsCell a v → h'.IsCell a v := fun {a v} n ⟨o, ho, hd⟩ =>
    let ⟨_, there⟩ := un.any ho n (hx a)
    ⟨_, there, hd⟩
  refine { len := C.len, inj := C.inj, all := fun y a e => ?_, has := fun i y e => ?_ }
  · obtain ⟨n, v, z⟩ := C.all y a e
    have z2 := still n z
    obtain ⟨o, ho, _⟩ := z
    exact ⟨un.free a o ho n (hx a), v, z2⟩
  · obtain ⟨a, ha, hv⟩ := C.has i y e
    exact ⟨a, ha, fun v ev => (hv v ev).imp fun u z => ⟨z.1, still (C.all y a ha).1 z.2⟩⟩
/-- the context of the def that is handed the lambda -/
abbrev toldCx (X : Cx) (Ng : List Str) (x : Str) (sg : Scope) (g : Addr) (cdg : Value) (s : Shared) (H : Hp) : Cx := (cxOf CX0 X.prog X.w X.K X.mg X.base Ng x sg g cdg X.A X.stack s H E0).nox
/-- what the def does with it: TT tells, from the two values ahead and the lambda's reading tl -/
def GivesP (X : Cx) (Ng : List Str) (x : Str) (sg : Scope) (g : Addr) (cdg : Value) (bg : List Stmt) (a : Str) (i : Nat) (q : Str) (TT : V → V → (V → Hp → VK → Prop) → Hp → VK → Prop) : Prop :=
  ∀ (f c' : Addr) (s : Shared) (H : Hp) (Q : VK) (v1 v2 : V) (tl : V → Hp → VK → Prop),
    (∀ (e : Expr) (te : TE) (p1 p2 : Pos), PE (toldCx X Ng x sg g cdg s H) e te → starEach [e] (toldCx X Ng x sg g cdg s H).env = (false, eval e (toldCx X Ng x sg g cdg s H).env) :: starEach [] (toldCx X Ng x sg g cdg s H).env →
      PE (toldCx X Ng x sg g cdg s H) (.Call (.Name a p1) [e] [] p2) (fun σ1 H1 Q1 => σ1[i]? = some (some (.ref f)) ∧ te σ1 H1 fun v H2 => H2 c' = some (CodeO c' q) ∧ tl v H2 Q1)) →
    H c' = some (CodeO c' q) → TT v1 v2 tl H Q →
    ∃ t, PSs (toldCx X Ng x sg g cdg s H) bg t ∧ t { nx := fun _ H' => Q .non H', rt := Q } (L2.start Ng [v1, v2, .ref f]) H
def tHandP (T : List (Addr × Str)) (N : List Str) (js : List Nat) (TT : V → V → (V → Hp → VK → Prop) → Hp → VK → Prop) (t1 t2 tb : TE) : TE := fun σ H Q => t1 σ H fun v1 H1 => t2 σ H1 fun v2 H2 => Tabs T H2 ∧
  ∀ H3, ExtN H2 H3 → Tabs T H3 → TT v1 v2 (fun v H' Q' => tb (startF N [v] (js.map (slotAt σ))) H' Q') H3 Q
section
variable {X : Cx} {pr : Arguments} {b : Expr} {sc : Scope} {N fr : List Str} {y : Str} {js : List Nat} {T : List (Addr × Str)} {c Pt : Addr} {k i : Nat} {x a : Str} {g : Addr} {ag : Arguments} {bg : List Stmt} {sg : Scope} {dV kV doc pm cdv ct oc : Value} {an od : Option Addr}
  {osl : Array (Option Value)} {Ng pg : List Str} {TT : V → V → (V → Hp → VK → Prop) → Hp → VK → Prop} {t1 t2 tb : TE} {e1 e2 : Expr} {p lp pos : Pos}
/-- x(e1, e2, lambda y: b) -/
theorem pe_handP (hg : Gl X x) (hm : X.mg x = some (.ref g)) (hk : PySem.W.keepIn X.K (.ref g) = true) (lk : X.K.lookup g = some ⟨oc, od, .func (PySem.W.fnOf x x ag bg sg dV kV doc pm an cdv ct), osl⟩) (hcg : PySem.W.codeIn X.K cdv x = true)
    (hb : L2.Binds X.K (PySem.W.fnOf x x ag bg sg dV kV doc pm an cdv ct) pg []) (Sg : FnScope Ng pg sg) (h3 : pg.length = 3) (hNg : Ng[i]? = some a) (hva : Vis sg a) (hG : GivesP X Ng x sg g cdv bg a i (X.env.qual ++ "<lambda>") TT)
    (TB : TabB X.base X.mg c Pt) (hcode : X.env.code = .ref c) (hmT : (Pt, X.env.qual ++ "<lambda>") ∈ T) (hu : ∀ z ∈ T, z.1 = Pt → z.2 = X.env.qual ++ "<lambda>") (room : Room (k + 2) X.A) (S : NScope N [y] fr sc) (look : NdefX.ndefB X.env.scope sc fr = true) (hjs : js.map (fun j => X.N[j]?) = fr.map some)
    (h1 : PE X e1 t1) (h2 : PE X e2 t2)
    (hbody : ∀ (A : Around) (outer : List Env) (s : Shared) (H : Hp) (f c' : Addr), Room k (A.deeper (NdefX.envF (parF X pr sc c') f s.heap.objs.size)) → PE (ncx CX0 X.prog X.w X.K X.mg X.base N (parF X pr sc c') f A outer s H E0) b tb)
    (hdef : defaultsOf pr X.env = ([], []) := by rfl) (hbind : ∀ (q : Str) (cl : List (Str × Addr)) (pm cv ctv u : Value), bindArgs (PySem.W.kla_fn "<lambda>" q pr b sc cl pm cv ctv) ⟨[u], []⟩ = pure [(y, u)] := by intros; rfl)
    (hdb : (x == ("__debug__" : Str)) = false := by decide) (hd : (a == ("__debug__" : Str)) = false := by decide) (hcd : (a == ("__classdict__" : Str)) = false := by decide)
    (f1 : starEach [e1, e2, .Lambda pr b sc lp] X.env = (false, eval e1 X.env) :: starEach [e2, .Lambda pr b sc lp] X.env := by rfl) (f2 : starEach [e2, .Lambda pr b sc lp] X.env = (false, eval e2 X.env) :: starEach [.Lambda pr b sc lp] X.env := by rfl) :
    PE X (.Call (.Name x p) [e1, e2, .Lambda pr b sc lp] [] pos) (tHandP T N js TT t1 t2 tb) := by
  constructor
  intro pins s σ H Q I w
  have plain : (backTo pos (starEach [e2, .Lambda pr b sc lp] X.env)).any (·.1) = false := by
    rw [f2]
    rfl
  refine wpAny_Call_Name_kw (ld_glob I hg hm (PySem.W.callWith_K (first := []) (h₀ := X.base) I.ok.mod.kin hk ?_ f1 plain) hdb)
  rw [f1, f2]
  show wpAny _ _ (spliced ((false, eval e1 X.env) :: (false, eval e2 X.env) :: (false, eval (.Lambda pr b sc lp) X.env) :: backTo pos (starEach [] X.env))) _ _ _
  refine Calls.spliced_cons (thn (h1.run pins _ σ H _ (I.tok _) w) ?_)
  rintro u1 s1 ⟨v1, H1, I1, r1, w1⟩
  refine Calls.spliced_cons (thn (h2.run pins s1 σ H1 _ I1 w1) ?_)
  rintro u2 s2 ⟨v2, H2, I2, r2, tabs, w2⟩
  refine Calls.spliced_cons (LamX.lam_make2 I2 TB hcode hmT hu tabs hdef (fun y hy e => ?_) ?_)
  · rcases NdefX.ndef_free look y hy e with z | z
    · exact I2.ok.has _ (.inl z)
    · exact I2.ok.has _ (.inr z)
  intro f c' pm1 ct1 H3 s3 I3 grown tabs3 here untold nofr known
  refine Calls.spliced_nil ⟨I3.kIn, ?_⟩
  have C0 := NdefX.cells_of I3 (Caps.made I3.ok (NdefX.ndef_free look) (NdefX.ndef_fr look) hjs)
  refine wpAny_call (codeAny_mono (LamX.run_ofS (CX := CX0) (Q := Q) (E := E0) (k := k + 1) (N := Ng) (us := [u1, u2, .ref f]) (vs := [v1, v2, .ref f]) lk hcg Sg room I3.env0 (hb s3 [u1, u2, .ref f] I3.kIn h3.symm) (.cons r1 (.cons r2 (.cons rfl .nil))) h3.symm ?_) ?_)
  · intro room2
    refine (hG f c' s3 H3 Q v1 v2 (fun v H' Q' => tb (startF N [v] (js.map (slotAt σ))) H' Q') (fun e te q1 q2 he hst => ⟨?_⟩) known (w2 H3 grown tabs3)).imp fun t z => ⟨z.1.nox, z.2⟩
    intro pinsZ sZ σZ HZ QZ IZ ⟨slot, wz⟩
    refine wpAny_Call_Name_kw (thn ((pe_var (pos := q1) hNg hva hd hcd).run pinsZ sZ σZ HZ (fun z H' => z = .ref f ∧ H' = HZ) IZ ⟨.ref f, slot, rfl, rfl⟩) ?_)
    rintro u s4 ⟨z, H4, I4, rz, ez, eH⟩
    subst ez eH
    obtain rfl : u = Value.ref f := rz
    have stays : ∀ {s5 : Shared} {H5 : Hp}, Inv (toldCx X Ng x sg g cdv s3 H3) pinsZ σZ H5 s5 → s5.heap.get? f = some (lamAt X pr b sc c' pm1 ct1) := fun J => J.base.keep f _ here untold nofr (fun z => nomatch (show f ∈ ([] : List Addr) from z))
    refine PySem.W.callWith_F (first := []) ⟨_, _, _, _, stays I4⟩ (thn ((pa_cons he pa_nil hst).run q2 pinsZ s4 σZ H4 (fun vs H' => match vs with
      | [v] => H' c' = some (CodeO c' (X.env.qual ++ "<lambda>")) ∧ tb (startF N [v] (js.map (slotAt σ))) H' QZ
      | _ => False) I4 wz) ?_) hst rfl
    rintro us s5 ⟨vs, H5, I5, rv, w5⟩
    refine ⟨⟨_, _, _, _, stays I5⟩, ?_⟩
    match vs, us, rv, w5 with
    | [v], [u], rv, ⟨kn, w6⟩ =>
      have e5 : Env0 X.prog X.w X.K X.mg X.base (toldCx X Ng x sg g cdv s3 H3).A (toldCx X Ng x sg g cdv s3 H3).stack s5 H5 := I5.env0
      have known5 : s5.heap.CodeRec (.ref c') (X.env.qual ++ "<lambda>") := NdefX.codeO_at I5.hok kn
      have C5 : CellsAt (cloFrom X.env.cells sc.names []) fr (js.map (slotAt σ)) s5.heap H5 := cells_un C0 I5.base fun a z => nomatch (show a ∈ ([] : List Addr) from z)
      have ran := par_run (X := X) (pr := pr) (b := b) (sc := sc) (f := f) (c' := c') (pm := pm1) (ct := ct1) (N := N) (ps := [y]) (fr := fr) (A := (toldCx X Ng x sg g cdv s3 H3).A) (outer := (toldCx X Ng x sg g cdv s3 H3).stack) (s := s5) (H := H5) (us := [u]) (vs := [v]) (ws := js.map (slotAt σ)) (Q := QZ) (k := k) (t := tb) S (stays I5) known5 room2 e5 C5 rv rfl (hbind _ _ _ _ _ _) (fun r6 => hbody _ _ _ _ _ _ r6) w6
      refine wpAny_call (codeAny_mono ran ?_)
      intro r s6 hq
      match r, hq with
      | .error _, hq => exact hq.elim
      | .ok (.ret _), hq => exact I5.after hq
      | .ok .next, hq => exact False.elim hq
      | .ok .brk, hq => exact False.elim hq
      | .ok .cont, hq => exact False.elim hq
  · intro r s4 hq
    match r, hq with
    | .error _, hq => exact hq.elim
    | .ok (.ret _), hq => exact I3.after hq
    | .ok .next, hq => exact False.elim hq
    | .ok .brk, hq => exact False.elim hq
    | .ok .cont, hq => exact False.elim hq
end
/-! an own exception class that is made without values -/
section
variable {b : Bs} {X : Cx} {o e : Expr} {es : List Expr} {to te : TE} {ta : TA} {f x : Str} {p p' p1 p2 pos : Pos} {pl : Sem Bool}
theorem pmk_b0 {k j : Nat} {C : Addr} {sp : Sp} (c : MkB b X.prog X.w X.K X.mg X.base k x C sp) (hr : Room j X.A) (hk : k + 1 ≤ j) (hg : Gl X x) (hdb : (x == ("__debug__" : Str)) = false := by decide) : PMk X (.Call (.Name x p) [] [] pos) (tMkO C sp [] tNil) := by
  rintro pins ⟨hp, g, d, t, os⟩ σ H Q I1 ⟨few, q⟩
  obtain ⟨init, fd, ps, T, at_, F0, hm, bnd⟩ := c.ex
  have F := F0.raw bnd .nil
  refine wpAny_Call_Name_kw (ld_glob I1 hg hm (PySem.W.callWith_K0 (first := []) I1.kIn T.keep ?_) hdb)
  obtain ⟨_, _, _, _, _, _, _, _, _, _, _, _, _, _, _, _, cls, line⟩ := PySem.W.excInit_of I1.kIn T.makes
  have next := Nat.le_succ hp.objs.size
  have kept : ∀ c o, hp.get? c = some o → ((hp.push (PySem.W.kdv_tup [])).push (PySem.HandSPX.excO C hp.objs.size)).get? c = some o := fun c o z => Heap.get?_push_of_some _ (Heap.get?_push_of_some _ z)
  have I2 := I1.laid (h' := (hp.push (PySem.W.kdv_tup [])).push (PySem.HandSPX.excO C hp.objs.size)) (t' := t) (o := exo (hp.objs.size + 1) C none) kept next (exo_ok (t1 := hp.objs.size) (by heap_get))
  have fits : ([] : List Value).length ≤ sizeLine := Nat.zero_le _
  have ran := F _ X.stack _ _ [.ref (hp.objs.size + 1)] [.ref (hp.objs.size + 1)] _ E0 ((hr.mono hk).make C [] []) (I2.env0.make C [] []) (.cons rfl .nil) (q _ (I1.hok.fresh next))
  refine wpAny_call (PySem.HandSPX.call_own T.ok.fac line cls (PySem.W.looks_findIn I1.kIn at_.find) (fun self => PySem.W.bind_fn I1.kIn self at_.fn) fits (codeAny_mono ran ?_))
  rintro (_ | (_ | _ | _ | _)) ⟨h2, g2, d2, t2, os2⟩ z <;> first
    | exact False.elim z
    | (obtain ⟨_, H2, os', bare, un, hok, rv, rfl, dd, fs, ea, ed, new, q2⟩ := z
       exact ⟨rv, mk_end (raises_own T.exc T.typ) I1 next kept un hok os' bare ea ed new q2⟩)
end
end Tw

set_option maxHeartbeats 4000000
/-! methods called with keywords, in any order, some left out; what is raised told or not -/
namespace Tw
open PySem PySem.Spec PyProof.Rows L2
theorem MetG.calm {P : Program} {w : World} {K : PySem.W.Frag} {mg : Str → Option Value} {base : Heap} {k : Nat} {C : Addr} {m : Str} {sp : Sp} {n : Nat} {ks : List Str} {gV : List V → List V → List V} (c : MetG P w K mg base (L2.CX P w) k C m sp n ks gV) : MetG P w K mg base CX0 k C m (fun vs H Q _ => sp vs H Q E0) n ks gV :=
  let ⟨f, fd, ps, g, cls, me, F, kb⟩ := c.ex
  ⟨f, fd, ps, g, cls, me, fn_calm F, kb⟩
theorem vals_rev : ∀ {zs : List V} {ws : List Value}, Vals zs ws → Vals zs.reverse ws.reverse
  | _, _, .nil => .nil
  | _, _, .cons h t => by
    rw [List.reverse_cons, List.reverse_cons]
    exact (vals_rev t).append (.cons h .nil)
/-- o.m(e, .., k = v, ..) where what the method raises is told -/
theorem pe_mgx {X : Cx} {k j n : Nat} {C : Addr} {m : Str} {sp : Sp} {pos apos : Pos} {e o : Expr} {es : List Expr} {ta : TE} {t tk : TA} {ks : List Str} {kws : List Keyword} {gV : List V → List V → List V} {E : XK} {pl : Sem Bool} {W : WX}
    (c : MetG X.prog X.w X.K X.mg X.base (L2.CX X.prog X.w) k C m sp n ks gV) (taken : Takes X W) (hW : ∀ cls d σ H, E cls d H → W cls d σ H) (hr : Room j X.A) (hk : k ≤ j) (he : PE X o ta) (ha : PA X (e :: es) t) (hkw : PK X kws tk) (form : KwForm X pl o e es kws m apos pos ks := by exact ⟨rfl, rfl, rfl, rfl, rfl⟩) :
    PE X (.Call (.Attribute o m apos) (e :: es) kws pos) (tMethG C m n ks.length sp gV E ta t tk) := pe_mg c (passes_call taken hW) hr hk he ha hkw form
end Tw

set_option maxHeartbeats 4000000
namespace Tw
open PySem PySem.Spec PyProof.Rows L2
/-! tuples joined and cut: what stands at the told place -/
def rCatU : R2 := fun x y H Q => ∃ a b xs ys, x = .ref a ∧ y = .ref b ∧ H a = some (.tup xs) ∧ H b = some (.tup ys) ∧ xs.length + ys.length ≤ sizeLine ∧ ∀ p H', Same H H' → H' p = some (.tup (xs ++ ys)) → Q (.ref p) H'
theorem op_catU {X : Cx} : OpR X (binaryOp .Add) rCatU := by
  intro pins s σ H x y v u Q I rx ry h
  obtain ⟨a, b, xs, ys, rfl, rfl, ha, hb, hl, q⟩ := h
  refine op_catA pins s σ H _ _ v u Q I rx ry ⟨a, b, xs, ys, rfl, rfl, .inl (.inl ha), .inl (.inl hb), hl, fun e => ?_, fun _ e => ?_, fun _ _ p np => q p _ (same_upd np) upd_same⟩
  · exact q b H (Same.refl H) (by rw [hb, e]; rfl)
  · exact q a H (Same.refl H) (by rw [ha, e, List.append_nil])
def rSlU : V → Option Int → Option Int → Hp → VK → Prop := fun x lo hi H Q => ∃ a xs, x = .ref a ∧ H a = some (.tup xs) ∧ ∀ p H', Same H H' → H' p = some (.tup (cutV xs lo hi)) → Q (.ref p) H'
theorem sl_tupU {X : Cx} : SlR X rSlU := by
  intro pins s σ H x v vl vu lo hi sl Q I rx hs pl pu h
  obtain ⟨a, xs, rfl, ha, q⟩ := h
  refine sl_tupA pins s σ H _ v vl vu lo hi sl Q I rx hs pl pu ⟨a, xs, rfl, .inl (.inl ha), fun e => ?_, fun _ p np => q p _ (same_upd np) upd_same⟩
  refine q a H (Same.refl H) ?_
  rw [ha]
  unfold cutV
  rw [e.1, e.2, List.drop_zero, Nat.sub_zero, List.take_length]
end Tw

set_option maxHeartbeats 4000000
namespace Tw
open PySem PySem.Spec PyProof.Rows L2
theorem flat_strs (l : List Str) : (l.map V.str).all flatV = true := by
  rw [List.all_map]
  exact List.all_eq_true.mpr fun _ _ => rfl
theorem in_strs (z : Str) (l : List Str) : inV (.str z) (l.map V.str) = decide (z ∈ l) := by
  unfold inV
  rw [List.any_map]
  induction l with
  | nil => rfl
  | cons a r ih =>
    rw [List.any_cons, ih]
    have e : ((fun y => eqV y (.str z)) ∘ V.str) a = decide (z = a) := by
      show (a == z) = decide (z = a)
      by_cases h : z = a
      · subst h
        simp
      · rw [decide_eq_false h]
        exact beq_eq_false_iff_ne.mpr fun q => h q.symm
    rw [e]
    simp only [List.mem_cons]
    by_cases h : z = a <;> simp [h]
section
variable {P : Program} {w : World} {K : PySem.W.Frag} {mg : Str → Option Value} {base : Heap}
/-! ### is_number, is_whole, is_one_of -/
/-- None, a truth, an int or a text: its kind -/
def plK : V → Option String
  | .non => some "NoneType"
  | .bl _ => some "bool"
  | .int _ => some "int"
  | .str _ => some "str"
  | _ => none
theorem plK_ty {H : Hp} {v : V} {a : String} (h : plK v = some a) : TyX K H v (.type a) ∧ a ∈ kinds := by
  cases v with
  | non => cases h; exact ⟨.base .non, by decide⟩
  | bl b => cases h; exact ⟨.base (.bl _), by decide⟩
  | int i => cases h; exact ⟨.base (.int _), by decide⟩
  | str z => cases h; exact ⟨.base (.str _), by decide⟩
  | byt b => cases h
  | flt b => cases h
  | ref b => cases h
  | ty b => cases h
def numB (a : String) : Bool := kitT a "int" && !kitT a "bool"
def sp_is_number : Sp := fun vs H Q _ => ∃ (v : V) (a : String), vs = [v] ∧ plK v = some a ∧ Q (.bl (numB a)) H
theorem cal_is_number (T : Tp K mg) : Cal P w K mg base 1 "is_number" sp_is_number := by
  obtain ⟨fd, F⟩ := f_is_number T
  refine cal_of F (g_is_number T) (b_is_number F) sc_is_number (fun vs H Q E h => ?_) (fun cdv A outer s H vs Q E hr h => ?_)
  · obtain ⟨v, a, rfl, _⟩ := h
    rfl
  · obtain ⟨v, a, rfl, hk, q⟩ := h
    obtain ⟨ty, ha⟩ := plK_ty (K := K) (H := H) hk
    refine ⟨_, (pss_one (ps_ret (pe_and (pe_callB call_isK (by rfl) (z_isinstance T) bb_isinstance (pa_cons (pv 0) (pa_cons (pe_bltn (v := .ty "int") (by rfl) (z_int T) bb_int rfl) pa_nil))) (pe_one (pe_not (pe_callB call_isK (by rfl) (z_isinstance T) bb_isinstance (pa_cons (pv 0) (pa_cons (pe_bltn (v := .ty "bool") (by rfl) (z_bool T) bb_bool rfl) pa_nil)))))))), ?_⟩
    refine ⟨_, rfl, _, "int", a, rfl, ty, ha, by decide, _, rfl, ?_⟩
    unfold numB at q
    cases e : kitT a "int" with
    | true =>
      rw [e] at q
      exact iteT ⟨_, rfl, _, "bool", a, rfl, ty, ha, by decide, _, rfl, q⟩
    | false =>
      rw [e] at q
      exact iteF q
def sp_is_whole : Sp := fun vs H Q _ => ∃ (i lo hi : Int), vs = [.int i, .int lo, .int hi] ∧ Q (.bl (decide (lo ≤ i ∧ i ≤ hi))) H
theorem cal_is_whole (T : Tp K mg) : Cal P w K mg base 2 "is_whole" sp_is_whole := by
  obtain ⟨fd, F⟩ := f_is_whole T
  refine cal_of F (g_is_whole T) (b_is_whole F) sc_is_whole (fun vs H Q E h => ?_) (fun cdv A outer s H vs Q E hr h => ?_)
  · obtain ⟨i, lo, hi, rfl, _⟩ := h
    rfl
  · obtain ⟨i, lo, hi, rfl, q⟩ := h
    refine ⟨_, (pss_one (ps_ret (pe_and (C8.pe_c (cal_is_number T) hr (by decide) rfl (pa_cons (pv 0) pa_nil)) (pe_one (pe_chain op_le op_le (pv 1) (pv 0) (pv 2)))))), ?_⟩
    refine ⟨_, rfl, .int i, "int", rfl, rfl, _, rfl, ?_⟩
    refine iteT ⟨_, rfl, _, rfl, _, _, rfl, rfl, _, rfl, ite2 (fun e => ?_) (fun e => ?_)⟩
    · have e1 : lo ≤ i := of_decide_eq_true e
      refine ⟨_, rfl, _, _, rfl, rfl, ?_⟩
      have e2 : decide (lo ≤ i ∧ i ≤ hi) = decide (i ≤ hi) := by simp [e1]
      rw [e2] at q
      exact q
    · have e1 : ¬ lo ≤ i := fun z => e (decide_eq_true z)
      have e2 : decide (lo ≤ i ∧ i ≤ hi) = false := by simp [e1]
      rw [e2] at q
      exact q
/-- is_whole of any plain value -/
def whB (lo hi : Int) : V → Bool
  | .int i => decide (lo ≤ i ∧ i ≤ hi)
  | _ => false
def sp_iswh : Sp := fun vs H Q _ => ∃ (v : V) (lo hi : Int), vs = [v, .int lo, .int hi] ∧ (plK v).isSome = true ∧ Q (.bl (whB lo hi v)) H
theorem cal_iswh (T : Tp K mg) : Cal P w K mg base 2 "is_whole" sp_iswh := by
  obtain ⟨fd, F⟩ := f_is_whole T
  refine cal_of F (g_is_whole T) (b_is_whole F) sc_is_whole (fun vs H Q E h => ?_) (fun cdv A outer s H vs Q E hr h => ?_)
  · obtain ⟨v, lo, hi, rfl, _⟩ := h
    rfl
  · obtain ⟨v, lo, hi, rfl, hk, q⟩ := h
    refine ⟨_, (pss_one (ps_ret (pe_and (C8.pe_c (cal_is_number T) hr (by decide) rfl (pa_cons (pv 0) pa_nil)) (pe_one (pe_chain op_le op_le (pv 1) (pv 0) (pv 2)))))), ?_⟩
    cases v with
    | non => exact ⟨_, rfl, .non, "NoneType", rfl, rfl, _, rfl, iteF q⟩
    | bl b => exact ⟨_, rfl, .bl b, "bool", rfl, rfl, _, rfl, iteF q⟩
    | str z => exact ⟨_, rfl, .str z, "str", rfl, rfl, _, rfl, iteF q⟩
    | byt b => cases hk
    | flt b => cases hk
    | ref b => cases hk
    | ty b => cases hk
    | int i =>
      refine ⟨_, rfl, .int i, "int", rfl, rfl, _, rfl, ?_⟩
      refine iteT ⟨_, rfl, _, rfl, _, _, rfl, rfl, _, rfl, ite2 (fun e => ?_) (fun e => ?_)⟩
      · have e1 : lo ≤ i := of_decide_eq_true e
        refine ⟨_, rfl, _, _, rfl, rfl, ?_⟩
        have e2 : decide (lo ≤ i ∧ i ≤ hi) = decide (i ≤ hi) := by simp [e1]
        have q : Q (.bl (decide (lo ≤ i ∧ i ≤ hi))) H := q
        rw [e2] at q
        exact q
      · have e1 : ¬ lo ≤ i := fun z => e (decide_eq_true z)
        have e2 : decide (lo ≤ i ∧ i ≤ hi) = false := by simp [e1]
        have q : Q (.bl (decide (lo ≤ i ∧ i ≤ hi))) H := q
        rw [e2] at q
        exact q
def sp_is_one_of : Sp := fun vs H Q _ => ∃ (z : Str) (p : Addr) (l : List Str), vs = [.str z, .ref p] ∧ H p = some (.lst (l.map V.str)) ∧ Q (.bl (decide (z ∈ l))) H
theorem cal_is_one_of (T : Tp K mg) : Cal P w K mg base 1 "is_one_of" sp_is_one_of := by
  obtain ⟨fd, F⟩ := f_is_one_of T
  refine cal_of F (g_is_one_of T) (b_is_one_of F) sc_is_one_of (fun vs H Q E h => ?_) (fun cdv A outer s H vs Q E hr h => ?_)
  · obtain ⟨z, p, l, rfl, _⟩ := h
    rfl
  · obtain ⟨z, p, l, rfl, hp, q⟩ := h
    refine ⟨_, (pss_one (ps_ret (pe_and (pe_callB call_isK (by rfl) (z_isinstance T) bb_isinstance (pa_cons (pv 0) (pa_cons (pe_bltn (v := .ty "str") (by rfl) (z_str T) bb_str rfl) pa_nil))) (pe_one (pe_cmpR op_in_seq (pv 0) (pv 1) (by rfl)))))), ?_⟩
    refine ⟨_, rfl, _, "str", "str", rfl, .base (.str _), by decide, by decide, _, rfl, iteT ⟨_, rfl, _, rfl, p, _, rfl, .inl (.inl (.inl hp)), rfl, flat_strs _, ?_⟩⟩
    show Q (.bl (inV (.str z) (l.map V.str))) _
    rw [in_strs]
    exact q
/-! ### is_name -/
def sp_is_name : Sp := fun vs H Q _ => ∃ z : Str, vs = [.str z] ∧ Nm z ∧ ∀ H', Same H H' → Q (.bl true) H'
theorem cal_is_name (T : Tp K mg) : Cal P w K mg base 2 "is_name" sp_is_name := by
  obtain ⟨fd, F⟩ := f_is_name T
  refine cal_of F (g_is_name T) (b_is_name F) sc_is_name (fun vs H Q E h => ?_) (fun cdv A outer s H vs Q E hr h => ?_)
  · obtain ⟨z, rfl, _⟩ := h
    rfl
  · obtain ⟨z, rfl, ⟨n1, n2, n3⟩, q⟩ := h
    refine ⟨_, (pss_cons (ps_if (PW.pt (pw_or (pt_not (pt_val (pe_callB call_isK (by rfl) (z_isinstance T) bb_isinstance (pa_cons (pv 0) (pa_cons (pe_bltn (v := .ty "str") (by rfl) (z_str T) bb_str rfl) pa_nil))))) (pw_or1 (pt_not (pt_chain op_le op_le pe_int (pe_callB call_len_str (by rfl) (z_len T) bb_len (pa_cons (pv 0) pa_nil)) (C8.pe_gc (by rfl) (c_LONGEST_NAME T))))))) (pss_one (ps_ret pe_bl)) pss_nil)
      (pss_one (ps_ret (pe_callB (cr_all rfl) (by rfl) (z_all T) bb_all (pa_cons (pe_lc (own := [("letter", 1)]) (g := gName 1) (tt := tYes) rfl sc_is_name.nd (pi_str (pv 0)) (blkOk_by (N := N_is_name) (sc := defScope s_is_name) (by decide +kernel)) (fun _ _ _ _ _ => (pg_name (i := 1) sc_is_name.nd rfl (.inl rfl))) (fun _ _ _ _ _ => pts_nil) (fun _ _ _ _ _ => (pe_cmpR op_in_sign (pv 1) (C8.pe_gc (by rfl) (c_LETTERS T)) (by rfl)))) pa_nil))))), ?_⟩
    refine ⟨_, rfl, _, "str", "str", rfl, .base (.str _), by decide, by decide, _, rfl, ?_⟩
    refine iteF ⟨_, rfl, _, rfl, Nat.le_trans n2 (by decide), _, _, rfl, rfl, _, rfl, ?_⟩
    have e1 : decide ((1 : Int) ≤ (z.length : Int)) = true := decide_eq_true (by omega)
    rw [e1]
    refine iteT ⟨_, _, rfl, rfl, _, rfl, ?_⟩
    have e2 : decide ((z.length : Int) ≤ 8) = true := decide_eq_true (by omega)
    rw [e2]
    refine iteF ?_
    refine ⟨_, rfl, _, rfl, fun D nD => ?_⟩
    refine lc_it walk_str (fun i H1 => Same H H1 ∧ H1 D = some (.lst ((List.replicate i true).map V.bl))) ⟨same_upd nD, upd_same⟩ (fun _ _ _ _ => trivial) ?_ ?_
    · rintro i x H1 H2 hi ⟨s1, d1⟩ ⟨rfl, c, hc, rfl⟩
      refine ⟨rfl, yes_i (iteT ⟨_, rfl, c, letters, rfl, rfl, ?_⟩)⟩
      have hcm : c ∈ z.cps.toList := by
        obtain ⟨hi', hc'⟩ := Array.getElem?_eq_some_iff.mp hc
        rw [← hc']
        exact Array.mem_toList_iff.mpr (Array.getElem_mem hi')
      refine ⟨_, d1, ?_, ?_, ?_⟩
      · rw [List.length_map, List.length_replicate]
        have : z.cps.size = z.length := rfl
        exact small1000 (by omega)
      · exact fun b o e => by
          rw [upd_ne (ne_of_none e nD)]
          exact s1 b o e
      · rw [upd_same, decide_eq_true (n3 c hcm), List.replicate_succ', List.map_append]
        rfl
    · rintro H1 ⟨s1, d1⟩
      refine ⟨D, List.replicate z.cps.size true, rfl, .inl (.inl d1), ?_⟩
      rw [show (List.replicate z.cps.size true).all id = true by simp]
      exact q H1 s1
end
end Tw

namespace Tw
open PySem PySem.Spec PyProof.Rows L2
theorem same_put {H H1 : Hp} {D : Addr} {o : HO} (s : Same H H1) (nD : H D = none) : Same H (upd H1 D o) := fun b x e => by
  rw [upd_ne (ne_of_none e nD)]
  exact s b x e
end Tw

namespace Tw
open PySem PySem.Spec PyProof.Rows L2
/-! what TwXe asks of TwD, where there is no TwD -/
theorem app_le {a b : Str} {m n : Nat} (ha : a.length ≤ m) (hb : b.length ≤ n) : (a ++ b).length ≤ m + n := by
  rw [Str.length_append]
  omega
theorem short {z : Str} {n : Nat} (h : z.length ≤ n) (hn : n ≤ 1000) : z.length ≤ sizeLine := Nat.le_of_lt (small1000 (Nat.le_trans h hn))
end Tw

set_option maxHeartbeats 4000000
namespace Tw
open PySem PySem.Spec PyProof.Rows L2
section
variable {P : Program} {w : World} {K : PySem.W.Frag} {mg : Str → Option Value} {base : Heap}
theorem fn_TideError (T : Tp K mg) {fd : FuncData} (F : FunD K "__init__" "TideError.__init__" (defArgs s_TideError_UinitU) (defBody s_TideError_UinitU) (defScope s_TideError_UinitU) [V.str "TideError", V.str "refused"] [] (He.ma K (He.ga K "TideError") "__init__") fd) : FnOk P w K mg base CX0 2 (He.ma K (He.ga K "TideError") "__init__") fd ["self", "word", "why"] (sp_miss bVE K) := by
  refine fnok_of F sc_TideError_UinitU (fun vs H Q E h => ?_) (fun cdv A outer s H vs Q E hr h => ?_)
  · obtain ⟨a, C, u, y, rfl, _⟩ := h
    rfl
  · obtain ⟨a, C, u, y, rfl, O, nw, ha, lu, ly, q⟩ := h
    refine ⟨_, (pss_cons (ps_expr (pe_binit bVE_ok bb_ValueError rfl (z_ValueError T) (vi_ValueError T) rfl (pa_cons (pv 0) (pa_cons (pe_joined (.cons (pe_fmt (pv 1)) (.cons pe_str (.cons (pe_fmt (pv 2)) .nil)))) pa_nil))))
      (pss_one (ps_ox (b := bVE) (pv 0) (pv 1)))), ?_⟩
    have l1 : (Str.empty ++ u).length ≤ 0 + 100 := app_le (show Str.empty.length ≤ 0 by decide) lu
    have l2 := app_le l1 (show (": " : Str).length ≤ 2 by decide +kernel)
    have l3 := app_le l2 ly
    refine ⟨_, rfl, _, rfl, .inl ⟨u, rfl, short (show u.length ≤ 100 from lu) (by decide), u, rfl, short l1 (by decide), _, rfl, short l2 (by decide), _, rfl, .inl ⟨y, rfl, short (show y.length ≤ 100 from ly) (by decide), y, rfl, short l3 (by decide), ?_⟩⟩⟩
    refine ⟨a, C, _, rfl, by show 1 ≤ 1000; decide, O, ha, ?_⟩
    exact ⟨_, rfl, _, rfl, a, C, rfl, O, nw, .inl ⟨ha, q⟩⟩
theorem b_TideError {fd : FuncData} (F : FunD K "__init__" "TideError.__init__" (defArgs s_TideError_UinitU) (defBody s_TideError_UinitU) (defScope s_TideError_UinitU) [V.str "TideError", V.str "refused"] [] (He.ma K (He.ga K "TideError") "__init__") fd) : Binds K fd ["self", "word", "why"] [] := by
  obtain ⟨ds, hv, hb⟩ := F.binds1 (ps := ["self", "word", "why"]) 3 2 (by simp) rfl fun T kV doc pm an cdv ct us its h1 h2 => match us, its, h1, h2 with
    | [_, _, _], [_, _], _, _ => ⟨_, rfl, rfl⟩
  have hv : Vals [] ds := hv
  cases hv
  exact hb
theorem mkx_BadPlan (T : Tp K mg) : MkB bVE P w K mg base 3 "BadPlan" (He.ga K "BadPlan") (sp_exc0 K (He.ga K "BadPlan") "BadPlan") := by
  obtain ⟨fd, F⟩ := f_BadPlan_UinitU T
  obtain ⟨fdT, FT⟩ := f_TideError_UinitU T
  have F1 := fn_TideError (P := P) (w := w) (base := base) T FT
  have kp := FT.kp
  have b1 := b_TideError FT
  refine ⟨_, fd, ["self"], oe_BadPlan T, in_BadPlan T, fnok_of F sc_BadPlan_UinitU (fun vs H Q E h => ?_) (fun cdv A outer s H vs Q E hr h => ?_), g_BadPlan T, b_BadPlan_UinitU F⟩
  · obtain ⟨a, rfl, _⟩ := h
    rfl
  · obtain ⟨a, rfl, ha, q⟩ := h
    refine ⟨_, (pss_one (ps_expr (pe_ci (cd_TideError T) rfl (g_TideError T) kp F1 hr (by decide) b1 (pa_cons (pv 0) (pa_cons pe_str (pa_cons pe_str pa_nil)))))), ?_⟩
    refine ⟨_, rfl, a, He.ga K "BadPlan", _, _, rfl, oe_BadPlan T, nf_BadPlan_word T, ha, by decide +kernel, by decide +kernel, fun d nd da => ?_⟩
    refine q d _ nd da (fun b h1 h2 => ?_) upd_same (by rw [upd_ne da]; exact upd_same)
    rw [upd_ne h1, upd_ne h2]
end
end Tw

set_option maxHeartbeats 4000000
namespace Tw
open PySem PySem.Spec PyProof.Rows L2
/-! ### the law's flow of numbers -/
structure Flow (H : Hp) (f c : Addr) : Prop where
  ex : ∃ (ns : List Int) (i r st : Int), H f = some (.lst [.ref c, .int i, .int r, .int st]) ∧ H c = some (.lst (ns.map V.int)) ∧ 0 ≤ i ∧ 0 ≤ r ∧ 0 ≤ st ∧ st < 2147483647
theorem Flow.lst {H : Hp} {f c : Addr} (h : Flow H f c) : ∃ xs, H f = some (.lst xs) := let ⟨_, _, _, _, e, _⟩ := h.ex; ⟨_, e⟩
theorem Flow.cells {H : Hp} {f c : Addr} (h : Flow H f c) : ∃ xs, H c = some (.lst xs) := let ⟨_, _, _, _, _, e, _⟩ := h.ex; ⟨_, e⟩
theorem Flow.keep {H H' : Hp} {f c : Addr} (h : Flow H f c) (h1 : ∀ o, H f = some o → H' f = some o) (h2 : ∀ o, H c = some o → H' c = some o) : Flow H' f c := by
  obtain ⟨ns, i, r, st, e1, e2, e3⟩ := h.ex
  exact ⟨ns, i, r, st, h1 _ e1, h2 _ e2, e3⟩
theorem Flow.same {H H' : Hp} {f c : Addr} (h : Flow H f c) (s : Same H H') : Flow H' f c := h.keep (fun _ e => s _ _ e) (fun _ e => s _ _ e)
theorem Flow.upd {H : Hp} {f c p : Addr} {o : HO} (h : Flow H f c) (n1 : f ≠ p) (n2 : c ≠ p) : Flow (upd H p o) f c := h.keep (fun _ e => by rw [upd_ne n1]; exact e) (fun _ e => by rw [upd_ne n2]; exact e)
theorem flow_ne {H : Hp} {f c : Addr} {i r st : Int} {ns : List Int} (h1 : H f = some (.lst [.ref c, .int i, .int r, .int st])) (h2 : H c = some (.lst (ns.map V.int))) : c ≠ f := by
  refine ne_of h2 h1 fun e => ?_
  have e := HO.lst.inj e
  cases ns with
  | nil => cases e
  | cons x l =>
    have e1 := (List.cons.inj e).1
    cases e1
theorem Flow.put {H : Hp} {f c : Addr} {i r st : Int} {ns : List Int} (h1 : H f = some (.lst [.ref c, .int i, .int r, .int st])) (h2 : H c = some (.lst (ns.map V.int))) {i' r' st' : Int} (a : 0 ≤ i') (b : 0 ≤ r') (d : 0 ≤ st') (e : st' < 2147483647) :
    Flow (L2.upd H f (.lst [.ref c, .int i', .int r', .int st'])) f c := ⟨ns, i', r', st', upd_same, by rw [upd_ne (flow_ne h1 h2)]; exact h2, a, b, d, e⟩
theorem cut_ints (ns : List Int) (lo hi : Option Int) : ∃ ms : List Int, cutV (ns.map V.int) lo hi = ms.map V.int := by
  unfold cutV
  refine ⟨(ns.drop (HT.sIx (ns.map V.int).length 0 lo)).take (HT.sIx (ns.map V.int).length (ns.map V.int).length hi - HT.sIx (ns.map V.int).length 0 lo), ?_⟩
  rw [List.map_take, List.map_drop]
theorem fm_lo (x : Int) {n : Int} (h : 0 < n) : 0 ≤ x.fmod n := by
  rw [Int.fmod_eq_emod_of_nonneg _ (Int.le_of_lt h)]
  exact Int.emod_nonneg _ (Int.ne_of_gt h)
theorem fm_hi (x : Int) {n : Int} (h : 0 < n) : x.fmod n < n := by
  rw [Int.fmod_eq_emod_of_nonneg _ (Int.le_of_lt h)]
  exact Int.emod_lt_of_pos _ h
theorem fd_lo {x n : Int} (hx : 0 ≤ x) (h : 0 < n) : 0 ≤ x.fdiv n := by
  rw [Int.fdiv_eq_ediv_of_nonneg _ (Int.le_of_lt h)]
  exact Int.ediv_nonneg hx (Int.le_of_lt h)
theorem abs_lo (x : Int) : (0 : Int) ≤ if x < 0 then -x else x := by
  split <;> omega
section
variable {P : Program} {w : World} {K : PySem.W.Frag} {mg : Str → Option Value} {base : Heap}
def CDivX (_ j : Int) : Prop := j ≠ 0 ∧ j.natAbs.log2 < 9000
theorem op_fdivX {X : Cx} : OpR X (binaryOp .FloorDiv) (rI CDivX fun i j => .int (i.fdiv j)) := opI fun _ _ _ _ _ _ _ hc q => floordiv_int hc.1 q (.inl (PyProof.noPylong_of_log2 hc.2))
theorem big_log {n : Int} (h1 : n < 1606938044258990275541962092341162602522202993782792835301376) (h0 : 0 < n) : n.natAbs.log2 < 9000 := by
  have h : n.natAbs < 2 ^ 200 := by
    have e : (2 : Nat) ^ 200 = 1606938044258990275541962092341162602522202993782792835301376 := by decide +kernel
    rw [e]
    omega
  exact Nat.lt_trans ((Nat.log2_lt (by omega)).mpr h) (by decide)
def sp_flow (K : PySem.W.Frag) : Sp := fun vs H Q _ => ∃ (a : Addr) (ns : List Int), vs = [.ref a] ∧ SqL K H a (ns.map V.int) ∧ ∀ (f c : Addr) (H' : Hp), Same H H' → H f = none → H c = none → Flow H' f c → Q (.ref f) H'
theorem cal__law_flow (T : Tp K mg) : Cal P w K mg base 2 "_law_flow" (sp_flow K) := by
  obtain ⟨fd, F⟩ := f__law_flow T
  refine cal_of F (g__law_flow T) (b__law_flow F) sc__law_flow (fun vs H Q E h => ?_) (fun cdv A outer s H vs Q E hr h => ?_)
  · obtain ⟨a, ns, rfl, _⟩ := h
    rfl
  · obtain ⟨a, ns, rfl, hS, q⟩ := h
    refine ⟨_, (pss_one (ps_ret (pe_lst (pa_cons (pe_callTy call_list_of (by rfl) (z_list T) bb_list (pa_cons (pe_slice sl_list (pv 0) po_none (po_some pe_int)) pa_nil)) (pa_cons pe_int (pa_cons pe_int (pa_cons pe_int pa_nil))))))), ?_⟩
    refine ⟨_, rfl, 63, rfl, a, _, rfl, hS, fun p np => ?_⟩
    obtain ⟨ms, e⟩ := cut_ints ns none (some 63)
    rw [e]
    have s1 := same_upd (o := .lst (ms.map V.int)) np
    refine ⟨p, _, rfl, .inl (.inl (.inl upd_same)), fun l nl => ?_⟩
    have s2 := same_upd (o := .lst (ms.map V.int)) nl
    refine ⟨by show 4 ≤ sizeLine; decide, fun f nf => ?_⟩
    have s3 := same_upd (o := .lst [.ref l, .int 0, .int 0, .int 11]) nf
    have sa := s1.trans s2
    exact q f l _ (sa.trans s3) (sa.free nf) (s1.free nl) ⟨ms, 0, 0, 11, upd_same, s3 _ _ upd_same, by decide, by decide, by decide, by decide⟩
/-! ### _law_draw -/
def sp_draw : Sp := fun vs H Q _ => ∃ (f c : Addr) (n : Int), vs = [.ref f, .int n] ∧ Flow H f c ∧ 0 < n ∧ n < 1606938044258990275541962092341162602522202993782792835301376 ∧ ∀ (v : Int) (H' : Hp), 0 ≤ v → v < n → Sb f H H' → Flow H' f c → Q (.int v) H'
theorem cal__law_draw (T : Tp K mg) : Cal P w K mg base 2 "_law_draw" sp_draw := by
  obtain ⟨fd, F⟩ := f__law_draw T
  refine cal_of F (g__law_draw T) (b__law_draw F) sc__law_draw (fun vs H Q E h => ?_) (fun cdv A outer s H vs Q E hr h => ?_)
  · obtain ⟨f, c, n, rfl, _⟩ := h
    rfl
  · obtain ⟨f, c, n, rfl, FL, n0, n1, q⟩ := h
    obtain ⟨ns, i, r, st, hf, hc, i0, r0, st0, st1⟩ := FL.ex
    have hn : n ≠ 0 := by omega
    have hdiv : CDivX r n := ⟨hn, big_log n1 n0⟩
    have ncf := flow_ne hf hc
    refine ⟨_, (pss_cons (ps_if (pt_cmpR op_gt (pe_ix ix_list (pv 0) pe_int (fun _ _ => rfl)) pe_int (nomark _)) (pss_cons (ps_set (i := 2) sc__law_draw.nd rfl (.inl rfl) (pe_op op_modN (pe_ix ix_list (pv 0) pe_int (fun _ _ => rfl)) (pv 1)))
        (pss_cons (ps_asg (pe_op op_fdivX (pe_ix ix_list (pv 0) pe_int (fun _ _ => rfl)) (pv 1)) (pg_sub (pv 0) pe_int set_list))
        (pss_one (ps_ret (pv 2))))) pss_nil)
      (pss_cons (ps_set (i := 3) sc__law_draw.nd rfl (.inl rfl) pe_int)
      (C8.pss_cut (ps_if (pt_cmpR op_lt (pe_ix ix_list (pv 0) pe_int (fun _ _ => rfl)) (pe_callB call_len_seq (by rfl) (z_len T) bb_len (pa_cons (pe_ix ix_list (pv 0) pe_int (fun _ _ => rfl)) pa_nil)) (nomark _)) (pss_one (ps_set (i := 3) sc__law_draw.nd rfl (.inl rfl) (pe_ix ix_list (pe_ix ix_list (pv 0) pe_int (fun _ _ => rfl)) (pe_ix ix_list (pv 0) pe_int (fun _ _ => rfl)) (fun _ _ => rfl)))) pss_nil)
      (pss_cons (ps_asg (pe_op op_add (pe_ix ix_list (pv 0) pe_int (fun _ _ => rfl)) pe_int) (pg_sub (pv 0) pe_int set_list))
      (pss_cons (ps_if (pt_cmpR op_ge (pe_callB call_abs (by rfl) (z_abs T) bb_abs (pa_cons (pv 3) pa_nil)) (pe_op op_pow pe_int pe_int) (nomark _)) (pss_cons (ps_asg (pe_op op_fdivX (pe_callB call_abs (by rfl) (z_abs T) bb_abs (pa_cons (pv 3) pa_nil)) (pv 1)) (pg_sub (pv 0) pe_int set_list))
        (pss_one (ps_ret (pe_op op_modN (pe_callB call_abs (by rfl) (z_abs T) bb_abs (pa_cons (pv 3) pa_nil)) (pv 1))))) pss_nil)
      (pss_cons (ps_set (i := 4) sc__law_draw.nd rfl (.inl rfl) (pe_op op_add (pe_op op_add (pe_op op_pow (pe_ix ix_list (pv 0) pe_int (fun _ _ => rfl)) pe_int) (pe_op op_mul (pe_ix ix_list (pv 0) pe_int (fun _ _ => rfl)) pe_int)) (pe_op op_mul (pe_ix ix_list (pv 0) pe_int (fun _ _ => rfl)) pe_int)))
      (pss_cons (ps_set (i := 4) sc__law_draw.nd rfl (.inl rfl) (pe_op op_modN (pe_op op_add (pv 4) (pe_op op_mul (pe_op op_modN (pv 3) pe_int) pe_int)) pe_int))
      (pss_cons (ps_asg (pv 4) (pg_sub (pv 0) pe_int set_list))
      (pss_one (ps_ret (pe_op op_modN (pe_op op_add (pe_op op_fdivN (pv 4) pe_int) (pe_op op_mul (pe_op op_modN (pv 4) pe_int) pe_int)) (pv 1)))))))))))), ?_⟩
    refine ⟨_, rfl, f, _, 2, _, rfl, rfl, .inl (.inl hf), atI_nat (j := 2) rfl, _, _, rfl, rfl, _, rfl, ite2 (fun e => ?_) (fun e => ?_)⟩
    · -- numbers are left of a great one
      refine ⟨_, rfl, f, _, 2, _, rfl, rfl, .inl (.inl hf), atI_nat (j := 2) rfl, _, rfl, _, _, rfl, rfl, hn, ?_⟩
      refine ⟨_, rfl, f, _, 2, _, rfl, rfl, .inl (.inl hf), atI_nat (j := 2) rfl, _, rfl, _, _, rfl, rfl, hdiv, _, rfl, f, _, 2, 2, rfl, rfl, hf, rfl, ?_⟩
      exact ⟨_, rfl, q _ _ (fm_lo _ n0) (fm_hi _ n0) Sb.upd (Flow.put hf hc i0 (fd_lo r0 n0) st0 st1)⟩
    · -- the next cell
      refine ⟨fun σ' H' => H' = H ∧ ∃ x : Int, σ' = [some (.ref f), some (.int n), none, some (.int x), none], ?_, ?_⟩
      · refine ⟨_, rfl, f, _, 1, _, rfl, rfl, .inl (.inl hf), atI_nat (j := 1) rfl, _, rfl, f, _, 0, _, rfl, rfl, .inl (.inl hf), atI_nat (j := 0) rfl, c, _, rfl, .inl (.inl (.inl hc)), _, _, rfl, rfl, _, rfl, ite2 (fun e => ?_) (fun e => ?_)⟩
        · have hi : i < ((ns.map V.int).length : Int) := of_decide_eq_true e
          rw [List.length_map] at hi
          have hj : i.toNat < ns.length := by omega
          refine ⟨_, rfl, f, _, 0, _, rfl, rfl, .inl (.inl hf), atI_nat (j := 0) rfl, _, rfl, f, _, 1, _, rfl, rfl, .inl (.inl hf), atI_nat (j := 1) rfl, c, _, i, .int ns[i.toNat], rfl, rfl, .inl (.inl hc), ?_, rfl, ns[i.toNat], rfl⟩
          refine at_of (j := i.toNat) (by omega) ?_
          rw [List.getElem?_map, List.getElem?_eq_getElem hj]
          rfl
        · exact ⟨rfl, 0, rfl⟩
      · rintro σ' H' ⟨rfl, x, rfl⟩
        -- flow[1] = flow[1] + 1
        refine ⟨_, rfl, f, _, 1, _, rfl, rfl, .inl (.inl hf), atI_nat (j := 1) rfl, _, _, rfl, rfl, _, rfl, f, _, 1, 1, rfl, rfl, hf, rfl, ?_⟩
        have hf1 : (upd H' f (.lst [.ref c, .int (i + 1), .int r, .int st])) f = some (.lst [.ref c, .int (i + 1), .int r, .int st]) := upd_same
        have hc1 : (upd H' f (.lst [.ref c, .int (i + 1), .int r, .int st])) c = some (.lst (ns.map V.int)) := by
          rw [upd_ne ncf]
          exact hc
        have sb1 : Sb f H' (upd H' f (.lst [.ref c, .int (i + 1), .int r, .int st])) := Sb.upd
        have a0 := abs_lo x
        refine ⟨_, rfl, _, rfl, 10, 18, rfl, rfl, ⟨by decide, by decide, by decide⟩, _, _, rfl, rfl, _, rfl, ite2 (fun e => ?_) (fun e => ?_)⟩
        · refine ⟨_, rfl, _, rfl, _, rfl, _, _, rfl, rfl, ⟨hn, big_log n1 n0⟩, _, rfl, f, _, 2, 2, rfl, rfl, hf1, rfl, ?_⟩
          exact ⟨_, rfl, _, rfl, _, rfl, _, _, rfl, rfl, hn, q _ _ (fm_lo _ n0) (fm_hi _ n0) (sb1.trans Sb.upd) (Flow.put hf1 hc1 (by omega) (fd_lo a0 n0) st0 st1)⟩
        · refine ⟨_, rfl, f, _, 3, _, rfl, rfl, .inl (.inl hf1), atI_nat (j := 3) rfl, st, 3, rfl, rfl, ⟨by decide, by decide, by omega⟩, ?_⟩
          refine ⟨_, rfl, f, _, 3, _, rfl, rfl, .inl (.inl hf1), atI_nat (j := 3) rfl, st, 31, rfl, rfl, .inr ⟨by decide, by decide⟩, _, _, rfl, rfl, ?_⟩
          refine ⟨_, rfl, f, _, 1, _, rfl, rfl, .inl (.inl hf1), atI_nat (j := 1) rfl, i + 1, 69621, rfl, rfl, .inr ⟨by decide, by decide⟩, _, _, rfl, rfl, ?_⟩
          refine ⟨_, rfl, _, rfl, x, 2147483629, rfl, rfl, (show (2147483629 : Int) ≠ 0 by decide), _, 48271, rfl, rfl, .inr ⟨by decide, by decide⟩, _, _, rfl, rfl, _, 2147483647, rfl, rfl, (show (2147483647 : Int) ≠ 0 by decide), ?_⟩
          have b0 := fm_lo (st ^ (3 : Int).toNat + st * 31 + (i + 1) * 69621 + x.fmod 2147483629 * 48271) (n := 2147483647) (by decide)
          have b1 := fm_hi (st ^ (3 : Int).toNat + st * 31 + (i + 1) * 69621 + x.fmod 2147483629 * 48271) (n := 2147483647) (by decide)
          refine ⟨_, rfl, _, rfl, f, _, 3, 3, rfl, rfl, hf1, rfl, ?_⟩
          refine ⟨_, rfl, _, 8192, rfl, rfl, ⟨by decide, by decide⟩, _, rfl, _, 8191, rfl, rfl, (show (8191 : Int) ≠ 0 by decide), _, 40503, rfl, rfl, .inr ⟨by decide, by decide⟩, _, _, rfl, rfl, _, rfl, _, n, rfl, rfl, hn, ?_⟩
          exact q _ _ (fm_lo _ n0) (fm_hi _ n0) (sb1.trans Sb.upd) (Flow.put hf1 hc1 (by omega) r0 b0 b1)
/-! ### _law_pick -/
def sp_pick : Sp := fun vs H Q _ => ∃ (f c l : Addr) (xs : List V), vs = [.ref f, .ref l] ∧ Flow H f c ∧ H l = some (.lst xs) ∧ l ≠ f ∧ 0 < xs.length ∧ xs.length ≤ 1000 ∧ ∀ (v : V) (H' : Hp), v ∈ xs → Sb f H H' → Flow H' f c → Q v H'
theorem cal__law_pick (T : Tp K mg) : Cal P w K mg base 3 "_law_pick" sp_pick := by
  obtain ⟨fd, F⟩ := f__law_pick T
  refine cal_of F (g__law_pick T) (b__law_pick F) sc__law_pick (fun vs H Q E h => ?_) (fun cdv A outer s H vs Q E hr h => ?_)
  · obtain ⟨f, c, l, xs, rfl, _⟩ := h
    rfl
  · obtain ⟨f, c, l, xs, rfl, FL, hl, nlf, h0, h1, q⟩ := h
    refine ⟨_, (pss_one (ps_ret (pe_ix ix_list (pv 1) (C8.pe_c (cal__law_draw T) hr (by decide) rfl (pa_cons (pv 0) (pa_cons (pe_callB call_len_seq (by rfl) (z_len T) bb_len (pa_cons (pv 1) pa_nil)) pa_nil))) (fun _ _ => rfl)))), ?_⟩
    refine ⟨_, rfl, _, rfl, _, rfl, l, _, rfl, .inl (.inl (.inl hl)), f, c, _, rfl, FL, by omega, by omega, fun v H1 v0 v1 sb F1 => ?_⟩
    have hv : v.toNat < xs.length := by omega
    exact ⟨l, xs, v, xs[v.toNat], rfl, rfl, .inl (.inl (sb _ _ hl nlf)), at_of (j := v.toNat) (by omega) (List.getElem?_eq_getElem hv), q _ H1 (List.getElem_mem hv) sb F1⟩
end
end Tw

set_option maxHeartbeats 4000000
namespace Tw
open PySem PySem.Spec PyProof.Rows L2
section
variable {P : Program} {w : World} {K : PySem.W.Frag} {mg : Str → Option Value} {base : Heap}
/-! ### _law_whole -/
def sp_lwhole : Sp := fun vs H Q _ => ∃ (v : V) (lo hi : Int), vs = [v, .int lo, .int hi] ∧ (plK v).isSome = true ∧ Q (.bl (whB lo hi v)) H
theorem cal__law_whole (T : Tp K mg) : Cal P w K mg base 2 "_law_whole" sp_lwhole := by
  obtain ⟨fd, F⟩ := f__law_whole T
  refine cal_of F (g__law_whole T) (b__law_whole F) sc__law_whole (fun vs H Q E h => ?_) (fun cdv A outer s H vs Q E hr h => ?_)
  · obtain ⟨v, lo, hi, rfl, _⟩ := h
    rfl
  · obtain ⟨v, lo, hi, rfl, hk, q⟩ := h
    refine ⟨_, (pss_one (ps_ret (pe_and (pe_callB call_isK (by rfl) (z_isinstance T) bb_isinstance (pa_cons (pv 0) (pa_cons (pe_bltn (v := .ty "int") (by rfl) (z_int T) bb_int rfl) pa_nil))) (pe_and (pe_not (pe_callB call_isK (by rfl) (z_isinstance T) bb_isinstance (pa_cons (pv 0) (pa_cons (pe_bltn (v := .ty "bool") (by rfl) (z_bool T) bb_bool rfl) pa_nil)))) (pe_one (pe_chain op_le op_le (pv 1) (pv 0) (pv 2))))))), ?_⟩
    cases v with
    | non => exact ⟨_, rfl, _, "int", "NoneType", rfl, .base .non, by decide, by decide, _, rfl, iteF q⟩
    | bl b => exact ⟨_, rfl, _, "int", "bool", rfl, .base (.bl _), by decide, by decide, _, rfl, iteT ⟨_, rfl, _, "bool", "bool", rfl, .base (.bl _), by decide, by decide, _, rfl, _, rfl, iteF q⟩⟩
    | str z => exact ⟨_, rfl, _, "int", "str", rfl, .base (.str _), by decide, by decide, _, rfl, iteF q⟩
    | byt b => cases hk
    | flt b => cases hk
    | ref b => cases hk
    | ty b => cases hk
    | int i =>
      refine ⟨_, rfl, _, "int", "int", rfl, .base (.int _), by decide, by decide, _, rfl, iteT ⟨_, rfl, _, "bool", "int", rfl, .base (.int _), by decide, by decide, _, rfl, _, rfl, ?_⟩⟩
      refine iteT ⟨_, rfl, _, rfl, _, _, rfl, rfl, _, rfl, ite2 (fun e => ?_) (fun e => ?_)⟩
      · have e1 : lo ≤ i := of_decide_eq_true e
        refine ⟨_, rfl, _, _, rfl, rfl, ?_⟩
        have e2 : decide (lo ≤ i ∧ i ≤ hi) = decide (i ≤ hi) := by simp [e1]
        have q : Q (.bl (decide (lo ≤ i ∧ i ≤ hi))) H := q
        rw [e2] at q
        exact q
      · have e1 : ¬ lo ≤ i := fun z => e (decide_eq_true z)
        have e2 : decide (lo ≤ i ∧ i ≤ hi) = false := by simp [e1]
        have q : Q (.bl (decide (lo ≤ i ∧ i ≤ hi))) H := q
        rw [e2] at q
        exact q
end
end Tw

set_option maxHeartbeats 4000000
namespace Tw
open PySem PySem.Spec PyProof.Rows L2
/-- two values that are the same through and through, at most n deep -/
theorem small8s {n : Nat} (h : n ≤ 8000000) : n < sizeLine := by
  show n < 16777216
  omega
def Sm : Nat → V → V → Hp → Prop
  | 0, _, _, _ => False
  | n + 1, x, y, H => (x = y ∧ flatV x = true) ∨ ∃ (a b : Addr) (xs ys : List V), x = .ref a ∧ y = .ref b ∧ ((H a = some (.lst xs) ∧ H b = some (.lst ys)) ∨ (H a = some (.tup xs) ∧ H b = some (.tup ys))) ∧ xs.length = ys.length ∧ xs.length ≤ 8000000 ∧
    ∀ (i : Nat) (x y : V), xs[i]? = some x → ys[i]? = some y → Sm n x y H
theorem Sm.same {H H' : Hp} (s : Same H H') : ∀ {n : Nat} {x y : V}, Sm n x y H → Sm n x y H'
  | 0, _, _, h => h.elim
  | n + 1, x, y, h => by
    rcases h with h | ⟨a, b, xs, ys, ex, ey, h, hl, hl2, hi⟩
    · exact .inl h
    · refine .inr ⟨a, b, xs, ys, ex, ey, ?_, hl, hl2, fun i x y h1 h2 => Sm.same s (hi i x y h1 h2)⟩
      rcases h with ⟨h1, h2⟩ | ⟨h1, h2⟩
      · exact .inl ⟨s _ _ h1, s _ _ h2⟩
      · exact .inr ⟨s _ _ h1, s _ _ h2⟩
theorem Sm.succ {H : Hp} : ∀ {n : Nat} {x y : V}, Sm n x y H → Sm (n + 1) x y H
  | 0, _, _, h => h.elim
  | n + 1, x, y, h => by
    rcases h with h | ⟨a, b, xs, ys, ex, ey, h, hl, hl2, hi⟩
    · exact .inl h
    · exact .inr ⟨a, b, xs, ys, ex, ey, h, hl, hl2, fun i x y h1 h2 => Sm.succ (hi i x y h1 h2)⟩
theorem Sm.flat {H : Hp} {n : Nat} {x : V} (h : flatV x = true) : Sm (n + 1) x x H := .inl ⟨rfl, h⟩
theorem sm_eq {H : Hp} {n : Nat} {x y : V} (e : x = y) (h : flatV x = true) : Sm (n + 1) x y H := by
  subst e
  exact Sm.flat h
theorem sm_lst {H : Hp} {a b : Addr} {xs ys : List V} {n : Nat} (h1 : H a = some (.lst xs)) (h2 : H b = some (.lst ys)) (hl : xs.length = ys.length) (h0 : xs.length ≤ 1000) (h : ∀ (i : Nat) (x y : V), xs[i]? = some x → ys[i]? = some y → Sm n x y H) : Sm (n + 1) (.ref a) (.ref b) H :=
  .inr ⟨a, b, xs, ys, rfl, rfl, .inl ⟨h1, h2⟩, hl, Nat.le_trans h0 (by decide), h⟩
theorem sm_tup {H : Hp} {a b : Addr} {xs ys : List V} {n : Nat} (h1 : H a = some (.tup xs)) (h2 : H b = some (.tup ys)) (hl : xs.length = ys.length) (h0 : xs.length ≤ 1000) (h : ∀ (i : Nat) (x y : V), xs[i]? = some x → ys[i]? = some y → Sm n x y H) : Sm (n + 1) (.ref a) (.ref b) H :=
  .inr ⟨a, b, xs, ys, rfl, rfl, .inr ⟨h1, h2⟩, hl, Nat.le_trans h0 (by decide), h⟩
theorem sm_flats {H : Hp} {xs : List V} {n : Nat} (hf : xs.all flatV = true) : ∀ (i : Nat) (x y : V), xs[i]? = some x → xs[i]? = some y → Sm (n + 1) x y H := fun i x y h1 h2 => by
  rw [h1] at h2
  cases h2
  exact Sm.flat (List.all_eq_true.mp hf x (List.mem_of_getElem? h1))
theorem sm_strs {H : Hp} {a b : Addr} {l : List Str} {n : Nat} (h1 : H a = some (.lst (l.map V.str))) (h2 : H b = some (.lst (l.map V.str))) (h0 : l.length ≤ 1000) : Sm (n + 2) (.ref a) (.ref b) H :=
  sm_lst h1 h2 rfl (by rw [List.length_map]; exact h0) (sm_flats (flat_strs l))
theorem sm_rows {H : Hp} {a b : Addr} {xs ys : List V} {rs : List (List V)} {n : Nat} (h1 : H a = some (.lst xs)) (h2 : H b = some (.lst ys)) (r1 : Rows H xs rs) (r2 : Rows H ys rs) (h0 : rs.length ≤ 1000) (hf : ∀ r ∈ rs, r.all flatV = true ∧ r.length ≤ 1000) : Sm (n + 3) (.ref a) (.ref b) H := by
  refine sm_lst h1 h2 (by rw [r1.len, r2.len]) (by rw [r1.len]; exact h0) fun i x y hx hy => ?_
  obtain ⟨t, r, rfl, hr, ht⟩ := r1.at hx
  obtain ⟨u, r', rfl, hr', hu⟩ := r2.at hy
  rw [hr] at hr'
  cases hr'
  have hr2 := hf r (List.mem_of_getElem? hr)
  exact sm_tup ht hu rfl hr2.2 (sm_flats hr2.1)
/-- rows, however many -/
theorem sm_rows8 {H : Hp} {a b : Addr} {xs ys : List V} {rs : List (List V)} {n : Nat} (h1 : H a = some (.lst xs)) (h2 : H b = some (.lst ys)) (r1 : Rows H xs rs) (r2 : Rows H ys rs) (h0 : rs.length ≤ 8000000) (hf : ∀ r ∈ rs, r.all flatV = true ∧ r.length ≤ 1000) : Sm (n + 3) (.ref a) (.ref b) H := by
  refine .inr ⟨a, b, xs, ys, rfl, rfl, .inl ⟨h1, h2⟩, by rw [r1.len, r2.len], by rw [r1.len]; exact h0, fun i x y hx hy => ?_⟩
  obtain ⟨t, r, rfl, hr, ht⟩ := r1.at hx
  obtain ⟨u, r', rfl, hr', hu⟩ := r2.at hy
  rw [hr] at hr'
  cases hr'
  have hr2 := hf r (List.mem_of_getElem? hr)
  exact sm_tup ht hu rfl hr2.2 (sm_flats hr2.1)
theorem rIx_of {K : PySem.W.Frag} {H : Hp} {a : Addr} {xs : List V} {i : Int} {v : V} {Q : VK} (h : SqL K H a xs ∨ SqT K H a xs) (e : atI xs i = some v) (q : Q v H) : rIx K (.ref a) (.int i) H Q := by
  rcases h with h | h
  · exact .inl ⟨a, xs, i, v, rfl, rfl, h, e, q⟩
  · exact .inr (.inl ⟨a, xs, i, v, rfl, rfl, h, e, q⟩)
theorem sq_same {K : PySem.W.Frag} {H H' : Hp} {a : Addr} {xs : List V} (s : Same H H') (h : SqL K H a xs ∨ SqT K H a xs) : SqL K H' a xs ∨ SqT K H' a xs := by
  rcases h with h | h
  · exact .inl (s.seq h)
  · refine .inr ?_
    rcases h with (h | ⟨o, h⟩) | h
    · exact .inl (.inl (s _ _ h))
    · exact .inl (.inr ⟨o, s _ _ h⟩)
    · exact .inr h
theorem lenV_of {K : PySem.W.Frag} {H : Hp} {a : Addr} {xs : List V} (h : SqL K H a xs ∨ SqT K H a xs) : LenV K (.ref a) H xs.length := by
  rcases h with h | h
  · exact .inl ⟨xs, h, rfl⟩
  · exact .inr ⟨xs, h, rfl⟩
section
variable {P : Program} {w : World} {K : PySem.W.Frag} {mg : Str → Option Value} {base : Heap}
def sp_same (n : Nat) : Sp := fun vs H Q _ => ∃ x y : V, vs = [x, y] ∧ Sm n x y H ∧ ∀ H', Same H H' → Q (.bl true) H'
theorem cal_same (T : Tp K mg) : ∀ n : Nat, Cal P w K mg base n "_law_same" (sp_same n)
  | 0 => by
    obtain ⟨fd, F⟩ := f__law_same T
    exact ⟨_, fd, ["_law_found", "_law_due"], [], ⟨fun vs H Q E h => by
      obtain ⟨x, y, rfl, _⟩ := h
      rfl, fun A outer s H args us vs Q E _ _ _ _ h => by
      obtain ⟨x, y, rfl, h, _⟩ := h
      exact h.elim⟩, g__law_same T, F.kp, b__law_same F, .nil⟩
  | n + 1 => by
    have ih := cal_same T n
    obtain ⟨fd, F⟩ := f__law_same T
    refine cal_of F (g__law_same T) (b__law_same F) sc__law_same (fun vs H Q E h => ?_) (fun cdv A outer s H vs Q E hr h => ?_)
    · obtain ⟨x, y, rfl, _⟩ := h
      rfl
    · obtain ⟨x, y, rfl, h, q⟩ := h
      refine ⟨_, (pss_cons (ps_if (pt_val (pe_callB call_isK (by rfl) (z_isinstance T) bb_isinstance (pa_cons (pv 1) (pa_cons (pe_bltn (v := .ty "bool") (by rfl) (z_bool T) bb_bool rfl) pa_nil)))) (pss_one (ps_ret (pe_and (pe_callB call_isK (by rfl) (z_isinstance T) bb_isinstance (pa_cons (pv 0) (pa_cons (pe_bltn (v := .ty "bool") (by rfl) (z_bool T) bb_bool rfl) pa_nil))) (pe_one (pe_cmpR op_eq (pv 0) (pv 1) (nomark _)))))) pss_nil)
      (pss_cons (ps_if (pt_cmpR op_isN (pv 1) pe_non (nomark _)) (pss_one (ps_ret (pe_cmpR op_isN (pv 0) pe_non (nomark _)))) pss_nil)
      (pss_cons (ps_if (pt_val (pe_callB call_isK (by rfl) (z_isinstance T) bb_isinstance (pa_cons (pv 1) (pa_cons (pe_bltn (v := .ty "int") (by rfl) (z_int T) bb_int rfl) pa_nil)))) (pss_cons (ps_if (PW.pt (pw_or (pt_val (pe_callB call_isK (by rfl) (z_isinstance T) bb_isinstance (pa_cons (pv 0) (pa_cons (pe_bltn (v := .ty "bool") (by rfl) (z_bool T) bb_bool rfl) pa_nil)))) (pw_or1 (pt_not (pt_val (pe_callB call_isK (by rfl) (z_isinstance T) bb_isinstance (pa_cons (pv 0) (pa_cons (pe_bltn (v := .ty "int") (by rfl) (z_int T) bb_int rfl) pa_nil)))))))) (pss_one (ps_ret pe_bl)) pss_nil)
        (pss_one (ps_ret (pe_cmpR op_eq (pv 0) (pv 1) (nomark _))))) pss_nil)
      (pss_cons (ps_if (pt_val (pe_callB call_isK (by rfl) (z_isinstance T) bb_isinstance (pa_cons (pv 1) (pa_cons (pe_bltn (v := .ty "str") (by rfl) (z_str T) bb_str rfl) pa_nil)))) (pss_one (ps_ret (pe_and (pe_callB call_isK (by rfl) (z_isinstance T) bb_isinstance (pa_cons (pv 0) (pa_cons (pe_bltn (v := .ty "str") (by rfl) (z_str T) bb_str rfl) pa_nil))) (pe_one (pe_cmpR op_eq (pv 0) (pv 1) (nomark _)))))) pss_nil)
      (pss_cons (ps_if (pt_val (pe_callB call_isK (by rfl) (z_isinstance T) bb_isinstance (pa_cons (pv 1) (pa_cons (pe_bltn (v := .ty "dict") (by rfl) (z_dict T) bb_dict rfl) pa_nil)))) pss_never pss_nil)
      (pss_cons (ps_if (PW.pt (pw_and (pt_val (pe_callB call_isK (by rfl) (z_isinstance T) bb_isinstance (pa_cons (pv 1) (pa_cons (pe_bltn (v := .ty "tuple") (by rfl) (z_tuple T) bb_tuple rfl) pa_nil)))) (pw_and1 (pt_not (pt_val (pe_callB call_isK (by rfl) (z_isinstance T) bb_isinstance (pa_cons (pv 0) (pa_cons (pe_bltn (v := .ty "tuple") (by rfl) (z_tuple T) bb_tuple rfl) pa_nil)))))))) (pss_one (ps_ret pe_bl)) pss_nil)
      (pss_cons (ps_if (PW.pt (pw_and (pt_val (pe_callB call_isK (by rfl) (z_isinstance T) bb_isinstance (pa_cons (pv 1) (pa_cons (pe_bltn (v := .ty "list") (by rfl) (z_list T) bb_list rfl) pa_nil)))) (pw_and1 (pt_not (pt_val (pe_callB call_isK (by rfl) (z_isinstance T) bb_isinstance (pa_cons (pv 0) (pa_cons (pe_bltn (v := .ty "list") (by rfl) (z_list T) bb_list rfl) pa_nil)))))))) (pss_one (ps_ret pe_bl)) pss_nil)
      (pss_cons (ps_if (pt_cmpR op_ne (pe_callB call_len (by rfl) (z_len T) bb_len (pa_cons (pv 0) pa_nil)) (pe_callB call_len (by rfl) (z_len T) bb_len (pa_cons (pv 1) pa_nil)) (nomark _)) (pss_one (ps_ret pe_bl)) pss_nil)
      (pss_one (ps_ret (pe_callB (cr_all rfl) (by rfl) (z_all T) bb_all (pa_cons (pe_lc (own := [("_law_k", 3)]) (g := gName 3) (tt := tYes) rfl sc__law_same.nd (pi_range1 rfl (z_range T) (pa_cons (pe_callB call_len (by rfl) (z_len T) bb_len (pa_cons (pv 1) pa_nil)) pa_nil)) (blkOk_by (N := N__law_same) (sc := defScope s__law_same) (by decide +kernel)) (fun _ _ _ _ _ => (pg_name (i := 3) sc__law_same.nd rfl (.inl rfl))) (fun _ _ _ _ _ => pts_nil) (fun _ _ _ _ _ => (C8.pe_c ih hr (Nat.le_refl _) rfl (pa_cons (pe_ix (ix_seqK (K := K) rfl) (pv 0) (pv 3) (fun _ _ => rfl)) (pa_cons (pe_ix (ix_seqK (K := K) rfl) (pv 1) (pv 3) (fun _ _ => rfl)) pa_nil))))) pa_nil)))))))))))), ?_⟩
      rcases h with ⟨e, fl⟩ | ⟨a, b, xs, ys, ex, ey, hk, hl, hl2, hi⟩
      · subst e
        cases x with
        | bl v =>
          refine ⟨_, rfl, _, "bool", "bool", rfl, .base (.bl _), by decide, by decide, _, rfl, iteT ⟨_, rfl, _, "bool", "bool", rfl, .base (.bl _), by decide, by decide, _, rfl, iteT ⟨_, rfl, _, rfl, rfl, ?_⟩⟩⟩
          rw [decide_eq_true rfl]
          exact q H (Same.refl H)
        | non =>
          refine ⟨_, rfl, _, "bool", "NoneType", rfl, .base .non, by decide, by decide, _, rfl, iteF ⟨_, rfl, rfl, _, rfl, ?_⟩⟩
          rw [decide_eq_true rfl]
          refine iteT ⟨_, rfl, rfl, ?_⟩
          exact q H (Same.refl H)
        | int i =>
          refine ⟨_, rfl, _, "bool", "int", rfl, .base (.int _), by decide, by decide, _, rfl, iteF ⟨_, rfl, rfl, _, rfl, ?_⟩⟩
          rw [decide_eq_false (show ¬ V.int i = V.non by intro z; cases z)]
          refine iteF ⟨_, rfl, _, "int", "int", rfl, .base (.int _), by decide, by decide, _, rfl, iteT ⟨_, rfl, _, "bool", "int", rfl, .base (.int _), by decide, by decide, _, rfl, iteF ⟨_, rfl, _, "int", "int", rfl, .base (.int _), by decide, by decide, _, rfl, iteF ⟨_, rfl, _, rfl, rfl, ?_⟩⟩⟩⟩
          rw [decide_eq_true rfl]
          exact q H (Same.refl H)
        | str z =>
          refine ⟨_, rfl, _, "bool", "str", rfl, .base (.str _), by decide, by decide, _, rfl, iteF ⟨_, rfl, rfl, _, rfl, ?_⟩⟩
          rw [decide_eq_false (show ¬ V.str z = V.non by intro z; cases z)]
          refine iteF ⟨_, rfl, _, "int", "str", rfl, .base (.str _), by decide, by decide, _, rfl, iteF ⟨_, rfl, _, "str", "str", rfl, .base (.str _), by decide, by decide, _, rfl, iteT ⟨_, rfl, _, "str", "str", rfl, .base (.str _), by decide, by decide, _, rfl, iteT ⟨_, rfl, _, rfl, rfl, ?_⟩⟩⟩⟩
          rw [decide_eq_true rfl]
          exact q H (Same.refl H)
        | byt _ => cases fl
        | flt _ => cases fl
        | ref _ => cases fl
        | ty _ => cases fl
      · subst ex ey
        have sx : SqL K H a xs ∨ SqT K H a xs := by
          rcases hk with ⟨h1, h2⟩ | ⟨h1, h2⟩
          · exact .inl (.inl (.inl h1))
          · exact .inr (.inl (.inl h1))
        have sy : SqL K H b ys ∨ SqT K H b ys := by
          rcases hk with ⟨h1, h2⟩ | ⟨h1, h2⟩
          · exact .inl (.inl (.inl h2))
          · exact .inr (.inl (.inl h2))
        have nn : ¬ V.ref b = V.non := by intro z; cases z
        rcases hk with ⟨h1, h2⟩ | ⟨h1, h2⟩
        · refine ⟨_, rfl, _, "bool", "list", rfl, .base (.lst h2), by decide, by decide, _, rfl, iteF ⟨_, rfl, rfl, _, rfl, ?_⟩⟩
          rw [decide_eq_false nn]
          refine iteF ⟨_, rfl, _, "int", "list", rfl, .base (.lst h2), by decide, by decide, _, rfl, iteF ⟨_, rfl, _, "str", "list", rfl, .base (.lst h2), by decide, by decide, _, rfl, iteF ⟨_, rfl, _, "dict", "list", rfl, .base (.lst h2), by decide, by decide, _, rfl, iteF
            ⟨_, rfl, _, "tuple", "list", rfl, .base (.lst h2), by decide, by decide, _, rfl, iteF (iteF ⟨_, rfl, _, "list", "list", rfl, .base (.lst h2), by decide, by decide, _, rfl, iteT ⟨_, rfl, _, "list", "list", rfl, .base (.lst h1), by decide, by decide, _, rfl, iteF ?_⟩⟩)⟩⟩⟩⟩
          refine ⟨_, rfl, _, _, rfl, lenV_of sx, _, rfl, _, _, rfl, lenV_of sy, rfl, _, rfl, ?_⟩
          refine iteNS (by rw [hl]) ?_
          refine ⟨_, rfl, _, _, rfl, lenV_of sy, _, rfl, by omega, by omega, fun D nD => ?_⟩
          refine lc_range (lo := 0) (n := ys.length) (fun i H1 => Same H H1 ∧ H1 D = some (.lst ((List.replicate i true).map V.bl))) ⟨same_upd nD, upd_same⟩ ?_ ?_
          · rintro i H1 hi1 ⟨s1, d1⟩
            have hx : i < xs.length := by omega
            refine ⟨rfl, yes_i (iteT ⟨_, rfl, _, rfl, rIx_of (v := xs[i]) (sq_same s1 sx) (at_of (j := i) (by omega) (List.getElem?_eq_getElem hx)) ⟨_, rfl, _, rfl, rIx_of (v := ys[i]) (sq_same s1 sy) (at_of (j := i) (by omega) (List.getElem?_eq_getElem hi1)) ⟨_, _, rfl, (hi i _ _ (List.getElem?_eq_getElem hx) (List.getElem?_eq_getElem hi1)).same s1, fun H2 s2 => ⟨_, s2 _ _ d1, ?_, ?_, ?_⟩⟩⟩⟩)⟩
            · rw [List.length_map, List.length_replicate]
              exact small8s (by omega)
            · exact same_put (s1.trans s2) nD
            · rw [upd_same, List.replicate_succ', List.map_append]
              rfl
          · rintro H1 ⟨s1, d1⟩
            refine ⟨D, _, rfl, .inl (.inl d1), ?_⟩
            rw [show (List.replicate ys.length true).all id = true by simp]
            exact q H1 s1
        · refine ⟨_, rfl, _, "bool", "tuple", rfl, .base (.tup h2), by decide, by decide, _, rfl, iteF ⟨_, rfl, rfl, _, rfl, ?_⟩⟩
          rw [decide_eq_false nn]
          refine iteF ⟨_, rfl, _, "int", "tuple", rfl, .base (.tup h2), by decide, by decide, _, rfl, iteF ⟨_, rfl, _, "str", "tuple", rfl, .base (.tup h2), by decide, by decide, _, rfl, iteF ⟨_, rfl, _, "dict", "tuple", rfl, .base (.tup h2), by decide, by decide, _, rfl, iteF
            ⟨_, rfl, _, "tuple", "tuple", rfl, .base (.tup h2), by decide, by decide, _, rfl, iteT ⟨_, rfl, _, "tuple", "tuple", rfl, .base (.tup h1), by decide, by decide, _, rfl, iteF ⟨_, rfl, _, "list", "tuple", rfl, .base (.tup h2), by decide, by decide, _, rfl, iteF (iteF ?_)⟩⟩⟩⟩⟩⟩
          refine ⟨_, rfl, _, _, rfl, lenV_of sx, _, rfl, _, _, rfl, lenV_of sy, rfl, _, rfl, ?_⟩
          refine iteNS (by rw [hl]) ?_
          refine ⟨_, rfl, _, _, rfl, lenV_of sy, _, rfl, by omega, by omega, fun D nD => ?_⟩
          refine lc_range (lo := 0) (n := ys.length) (fun i H1 => Same H H1 ∧ H1 D = some (.lst ((List.replicate i true).map V.bl))) ⟨same_upd nD, upd_same⟩ ?_ ?_
          · rintro i H1 hi1 ⟨s1, d1⟩
            have hx : i < xs.length := by omega
            refine ⟨rfl, yes_i (iteT ⟨_, rfl, _, rfl, rIx_of (v := xs[i]) (sq_same s1 sx) (at_of (j := i) (by omega) (List.getElem?_eq_getElem hx)) ⟨_, rfl, _, rfl, rIx_of (v := ys[i]) (sq_same s1 sy) (at_of (j := i) (by omega) (List.getElem?_eq_getElem hi1)) ⟨_, _, rfl, (hi i _ _ (List.getElem?_eq_getElem hx) (List.getElem?_eq_getElem hi1)).same s1, fun H2 s2 => ⟨_, s2 _ _ d1, ?_, ?_, ?_⟩⟩⟩⟩)⟩
            · rw [List.length_map, List.length_replicate]
              exact small8s (by omega)
            · exact same_put (s1.trans s2) nD
            · rw [upd_same, List.replicate_succ', List.map_append]
              rfl
          · rintro H1 ⟨s1, d1⟩
            refine ⟨D, _, rfl, .inl (.inl d1), ?_⟩
            rw [show (List.replicate ys.length true).all id = true by simp]
            exact q H1 s1
/-- as it is asked by the laws: data at most six deep -/
theorem cal__law_same (T : Tp K mg) : Cal P w K mg base 7 "_law_same" (sp_same 7) := cal_same T 7
end
end Tw

set_option maxHeartbeats 4000000
/-! xs == [] -/
namespace Tw
open PySem PySem.Spec PyProof.Rows L2
def rEqNil (K : PySem.W.Frag) : R2 := fun x y H Q => ∃ a b xs, x = .ref a ∧ y = .ref b ∧ SqL K H a xs ∧ SqL K H b [] ∧ Q (.bl xs.isEmpty) H
theorem op_eqNil {X : Cx} (hu : X.A.units + 1 < cLine) : OpR X (compareOp .Eq) (rEqNil X.K) := by
  intro pins s σ H x y v u Q I rx ry h
  obtain ⟨a, b, xs, rfl, rfl, ha, hb, q⟩ := h
  cases rx
  cases ry
  obtain ⟨its, r1, l1, _⟩ := I.list ha
  obtain ⟨its2, r2, l2, _⟩ := I.list hb
  cases r2
  have le := r1.length
  match xs, its, r1, le, l1, q with
  | [], [], _, _, l1, q =>
    exact SeqAt.eq_listAt (e := fun _ => true) l1.isList l2.isList rfl (by omega) (fun j h1 _ => absurd h1 (Nat.not_lt_zero _)) ⟨.bl true, H, I, rfl, q⟩
  | _ :: _, _ :: _, _, _, l1, q =>
    refine SeqAt.eq_list_lengthsAt l1.isList l2.isList ?_ (by omega) ⟨.bl false, H, I, rfl, q⟩
    simp
  | [], _ :: _, _, le, _, _ => cases le
  | _ :: _, [], _, le, _, _ => cases le
end Tw

set_option maxHeartbeats 4000000
/-! plans as data: trees of tuples and lists -/
namespace Tw
open PySem PySem.Spec PyProof.Rows L2
inductive Pl where
  | ours (lo hi : Int)
  | wthr (lo hi : Int) (la : Option Int)
  | wthn (n : Int) (p : Pl)
  | many (w : Str) (ps : List Pl)
def Pl.wd : Pl → Str
  | .ours _ _ => "ours"
  | .wthr _ _ _ => "weather"
  | .wthn _ _ => "within"
  | .many w _ => w
def Pl.kids : Pl → List Pl
  | .ours _ _ => []
  | .wthr _ _ _ => []
  | .wthn _ p => [p]
  | .many _ ps => ps
def manyW (w : Str) : Prop := w = "then" ∨ w = "beside" ∨ w = "either"
/-! ### where plans stand -/
mutual
def PlAt (H : Hp) : Pl → V → Prop
  | .ours lo hi, v => ∃ t, v = .ref t ∧ H t = some (.tup [.str "ours", .int lo, .int hi])
  | .wthr lo hi la, v => ∃ t, v = .ref t ∧ H t = some (.tup [.str "weather", .int lo, .int hi, oV la])
  | .wthn n p, v => ∃ t u, v = .ref t ∧ H t = some (.tup [.str "within", .int n, u]) ∧ PlAt H p u
  | .many w ps, v => ∃ t l xs, v = .ref t ∧ H t = some (.tup [.str w, .ref l]) ∧ H l = some (.lst xs) ∧ PlsAt H ps xs
def PlsAt (H : Hp) : List Pl → List V → Prop
  | [], xs => xs = []
  | p :: r, xs => ∃ x ys, xs = x :: ys ∧ PlAt H p x ∧ PlsAt H r ys
end
/-! .. with the places of their lists, each once -/
mutual
def PlF (H : Hp) : Pl → V → List Addr → Prop
  | .ours lo hi, v, ls => ls = [] ∧ ∃ t, v = .ref t ∧ H t = some (.tup [.str "ours", .int lo, .int hi])
  | .wthr lo hi la, v, ls => ls = [] ∧ ∃ t, v = .ref t ∧ H t = some (.tup [.str "weather", .int lo, .int hi, oV la])
  | .wthn n p, v, ls => ∃ t u, v = .ref t ∧ H t = some (.tup [.str "within", .int n, u]) ∧ PlF H p u ls
  | .many w ps, v, ls => ∃ t l xs ms, v = .ref t ∧ H t = some (.tup [.str w, .ref l]) ∧ H l = some (.lst xs) ∧ PlsF H ps xs ms ∧ ls = l :: ms ∧ l ∉ ms
def PlsF (H : Hp) : List Pl → List V → List Addr → Prop
  | [], xs, ls => xs = [] ∧ ls = []
  | p :: r, xs, ls => ∃ x ys ms ns, xs = x :: ys ∧ PlF H p x ms ∧ PlsF H r ys ns ∧ ls = ms ++ ns ∧ ∀ a ∈ ms, a ∉ ns
end
mutual
theorem PlF.at {H : Hp} : ∀ {p : Pl} {v : V} {ls : List Addr}, PlF H p v ls → PlAt H p v
  | .ours _ _, _, _, h => h.2
  | .wthr _ _ _, _, _, h => h.2
  | .wthn _ _, _, _, h => by
    obtain ⟨t, u, h1, h2, h3⟩ := h
    exact ⟨t, u, h1, h2, PlF.at h3⟩
  | .many _ _, _, _, h => by
    obtain ⟨t, l, xs, ms, h1, h2, h3, h4, _⟩ := h
    exact ⟨t, l, xs, h1, h2, h3, PlsF.at h4⟩
theorem PlsF.at {H : Hp} : ∀ {ps : List Pl} {xs : List V} {ls : List Addr}, PlsF H ps xs ls → PlsAt H ps xs
  | [], _, _, h => h.1
  | _ :: _, _, _, h => by
    obtain ⟨x, ys, ms, ns, h1, h2, h3, _⟩ := h
    exact ⟨x, ys, h1, PlF.at h2, PlsF.at h3⟩
end
mutual
theorem PlAt.same {H H' : Hp} (s : Same H H') : ∀ {p : Pl} {v : V}, PlAt H p v → PlAt H' p v
  | .ours _ _, _, h => by
    obtain ⟨t, h1, h2⟩ := h
    exact ⟨t, h1, s _ _ h2⟩
  | .wthr _ _ _, _, h => by
    obtain ⟨t, h1, h2⟩ := h
    exact ⟨t, h1, s _ _ h2⟩
  | .wthn _ _, _, h => by
    obtain ⟨t, u, h1, h2, h3⟩ := h
    exact ⟨t, u, h1, s _ _ h2, PlAt.same s h3⟩
  | .many _ _, _, h => by
    obtain ⟨t, l, xs, h1, h2, h3, h4⟩ := h
    exact ⟨t, l, xs, h1, s _ _ h2, s _ _ h3, PlsAt.same s h4⟩
theorem PlsAt.same {H H' : Hp} (s : Same H H') : ∀ {ps : List Pl} {xs : List V}, PlsAt H ps xs → PlsAt H' ps xs
  | [], _, h => h
  | _ :: _, _, h => by
    obtain ⟨x, ys, h1, h2, h3⟩ := h
    exact ⟨x, ys, h1, PlAt.same s h2, PlsAt.same s h3⟩
end
/-- all stays but at these places -/
def Off (ms : List Addr) (H H' : Hp) : Prop := ∀ b o, H b = some o → b ∉ ms → H' b = some o
theorem Off.of {ms : List Addr} {H H' : Hp} (s : Same H H') : Off ms H H' := fun b o e _ => s b o e
theorem Off.trans {ms : List Addr} {H H1 H2 : Hp} (a : Off ms H H1) (b : Off ms H1 H2) : Off ms H H2 := fun c o e n => b c o (a c o e n) n
theorem Off.mono {ms ns : List Addr} {H H' : Hp} (h : Off ms H H') (s : ∀ a ∈ ms, a ∈ ns) : Off ns H H' := fun b o e n => h b o e fun hm => n (s b hm)
/-- lists stand at these places -/
def Lsts (H : Hp) (ms : List Addr) : Prop := ∀ a ∈ ms, ∃ xs, H a = some (.lst xs)
mutual
theorem PlF.lsts {H : Hp} : ∀ {p : Pl} {v : V} {ls : List Addr}, PlF H p v ls → Lsts H ls
  | .ours _ _, _, _, h => by
    rw [h.1]
    exact fun a ha => nomatch ha
  | .wthr _ _ _, _, _, h => by
    rw [h.1]
    exact fun a ha => nomatch ha
  | .wthn _ _, _, _, h => by
    obtain ⟨t, u, h1, h2, h3⟩ := h
    exact PlF.lsts h3
  | .many _ _, _, _, h => by
    obtain ⟨t, l, xs, ms, h1, h2, h3, h4, rfl, _⟩ := h
    intro a ha
    rcases List.mem_cons.mp ha with rfl | ha
    · exact ⟨_, h3⟩
    · exact PlsF.lsts h4 a ha
theorem PlsF.lsts {H : Hp} : ∀ {ps : List Pl} {xs : List V} {ls : List Addr}, PlsF H ps xs ls → Lsts H ls
  | [], _, _, h => by
    rw [h.2]
    exact fun a ha => nomatch ha
  | _ :: _, _, _, h => by
    obtain ⟨x, ys, ms, ns, h1, h2, h3, rfl, _⟩ := h
    intro a ha
    rcases List.mem_append.mp ha with ha | ha
    · exact PlF.lsts h2 a ha
    · exact PlsF.lsts h3 a ha
end
mutual
theorem PlF.off {H H' : Hp} {ms : List Addr} (o : Off ms H H') (lm : Lsts H ms) : ∀ {p : Pl} {v : V} {ls : List Addr}, PlF H p v ls → (∀ a ∈ ls, a ∉ ms) → PlF H' p v ls
  | .ours _ _, _, _, h, _ => by
    obtain ⟨h0, t, h1, h2⟩ := h
    exact ⟨h0, t, h1, tup_off o lm h2⟩
  | .wthr _ _ _, _, _, h, _ => by
    obtain ⟨h0, t, h1, h2⟩ := h
    exact ⟨h0, t, h1, tup_off o lm h2⟩
  | .wthn _ _, _, _, h, d => by
    obtain ⟨t, u, h1, h2, h3⟩ := h
    exact ⟨t, u, h1, tup_off o lm h2, PlF.off o lm h3 d⟩
  | .many _ _, _, _, h, d => by
    obtain ⟨t, l, xs, ns, h1, h2, h3, h4, rfl, h5⟩ := h
    exact ⟨t, l, xs, ns, h1, tup_off o lm h2, o _ _ h3 (d l List.mem_cons_self), PlsF.off o lm h4 (fun a ha => d a (List.mem_cons_of_mem _ ha)), rfl, h5⟩
theorem PlsF.off {H H' : Hp} {ms : List Addr} (o : Off ms H H') (lm : Lsts H ms) : ∀ {ps : List Pl} {xs : List V} {ls : List Addr}, PlsF H ps xs ls → (∀ a ∈ ls, a ∉ ms) → PlsF H' ps xs ls
  | [], _, _, h, _ => h
  | _ :: _, _, _, h, d => by
    obtain ⟨x, ys, m1, n1, h1, h2, h3, rfl, h4⟩ := h
    exact ⟨x, ys, m1, n1, h1, PlF.off o lm h2 (fun a ha => d a (List.mem_append_left _ ha)), PlsF.off o lm h3 (fun a ha => d a (List.mem_append_right _ ha)), rfl, h4⟩
theorem tup_off {H H' : Hp} {ms : List Addr} (o : Off ms H H') (lm : Lsts H ms) {t : Addr} {xs : List V} (h : H t = some (.tup xs)) : H' t = some (.tup xs) := o _ _ h fun hm => by
  obtain ⟨ys, e⟩ := lm t hm
  rw [h] at e
  cases e
end
theorem PlF.same {H H' : Hp} (s : Same H H') {p : Pl} {v : V} {ls : List Addr} (h : PlF H p v ls) : PlF H' p v ls := PlF.off (ms := []) (Off.of s) (fun a ha => nomatch ha) h fun _ _ z => nomatch z
theorem PlsF.same {H H' : Hp} (s : Same H H') {p : List Pl} {v : List V} {ls : List Addr} (h : PlsF H p v ls) : PlsF H' p v ls := PlsF.off (ms := []) (Off.of s) (fun a ha => nomatch ha) h fun _ _ z => nomatch z
theorem PlsAt.len {H : Hp} : ∀ {ps : List Pl} {xs : List V}, PlsAt H ps xs → xs.length = ps.length
  | [], _, h => by
    have h : _ = [] := h
    rw [h]
    rfl
  | _ :: _, _, h => by
    obtain ⟨x, ys, rfl, _, h3⟩ := h
    rw [List.length_cons, List.length_cons, PlsAt.len h3]
theorem PlsAt.get {H : Hp} : ∀ {ps : List Pl} {xs : List V}, PlsAt H ps xs → ∀ {i : Nat} {x : V} {p : Pl}, xs[i]? = some x → ps[i]? = some p → PlAt H p x
  | [], _, _, _, _, _, _, e => nomatch e
  | q :: r, _, h, i, x, p, ex, ep => by
    obtain ⟨y, ys, rfl, h2, h3⟩ := h
    match i, ex, ep with
    | 0, ex, ep =>
      cases ex
      cases ep
      exact h2
    | i + 1, ex, ep => exact PlsAt.get h3 ex ep
theorem PlsAt.snoc {H : Hp} {p : Pl} {v : V} (hp : PlAt H p v) : ∀ {ps : List Pl} {xs : List V}, PlsAt H ps xs → PlsAt H (ps ++ [p]) (xs ++ [v])
  | [], _, h => by
    have h : _ = [] := h
    rw [h]
    exact ⟨v, [], rfl, hp, rfl⟩
  | _ :: _, _, h => by
    obtain ⟨x, ys, rfl, h2, h3⟩ := h
    exact ⟨x, ys ++ [v], rfl, h2, PlsAt.snoc hp h3⟩
theorem PlsAt.app {H : Hp} {qs : List Pl} {zs : List V} (hq : PlsAt H qs zs) : ∀ {ps : List Pl} {xs : List V}, PlsAt H ps xs → PlsAt H (ps ++ qs) (xs ++ zs)
  | [], _, h => by
    have h : _ = [] := h
    rw [h]
    exact hq
  | _ :: _, _, h => by
    obtain ⟨x, ys, rfl, h2, h3⟩ := h
    exact ⟨x, ys ++ zs, rfl, h2, PlsAt.app hq h3⟩
theorem PlsF.len {H : Hp} {ps : List Pl} {xs : List V} {ls : List Addr} (h : PlsF H ps xs ls) : xs.length = ps.length := h.at.len
theorem PlsF.snoc {H : Hp} {p : Pl} {v : V} {ks : List Addr} (hp : PlF H p v ks) : ∀ {ps : List Pl} {xs : List V} {ls : List Addr}, PlsF H ps xs ls → (∀ a ∈ ls, a ∉ ks) → PlsF H (ps ++ [p]) (xs ++ [v]) (ls ++ ks)
  | [], _, _, h, _ => by
    obtain ⟨rfl, rfl⟩ := h
    exact ⟨v, [], ks, [], rfl, hp, ⟨rfl, rfl⟩, (List.append_nil ks).symm, fun _ _ z => nomatch z⟩
  | _ :: _, _, _, h, d => by
    obtain ⟨x, ys, ms, ns, rfl, h2, h3, rfl, h4⟩ := h
    refine ⟨x, ys ++ [v], ms, ns ++ ks, rfl, h2, PlsF.snoc hp h3 (fun a ha => d a (List.mem_append_right _ ha)), List.append_assoc _ _ _, fun a ha hn => ?_⟩
    rcases List.mem_append.mp hn with hn | hn
    · exact h4 a ha hn
    · exact d a (List.mem_append_left _ ha) hn
theorem PlsF.cons' {H : Hp} {p : Pl} {v : V} {ks : List Addr} {ps : List Pl} {xs : List V} {ls : List Addr} (hp : PlF H p v ks) (h : PlsF H ps xs ls) (d : ∀ a ∈ ks, a ∉ ls) : PlsF H (p :: ps) (v :: xs) (ks ++ ls) := ⟨v, xs, ks, ls, rfl, hp, h, rfl, d⟩
/-! ### counts -/
mutual
def Pl.rc : Pl → Nat
  | .ours _ _ => 1
  | .wthr _ _ _ => 1
  | .wthn _ p => p.rc
  | .many w ps => if w = "either" then rcS ps else rcP ps
def rcS : List Pl → Nat
  | [] => 0
  | p :: r => p.rc + rcS r
def rcP : List Pl → Nat
  | [] => 1
  | p :: r => p.rc * rcP r
end
mutual
def Pl.lc : Pl → Nat
  | .ours _ _ => 1
  | .wthr _ _ _ => 1
  | .wthn _ p => p.lc
  | .many _ ps => lcS ps
def lcS : List Pl → Nat
  | [] => 0
  | p :: r => p.lc + lcS r
end
mutual
def Pl.dp : Pl → Nat
  | .ours _ _ => 1
  | .wthr _ _ _ => 1
  | .wthn _ p => p.dp + 1
  | .many _ ps => dpL ps + 1
def dpL : List Pl → Nat
  | [] => 0
  | p :: r => max p.dp (dpL r)
end
def whI (lo hi i : Int) : Bool := decide (lo ≤ i ∧ i ≤ hi)
def lateO : Option Int → Bool
  | none => true
  | some i => whI 0 1000 i
mutual
/-- numbers in their bounds -/
def Pl.gf : Pl → Bool
  | .ours lo hi => whI 0 1000 lo && whI 0 1000 hi && decide (lo ≤ hi)
  | .wthr lo hi la => whI 1 1000 lo && whI 1 1000 hi && decide (lo ≤ hi) && lateO la
  | .wthn n p => whI 0 1000 n && p.gf
  | .many _ ps => gfL ps
def gfL : List Pl → Bool
  | [] => true
  | p :: r => p.gf && gfL r
end
mutual
/-- words and lengths as they are drawn -/
def Pl.ok : Pl → Prop
  | .ours _ _ => True
  | .wthr _ _ _ => True
  | .wthn _ p => p.ok
  | .many w ps => manyW w ∧ 1 ≤ ps.length ∧ ps.length ≤ 4 ∧ okL ps
def okL : List Pl → Prop
  | [] => True
  | p :: r => p.ok ∧ okL r
end
mutual
/-- words out of these, at most three beside each other, no number beyond -/
def Pl.wi (ws : List Str) (far : Int) : Pl → Prop
  | .ours lo _ => lo ≤ 2 * far
  | .wthr _ hi _ => hi ≤ 2 * far
  | .wthn _ p => p.wi ws far
  | .many w ps => w ∈ ws ∧ ps.length ≤ 3 ∧ wiL ws far ps
def wiL (ws : List Str) (far : Int) : List Pl → Prop
  | [] => True
  | p :: r => p.wi ws far ∧ wiL ws far r
end
theorem wiL_snoc {ws : List Str} {far : Int} : ∀ {ps : List Pl} {p : Pl}, wiL ws far ps → p.wi ws far → wiL ws far (ps ++ [p])
  | [], _, _, h => ⟨h, True.intro⟩
  | _ :: _, _, h, h' => ⟨h.1, wiL_snoc h.2 h'⟩
theorem okL_mem : ∀ {ps : List Pl} {p : Pl}, okL ps → p ∈ ps → p.ok
  | _ :: _, _, h, hm => by
    rcases List.mem_cons.mp hm with rfl | hm
    · exact h.1
    · exact okL_mem h.2 hm
theorem okL_snoc : ∀ {ps : List Pl} {p : Pl}, okL ps → p.ok → okL (ps ++ [p])
  | [], _, _, h => ⟨h, True.intro⟩
  | _ :: _, _, h, h' => ⟨h.1, okL_snoc h.2 h'⟩
theorem dpL_mem : ∀ {ps : List Pl} {p : Pl}, p ∈ ps → p.dp ≤ dpL ps
  | q :: r, _, hm => by
    show _ ≤ max q.dp (dpL r)
    rcases List.mem_cons.mp hm with rfl | hm
    · omega
    · have := dpL_mem hm
      omega
theorem dpL_snoc : ∀ {ps : List Pl} {p : Pl}, dpL (ps ++ [p]) = max (dpL ps) p.dp
  | [], p => by
    show max p.dp 0 = max 0 p.dp
    omega
  | q :: r, p => by
    show max q.dp (dpL (r ++ [p])) = max (max q.dp (dpL r)) p.dp
    rw [dpL_snoc]
    omega
theorem gfL_all : ∀ {ps : List Pl}, gfL ps = ps.all Pl.gf
  | [] => rfl
  | p :: r => by
    show (p.gf && gfL r) = _
    rw [gfL_all, List.all_cons]
theorem rcS_sum : ∀ {ps : List Pl}, (ps.map fun p => (p.rc : Int)).sum = (rcS ps : Int)
  | [] => rfl
  | p :: r => by
    show ((p.rc : Int) :: r.map fun p => (p.rc : Int)).sum = ((p.rc + rcS r : Nat) : Int)
    rw [List.sum_cons, rcS_sum]
    omega
theorem lcS_sum : ∀ {ps : List Pl}, (ps.map fun p => (p.lc : Int)).sum = (lcS ps : Int)
  | [] => rfl
  | p :: r => by
    show ((p.lc : Int) :: r.map fun p => (p.lc : Int)).sum = ((p.lc + lcS r : Nat) : Int)
    rw [List.sum_cons, lcS_sum]
    omega
theorem dp_pos (p : Pl) : 1 ≤ p.dp := by
  cases p with
  | ours a b => exact Nat.le_refl _
  | wthr a b c => exact Nat.le_refl _
  | wthn n p => show 1 ≤ p.dp + 1; omega
  | many w ps => show 1 ≤ dpL ps + 1; omega
theorem dpL_fold : ∀ {ps : List Pl} {n : Nat}, (ps.map fun p => (p.dp : Int)).foldl max (n : Int) = (max n (dpL ps) : Nat)
  | [], n => by
    show (n : Int) = ((max n 0 : Nat) : Int)
    omega
  | p :: r, n => by
    show (r.map fun p => (p.dp : Int)).foldl max (max (n : Int) (p.dp : Int)) = _
    rw [show max (n : Int) (p.dp : Int) = ((max n p.dp : Nat) : Int) by omega, dpL_fold]
    show ((max (max n p.dp) (dpL r) : Nat) : Int) = ((max n (max p.dp (dpL r)) : Nat) : Int)
    omega
/-! ### max(xs, default=d) of a list of ints -/
def rMaxDf (K : PySem.W.Frag) : List V → List V → Hp → VK → Prop := fun vs zs H Q => ∃ (a : Addr) (ns : List Int) (d : Int), vs = [V.ref a] ∧ zs = [.int d] ∧ SqL K H a (ns.map V.int) ∧ (ns = [] → Q (.int d) H) ∧ ∀ y ys, ns = y :: ys → Q (.int (ys.foldl max y)) H
theorem readsInts {h : Heap} : ∀ {its : List Value} {ns : List Int}, IntsAre its ns → ReadsAll h its (ns.map PyData.int) []
  | _, _, .nil => .nil
  | _, _, .cons n t r => .cons (as := []) (bs := []) (.int n t) (readsInts r)
theorem depth_ints : ∀ {ns : List Int}, PyData.depthAll (ns.map PyData.int) ≤ 1
  | [] => by decide
  | n :: r => by
    show max (PyData.depth (.int n)) (PyData.depthAll (r.map PyData.int)) ≤ 1
    have := depth_ints (ns := r)
    have h1 : PyData.depth (.int n) ≤ 1 := by simp [PyData.depth]
    omega
theorem cr_maxDf {X : Cx} (hc : X.calm = true) (hu : X.A.units + 64 < cLine) : CallRK X (.builtin "max") [Str.ofString "default"] (rMaxDf X.K) := by
  intro pins s σ H xs zs us ws Q I r r2 h
  obtain ⟨a, ns, d, rfl, rfl, hs, h0, h1⟩ := h
  obtain ⟨its, rv, hl, _⟩ := I.list hs
  rw [Vals.ref1 r]
  cases r2 with
  | cons e2 t2 =>
    cases t2
    obtain ⟨t, rfl⟩ := e2
    have al : PySem.W.AlikeAll (ns.map PyData.int) := by
      refine ⟨fun x hx y hy => ?_, fun x hx => ?_⟩
      · obtain ⟨i, _, rfl⟩ := List.mem_map.mp hx
        obtain ⟨j, _, rfl⟩ := List.mem_map.mp hy
        rfl
      · obtain ⟨i, _, rfl⟩ := List.mem_map.mp hx
        intro z
        cases z
    have dp := depth_ints (ns := ns)
    refine PySem.W.max_list_default (I.ok.hd hc) hl.isList (readsInts rv.ints) al (by omega) (fun e h' tk hk => ?_) (fun y ys i v h' tk bs e hv rd hk => ?_)
    · exact ⟨.int d, H, I.kept hk, ⟨_, rfl⟩, h0 (List.map_eq_nil_iff.mp e)⟩
    · match ns, e with
      | n :: r, e =>
        injection e with e1 e2
        subst e1 e2
        rw [PySem.W.maxD_ints] at rd
        cases rd
        exact ⟨.int _, H, I.kept hk, ⟨_, rfl⟩, h1 n r rfl⟩
/-! ### xs == [], x *= y -/
def ipM : TIp := fun x y H Q => ∃ i j, x = .int i ∧ y = .int j ∧ CMul i j ∧ Q (.int (i * j)) H
theorem ip_mul {X : Cx} : PIp X .Mult ipM := by
  intro pins s σ H x y v u Q I r1 r2 h
  obtain ⟨i, j, rfl, rfl, c, q⟩ := h
  obtain ⟨t, rfl⟩ := r1
  obtain ⟨t', rfl⟩ := r2
  exact PyProof.Rows.imul_int ⟨.int _, H, I.tok _, ⟨_, rfl⟩, q⟩ c.ok
theorem bb_sum : bootBuiltins "sum" = some (.builtin "sum") := by decide +kernel
theorem bb_divmod : bootBuiltins "divmod" = some (.builtin "divmod") := by decide +kernel
theorem bb_anyP : bootBuiltins "any" = some (.builtin "any") := by decide +kernel
theorem bb_maxP : bootBuiltins "max" = some (.builtin "max") := by decide +kernel
/-! ### readings are few where leaves are -/
theorem two_pow {a b : Nat} (ha : 1 ≤ a) (hb : 1 ≤ b) : 2 ^ a + 2 ^ b ≤ 2 ^ (a + b) := by
  obtain ⟨a', rfl⟩ : ∃ a', a = a' + 1 := ⟨a - 1, by omega⟩
  obtain ⟨b', rfl⟩ : ∃ b', b = b' + 1 := ⟨b - 1, by omega⟩
  rw [Nat.pow_add (2 : Nat) (a' + 1) (b' + 1), show (2 : Nat) ^ (a' + 1) = 2 ^ a' * 2 from Nat.pow_succ _ _, show (2 : Nat) ^ (b' + 1) = 2 ^ b' * 2 from Nat.pow_succ _ _]
  have h1 : 1 ≤ 2 ^ a' := Nat.one_le_two_pow
  have h2 : 1 ≤ 2 ^ b' := Nat.one_le_two_pow
  generalize 2 ^ a' = x at h1 ⊢
  generalize 2 ^ b' = y at h2 ⊢
  obtain ⟨x', rfl⟩ : ∃ x', x = x' + 1 := ⟨x - 1, by omega⟩
  obtain ⟨y', rfl⟩ : ∃ y', y = y' + 1 := ⟨y - 1, by omega⟩
  have e : (x' + 1) * 2 * ((y' + 1) * 2) = 4 * (x' * y') + 4 * x' + 4 * y' + 4 := by
    simp only [Nat.add_mul, Nat.mul_add, Nat.one_mul, Nat.mul_one]
    have : x' * 2 * (y' * 2) = 4 * (x' * y') := by
      rw [Nat.mul_assoc, Nat.mul_comm y' 2, ← Nat.mul_assoc 2, Nat.mul_left_comm]
    omega
  omega
mutual
theorem rc_le : ∀ {p : Pl}, p.ok → p.rc ≤ 2 ^ p.lc ∧ 1 ≤ p.lc
  | .ours _ _, _ => ⟨by show 1 ≤ 2 ^ 1; decide, Nat.le_refl _⟩
  | .wthr _ _ _, _ => ⟨by show 1 ≤ 2 ^ 1; decide, Nat.le_refl _⟩
  | .wthn _ p, h => rc_le (p := p) h
  | .many w ps, h => by
    obtain ⟨h1, h2, h3⟩ := rcL_le (ps := ps) h.2.2.2
    have h4 := h.2.1
    refine ⟨?_, by show 1 ≤ lcS ps; omega⟩
    show (if w = "either" then rcS ps else rcP ps) ≤ 2 ^ lcS ps
    by_cases c : w = "either"
    · rw [if_pos c]
      exact h1
    · rw [if_neg c]
      exact h2
theorem rcL_le : ∀ {ps : List Pl}, okL ps → rcS ps ≤ 2 ^ lcS ps ∧ rcP ps ≤ 2 ^ lcS ps ∧ ps.length ≤ lcS ps
  | [], _ => ⟨by show 0 ≤ 1; decide, by show 1 ≤ 1; decide, Nat.le_refl _⟩
  | p :: r, h => by
    obtain ⟨a1, a2⟩ := rc_le (p := p) h.1
    obtain ⟨b1, b2, b3⟩ := rcL_le (ps := r) h.2
    refine ⟨?_, ?_, by show r.length + 1 ≤ p.lc + lcS r; omega⟩
    · show p.rc + rcS r ≤ 2 ^ (p.lc + lcS r)
      match r, b1, b3 with
      | [], _, _ =>
        show p.rc + 0 ≤ 2 ^ (p.lc + 0)
        omega
      | q :: r', b1, b3 =>
        have b3 : r'.length + 1 ≤ lcS (q :: r') := b3
        have := two_pow a2 (show 1 ≤ lcS (q :: r') by omega)
        omega
    · show p.rc * rcP r ≤ 2 ^ (p.lc + lcS r)
      rw [Nat.pow_add]
      exact Nat.mul_le_mul a1 b2
end
theorem rcP_app : ∀ {ps qs : List Pl}, rcP (ps ++ qs) = rcP ps * rcP qs
  | [], qs => by
    show rcP qs = 1 * rcP qs
    omega
  | p :: r, qs => by
    show p.rc * rcP (r ++ qs) = p.rc * rcP r * rcP qs
    rw [rcP_app, Nat.mul_assoc]
theorem rcP_one {p : Pl} : rcP [p] = p.rc := Nat.mul_one _
theorem lcS_app : ∀ {ps qs : List Pl}, lcS (ps ++ qs) = lcS ps + lcS qs
  | [], qs => by
    show lcS qs = 0 + lcS qs
    omega
  | p :: r, qs => by
    show p.lc + lcS (r ++ qs) = p.lc + lcS r + lcS qs
    rw [lcS_app, Nat.add_assoc]
theorem lcS_mem : ∀ {ps : List Pl} {p : Pl}, p ∈ ps → p.lc ≤ lcS ps
  | q :: r, _, hm => by
    show _ ≤ q.lc + lcS r
    rcases List.mem_cons.mp hm with rfl | hm
    · omega
    · have := lcS_mem hm
      omega
theorem okL_take : ∀ {ps : List Pl} {n : Nat}, okL ps → okL (ps.take n)
  | _, 0, _ => True.intro
  | [], _ + 1, _ => True.intro
  | _ :: _, _ + 1, h => ⟨h.1, okL_take h.2⟩
/-! ### the readings -/
/-- one of each, the first changing last -/
def rowsOf (ws : List (List Pl)) : List (List Pl) := ws.foldl (fun rows w => rows.flatMap fun r => w.map fun x => r ++ [x]) [[]]
mutual
def Pl.ways : Pl → List Pl
  | .ours a b => [.ours a b]
  | .wthr a b c => [.wthr a b c]
  | .wthn n p => p.ways.map (.wthn n)
  | .many w ps => if w = "either" then (wayL ps).flatten else (rowsOf (wayL ps)).map (.many w)
def wayL : List Pl → List (List Pl)
  | [] => []
  | p :: r => p.ways :: wayL r
end
theorem rows_snoc {ws : List (List Pl)} {w : List Pl} : rowsOf (ws ++ [w]) = (rowsOf ws).flatMap fun r => w.map fun x => r ++ [x] := by
  unfold rowsOf
  rw [List.foldl_append]
  rfl
theorem wayL_eq : ∀ {ps : List Pl}, wayL ps = ps.map Pl.ways
  | [] => rfl
  | p :: r => by
    show p.ways :: wayL r = _
    rw [wayL_eq]
    rfl
theorem wayL_app {ps qs : List Pl} : wayL (ps ++ qs) = wayL ps ++ wayL qs := by
  rw [wayL_eq, wayL_eq, wayL_eq, List.map_append]
theorem flat_len {α β γ : Type} {w : List β} {f : α → β → γ} : ∀ {L : List α}, (L.flatMap fun r => w.map (f r)).length = L.length * w.length
  | [] => by simp
  | x :: r => by
    rw [List.flatMap_cons, List.length_append, flat_len, List.length_map, List.length_cons, Nat.succ_mul, Nat.add_comm]
theorem flat_at {α β γ : Type} {w : List β} {f : α → β → γ} (hw : 0 < w.length) : ∀ {L : List α} {i : Nat}, i < L.length * w.length → ∃ a b, L[i / w.length]? = some a ∧ w[i % w.length]? = some b ∧ (L.flatMap fun r => w.map (f r))[i]? = some (f a b)
  | [], i, h => by simp at h
  | x :: r, i, h => by
    rw [List.flatMap_cons]
    by_cases c : i < w.length
    · obtain ⟨b, hb⟩ : ∃ b, w[i]? = some b := ⟨_, List.getElem?_eq_getElem c⟩
      refine ⟨x, b, by rw [Nat.div_eq_of_lt c]; rfl, by rw [Nat.mod_eq_of_lt c]; exact hb, ?_⟩
      rw [List.getElem?_append_left (by rw [List.length_map]; exact c), List.getElem?_map, hb]
      rfl
    · have h' : i - w.length < r.length * w.length := by
        rw [List.length_cons, Nat.succ_mul] at h
        omega
      obtain ⟨a, b, h1, h2, h3⟩ := flat_at hw (L := r) (i := i - w.length) h'
      have e1 : i / w.length = (i - w.length) / w.length + 1 := by
        rw [Nat.div_eq_sub_div hw (by omega)]
      have e2 : i % w.length = (i - w.length) % w.length := by
        rw [Nat.mod_eq_sub_mod (by omega)]
      refine ⟨a, b, by rw [e1]; exact h1, by rw [e2]; exact h2, ?_⟩
      rw [List.getElem?_append_right (by rw [List.length_map]; omega), List.length_map]
      exact h3
mutual
theorem pways_len : ∀ {p : Pl}, p.ways.length = p.rc
  | .ours _ _ => rfl
  | .wthr _ _ _ => rfl
  | .wthn n p => by
    show (p.ways.map (Pl.wthn n)).length = p.rc
    rw [List.length_map, pways_len]
  | .many w ps => by
    obtain ⟨h1, h2⟩ := wayL_len (ps := ps)
    show (if w = "either" then (wayL ps).flatten else (rowsOf (wayL ps)).map (Pl.many w)).length = if w = "either" then rcS ps else rcP ps
    by_cases c : w = "either"
    · rw [if_pos c, if_pos c]
      exact h1
    · rw [if_neg c, if_neg c, List.length_map]
      have h := h2 (acc := [[]])
      rw [show ([[]] : List (List Pl)).length = 1 from rfl, Nat.one_mul] at h
      exact h
theorem wayL_len : ∀ {ps : List Pl}, (wayL ps).flatten.length = rcS ps ∧ ∀ {acc : List (List Pl)}, ((wayL ps).foldl (fun rows w => rows.flatMap fun r => w.map fun x => r ++ [x]) acc).length = acc.length * rcP ps
  | [] => ⟨rfl, fun {acc} => (Nat.mul_one _).symm⟩
  | p :: r => by
    obtain ⟨h1, h2⟩ := wayL_len (ps := r)
    refine ⟨?_, fun {acc} => ?_⟩
    · show (p.ways :: wayL r).flatten.length = p.rc + rcS r
      rw [List.flatten_cons, List.length_append, h1, pways_len]
    · show ((p.ways :: wayL r).foldl _ acc).length = acc.length * (p.rc * rcP r)
      rw [List.foldl_cons, h2, flat_len, pways_len, Nat.mul_assoc]
end
theorem rows_len {ps : List Pl} : (rowsOf (wayL ps)).length = rcP ps := by
  have h := (wayL_len (ps := ps)).2 (acc := [[]])
  rw [show ([[]] : List (List Pl)).length = 1 from rfl, Nat.one_mul] at h
  exact h
/-- the last one's place is what is left over -/
theorem rows_at' {ps : List Pl} {m : Nat} {c : Pl} {i : Nat} {row : List Pl} (ec : ps[m]? = some c) (pos : 0 < c.rc) (h : (rowsOf (wayL (ps.take (m + 1))))[i]? = some row) : ∃ r0 x, (rowsOf (wayL (ps.take m)))[i / c.rc]? = some r0 ∧ c.ways[i % c.rc]? = some x ∧ row = r0 ++ [x] := by
  have e : ps.take (m + 1) = ps.take m ++ [c] := by rw [List.take_add_one, ec]; rfl
  have hi := (List.getElem?_eq_some_iff.mp h).1
  rw [e, wayL_app, show wayL [c] = [c.ways] from rfl, rows_snoc] at h hi
  rw [flat_len] at hi
  have hl : c.ways.length = c.rc := pways_len
  obtain ⟨a, b, h1, h2, h3⟩ := flat_at (f := fun (r : List Pl) (x : Pl) => r ++ [x]) (w := c.ways) (by omega) hi
  rw [hl] at h1 h2
  rw [h3] at h
  cases h
  exact ⟨a, b, h1, h2, rfl⟩
theorem rc_pos : ∀ {p : Pl} {i : Nat} {q : Pl}, p.ways[i]? = some q → 0 < p.rc := fun {p i q} h => by
  have := (List.getElem?_eq_some_iff.mp h).1
  rw [pways_len] at this
  omega
end Tw

set_option maxHeartbeats 4000000
namespace Tw
open PySem PySem.Spec PyProof.Rows L2
/-! plans.py: inner_plans, the counts, is_made of good plans, need_plan -/
section
variable {P : Program} {w : World} {K : PySem.W.Frag} {mg : Str → Option Value} {base : Heap}
/-- what a plan's tuple is, and where its kids stand -/
theorem PlAt.tup {H : Hp} {p : Pl} {v : V} (h : PlAt H p v) : ∃ t r, v = .ref t ∧ H t = some (.tup (.str p.wd :: r)) := by
  cases p with
  | ours a b =>
    obtain ⟨t, h1, h2⟩ := h
    exact ⟨t, _, h1, h2⟩
  | wthr a b c =>
    obtain ⟨t, h1, h2⟩ := h
    exact ⟨t, _, h1, h2⟩
  | wthn n p =>
    obtain ⟨t, u, h1, h2, _⟩ := h
    exact ⟨t, _, h1, h2⟩
  | many w ps =>
    obtain ⟨t, l, xs, h1, h2, _⟩ := h
    exact ⟨t, _, h1, h2⟩
theorem many_no {w : Str} (h : manyW w) : ¬ w = "ours" ∧ ¬ w = "weather" ∧ ¬ w = "within" := by
  rcases h with rfl | rfl | rfl <;> decide +kernel
/-- one of two words -/
theorem two_in {z a b : Str} : inV (.str z) [.str a, .str b] = decide (z = a ∨ z = b) := by
  have := in_strs z [a, b]
  rw [show ([.str a, .str b] : List V) = [a, b].map V.str from rfl, this]
  simp
def leafW (p : Pl) : Bool := decide (p.wd = "ours" ∨ p.wd = "weather")
theorem leaf_ours {a b : Int} : leafW (.ours a b) = true := decide_eq_true (.inl rfl)
theorem leaf_wthr {a b : Int} {c : Option Int} : leafW (.wthr a b c) = true := decide_eq_true (.inr rfl)
theorem leaf_wthn {n : Int} {p : Pl} : leafW (.wthn n p) = false := decide_eq_false (show ¬ (("within" : Str) = "ours" ∨ ("within" : Str) = "weather") by decide +kernel)
theorem leaf_many {w : Str} {ps : List Pl} (h : manyW w) : leafW (.many w ps) = false := by
  have := many_no h
  exact decide_eq_false (by rintro (h | h); exact this.1 h; exact this.2.1 h)
/-- a list of a plan's kids -/
def KidsAt (H : Hp) (D : Addr) (p : Pl) : Prop := ∃ xs, H D = some (.lst xs) ∧ PlsAt H p.kids xs
theorem KidsAt.same {H H' : Hp} {D : Addr} {p : Pl} (h : KidsAt H D p) (s : Same H H') : KidsAt H' D p := by
  obtain ⟨xs, h1, h2⟩ := h
  exact ⟨xs, s _ _ h1, h2.same s⟩
/-! ### inner_plans -/
def sp_inner : Sp := fun vs H Q _ => ∃ (v : V) (p : Pl), vs = [v] ∧ PlAt H p v ∧ p.ok ∧ ∀ (D : Addr) (H' : Hp), Same H H' → H D = none → KidsAt H' D p → Q (.ref D) H'
theorem cal_inner_plans (T : Tp K mg) : Cal P w K mg base 1 "inner_plans" sp_inner := by
  obtain ⟨fd, F⟩ := f_inner_plans T
  refine cal_of F (g_inner_plans T) (b_inner_plans F) sc_inner_plans (fun vs H Q E h => ?_) (fun cdv A outer s H vs Q E hr h => ?_)
  · obtain ⟨v, p, rfl, _⟩ := h
    rfl
  · obtain ⟨v, p, rfl, hp, ok, q⟩ := h
    obtain ⟨t, r, rfl, ht⟩ := hp.tup
    refine ⟨_, (pss_cons (ps_if (pt_cmpR op_in_seq (pe_ix ix_tup (pv 0) pe_int (fun _ _ => rfl)) (pe_tup (pa_cons pe_str (pa_cons pe_str pa_nil))) (by rfl)) (pss_one (ps_ret (pe_lst pa_nil))) pss_nil)
      (pss_one (ps_ret (pe_ifExp (pt_cmpR op_eq (pe_ix ix_tup (pv 0) pe_int (fun _ _ => rfl)) pe_str (nomark _)) (pe_lst (pa_cons (pe_ix ix_tup (pv 0) pe_int (fun _ _ => rfl)) pa_nil)) (pe_callTy call_list_of (by rfl) (z_list T) bb_list (pa_cons (pe_ix ix_tup (pv 0) pe_int (fun _ _ => rfl)) pa_nil)))))), ?_⟩
    refine ⟨_, rfl, t, _, 0, .str p.wd, rfl, rfl, .inl (.inl ht), atI_nat (j := 0) rfl, (by show 2 ≤ sizeLine; decide), fun g ng => ?_⟩
    have sg := same_upd (o := .tup [.str "ours", .str "weather"]) ng
    have ht1 := sg _ _ ht
    have hp1 := hp.same sg
    refine ⟨g, [.str "ours", .str "weather"], rfl, .inr (.inl (.inl upd_same)), rfl, rfl, _, rfl, ?_⟩
    show if inV (.str p.wd) [.str "ours", .str "weather"] = true then _ else _
    rw [two_in, show decide (p.wd = "ours" ∨ p.wd = "weather") = leafW p from rfl]
    generalize upd H g (.tup [.str "ours", .str "weather"]) = H1 at sg ht1 hp1 ⊢
    cases p with
    | ours a b =>
      rw [leaf_ours]
      exact iteT ⟨Nat.zero_le _, fun D nD => q D _ (sg.trans (same_upd nD)) (sg.free nD) ⟨[], upd_same, rfl⟩⟩
    | wthr a b c =>
      rw [leaf_wthr]
      exact iteT ⟨Nat.zero_le _, fun D nD => q D _ (sg.trans (same_upd nD)) (sg.free nD) ⟨[], upd_same, rfl⟩⟩
    | wthn n p =>
      obtain ⟨t', u, e1, h2, h3⟩ := hp1
      cases e1
      rw [h2] at ht1
      rw [leaf_wthn]
      refine iteF ⟨_, rfl, t, _, 0, .str "within", rfl, rfl, .inl (.inl h2), atI_nat (j := 0) rfl, rfl, _, rfl, iteT ⟨_, rfl, t, _, 2, u, rfl, rfl, .inl (.inl h2), atI_nat (j := 2) rfl, (by show 1 ≤ sizeLine; decide), fun D nD => ?_⟩⟩
      have sD := same_upd (o := .lst [u]) nD
      exact q D _ (sg.trans sD) (sg.free nD) ⟨[u], upd_same, u, [], rfl, h3.same sD, rfl⟩
    | many w ps =>
      obtain ⟨t', l, xs, e1, h2, h3, h4⟩ := hp1
      cases e1
      have no := many_no ok.1
      rw [leaf_many ok.1]
      refine iteF ⟨_, rfl, t, _, 0, .str w, rfl, rfl, .inl (.inl h2), atI_nat (j := 0) rfl, rfl, _, rfl, ?_⟩
      rw [decide_eq_false (show ¬ V.str w = V.str "within" from fun e => no.2.2 (V.str.inj e))]
      refine iteF ⟨_, rfl, t, _, 1, .ref l, rfl, rfl, .inl (.inl h2), atI_nat (j := 1) rfl, l, xs, rfl, .inl (.inl (.inl h3)), fun D nD => ?_⟩
      have sD := same_upd (o := .lst xs) nD
      exact q D _ (sg.trans sD) (sg.free nD) ⟨xs, upd_same, h4.same sD⟩
/-! ### part_count -/
theorem kids_dp {p q : Pl} {n : Nat} (h : p.dp ≤ n + 1) (hq : q ∈ p.kids) : q.dp ≤ n := by
  cases p with
  | ours a b => cases hq
  | wthr a b c => cases hq
  | wthn m p =>
    have h : p.dp + 1 ≤ n + 1 := h
    rw [List.mem_singleton.mp hq]
    omega
  | many w ps =>
    have h : dpL ps + 1 ≤ n + 1 := h
    have := dpL_mem (show q ∈ ps from hq)
    omega
theorem kids_ok {p q : Pl} (h : p.ok) (hq : q ∈ p.kids) : q.ok := by
  cases p with
  | ours a b => cases hq
  | wthr a b c => cases hq
  | wthn m p =>
    rw [List.mem_singleton.mp hq]
    exact h
  | many w ps => exact okL_mem h.2.2.2 hq
theorem kids_len {p : Pl} (h : p.ok) : p.kids.length ≤ 4 := by
  cases p with
  | ours a b => show 0 ≤ 4; decide
  | wthr a b c => show 0 ≤ 4; decide
  | wthn m p => show 1 ≤ 4; decide
  | many w ps => exact h.2.2.1
theorem lc_kids {p : Pl} (h : leafW p = false) : p.lc = lcS p.kids := by
  cases p with
  | ours a b => cases h
  | wthr a b c => cases h
  | wthn m p =>
    show p.lc = p.lc + 0
    omega
  | many w ps => rfl
def sp_pcount (n : Nat) : Sp := fun vs H Q _ => ∃ (v : V) (p : Pl), vs = [v] ∧ PlAt H p v ∧ p.ok ∧ p.dp ≤ n ∧ ∀ (H' : Hp), Same H H' → Q (.int (p.lc : Nat)) H'
theorem cal_pcount (T : Tp K mg) : ∀ n : Nat, Cal P w K mg base (n + 1) "part_count" (sp_pcount n)
  | 0 => by
    obtain ⟨fd, F⟩ := f_part_count T
    refine cal_of F (g_part_count T) (b_part_count F) sc_part_count (fun vs H Q E h => ?_) (fun cdv A outer s H vs Q E hr h => ?_)
    · obtain ⟨v, p, rfl, _⟩ := h
      rfl
    · obtain ⟨v, p, _, _, _, d, _⟩ := h
      have := dp_pos p
      omega
  | n + 1 => by
    have ih := cal_pcount T n
    obtain ⟨fd, F⟩ := f_part_count T
    refine cal_of F (g_part_count T) (b_part_count F) sc_part_count (fun vs H Q E h => ?_) (fun cdv A outer s H vs Q E hr h => ?_)
    · obtain ⟨v, p, rfl, _⟩ := h
      rfl
    · obtain ⟨v, p, rfl, hp, ok, d, q⟩ := h
      obtain ⟨t, r, rfl, ht⟩ := hp.tup
      refine ⟨_, (pss_cons (ps_if (pt_cmpR op_in_seq (pe_ix ix_tup (pv 0) pe_int (fun _ _ => rfl)) (pe_tup (pa_cons pe_str (pa_cons pe_str pa_nil))) (by rfl)) (pss_one (ps_ret pe_int)) pss_nil)
      (pss_one (ps_ret (pe_callB (cr_sum rfl) (by rfl) (z_sum T) bb_sum (pa_cons (pe_lc (own := [("part", 1)]) (g := gName 1) (tt := tYes) rfl sc_part_count.nd (pi_list (C8.pe_c (cal_inner_plans T) hr (by omega) rfl (pa_cons (pv 0) pa_nil))) (blkOk_by (N := N_part_count) (sc := defScope s_part_count) (by decide +kernel)) (fun _ _ _ _ _ => (pg_name (i := 1) sc_part_count.nd rfl (.inl rfl))) (fun _ _ _ _ _ => pts_nil) (fun _ _ _ _ _ => (C8.pe_c ih hr (Nat.le_refl _) rfl (pa_cons (pv 1) pa_nil)))) pa_nil))))), ?_⟩
      refine ⟨_, rfl, t, _, 0, .str p.wd, rfl, rfl, .inl (.inl ht), atI_nat (j := 0) rfl, (by show 2 ≤ sizeLine; decide), fun g ng => ?_⟩
      have sg := same_upd (o := .tup [.str "ours", .str "weather"]) ng
      refine ⟨g, [.str "ours", .str "weather"], rfl, .inr (.inl (.inl upd_same)), rfl, rfl, _, rfl, ?_⟩
      show if inV (.str p.wd) [.str "ours", .str "weather"] = true then _ else _
      rw [two_in]
      have hp1 := hp.same sg
      generalize upd H g (.tup [.str "ours", .str "weather"]) = H1 at sg hp1 ⊢
      cases e : leafW p with
      | true =>
        rw [show decide (p.wd = "ours" ∨ p.wd = "weather") = true from e]
        have el : p.lc = 1 := by
          cases p with
          | ours a b => rfl
          | wthr a b c => rfl
          | wthn n p =>
            rw [leaf_wthn] at e
            cases e
          | many w ps =>
            rw [leaf_many ok.1] at e
            cases e
        have h := q H1 sg
        rw [el] at h
        exact iteT h
      | false =>
        rw [show decide (p.wd = "ours" ∨ p.wd = "weather") = false from e]
        refine iteF ⟨_, rfl, _, p, rfl, hp1, ok, fun L H2 s2 nL ⟨xs, hL, KL⟩ => ⟨L, rfl, ⟨_, .inl (.inl hL)⟩, fun D nD => ?_⟩⟩
        have s12 := sg.trans s2
        have lk := kids_len ok
        refine lc_pure p.kids (walk_listN KL.len) (fun c => some (c.lc : Int)) (SV V.int) (fun _ h => h) nD (by omega) (fun H s => .inl (.inl (s _ _ hL))) ?_ ?_
        · rintro i c x H3 _ ec s3 ⟨rfl, hv⟩ Good Bad kt kf
          have hc := KL.get hv ec
          have hm := List.mem_of_getElem? ec
          exact ⟨rfl, yes_i (iteT ⟨_, rfl, x, c, rfl, hc.same s3, kids_ok ok hm, kids_dp d hm, fun H4 s4 => kt _ _ _ rfl s4 rfl⟩)⟩
        · intro H3 acc s3 d3 p3
          have ea := paired_enc p3
          rw [show (p.kids.filterMap fun c => some (c.lc : Int)) = p.kids.map fun c => (c.lc : Int) from List.filterMap_eq_map ▸ rfl] at ea
          subst ea
          refine ⟨D, _, rfl, .inl (.inl d3), ?_⟩
          have h := q H3 (s12.trans s3)
          rw [lc_kids e, ← lcS_sum] at h
          exact h
/-! ### reading_count -/
theorem rc_either {p : Pl} (h : p.wd = "either") (ok : p.ok) : p.rc = rcS p.kids := by
  cases p with
  | ours a b => exact absurd h (by show ¬ ("ours" : Str) = "either"; decide +kernel)
  | wthr a b c => exact absurd h (by show ¬ ("weather" : Str) = "either"; decide +kernel)
  | wthn n p => exact absurd h (by show ¬ ("within" : Str) = "either"; decide +kernel)
  | many w ps =>
    have h : w = "either" := h
    show (if w = "either" then _ else _) = _
    rw [if_pos h]
    rfl
theorem rc_prod {p : Pl} (h : ¬ p.wd = "either") : p.rc = rcP p.kids := by
  cases p with
  | ours a b => rfl
  | wthr a b c => rfl
  | wthn n p =>
    show p.rc = p.rc * 1
    omega
  | many w ps =>
    have h : ¬ w = "either" := h
    show (if w = "either" then _ else _) = _
    rw [if_neg h]
    rfl
theorem kids_lc {p q : Pl} (ok : p.ok) (h : p.lc ≤ 12) (hq : q ∈ p.kids) : q.lc ≤ 12 := by
  cases p with
  | ours a b => cases hq
  | wthr a b c => cases hq
  | wthn m p =>
    rw [List.mem_singleton.mp hq]
    exact h
  | many w ps =>
    have h : lcS ps ≤ 12 := h
    have := lcS_mem (show q ∈ ps from hq)
    omega
theorem pow12 {n : Nat} (h : n ≤ 12) : 2 ^ n ≤ 4096 := Nat.pow_le_pow_right (n := 2) (by decide) h
theorem rc_12 {p : Pl} (ok : p.ok) (h : p.lc ≤ 12) : p.rc ≤ 4096 := Nat.le_trans (rc_le ok).1 (pow12 h)
theorem okL_kids {p : Pl} (h : p.ok) : okL p.kids := by
  cases p with
  | ours a b => exact True.intro
  | wthr a b c => exact True.intro
  | wthn m p => exact ⟨h, True.intro⟩
  | many w ps => exact h.2.2.2
theorem lcS_kids {p : Pl} (h : p.lc ≤ 12) : lcS p.kids ≤ 12 := by
  cases p with
  | ours a b => show 0 ≤ 12; decide
  | wthr a b c => show 0 ≤ 12; decide
  | wthn m p =>
    have h : p.lc ≤ 12 := h
    show p.lc + 0 ≤ 12
    omega
  | many w ps => exact h
theorem rcP_take {ps : List Pl} {i : Nat} (ok : okL ps) (h : lcS ps ≤ 12) : rcP (ps.take i) ≤ 4096 := by
  refine Nat.le_trans (rcL_le (okL_take ok)).2.1 (pow12 ?_)
  have e := lcS_app (ps := ps.take i) (qs := ps.drop i)
  rw [List.take_append_drop] at e
  omega
theorem rcP_step {ps : List Pl} {i : Nat} {c : Pl} (e : ps[i]? = some c) : rcP (ps.take (i + 1)) = rcP (ps.take i) * c.rc := by
  rw [List.take_add_one, e, rcP_app]
  show _ * rcP [c] = _
  rw [rcP_one]
theorem c_mul {i j : Nat} (h : i ≤ 4096) : CMul (i : Int) (j : Int) := .inl ⟨by omega, by omega⟩
def sp_rcount (n : Nat) : Sp := fun vs H Q _ => ∃ (v : V) (p : Pl), vs = [v] ∧ PlAt H p v ∧ p.ok ∧ p.dp ≤ n ∧ p.lc ≤ 12 ∧ ∀ (H' : Hp), Same H H' → Q (.int (p.rc : Nat)) H'
theorem cal_rcount (T : Tp K mg) : ∀ n : Nat, Cal P w K mg base (n + 1) "reading_count" (sp_rcount n)
  | 0 => by
    obtain ⟨fd, F⟩ := f_reading_count T
    refine cal_of F (g_reading_count T) (b_reading_count F) sc_reading_count (fun vs H Q E h => ?_) (fun cdv A outer s H vs Q E hr h => ?_)
    · obtain ⟨v, p, rfl, _⟩ := h
      rfl
    · obtain ⟨v, p, _, _, _, d, _⟩ := h
      have := dp_pos p
      omega
  | n + 1 => by
    have ih := cal_rcount T n
    obtain ⟨fd, F⟩ := f_reading_count T
    refine cal_of F (g_reading_count T) (b_reading_count F) sc_reading_count (fun vs H Q E h => ?_) (fun cdv A outer s H vs Q E hr h => ?_)
    · obtain ⟨v, p, rfl, _⟩ := h
      rfl
    · obtain ⟨v, p, rfl, hp, ok, d, few, q⟩ := h
      refine ⟨_, (pss_cons (ps_setLc (i := 1) (own := [("part", 4)]) (g := gName 4) (tt := tYes) rfl sc_reading_count.nd rfl rfl (sw_true rfl rfl rfl (by decide +kernel)) (pi_list (C8.pe_c (cal_inner_plans T) hr (by omega) rfl (pa_cons (pv 0) pa_nil))) (blkOk_by (N := N_reading_count) (sc := defScope s_reading_count) (by decide +kernel)) (fun _ _ _ _ _ => (pg_name (i := 4) sc_reading_count.nd rfl (.inl rfl))) (fun _ _ _ _ _ => pts_nil) (fun _ _ _ _ _ => (C8.pe_c ih hr (Nat.le_refl _) rfl (pa_cons (pv 4) pa_nil))))
      (pss_cons (ps_if (pt_cmpR op_eq (pe_ix ix_tup (pv 0) pe_int (fun _ _ => rfl)) pe_str (nomark _)) (pss_one (ps_ret (pe_callB (cr_sum rfl) (by rfl) (z_sum T) bb_sum (pa_cons (pv 1) pa_nil)))) pss_nil)
      (pss_cons (ps_set (i := 2) sc_reading_count.nd rfl (.inl rfl) pe_int)
      (pss_cons (ps_for PassesOwn.never rfl (pi_list (pv 1)) (pg_name (i := 3) sc_reading_count.nd rfl (.inl rfl))
        (pss_one (ps_aug (i := 2) sc_reading_count.nd rfl (.inl rfl) (pv 3) ip_mul)))
      (pss_one (ps_ret (pv 2))))))), ?_⟩
      refine ⟨_, rfl, v, p, rfl, hp, ok, fun L H2 s2 nL ⟨xs, hL, KL⟩ => ⟨L, rfl, ⟨_, .inl (.inl hL)⟩, fun D nD => ?_⟩⟩
      have lk := kids_len ok
      refine lc_pure p.kids (walk_listN KL.len) (fun c => some (c.rc : Int)) (SV V.int) (fun _ h => h) nD (by omega) (fun H s => .inl (.inl (s _ _ hL))) ?_ ?_
      · rintro i c x H3 _ ec s3 ⟨rfl, hv⟩ Good Bad kt kf
        have hc := KL.get hv ec
        have hm := List.mem_of_getElem? ec
        exact ⟨rfl, yes_i (iteT ⟨_, rfl, x, c, rfl, hc.same s3, kids_ok ok hm, kids_dp d hm, kids_lc ok few hm, fun H4 s4 => kt _ _ _ rfl s4 rfl⟩)⟩
      · intro H3 acc s3 d3 p3
        have ea := paired_enc p3
        rw [show (p.kids.filterMap fun c => some (c.rc : Int)) = p.kids.map fun c => (c.rc : Int) from List.filterMap_eq_map ▸ rfl] at ea
        subst ea
        have sA := s2.trans s3
        obtain ⟨t, r, rfl, ht⟩ := (hp.same sA).tup
        refine ⟨_, rfl, t, _, 0, .str p.wd, rfl, rfl, .inl (.inl ht), atI_nat (j := 0) rfl, rfl, _, rfl, ?_⟩
        by_cases ce : p.wd = "either"
        · rw [decide_eq_true (show V.str p.wd = V.str "either" by rw [ce])]
          refine iteT ⟨_, rfl, D, _, rfl, .inl (.inl d3), ?_⟩
          have h := q H3 sA
          rw [rc_either ce ok, ← rcS_sum] at h
          exact h
        · rw [decide_eq_false (show ¬ V.str p.wd = V.str "either" from fun e => ce (V.str.inj e))]
          refine iteF ⟨_, rfl, D, rfl, ⟨_, .inl (.inl d3)⟩, for_list (K := K) (a := D) (xs := (p.kids.map fun c => (c.rc : Int)).map V.int) (fun i σ H' => H' = H3 ∧ ∃ y3 y4 : Option V, σ = [some (.ref t), some (.ref D), some (.int (rcP (p.kids.take i) : Nat)), y3, y4]) ⟨rfl, none, none, rfl⟩ (fun i σ H' _ h => by rw [h.1]; exact .inl (.inl d3)) ?_ ?_⟩
          · rintro i x σ H4 hv ⟨rfl, y3, y4, rfl⟩
            have hi : i < p.kids.length := by
              have := (List.getElem?_eq_some_iff.mp hv).1
              rw [List.length_map, List.length_map] at this
              exact this
            obtain ⟨c, ec⟩ : ∃ c, p.kids[i]? = some c := ⟨_, List.getElem?_eq_getElem hi⟩
            rw [List.getElem?_map, List.getElem?_map, ec] at hv
            cases hv
            have em : ((rcP (p.kids.take (i + 1)) : Nat) : Int) = (rcP (p.kids.take i) : Int) * (c.rc : Int) := by
              rw [rcP_step ec]
              exact Int.natCast_mul _ _
            refine ⟨_, rfl, _, rfl, _, _, rfl, rfl, c_mul (rcP_take (okL_kids ok) (lcS_kids few)), rfl, some (.int (c.rc : Nat)), y4, ?_⟩
            rw [em]
            rfl
          · rintro σ H4 ⟨rfl, y3, y4, rfl⟩
            refine ⟨_, rfl, ?_⟩
            have h := q H4 sA
            rw [rc_prod ce] at h
            rw [List.length_map, List.length_map, List.take_length]
            exact h
/-! ### is_made, of good plans -/
def sp_lenP : Sp := fun vs H Q _ => ∃ (lo hi : Int), vs = [.int lo, .int hi] ∧ 1 ≤ lo ∧ lo ≤ hi ∧ hi ≤ 1000 ∧ Q (.bl true) H
theorem cal_lenP (T : Tp K mg) : Cal P w K mg base 3 "are_lengths" sp_lenP := by
  obtain ⟨fd, F⟩ := f_are_lengths T
  refine cal_of F (g_are_lengths T) (b_are_lengths F) sc_are_lengths (fun vs H Q E h => ?_) (fun cdv A outer s H vs Q E hr h => ?_)
  · obtain ⟨lo, hi, rfl, _⟩ := h
    rfl
  · obtain ⟨lo, hi, rfl, h1, h2, h3, q⟩ := h
    refine ⟨_, (pss_one (ps_ret (pe_and (C8.pe_c (cal_is_whole T) hr (by decide) rfl (pa_cons (pv 0) (pa_cons pe_int (pa_cons (C8.pe_gc (by rfl) (c_MOST_LENGTH T)) pa_nil)))) (pe_one (C8.pe_c (cal_is_whole T) hr (by decide) rfl (pa_cons (pv 1) (pa_cons (pv 0) (pa_cons (C8.pe_gc (by rfl) (c_MOST_LENGTH T)) pa_nil)))))))), ?_⟩
    refine ⟨_, rfl, lo, 1, 1000, rfl, _, rfl, ?_⟩
    rw [decide_eq_true (show 1 ≤ lo ∧ lo ≤ 1000 from ⟨h1, by omega⟩)]
    refine iteT ⟨_, rfl, _, rfl, hi, lo, 1000, rfl, ?_⟩
    rw [decide_eq_true (show lo ≤ hi ∧ hi ≤ 1000 from ⟨h2, h3⟩)]
    exact q
def sp_lateP : Sp := fun vs H Q _ => ∃ la : Option Int, vs = [oV la] ∧ lateO la = true ∧ Q (.bl true) H
theorem cal_lateP (T : Tp K mg) : Cal P w K mg base 3 "is_lateness" sp_lateP := by
  obtain ⟨fd, F⟩ := f_is_lateness T
  refine cal_of F (g_is_lateness T) (b_is_lateness F) sc_is_lateness (fun vs H Q E h => ?_) (fun cdv A outer s H vs Q E hr h => ?_)
  · obtain ⟨la, rfl, _⟩ := h
    rfl
  · obtain ⟨la, rfl, h1, q⟩ := h
    refine ⟨_, (pss_one (ps_ret (pe_or (pe_cmpR op_isN (pv 0) pe_non (nomark _)) (pe_one (C8.pe_c (cal_is_whole T) hr (by decide) rfl (pa_cons (pv 0) (pa_cons pe_int (pa_cons (C8.pe_gc (by rfl) (c_MOST_LATE T)) pa_nil)))))))), ?_⟩
    cases la with
    | none =>
      refine ⟨_, rfl, rfl, _, rfl, ?_⟩
      rw [decide_eq_true (show oV none = V.non from rfl)]
      exact iteT q
    | some i =>
      refine ⟨_, rfl, rfl, _, rfl, ?_⟩
      rw [decide_eq_false (show ¬ oV (some i) = V.non from fun z => by cases z)]
      refine iteF ⟨_, rfl, i, 0, 1000, rfl, ?_⟩
      rw [show decide (0 ≤ i ∧ i ≤ 1000) = true from h1]
      exact q
theorem wh_of {lo hi i : Int} (h : whI lo hi i = true) : lo ≤ i ∧ i ≤ hi := of_decide_eq_true h
theorem ne_str {a b : Str} (h : ¬ a = b) : decide (V.str a = V.str b) = false := decide_eq_false fun e => h (V.str.inj e)
theorem eq_str {a : Str} : decide (V.str a = V.str a) = true := decide_eq_true rfl
def sp_madePl (n : Nat) : Sp := fun vs H Q _ => ∃ (v : V) (p : Pl), vs = [v, .int (n : Nat)] ∧ PlAt H p v ∧ p.ok ∧ p.gf = true ∧ p.dp ≤ n ∧ ∀ (H' : Hp), Same H H' → Q (.bl true) H'
theorem cal_made (T : Tp K mg) : ∀ n : Nat, Cal P w K mg base (n + 4) "is_made" (sp_madePl n)
  | 0 => by
    obtain ⟨fd, F⟩ := f_is_made T
    refine cal_of F (g_is_made T) (b_is_made F) sc_is_made (fun vs H Q E h => ?_) (fun cdv A outer s H vs Q E hr h => ?_)
    · obtain ⟨v, p, rfl, _⟩ := h
      rfl
    · obtain ⟨v, p, _, _, _, _, d, _⟩ := h
      have := dp_pos p
      omega
  | n + 1 => by
    have ih := cal_made T n
    obtain ⟨fd, F⟩ := f_is_made T
    refine cal_of F (g_is_made T) (b_is_made F) sc_is_made (fun vs H Q E h => ?_) (fun cdv A outer s H vs Q E hr h => ?_)
    · obtain ⟨v, p, rfl, _⟩ := h
      rfl
    · obtain ⟨v, p, rfl, hp, ok, gf, d, q⟩ := h
      obtain ⟨t, r, rfl, ht⟩ := hp.tup
      have S : SqT K H t (.str p.wd :: r) := .inl (.inl ht)
      refine ⟨_, (pss_cons (ps_if (PW.pt (pw_or (pt_cmpR op_eq (pv 1) pe_int (nomark _)) (pw_or (pt_not (pt_val (pe_callB call_isK (by rfl) (z_isinstance T) bb_isinstance (pa_cons (pv 0) (pa_cons (pe_bltn (v := .ty "tuple") (by rfl) (z_tuple T) bb_tuple rfl) pa_nil))))) (pw_or (pt_cmpR op_eq (pe_callB call_len_seq (by rfl) (z_len T) bb_len (pa_cons (pv 0) pa_nil)) pe_int (nomark _)) (pw_or1 (pt_not (pt_val (pe_callB call_isK (by rfl) (z_isinstance T) bb_isinstance (pa_cons (pe_ix ix_tup (pv 0) pe_int (fun _ _ => rfl)) (pa_cons (pe_bltn (v := .ty "str") (by rfl) (z_str T) bb_str rfl) pa_nil)))))))))) (pss_one (ps_ret pe_bl)) pss_nil)
      (pss_cons (ps_set (i := 2) sc_is_made.nd rfl (.inl rfl) (pe_ix ix_tup (pv 0) pe_int (fun _ _ => rfl)))
      (pss_cons (ps_if (pt_cmpR op_eq (pv 2) pe_str (nomark _)) (pss_one (ps_ret (pe_and (pe_cmpR op_eq (pe_callB call_len_seq (by rfl) (z_len T) bb_len (pa_cons (pv 0) pa_nil)) pe_int (nomark _)) (pe_and (C8.pe_c (cal_is_whole T) hr (by omega) rfl (pa_cons (pe_ix ix_tup (pv 0) pe_int (fun _ _ => rfl)) (pa_cons pe_int (pa_cons (C8.pe_gc (by rfl) (c_MOST_TICKS T)) pa_nil)))) (pe_one (C8.pe_c (cal_is_whole T) hr (by omega) rfl (pa_cons (pe_ix ix_tup (pv 0) pe_int (fun _ _ => rfl)) (pa_cons (pe_ix ix_tup (pv 0) pe_int (fun _ _ => rfl)) (pa_cons (C8.pe_gc (by rfl) (c_MOST_TICKS T)) pa_nil))))))))) pss_nil)
      (pss_cons (ps_if (pt_cmpR op_eq (pv 2) pe_str (nomark _)) (pss_one (ps_ret (pe_and (pe_cmpR op_eq (pe_callB call_len_seq (by rfl) (z_len T) bb_len (pa_cons (pv 0) pa_nil)) pe_int (nomark _)) (pe_and (C8.pe_c (cal_lenP T) hr (by omega) rfl (pa_cons (pe_ix ix_tup (pv 0) pe_int (fun _ _ => rfl)) (pa_cons (pe_ix ix_tup (pv 0) pe_int (fun _ _ => rfl)) pa_nil))) (pe_one (C8.pe_c (cal_lateP T) hr (by omega) rfl (pa_cons (pe_ix ix_tup (pv 0) pe_int (fun _ _ => rfl)) pa_nil))))))) pss_nil)
      (pss_cons (ps_if (pt_cmpR op_eq (pv 2) pe_str (nomark _)) (pss_one (ps_ret (pe_and (pe_cmpR op_eq (pe_callB call_len_seq (by rfl) (z_len T) bb_len (pa_cons (pv 0) pa_nil)) pe_int (nomark _)) (pe_and (C8.pe_c (cal_is_whole T) hr (by omega) rfl (pa_cons (pe_ix ix_tup (pv 0) pe_int (fun _ _ => rfl)) (pa_cons pe_int (pa_cons (C8.pe_gc (by rfl) (c_MOST_TICKS T)) pa_nil)))) (pe_one (C8.pe_c ih hr (Nat.le_refl _) rfl (pa_cons (pe_ix ix_tup (pv 0) pe_int (fun _ _ => rfl)) (pa_cons (pe_op op_sub (pv 1) pe_int) pa_nil)))))))) pss_nil)
      (pss_cons (ps_if (PW.pt (pw_or (pt_cmpR op_notIn_seq (pv 2) (pe_tup (pa_cons pe_str (pa_cons pe_str (pa_cons pe_str pa_nil)))) (by rfl)) (pw_or (pt_cmpR op_ne (pe_callB call_len_seq (by rfl) (z_len T) bb_len (pa_cons (pv 0) pa_nil)) pe_int (nomark _)) (pw_or1 (pt_not (pt_val (pe_callB call_isK (by rfl) (z_isinstance T) bb_isinstance (pa_cons (pe_ix ix_tup (pv 0) pe_int (fun _ _ => rfl)) (pa_cons (pe_bltn (v := .ty "list") (by rfl) (z_list T) bb_list rfl) pa_nil))))))))) (pss_one (ps_ret pe_bl)) pss_nil)
      (pss_one (ps_ret (pe_and (pe_chain op_le op_le pe_int (pe_callB call_len_seq (by rfl) (z_len T) bb_len (pa_cons (pe_ix ix_tup (pv 0) pe_int (fun _ _ => rfl)) pa_nil)) (C8.pe_gc (by rfl) (c_MOST_PLANS T))) (pe_one (pe_callB (cr_all rfl) (by rfl) (z_all T) bb_all (pa_cons (pe_lc (own := [("part", 3)]) (g := gName 3) (tt := tYes) rfl sc_is_made.nd (pi_list (pe_ix ix_tup (pv 0) pe_int (fun _ _ => rfl))) (blkOk_by (N := N_is_made) (sc := defScope s_is_made) (by decide +kernel)) (fun _ _ _ _ _ => (pg_name (i := 3) sc_is_made.nd rfl (.inl rfl))) (fun _ _ _ _ _ => pts_nil) (fun _ _ _ _ _ => (C8.pe_c ih hr (Nat.le_refl _) rfl (pa_cons (pv 3) (pa_cons (pe_op op_sub (pv 1) pe_int) pa_nil))))) pa_nil)))))))))))), ?_⟩
      refine ⟨_, rfl, rfl, _, rfl, ?_⟩
      rw [decide_eq_false (show ¬ V.int ((n + 1 : Nat) : Int) = V.int 0 from fun e => by have e := V.int.inj e; omega)]
      refine iteF ⟨_, rfl, _, "tuple", "tuple", rfl, .base (.tup ht), by decide, by decide, _, rfl, iteF ⟨_, rfl, t, _, rfl, .inr S, rfl, _, rfl, ?_⟩⟩
      rw [decide_eq_false (show ¬ V.int ((V.str p.wd :: r).length : Nat) = V.int 0 from fun e => by have e := V.int.inj e; rw [List.length_cons] at e; omega)]
      refine iteF ⟨_, rfl, t, _, 0, .str p.wd, rfl, rfl, S, atI_nat (j := 0) rfl, _, "str", "str", rfl, .base (.str _), by decide, by decide, _, rfl, iteF ?_⟩
      refine ⟨_, rfl, t, _, 0, .str p.wd, rfl, rfl, S, atI_nat (j := 0) rfl, ?_⟩
      refine ⟨_, rfl, rfl, _, rfl, ?_⟩
      cases p with
      | ours lo hi =>
        obtain ⟨t', e, h2⟩ := hp
        cases e
        have S : SqT K H t [.str "ours", .int lo, .int hi] := .inl (.inl h2)
        have gf : (whI 0 1000 lo && whI 0 1000 hi && decide (lo ≤ hi)) = true := gf
        rw [Bool.and_eq_true, Bool.and_eq_true] at gf
        have g1 := wh_of gf.1.1
        have g2 := wh_of gf.1.2
        have g3 := of_decide_eq_true gf.2
        rw [show decide (V.str (Pl.ours lo hi).wd = V.str "ours") = true from eq_str]
        refine iteT ⟨_, rfl, t, _, rfl, .inr S, rfl, _, rfl, iteT ⟨_, rfl, t, _, 1, .int lo, rfl, rfl, S, atI_nat (j := 1) rfl, lo, 0, 1000, rfl, _, rfl, ?_⟩⟩
        rw [decide_eq_true g1]
        refine iteT ⟨_, rfl, t, _, 2, .int hi, rfl, rfl, S, atI_nat (j := 2) rfl, _, rfl, t, _, 1, .int lo, rfl, rfl, S, atI_nat (j := 1) rfl, hi, lo, 1000, rfl, ?_⟩
        rw [decide_eq_true (show lo ≤ hi ∧ hi ≤ 1000 from ⟨g3, g2.2⟩)]
        exact q H (Same.refl H)
      | wthr lo hi la =>
        obtain ⟨t', e, h2⟩ := hp
        cases e
        have S : SqT K H t [.str "weather", .int lo, .int hi, oV la] := .inl (.inl h2)
        have gf : (whI 1 1000 lo && whI 1 1000 hi && decide (lo ≤ hi) && lateO la) = true := gf
        rw [Bool.and_eq_true, Bool.and_eq_true, Bool.and_eq_true] at gf
        have g1 := wh_of gf.1.1.1
        have g2 := wh_of gf.1.1.2
        have g3 := of_decide_eq_true gf.1.2
        rw [show decide (V.str (Pl.wthr lo hi la).wd = V.str "ours") = false from ne_str (by show ¬ ("weather" : Str) = "ours"; decide +kernel)]
        refine iteF ⟨_, rfl, rfl, _, rfl, ?_⟩
        rw [show decide (V.str (Pl.wthr lo hi la).wd = V.str "weather") = true from eq_str]
        exact iteT ⟨_, rfl, t, _, rfl, .inr S, rfl, _, rfl, iteT ⟨_, rfl, t, _, 1, .int lo, rfl, rfl, S, atI_nat (j := 1) rfl, _, rfl, t, _, 2, .int hi, rfl, rfl, S, atI_nat (j := 2) rfl, lo, hi, rfl, g1.1, g3, g2.2, _, rfl, iteT ⟨_, rfl, t, _, 3, oV la, rfl, rfl, S, atI_nat (j := 3) rfl, la, rfl, gf.2, q H (Same.refl H)⟩⟩⟩
      | wthn m p =>
        obtain ⟨t', u, e, h2, h3⟩ := hp
        cases e
        have S : SqT K H t [.str "within", .int m, u] := .inl (.inl h2)
        have gf : (whI 0 1000 m && p.gf) = true := gf
        rw [Bool.and_eq_true] at gf
        have g1 := wh_of gf.1
        rw [show decide (V.str (Pl.wthn m p).wd = V.str "ours") = false from ne_str (by show ¬ ("within" : Str) = "ours"; decide +kernel)]
        refine iteF ⟨_, rfl, rfl, _, rfl, ?_⟩
        rw [show decide (V.str (Pl.wthn m p).wd = V.str "weather") = false from ne_str (by show ¬ ("within" : Str) = "weather"; decide +kernel)]
        refine iteF ⟨_, rfl, rfl, _, rfl, ?_⟩
        rw [show decide (V.str (Pl.wthn m p).wd = V.str "within") = true from eq_str]
        refine iteT ⟨_, rfl, t, _, rfl, .inr S, rfl, _, rfl, iteT ⟨_, rfl, t, _, 1, .int m, rfl, rfl, S, atI_nat (j := 1) rfl, m, 0, 1000, rfl, _, rfl, ?_⟩⟩
        rw [decide_eq_true g1]
        have d : p.dp + 1 ≤ n + 1 := d
        refine iteT ⟨_, rfl, t, _, 2, u, rfl, rfl, S, atI_nat (j := 2) rfl, _, rfl, _, 1, rfl, rfl, u, p, ?_, h3, ok, gf.2, by omega, q⟩
        show [u, V.int (((n + 1 : Nat) : Int) - 1)] = [u, V.int (n : Nat)]
        rw [show ((n + 1 : Nat) : Int) - 1 = (n : Nat) by omega]
      | many w ps =>
        obtain ⟨t', l, xs, e, h2, h3, h4⟩ := hp
        cases e
        have S : SqT K H t [.str w, .ref l] := .inl (.inl h2)
        have no := many_no ok.1
        have lx := h4.len
        have d : dpL ps + 1 ≤ n + 1 := d
        rw [show decide (V.str (Pl.many w ps).wd = V.str "ours") = false from ne_str no.1]
        refine iteF ⟨_, rfl, rfl, _, rfl, ?_⟩
        rw [show decide (V.str (Pl.many w ps).wd = V.str "weather") = false from ne_str no.2.1]
        refine iteF ⟨_, rfl, rfl, _, rfl, ?_⟩
        rw [show decide (V.str (Pl.many w ps).wd = V.str "within") = false from ne_str no.2.2]
        refine iteF ⟨_, rfl, (by show 3 ≤ sizeLine; decide), fun g ng => ?_⟩
        have sg := same_upd (o := .tup [.str "then", .str "beside", .str "either"]) ng
        refine ⟨g, (["then", "beside", "either"] : List Str).map V.str, rfl, .inr (.inl (.inl upd_same)), rfl, rfl, _, rfl, ?_⟩
        show if (!inV (.str w) ((["then", "beside", "either"] : List Str).map V.str)) = true then _ else _
        rw [in_strs, decide_eq_true (show w ∈ (["then", "beside", "either"] : List Str) by
          simp only [List.mem_cons, List.not_mem_nil, or_false]
          exact ok.1)]
        have S1 : SqT K (upd H g (.tup [.str "then", .str "beside", .str "either"])) t [.str w, .ref l] := .inl (.inl (sg _ _ h2))
        refine iteF ⟨_, rfl, t, _, rfl, .inr S1, rfl, _, rfl, iteF ⟨_, rfl, t, _, 1, .ref l, rfl, rfl, S1, atI_nat (j := 1) rfl, _, "list", "list", rfl, .base (.lst (sg _ _ h3)), by decide, by decide, _, rfl, iteF ?_⟩⟩
        have hl1 := sg _ _ h3
        have h41 := h4.same sg
        generalize upd H g (.tup [.str "then", .str "beside", .str "either"]) = H1 at sg S1 hl1 h41 ⊢
        refine ⟨_, rfl, t, _, 1, .ref l, rfl, rfl, S1, atI_nat (j := 1) rfl, l, xs, rfl, .inl (.inl (.inl hl1)), _, _, rfl, rfl, ?_⟩
        have k1 := ok.2.1
        have k4 := ok.2.2.1
        refine ⟨_, rfl, ?_⟩
        rw [decide_eq_true (show (1 : Int) ≤ (xs.length : Nat) by omega)]
        refine iteT ⟨_, _, rfl, rfl, _, rfl, ?_⟩
        rw [decide_eq_true (show ((xs.length : Nat) : Int) ≤ 4 by omega)]
        refine iteT ⟨_, rfl, t, _, 1, .ref l, rfl, rfl, S1, atI_nat (j := 1) rfl, l, rfl, ⟨_, .inl (.inl hl1)⟩, fun D nD => ?_⟩
        have gfs : ps.all Pl.gf = true := gfL_all ▸ (show gfL ps = true from gf)
        refine lc_pure ps (walk_listN lx) (fun _ => some true) (SV V.bl) (fun _ h => h) nD (by omega) (fun H s => .inl (.inl (s _ _ hl1))) ?_ ?_
        · rintro i c x H3 _ ec s3 ⟨rfl, hv⟩ Good Bad kt kf
          have hc := h41.get hv ec
          have hm := List.mem_of_getElem? ec
          have := dpL_mem hm
          refine ⟨rfl, yes_i (iteT ⟨_, rfl, _, rfl, _, 1, rfl, rfl, x, c, ?_, hc.same s3, okL_mem ok.2.2.2 hm, List.all_eq_true.mp gfs c hm, by omega, fun H4 s4 => kt _ _ _ rfl s4 rfl⟩)⟩
          show [x, V.int (((n + 1 : Nat) : Int) - 1)] = [x, V.int (n : Nat)]
          rw [show ((n + 1 : Nat) : Int) - 1 = (n : Nat) by omega]
        · intro H3 acc s3 d3 p3
          have ea := paired_enc p3
          subst ea
          refine ⟨D, _, rfl, .inl (.inl d3), ?_⟩
          rw [show (List.filterMap (fun _ => some true) ps).all id = true from List.all_eq_true.mpr fun b hb => by
            obtain ⟨a, _, e⟩ := List.mem_filterMap.mp hb
            cases e
            rfl]
          exact q H3 (sg.trans s3)
end
end Tw

set_option maxHeartbeats 4000000
namespace Tw
open PySem PySem.Spec PyProof.Rows L2
/-! plans.py: need_plan of good plans, the readings -/
theorem cut_init : ∀ {xs : List V}, 0 < xs.length → xs.length ≤ 4 → cutV xs none (some (-1)) = xs.dropLast
  | [], h, _ => by simp at h
  | [_], _, _ => rfl
  | [_, _], _, _ => rfl
  | [_, _, _], _, _ => rfl
  | [_, _, _, _], _, _ => rfl
  | _ :: _ :: _ :: _ :: _ :: _, _, h => by simp at h
theorem at_last : ∀ {xs : List V} {x : V}, xs.length ≤ 4 → xs[xs.length - 1]? = some x → atI xs (-1) = some x
  | [], _, _, h => by simp at h
  | [_], _, _, h => h
  | [_, _], _, _, h => h
  | [_, _, _], _, _, h => h
  | [_, _, _, _], _, _, h => h
  | _ :: _ :: _ :: _ :: _ :: _, _, h, _ => by simp at h
theorem drop_at {α : Type} {l : List α} {i : Nat} {x : α} (e : l[i]? = some x) : l.drop i = x :: l.drop (i + 1) := by
  obtain ⟨h, rfl⟩ := List.getElem?_eq_some_iff.mp e
  exact List.drop_eq_getElem_cons h
/-- a new plan: its lists are new -/
def NewPl (H H' : Hp) (q : Pl) (u : V) : Prop := ∃ ls, PlF H' q u ls ∧ ∀ a ∈ ls, H a = none
theorem leaf_new {H : Hp} {p : Pl} {v : V} (h : PlAt H p v) (e : leafW p = true) (ok : p.ok) : PlF H p v [] ∧ p.ways = [p] := by
  cases p with
  | ours a b => exact ⟨⟨rfl, h⟩, rfl⟩
  | wthr a b c => exact ⟨⟨rfl, h⟩, rfl⟩
  | wthn n p =>
    rw [leaf_wthn] at e
    cases e
  | many w ps =>
    rw [leaf_many ok.1] at e
    cases e
section
variable {P : Program} {w : World} {K : PySem.W.Frag} {mg : Str → Option Value} {base : Heap}
def sp_need : Sp := fun vs H Q _ => ∃ (v : V) (p : Pl), vs = [v] ∧ PlAt H p v ∧ p.ok ∧ p.gf = true ∧ p.dp ≤ 6 ∧ p.lc ≤ 12 ∧ p.rc ≤ 64 ∧ ∀ H', Same H H' → Q .non H'
theorem cal_need_plan (T : Tp K mg) : Cal P w K mg base 11 "need_plan" sp_need := by
  obtain ⟨fd, F⟩ := f_need_plan T
  refine cal_of F (g_need_plan T) (b_need_plan F) sc_need_plan (fun vs H Q E h => ?_) (fun cdv A outer s H vs Q E hr h => ?_)
  · obtain ⟨v, p, rfl, _⟩ := h
    rfl
  · obtain ⟨v, p, rfl, hp, ok, gf, dp, lc, rc, q⟩ := h
    refine ⟨_, (pss_one (ps_if (PW.pt (pw_or (pt_not (pt_val (C8.pe_c (cal_made T 6) hr (by decide) rfl (pa_cons (pv 0) (pa_cons (C8.pe_gc (by rfl) (c_MOST_DEPTH T)) pa_nil))))) (pw_or (pt_cmpR op_gt (C8.pe_c (cal_pcount T 6) hr (by decide) rfl (pa_cons (pv 0) pa_nil)) (C8.pe_gc (by rfl) (c_MOST_PARTS T)) (nomark _)) (pw_or1 (pt_cmpR op_gt (C8.pe_c (cal_rcount T 6) hr (by decide) rfl (pa_cons (pv 0) pa_nil)) (C8.pe_gc (by rfl) (c_MOST_READINGS T)) (nomark _)))))) (pss_one ps_never) pss_nil)), ?_⟩
    refine ⟨_, rfl, v, p, rfl, hp, ok, gf, dp, fun H1 s1 => ⟨_, rfl, iteF ?_⟩⟩
    refine ⟨_, rfl, v, p, rfl, hp.same s1, ok, dp, fun H2 s2 => ⟨_, _, rfl, rfl, _, rfl, ?_⟩⟩
    rw [decide_eq_false (show ¬ (12 : Int) < (p.lc : Nat) by omega)]
    refine iteF ⟨_, rfl, v, p, rfl, (hp.same s1).same s2, ok, dp, lc, fun H3 s3 => ⟨_, _, rfl, rfl, _, rfl, ?_⟩⟩
    rw [decide_eq_false (show ¬ (64 : Int) < (p.rc : Nat) by omega)]
    exact iteF (q H3 ((s1.trans s2).trans s3))
/-! ### reading, taken -/
def sp_read (n : Nat) : Sp := fun vs H Q _ => ∃ (v : V) (p q : Pl) (i : Nat), vs = [v, .int (i : Nat)] ∧ PlAt H p v ∧ p.ok ∧ p.dp ≤ n ∧ p.lc ≤ 12 ∧ p.ways[i]? = some q ∧ ∀ (u : V) (H' : Hp), Same H H' → NewPl H H' q u → Q u H'
def sp_taken (n : Nat) : Sp := fun vs H Q _ => ∃ (l : Addr) (xs : List V) (ps : List Pl) (q : Pl) (i : Nat), vs = [.ref l, .int (i : Nat)] ∧ H l = some (.lst xs) ∧ PlsAt H ps xs ∧ okL ps ∧ 1 ≤ ps.length ∧ ps.length ≤ 4 ∧ dpL ps ≤ n ∧ lcS ps ≤ 12 ∧ (wayL ps).flatten[i]? = some q ∧ ∀ (u : V) (H' : Hp), Same H H' → NewPl H H' q u → Q u H'
theorem NewPl.back {H H1 H' : Hp} {q : Pl} {u : V} (h : NewPl H1 H' q u) (s : Same H H1) : NewPl H H' q u := by
  obtain ⟨ls, h1, h2⟩ := h
  exact ⟨ls, h1, fun a ha => s.free (h2 a ha)⟩
theorem cal_taken (T : Tp K mg) {n : Nat} (ih : Cal P w K mg base (2 * n + 2) "reading" (sp_read n)) : Cal P w K mg base (2 * n + 3) "taken" (sp_taken n) := by
  obtain ⟨fd, F⟩ := f_taken T
  refine cal_of F (g_taken T) (b_taken F) sc_taken (fun vs H Q E h => ?_) (fun cdv A outer s H vs Q E hr h => ?_)
  · obtain ⟨l, xs, ps, q, i, rfl, _⟩ := h
    rfl
  · obtain ⟨l, xs, ps, q0, i, rfl, hl, R, ok, l1, l4, dp, lc, ei, q⟩ := h
    have lx := R.len
    refine ⟨_, (pss_cons (ps_for PassesOwn.never rfl (pi_list (pe_slice sl_list (pv 0) po_none (po_some (pe_un un_neg pe_int)))) (pg_name (i := 2) sc_taken.nd rfl (.inl rfl))
        (pss_cons (ps_set (i := 3) sc_taken.nd rfl (.inl rfl) (C8.pe_c (cal_rcount T n) hr (by omega) rfl (pa_cons (pv 2) pa_nil)))
        (pss_cons (ps_if (pt_cmpR op_lt (pv 1) (pv 3) (nomark _)) (pss_one (ps_ret (C8.pe_c ih hr (Nat.le_refl _) rfl (pa_cons (pv 2) (pa_cons (pv 1) pa_nil))))) pss_nil)
        (pss_one (ps_aug (i := 1) sc_taken.nd rfl (.inl rfl) (pv 3) ip_sub)))))
      (pss_one (ps_ret (C8.pe_c ih hr (Nat.le_refl _) rfl (pa_cons (pe_ix ix_list (pv 0) (pe_un un_neg pe_int) (fun _ _ => rfl)) (pa_cons (pv 1) pa_nil)))))), ?_⟩
    refine ⟨_, rfl, _, rfl, _, rfl, l, xs, rfl, .inl (.inl hl), fun k nk => ?_⟩
    rw [cut_init (by omega) (by omega)]
    have sk := same_upd (o := .lst xs.dropLast) nk
    have hk : upd H k (.lst xs.dropLast) k = some (.lst xs.dropLast) := upd_same
    have R1 := R.same sk
    have hl1 := sk _ _ hl
    generalize upd H k (.lst xs.dropLast) = H1 at sk hk R1 hl1 ⊢
    refine ⟨k, rfl, ⟨_, .inl (.inl hk)⟩, for_list (K := K) (a := k) (xs := xs.dropLast) (fun j σ H' => ∃ (at_ : Nat) (y2 y3 : Option V), σ = [some (.ref l), some (.int (at_ : Nat)), y2, y3] ∧ Same H1 H' ∧ (wayL (ps.drop j)).flatten[at_]? = some q0) ⟨i, none, none, rfl, Same.refl _, ei⟩ (fun j σ H' _ ⟨_, _, _, _, s, _⟩ => .inl (.inl (s _ _ hk))) ?_ ?_⟩
    · rintro j x σ H2 hv ⟨at_, y2, y3, rfl, s2, e2⟩
      have hj : j < xs.dropLast.length := (List.getElem?_eq_some_iff.mp hv).1
      rw [List.length_dropLast] at hj
      have hvx : xs[j]? = some x := by
        rw [List.getElem?_dropLast] at hv
        rw [if_pos (by omega)] at hv
        exact hv
      obtain ⟨c, ec⟩ : ∃ c, ps[j]? = some c := ⟨_, List.getElem?_eq_getElem (by omega)⟩
      have hm := List.mem_of_getElem? ec
      have hc := (R1.get hvx ec).same s2
      have cdp := dpL_mem hm
      have clc := lcS_mem hm
      rw [drop_at ec] at e2
      have e2 : (c.ways ++ (wayL (ps.drop (j + 1))).flatten)[at_]? = some q0 := e2
      have hwl : c.ways.length = c.rc := pways_len
      refine ⟨_, rfl, x, c, rfl, hc, okL_mem ok hm, by omega, by omega, fun H3 s3 => ?_⟩
      refine ⟨_, rfl, _, rfl, _, _, rfl, rfl, _, rfl, ?_⟩
      by_cases lt : at_ < c.rc
      · rw [decide_eq_true (show ((at_ : Nat) : Int) < (c.rc : Nat) by omega)]
        rw [List.getElem?_append_left (by omega)] at e2
        have s13 := (sk.trans s2).trans s3
        exact iteT ⟨_, rfl, _, rfl, x, c, q0, at_, rfl, hc.same s3, okL_mem ok hm, by omega, by omega, e2, fun u H4 s4 N => q u H4 (s13.trans s4) (N.back s13)⟩
      · rw [decide_eq_false (show ¬ ((at_ : Nat) : Int) < (c.rc : Nat) by omega)]
        rw [List.getElem?_append_right (by omega), hwl] at e2
        refine iteF ⟨_, rfl, _, rfl, _, _, rfl, rfl, at_ - c.rc, some x, some (.int (c.rc : Nat)), ?_, s2.trans s3, e2⟩
        rw [show ((at_ - c.rc : Nat) : Int) = (at_ : Int) - (c.rc : Int) by omega]
        rfl
    · rintro σ H2 ⟨at_, y2, y3, rfl, s2, e2⟩
      rw [List.length_dropLast] at e2
      obtain ⟨c, ec⟩ : ∃ c, ps[ps.length - 1]? = some c := ⟨_, List.getElem?_eq_getElem (by omega)⟩
      obtain ⟨x, ex⟩ : ∃ x, xs[xs.length - 1]? = some x := ⟨_, List.getElem?_eq_getElem (by omega)⟩
      have hm := List.mem_of_getElem? ec
      have cdp := dpL_mem hm
      have clc := lcS_mem hm
      rw [lx, drop_at ec, show ps.length - 1 + 1 = ps.length by omega, List.drop_length] at e2
      have e2 : (c.ways ++ [])[at_]? = some q0 := e2
      rw [List.append_nil] at e2
      have hc := (R1.get (i := ps.length - 1) (by rw [← lx]; exact ex) ec).same s2
      have s12 := sk.trans s2
      exact ⟨_, rfl, _, rfl, l, xs, -1, x, rfl, rfl, .inl (.inl (s2 _ _ hl1)), at_last (by omega) ex, _, rfl, x, c, q0, at_, rfl, hc, okL_mem ok hm, by omega, by omega, e2, fun u H4 s4 N => q u H4 (s12.trans s4) (N.back s12)⟩
theorem cal_read (T : Tp K mg) : ∀ n : Nat, Cal P w K mg base (2 * n + 2) "reading" (sp_read n)
  | 0 => by
    obtain ⟨fd, F⟩ := f_reading T
    refine cal_of F (g_reading T) (b_reading F) sc_reading (fun vs H Q E h => ?_) (fun cdv A outer s H vs Q E hr h => ?_)
    · obtain ⟨v, p, q, i, rfl, _⟩ := h
      rfl
    · obtain ⟨v, p, q, i, _, _, _, d, _⟩ := h
      have := dp_pos p
      omega
  | n + 1 => by
    have ih := cal_read T n
    have it := cal_taken T ih
    obtain ⟨fd, F⟩ := f_reading T
    refine cal_of F (g_reading T) (b_reading F) sc_reading (fun vs H Q E h => ?_) (fun cdv A outer s H vs Q E hr h => ?_)
    · obtain ⟨v, p, q, i, rfl, _⟩ := h
      rfl
    · obtain ⟨v, p, q0, i, rfl, hp, ok, d, lc, ei, q⟩ := h
      obtain ⟨t, r, rfl, ht⟩ := hp.tup
      refine ⟨_, (pss_cons (ps_set (i := 2) sc_reading.nd rfl (.inl rfl) (pe_ix ix_tup (pv 0) pe_int (fun _ _ => rfl)))
      (pss_cons (ps_if (pt_cmpR op_in_seq (pv 2) (pe_tup (pa_cons pe_str (pa_cons pe_str pa_nil))) (by rfl)) (pss_one (ps_ret (pv 0))) pss_nil)
      (pss_cons (ps_if (pt_cmpR op_eq (pv 2) pe_str (nomark _)) (pss_one (ps_ret (pe_tup (pa_cons (pv 2) (pa_cons (pe_ix ix_tup (pv 0) pe_int (fun _ _ => rfl)) (pa_cons (C8.pe_c ih hr (by omega) rfl (pa_cons (pe_ix ix_tup (pv 0) pe_int (fun _ _ => rfl)) (pa_cons (pv 1) pa_nil))) pa_nil)))))) pss_nil)
      (pss_cons (ps_if (pt_cmpR op_eq (pv 2) pe_str (nomark _)) (pss_one (ps_ret (C8.pe_c it hr (by omega) rfl (pa_cons (pe_ix ix_tup (pv 0) pe_int (fun _ _ => rfl)) (pa_cons (pv 1) pa_nil))))) pss_nil)
      (pss_cons (ps_set (i := 3) sc_reading.nd rfl (.inl rfl) (pe_lst pa_nil))
      (pss_cons (ps_for PassesOwn.never rfl (RT.pi_revA (by rfl) (z_reversed T) (pe_callTy call_list_of (by rfl) (z_list T) bb_list (pa_cons (pe_ix ix_tup (pv 0) pe_int (fun _ _ => rfl)) pa_nil))) (pg_name (i := 4) sc_reading.nd rfl (.inl rfl))
        (pss_cons (ps_asg (pe_callB call_divmod (by rfl) (z_divmod T) bb_divmod (pa_cons (pv 1) (pa_cons (C8.pe_c (cal_rcount T n) hr (by omega) rfl (pa_cons (pv 4) pa_nil)) pa_nil))) (pg_tup rfl (pgs_cons (pg_name (i := 1) sc_reading.nd rfl (.inl rfl)) (pgs_cons (pg_name (i := 5) sc_reading.nd rfl (.inl rfl)) pgs_nil))))
        (pss_one (ps_expr (pe_bm PySem.F.plainAttrs_list PySem.F.slot_list_append PySem.F.type_list_append mt_append (pv 3) (pa_cons (C8.pe_c ih hr (by omega) rfl (pa_cons (pv 4) (pa_cons (pv 5) pa_nil))) pa_nil))))))
      (pss_one (ps_ret (pe_tup (pa_cons (pv 2) (pa_cons (pe_revL (pv 3)) pa_nil))))))))))), ?_⟩
      refine ⟨_, rfl, t, _, 0, .str p.wd, rfl, rfl, .inl (.inl ht), atI_nat (j := 0) rfl, ?_⟩
      refine ⟨_, rfl, (by show 2 ≤ sizeLine; decide), fun g ng => ?_⟩
      have sg := same_upd (o := .tup [.str "ours", .str "weather"]) ng
      refine ⟨g, [.str "ours", .str "weather"], rfl, .inr (.inl (.inl upd_same)), rfl, rfl, _, rfl, ?_⟩
      show if inV (.str p.wd) [.str "ours", .str "weather"] = true then _ else _
      rw [two_in, show decide (p.wd = "ours" ∨ p.wd = "weather") = leafW p from rfl]
      have hp1 := hp.same sg
      generalize upd H g (.tup [.str "ours", .str "weather"]) = H1 at sg hp1 ⊢
      cases e : leafW p with
      | true =>
        obtain ⟨h1, h2⟩ := leaf_new hp1 e ok
        rw [h2] at ei
        have e0 : i = 0 := by
          have := (List.getElem?_eq_some_iff.mp ei).1
          simp at this
          exact this
        subst e0
        cases ei
        exact iteT ⟨_, rfl, q _ H1 sg ⟨[], h1, fun a ha => nomatch ha⟩⟩
      | false =>
        refine iteF ⟨_, rfl, rfl, _, rfl, ?_⟩
        cases p with
        | ours a b =>
          rw [leaf_ours] at e
          cases e
        | wthr a b c =>
          rw [leaf_wthr] at e
          cases e
        | wthn m p =>
          obtain ⟨t', u, e1, h2, h3⟩ := hp1
          cases e1
          have d : p.dp + 1 ≤ n + 1 := d
          rw [show decide (V.str (Pl.wthn m p).wd = V.str "within") = true from eq_str]
          obtain ⟨q1, e2, e3⟩ := Option.map_eq_some_iff.mp (show (p.ways[i]?).map (Pl.wthn m) = some q0 by rw [← List.getElem?_map]; exact ei)
          subst e3
          refine iteT ⟨_, rfl, _, rfl, t, _, 1, .int m, rfl, rfl, .inl (.inl h2), atI_nat (j := 1) rfl, _, rfl, t, _, 2, u, rfl, rfl, .inl (.inl h2), atI_nat (j := 2) rfl, _, rfl, u, p, q1, i, rfl, h3, ok, by omega, lc, e2, fun x H2 s2 N => ⟨(by show 3 ≤ sizeLine; decide), fun t2 nt2 => ?_⟩⟩
          obtain ⟨ls, N1, N2⟩ := N
          have st := same_upd (o := .tup [.str "within", .int m, x]) nt2
          exact q _ _ ((sg.trans s2).trans st) ⟨ls, ⟨t2, x, rfl, upd_same, N1.same st⟩, fun a ha => sg.free (N2 a ha)⟩
        | many w ps =>
          obtain ⟨t', l, xs, e1, h2, h3, h4⟩ := hp1
          cases e1
          have d : dpL ps + 1 ≤ n + 1 := d
          have lc : lcS ps ≤ 12 := lc
          have no := many_no ok.1
          have lx := h4.len
          have l1 := ok.2.1
          have l4 := ok.2.2.1
          rw [show decide (V.str (Pl.many w ps).wd = V.str "within") = false from ne_str no.2.2]
          refine iteF ⟨_, rfl, rfl, _, rfl, ?_⟩
          have ei : (if w = "either" then (wayL ps).flatten else (rowsOf (wayL ps)).map (Pl.many w))[i]? = some q0 := ei
          by_cases ce : w = "either"
          · rw [if_pos ce] at ei
            rw [show decide (V.str (Pl.many w ps).wd = V.str "either") = true from decide_eq_true (by show V.str w = _; rw [ce])]
            exact iteT ⟨_, rfl, t, _, 1, .ref l, rfl, rfl, .inl (.inl h2), atI_nat (j := 1) rfl, _, rfl, l, xs, ps, q0, i, rfl, h3, h4, ok.2.2.2, l1, l4, by omega, lc, ei, fun u H2 s2 N => q u H2 (sg.trans s2) (N.back sg)⟩
          · rw [if_neg ce, List.getElem?_map] at ei
            obtain ⟨row, er, e3⟩ := Option.map_eq_some_iff.mp ei
            subst e3
            rw [show decide (V.str (Pl.many w ps).wd = V.str "either") = false from ne_str ce]
            refine iteF ⟨Nat.zero_le _, fun Pr nPr => ?_⟩
            have sPr := same_upd (o := .lst []) nPr
            refine ⟨_, rfl, t, _, 1, .ref l, rfl, rfl, .inl (.inl (sPr _ _ h2)), atI_nat (j := 1) rfl, l, xs, rfl, .inl (.inl (.inl (sPr _ _ h3))), fun L nL => ?_⟩
            have sL := same_upd (o := .lst xs) nL
            have sPL := sPr.trans sL
            have hL : upd (upd H1 Pr (.lst [])) L (.lst xs) L = some (.lst xs) := upd_same
            have nPL : L ≠ Pr := fun z => by
              subst z
              rw [upd_same] at nL
              cases nL
            have hPr : upd (upd H1 Pr (.lst [])) L (.lst xs) Pr = some (.lst []) := by
              rw [upd_ne (Ne.symm nPL)]
              exact upd_same
            generalize upd (upd H1 Pr (.lst [])) L (.lst xs) = H2 at sPL hL hPr
            refine ⟨L, xs, rfl, .inl ⟨.inl (.inl hL), RT.for_Itv (K := K) (a := L) (xs := xs) (fun j σ H' => ∃ (at_ : Nat) (qs row' : List Pl) (zs : List V) (ls : List Addr) (y4 y5 : Option V), σ = [some (.ref t), some (.int (at_ : Nat)), some (.str w), some (.ref Pr), y4, y5] ∧ Same H1 H' ∧ H' L = some (.lst xs) ∧ H' Pr = some (.lst zs) ∧ zs.length = j ∧ j ≤ ps.length ∧ PlsF H' qs zs.reverse ls ∧ (∀ a ∈ ls, H1 a = none) ∧ Pr ∉ ls ∧ (rowsOf (wayL (ps.take (ps.length - j))))[at_]? = some row' ∧ row = row' ++ qs) ⟨i, [], row, [], [], none, none, rfl, sPL, hL, hPr, rfl, Nat.zero_le _, ⟨rfl, rfl⟩, (fun a ha => nomatch ha), (fun z => nomatch z), by rw [Nat.sub_zero, List.take_length]; exact er, (List.append_nil row).symm⟩ (fun j σ H' ⟨_, _, _, _, _, _, _, _, _, h, _⟩ => .inl (.inl h)) ?_ ?_⟩⟩
            · rintro j x σ H3 hj hv ⟨at_, qs, row', zs, ls, y4, y5, rfl, s3, hL3, hPr3, lz, jl, RF, fr, nin, e3, e4⟩
              have hjl : j < ps.length := by omega
              obtain ⟨c, ec⟩ : ∃ c, ps[ps.length - 1 - j]? = some c := ⟨_, List.getElem?_eq_getElem (by omega)⟩
              have hm := List.mem_of_getElem? ec
              have cdp := dpL_mem hm
              have clc := lcS_mem hm
              have hc := (h4.get (i := ps.length - 1 - j) (by rw [← lx]; exact hv) ec).same s3
              have okc := okL_mem ok.2.2.2 hm
              rw [show ps.length - j = (ps.length - 1 - j) + 1 by omega] at e3
              have pos : 0 < c.rc := by
                rcases Nat.eq_zero_or_pos c.rc with h0 | h0
                · exfalso
                  have hlt := (List.getElem?_eq_some_iff.mp e3).1
                  rw [rows_len, rcP_step ec, h0, Nat.mul_zero] at hlt
                  exact Nat.not_lt_zero _ hlt
                · exact h0
              obtain ⟨r0, y, f1, f2, f3⟩ := rows_at' ec pos e3
              refine ⟨_, rfl, _, rfl, x, c, rfl, hc, okc, by omega, by omega, fun H4 s4 => ⟨_, _, rfl, ⟨by omega, by have := rc_12 okc (by omega); omega⟩, fun tu ntu => ?_⟩⟩
              have st := s4.trans (same_upd (o := .tup [.int ((at_ : Int) / (c.rc : Int)), .int ((at_ : Int) % (c.rc : Int))]) ntu)
              refine ⟨tu, _, rfl, .inl (.inl upd_same), rfl, _, _, rfl, _, _, rfl, rfl, ?_⟩
              generalize upd H4 tu (.tup [.int ((at_ : Int) / (c.rc : Int)), .int ((at_ : Int) % (c.rc : Int))]) = H5 at st ⊢
              have hPr5 := st _ _ hPr3
              refine ⟨_, rfl, .inl ⟨rfl, _, .inl (.inl hPr5)⟩, _, rfl, _, rfl, x, c, y, at_ % c.rc, ?_, hc.same st, okc, by omega, by omega, f2, fun u H6 s6 N => ?_⟩
              · show [x, V.int ((at_ : Int) % (c.rc : Int))] = [x, V.int ((at_ % c.rc : Nat) : Int)]
                rw [Int.natCast_emod]
              obtain ⟨ks, N1, N2⟩ := N
              have hPr6 := s6 _ _ hPr5
              refine ⟨Pr, zs, u, rfl, rfl, hPr6, small1000 (by omega), ?_⟩
              have s36 := st.trans s6
              have RF6 := RF.same s36
              have nk : Pr ∉ ks := fun h => by
                have := N2 Pr h
                rw [hPr5] at this
                cases this
              have dj : ∀ a ∈ ks, a ∉ ls := fun a ha hl => by
                obtain ⟨ys, hy⟩ := RF.lsts a hl
                have := N2 a ha
                rw [st _ _ hy] at this
                cases this
              have O : Off [Pr] H6 (upd H6 Pr (.lst (zs ++ [u]))) := fun b o hb hn => by
                rw [upd_ne (fun z => hn (by rw [z]; exact List.mem_cons_self))]
                exact hb
              have LP : Lsts H6 [Pr] := fun a ha => by
                rw [List.mem_singleton.mp ha]
                exact ⟨_, hPr6⟩
              have nPr1 : H1 Pr = none := nPr
              refine ⟨at_ / c.rc, y :: qs, r0, zs ++ [u], ks ++ ls, some x, some (.int ((at_ : Int) % (c.rc : Int))), ?_, ?_, ?_, upd_same, by rw [List.length_append, lz]; rfl, by omega, ?_, fun a ha => ?_, fun h => ?_, ?_, ?_⟩
              · rw [show ((at_ / c.rc : Nat) : Int) = (at_ : Int) / (c.rc : Int) from Int.natCast_ediv _ _]
                rfl
              · exact same_put (s3.trans s36) nPr1
              · rw [upd_ne nPL]
                exact s36 _ _ hL3
              · rw [List.reverse_append]
                exact PlsF.cons' (N1.off O LP fun a ha h => nk (by rw [List.mem_singleton.mp h] at ha; exact ha)) (RF6.off O LP fun a ha h => nin (by rw [List.mem_singleton.mp h] at ha; exact ha)) dj
              · rcases List.mem_append.mp ha with ha | ha
                · exact (s3.trans st).free (N2 a ha)
                · exact fr a ha
              · rcases List.mem_append.mp h with h | h
                · exact nk h
                · exact nin h
              · rw [show ps.length - (j + 1) = ps.length - 1 - j by omega]
                exact f1
              · rw [e4, f3, List.append_assoc]
                rfl
            · rintro σ H3 ⟨at_, qs, row', zs, ls, y4, y5, rfl, s3, hL3, hPr3, lz, jl, RF, fr, nin, e3, e4⟩
              rw [lx, Nat.sub_self, List.take_zero] at e3
              have e3 : ([[]] : List (List Pl))[at_]? = some row' := e3
              have e0 : row' = [] := by
                have := List.mem_of_getElem? e3
                rw [List.mem_singleton] at this
                exact this
              rw [e0, List.nil_append] at e4
              subst e4
              refine ⟨_, rfl, _, rfl, Pr, zs, rfl, .inl (.inl hPr3), fun l2 nl2 => ⟨(by show 2 ≤ sizeLine; decide), fun t2 nt2 => ?_⟩⟩
              have sl := same_upd (o := .lst zs.reverse) nl2
              have st := same_upd (o := .tup [.str w, .ref l2]) nt2
              have sA := sl.trans st
              refine q _ _ ((sg.trans s3).trans sA) ⟨l2 :: ls, ⟨t2, l2, zs.reverse, ls, rfl, upd_same, st _ _ upd_same, RF.same sA, rfl, fun h => ?_⟩, fun a ha => ?_⟩
              · obtain ⟨ys, hy⟩ := RF.lsts l2 h
                rw [nl2] at hy
                cases hy
              · rcases List.mem_cons.mp ha with rfl | ha
                · exact sg.free (s3.free nl2)
                · exact sg.free (fr a ha)
/-! ### readings -/
def sp_readings : Sp := fun vs H Q _ => ∃ (v : V) (p : Pl), vs = [v] ∧ PlAt H p v ∧ p.ok ∧ p.gf = true ∧ p.dp ≤ 6 ∧ p.lc ≤ 12 ∧ p.rc ≤ 64 ∧ ∀ (D : Addr) (xs : List V) (ls : List Addr) (H' : Hp), Same H H' → H D = none → H' D = some (.lst xs) → PlsF H' p.ways xs ls → (∀ a ∈ ls, H a = none) → D ∉ ls → Q (.ref D) H'
theorem cal_readings (T : Tp K mg) : Cal P w K mg base 15 "readings" sp_readings := by
  obtain ⟨fd, F⟩ := f_readings T
  refine cal_of F (g_readings T) (b_readings F) sc_readings (fun vs H Q E h => ?_) (fun cdv A outer s H vs Q E hr h => ?_)
  · obtain ⟨v, p, rfl, _⟩ := h
    rfl
  · obtain ⟨v, p, rfl, hp, ok, gf, dp, lc, rc, q⟩ := h
    refine ⟨_, (pss_cons (ps_expr (C8.pe_c (cal_need_plan T) hr (by decide) rfl (pa_cons (pv 0) pa_nil)))
      (pss_one (ps_ret (pe_lc (own := [("at", 1)]) (g := gName 1) (tt := tYes) rfl sc_readings.nd (pi_range1 rfl (z_range T) (pa_cons (C8.pe_c (cal_rcount T 6) hr (by decide) rfl (pa_cons (pv 0) pa_nil)) pa_nil)) (blkOk_by (N := N_readings) (sc := defScope s_readings) (by decide +kernel)) (fun _ _ _ _ _ => (pg_name (i := 1) sc_readings.nd rfl (.inl rfl))) (fun _ _ _ _ _ => pts_nil) (fun _ _ _ _ _ => (C8.pe_c (cal_read T 6) hr (by decide) rfl (pa_cons (pv 0) (pa_cons (pv 1) pa_nil)))))))), ?_⟩
    refine ⟨_, rfl, v, p, rfl, hp, ok, gf, dp, lc, rc, fun H1 s1 => ?_⟩
    refine ⟨_, rfl, v, p, rfl, hp.same s1, ok, dp, lc, fun H2 s2 => ⟨(p.rc : Int), rfl, by omega, by omega, fun D nD => ?_⟩⟩
    have s12 := s1.trans s2
    have hwl : p.ways.length = p.rc := pways_len
    refine lc_range (lo := 0) (n := ((p.rc : Nat) : Int).toNat) (fun i H3 => ∃ (acc : List V) (ls : List Addr), Same H2 H3 ∧ H3 D = some (.lst acc) ∧ acc.length = i ∧ PlsF H3 (p.ways.take i) acc ls ∧ (∀ a ∈ ls, H2 a = none) ∧ D ∉ ls) ⟨[], [], same_upd nD, upd_same, rfl, ⟨rfl, rfl⟩, (fun a ha => nomatch ha), fun z => nomatch z⟩ ?_ ?_
    · rintro i H3 hi ⟨acc, ls, s3, d3, la, RF, fr, nin⟩
      have hi' : i < p.ways.length := by omega
      obtain ⟨y, ey⟩ : ∃ y, p.ways[i]? = some y := ⟨_, List.getElem?_eq_getElem hi'⟩
      refine ⟨rfl, yes_i (iteT ⟨_, rfl, _, rfl, v, p, y, i, ?_, (hp.same s12).same s3, ok, dp, lc, ey, fun u H4 s4 N => ?_⟩)⟩
      · show [v, V.int (0 + (i : Nat))] = [v, V.int (i : Nat)]
        rw [Int.zero_add]
      obtain ⟨ks, N1, N2⟩ := N
      have d4 := s4 _ _ d3
      have nk : D ∉ ks := fun h => by
        have := N2 D h
        rw [d3] at this
        cases this
      have dj : ∀ a ∈ ls, a ∉ ks := fun a hl ha => by
        obtain ⟨ys, hy⟩ := RF.lsts a hl
        have := N2 a ha
        rw [hy] at this
        cases this
      have O : Off [D] H4 (upd H4 D (.lst (acc ++ [u]))) := fun b o hb hn => by
        rw [upd_ne (fun z => hn (by rw [z]; exact List.mem_cons_self))]
        exact hb
      have LP : Lsts H4 [D] := fun a ha => by
        rw [List.mem_singleton.mp ha]
        exact ⟨_, d4⟩
      refine ⟨acc, d4, small1000 (by omega), acc ++ [u], ls ++ ks, same_put (s3.trans s4) nD, upd_same, by rw [List.length_append, la]; rfl, ?_, fun a ha => ?_, fun h => ?_⟩
      · rw [List.take_add_one, ey]
        exact PlsF.snoc (N1.off O LP fun a ha h => nk (by rw [List.mem_singleton.mp h] at ha; exact ha)) ((RF.same s4).off O LP fun a ha h => nin (by rw [List.mem_singleton.mp h] at ha; exact ha)) dj
      · rcases List.mem_append.mp ha with ha | ha
        · exact fr a ha
        · exact s3.free (N2 a ha)
      · rcases List.mem_append.mp h with h | h
        · exact nin h
        · exact nk h
    · rintro H3 ⟨acc, ls, s3, d3, la, RF, fr, nin⟩
      rw [show ((p.rc : Nat) : Int).toNat = p.ways.length by omega, List.take_length] at RF
      exact q D acc ls H3 (s12.trans s3) (s12.free nD) d3 RF (fun a ha => s12.free (fr a ha)) nin
end
end Tw

set_option maxHeartbeats 4000000
namespace Tw
open PySem PySem.Spec PyProof.Rows L2
/-! the law's own of plans -/
theorem off_sb {f : Addr} {H H' : Hp} (s : Sb f H H') : Off [f] H H' := fun b o e n => s b o e fun z => n (by rw [z]; exact List.mem_cons_self)
theorem PlF.sb {f : Addr} {H H' : Hp} {p : Pl} {v : V} {ls : List Addr} {zs : List V} (h : PlF H p v ls) (s : Sb f H H') (hf : H f = some (.lst zs)) (n : f ∉ ls) : PlF H' p v ls :=
  h.off (off_sb s) (fun a ha => by rw [List.mem_singleton.mp ha]; exact ⟨_, hf⟩) fun a ha z => n (by rw [List.mem_singleton.mp z] at ha; exact ha)
theorem PlsF.sb {f : Addr} {H H' : Hp} {p : List Pl} {v : List V} {ls : List Addr} {zs : List V} (h : PlsF H p v ls) (s : Sb f H H') (hf : H f = some (.lst zs)) (n : f ∉ ls) : PlsF H' p v ls :=
  h.off (off_sb s) (fun a ha => by rw [List.mem_singleton.mp ha]; exact ⟨_, hf⟩) fun a ha z => n (by rw [List.mem_singleton.mp z] at ha; exact ha)
theorem pl_free {f : Addr} {H H' : Hp} {a : Addr} (s : Sb f H H') (n : H' a = none) (h : a ≠ f) : H a = none := by
  cases e : H a with
  | none => rfl
  | some o =>
    rw [s a o e h] at n
    cases n
/-- the words that are drawn from -/
def WdsOk (ws : List Str) : Prop := 0 < ws.length ∧ ws.length ≤ 10 ∧ ∀ z ∈ ws, manyW z ∨ z = "within"
/-- numbers as they are drawn -/
def nmI (i : Int) : Prop := 0 ≤ i ∧ i ≤ 5000000
mutual
def Pl.nm : Pl → Prop
  | .ours lo hi => nmI lo ∧ nmI hi
  | .wthr lo hi la => nmI lo ∧ nmI hi ∧ ∀ i, la = some i → nmI i
  | .wthn n p => nmI n ∧ p.nm
  | .many _ ps => nmL ps
def nmL : List Pl → Prop
  | [] => True
  | p :: r => p.nm ∧ nmL r
end
theorem nmL_snoc {p : Pl} (h : p.nm) : ∀ {ps : List Pl}, nmL ps → nmL (ps ++ [p])
  | [], _ => ⟨h, True.intro⟩
  | _ :: _, hs => ⟨hs.1, nmL_snoc h hs.2⟩
section
variable {P : Program} {w : World} {K : PySem.W.Frag} {mg : Str → Option Value} {base : Heap}
/-! ### _law_leaf, _law_plan -/
def sp_leaf : Sp := fun vs H Q _ => ∃ (f c : Addr) (far : Int), vs = [.ref f, .int far] ∧ Flow H f c ∧ 0 < far ∧ far ≤ 1000000 ∧ ∀ (t : Addr) (q : Pl) (H' : Hp), Sb f H H' → Flow H' f c → PlF H' q (.ref t) [] → q.ok → q.dp = 1 → (∀ ws, q.wi ws far) → q.nm → Q (.ref t) H'
theorem cal__law_leaf (T : Tp K mg) : Cal P w K mg base 3 "_law_leaf" sp_leaf := by
  obtain ⟨fd, F⟩ := f__law_leaf T
  refine cal_of F (g__law_leaf T) (b__law_leaf F) sc__law_leaf (fun vs H Q E h => ?_) (fun cdv A outer s H vs Q E hr h => ?_)
  · obtain ⟨f, c, far, rfl, _⟩ := h
    rfl
  · obtain ⟨f, c, far, rfl, FL, f0, f1, q⟩ := h
    refine ⟨_, (pss_cons (ps_if (pt_cmpR op_eq (C8.pe_c (cal__law_draw T) hr (by decide) rfl (pa_cons (pv 0) (pa_cons pe_int pa_nil))) pe_int (nomark _)) (pss_cons (ps_set (i := 2) sc__law_leaf.nd rfl (.inl rfl) (C8.pe_c (cal__law_draw T) hr (by decide) rfl (pa_cons (pv 0) (pa_cons (pv 1) pa_nil))))
        (pss_one (ps_ret (pe_tup (pa_cons pe_str (pa_cons (pv 2) (pa_cons (pe_op op_add (pv 2) (C8.pe_c (cal__law_draw T) hr (by decide) rfl (pa_cons (pv 0) (pa_cons (pv 1) pa_nil)))) pa_nil))))))) pss_nil)
      (pss_cons (ps_set (i := 2) sc__law_leaf.nd rfl (.inl rfl) (pe_op op_add pe_int (C8.pe_c (cal__law_draw T) hr (by decide) rfl (pa_cons (pv 0) (pa_cons (pv 1) pa_nil)))))
      (pss_cons (ps_set (i := 3) sc__law_leaf.nd rfl (.inl rfl) (pe_ix ix_list (pe_lst (pa_cons pe_int (pa_cons pe_int (pa_cons pe_non (pa_cons (pe_op op_add pe_int (C8.pe_c (cal__law_draw T) hr (by decide) rfl (pa_cons (pv 0) (pa_cons (pv 1) pa_nil)))) pa_nil))))) (C8.pe_c (cal__law_draw T) hr (by decide) rfl (pa_cons (pv 0) (pa_cons pe_int pa_nil))) (fun _ _ => rfl)))
      (pss_one (ps_ret (pe_tup (pa_cons pe_str (pa_cons (pv 2) (pa_cons (pe_op op_add (pv 2) (C8.pe_c (cal__law_draw T) hr (by decide) rfl (pa_cons (pv 0) (pa_cons (pv 1) pa_nil)))) (pa_cons (pv 3) pa_nil)))))))))), ?_⟩
    refine ⟨_, rfl, f, c, 2, rfl, FL, by decide, by decide, fun v1 H1 a1 b1 sb1 F1 => ⟨rfl, _, rfl, ite2 (fun _ => ?_) (fun _ => ?_)⟩⟩
    · refine ⟨_, rfl, _, rfl, f, c, far, rfl, F1, f0, by omega, fun v2 H2 a2 b2 sb2 F2 => ?_⟩
      refine ⟨_, rfl, _, rfl, _, rfl, _, rfl, f, c, far, rfl, F2, f0, by omega, fun v3 H3 a3 b3 sb3 F3 => ⟨v2, v3, rfl, rfl, (by show 3 ≤ sizeLine; decide), fun t nt => ?_⟩⟩
      have st := same_upd (o := .tup [.str "ours", .int v2, .int (v2 + v3)]) nt
      exact q t (.ours v2 (v2 + v3)) _ (((sb1.trans sb2).trans sb3).trans (Sb.of st)) (F3.same st) ⟨rfl, t, rfl, upd_same⟩ True.intro rfl (fun _ => (by show v2 ≤ 2 * far; omega)) ⟨⟨by omega, by omega⟩, by omega, by omega⟩
    · refine ⟨_, rfl, _, rfl, f, c, far, rfl, F1, f0, by omega, fun v2 H2 a2 b2 sb2 F2 => ⟨1, v2, rfl, rfl, ?_⟩⟩
      refine ⟨_, rfl, _, rfl, f, c, far, rfl, F2, f0, by omega, fun v3 H3 a3 b3 sb3 F3 => ⟨1, v3, rfl, rfl, (by show 4 ≤ sizeLine; decide), fun g ng => ?_⟩⟩
      have sg := same_upd (o := .lst [.int 0, .int 0, .non, .int (1 + v3)]) ng
      refine ⟨_, rfl, f, c, 4, rfl, F3.same sg, by decide, by decide, fun v4 H4 a4 b4 sb4 F4 => ?_⟩
      obtain ⟨zs, hf⟩ := F3.lst
      have gf : g ≠ f := (ne_of_none hf ng).symm
      obtain ⟨la, hla, nla⟩ : ∃ la : Option Int, atI ([.int 0, .int 0, .non, .int (1 + v3)] : List V) v4 = some (oV la) ∧ ∀ i, la = some i → nmI i := by
        have : v4 = 0 ∨ v4 = 1 ∨ v4 = 2 ∨ v4 = 3 := by omega
        rcases this with rfl | rfl | rfl | rfl
        · exact ⟨some 0, rfl, fun i e => by cases e; exact ⟨by decide, by decide⟩⟩
        · exact ⟨some 0, rfl, fun i e => by cases e; exact ⟨by decide, by decide⟩⟩
        · exact ⟨none, rfl, fun i e => nomatch e⟩
        · exact ⟨some (1 + v3), rfl, fun i e => by cases e; exact ⟨by omega, by omega⟩⟩
      refine ⟨g, _, v4, oV la, rfl, rfl, .inl (.inl (sb4 _ _ upd_same gf)), hla, ?_⟩
      refine ⟨_, rfl, _, rfl, _, rfl, _, rfl, f, c, far, rfl, F4, f0, by omega, fun v5 H5 a5 b5 sb5 F5 => ⟨1 + v2, v5, rfl, rfl, _, rfl, (by show 4 ≤ sizeLine; decide), fun t nt => ?_⟩⟩
      have st := same_upd (o := .tup [.str "weather", .int (1 + v2), .int (1 + v2 + v5), oV la]) nt
      exact q t (.wthr (1 + v2) (1 + v2 + v5) la) _ ((((((sb1.trans sb2).trans sb3).trans (Sb.of sg)).trans sb4).trans sb5).trans (Sb.of st)) (F5.same st) ⟨rfl, t, rfl, upd_same⟩ True.intro rfl (fun _ => (by show 1 + v2 + v5 ≤ 2 * far; omega)) ⟨⟨by omega, by omega⟩, ⟨by omega, by omega⟩, nla⟩
def sp_plan (n : Nat) : Sp := fun vs H Q _ => ∃ (f c wl : Addr) (b : Nat) (far : Int) (ws : List Str), vs = [.ref f, .int (b : Nat), .ref wl, .int far] ∧ Flow H f c ∧ b < n ∧ 0 < far ∧ far ≤ 1000 ∧ H wl = some (.lst (ws.map V.str)) ∧ wl ≠ f ∧ WdsOk ws ∧
  ∀ (u : V) (q : Pl) (ls : List Addr) (H' : Hp), Sb f H H' → Flow H' f c → PlF H' q u ls → (∀ a ∈ ls, H a = none) → q.ok → q.dp ≤ max b 1 → q.wi ws far → q.nm → Q u H'
theorem cal_plan (T : Tp K mg) : ∀ n : Nat, Cal P w K mg base (n + 4) "_law_plan" (sp_plan n)
  | 0 => by
    obtain ⟨fd, F⟩ := f__law_plan T
    refine cal_of F (g__law_plan T) (b__law_plan F) sc__law_plan (fun vs H Q E h => ?_) (fun cdv A outer s H vs Q E hr h => ?_)
    · obtain ⟨f, c, wl, b, far, ws, rfl, _⟩ := h
      rfl
    · obtain ⟨f, c, wl, b, far, ws, _, _, bn, _⟩ := h
      omega
  | n + 1 => by
    have ih := cal_plan T n
    obtain ⟨fd, F⟩ := f__law_plan T
    refine cal_of F (g__law_plan T) (b__law_plan F) sc__law_plan (fun vs H Q E h => ?_) (fun cdv A outer s H vs Q E hr h => ?_)
    · obtain ⟨f, c, wl, b, far, ws, rfl, _⟩ := h
      rfl
    · obtain ⟨f, c, wl, b, far, ws, rfl, FL, bn, f0, f1, hw, wf, ok, q⟩ := h
      have k := ok.2.1
      have lw : (ws.map V.str).length = ws.length := List.length_map _
      obtain ⟨zs0, hf⟩ := FL.lst
      refine ⟨_, (pss_cons (ps_set (i := 4) sc__law_plan.nd rfl (.inl rfl) (C8.pe_c (cal__law_draw T) hr (by omega) rfl (pa_cons (pv 0) (pa_cons (pe_op op_add pe_int (pe_callB call_len_seq (by rfl) (z_len T) bb_len (pa_cons (pv 2) pa_nil))) pa_nil))))
      (pss_cons (ps_if (PW.pt (pw_or (pt_cmpR op_lt (pv 1) pe_int (nomark _)) (pw_or1 (pt_cmpR op_lt (pv 4) pe_int (nomark _))))) (pss_one (ps_ret (C8.pe_c (cal__law_leaf T) hr (by omega) rfl (pa_cons (pv 0) (pa_cons (pv 3) pa_nil))))) pss_nil)
      (pss_cons (ps_set (i := 5) sc__law_plan.nd rfl (.inl rfl) (pe_ix ix_list (pv 2) (pe_op op_sub (pv 4) pe_int) (fun _ _ => rfl)))
      (pss_cons (ps_if (pt_cmpR op_eq (pv 5) pe_str (nomark _)) (pss_one (ps_ret (pe_tup (pa_cons (pv 5) (pa_cons (C8.pe_c (cal__law_draw T) hr (by omega) rfl (pa_cons (pv 0) (pa_cons (pe_op op_mul pe_int (pv 3)) pa_nil))) (pa_cons (C8.pe_c ih hr (Nat.le_refl _) rfl (pa_cons (pv 0) (pa_cons (pe_op op_sub (pv 1) pe_int) (pa_cons (pv 2) (pa_cons (pv 3) pa_nil))))) pa_nil)))))) pss_nil)
      (pss_cons (ps_set (i := 6) sc__law_plan.nd rfl (.inl rfl) (pe_op op_add pe_int (C8.pe_c (cal__law_draw T) hr (by omega) rfl (pa_cons (pv 0) (pa_cons pe_int pa_nil)))))
      (pss_one (ps_ret (pe_tup (pa_cons (pv 5) (pa_cons (pe_lc (own := [("_law_k", 7)]) (g := gName 7) (tt := tYes) rfl sc__law_plan.nd (pi_range1 rfl (z_range T) (pa_cons (pv 6) pa_nil)) (blkOk_by (N := N__law_plan) (sc := defScope s__law_plan) (by decide +kernel)) (fun _ _ _ _ _ => (pg_name (i := 7) sc__law_plan.nd rfl (.inl rfl))) (fun _ _ _ _ _ => pts_nil) (fun _ _ _ _ _ => (C8.pe_c ih hr (Nat.le_refl _) rfl (pa_cons (pv 0) (pa_cons (pe_op op_sub (pv 1) pe_int) (pa_cons (pv 2) (pa_cons (pv 3) pa_nil))))))) pa_nil)))))))))), ?_⟩
      refine ⟨_, rfl, _, rfl, wl, _, rfl, .inl (.inl (.inl hw)), 2, _, rfl, rfl, f, c, _, rfl, FL, by omega, by omega, fun v1 H1 a1 b1 sb1 F1 => ?_⟩
      refine ⟨_, rfl, _, _, rfl, rfl, _, rfl, ?_⟩
      by_cases lo : b < 2
      · rw [decide_eq_true (show ((b : Nat) : Int) < 2 by omega)]
        exact iteT (iteT ⟨_, rfl, _, rfl, f, c, far, rfl, F1, f0, by omega, fun t q' H2 sb2 F2 hp ok' dp wi nm => q _ q' [] H2 (sb1.trans sb2) F2 hp (fun a ha => nomatch ha) ok' (by omega) (wi ws) nm⟩)
      rw [decide_eq_false (show ¬ ((b : Nat) : Int) < 2 by omega)]
      refine iteF ⟨_, rfl, _, _, rfl, rfl, _, rfl, ?_⟩
      by_cases lv : v1 < 2
      · rw [decide_eq_true lv]
        exact iteT ⟨_, rfl, _, rfl, f, c, far, rfl, F1, f0, by omega, fun t q' H2 sb2 F2 hp ok' dp wi nm => q _ q' [] H2 (sb1.trans sb2) F2 hp (fun a ha => nomatch ha) ok' (by omega) (wi ws) nm⟩
      rw [decide_eq_false lv]
      have hw1 := sb1 _ _ hw wf
      obtain ⟨i, ei⟩ : ∃ i : Nat, v1 - 2 = (i : Int) := ⟨(v1 - 2).toNat, by omega⟩
      obtain ⟨z, ez⟩ : ∃ z, ws[i]? = some z := ⟨_, List.getElem?_eq_getElem (by omega)⟩
      have hz := ok.2.2 z (List.mem_of_getElem? ez)
      refine iteF ⟨_, rfl, _, rfl, v1, 2, rfl, rfl, wl, _, v1 - 2, .str z, rfl, rfl, .inl (.inl hw1), by rw [ei]; exact atI_nat (j := i) (by rw [List.getElem?_map, ez]; rfl), ?_⟩
      obtain ⟨b', rfl⟩ : ∃ b', b = b' + 1 := ⟨b - 1, by omega⟩
      have eb : ((b' + 1 : Nat) : Int) - 1 = (b' : Nat) := by omega
      refine ⟨_, rfl, rfl, _, rfl, ?_⟩
      by_cases cz : z = "within"
      · rw [decide_eq_true (show V.str z = V.str "within" by rw [cz])]
        refine iteT ⟨_, rfl, _, rfl, _, rfl, 5, far, rfl, rfl, .inl ⟨by decide, by decide⟩, f, c, 5 * far, rfl, F1, by omega, by omega, fun v2 H2 a2 b2 sb2 F2 => ?_⟩
        refine ⟨_, rfl, _, rfl, _, 1, rfl, rfl, _, rfl, _, rfl, f, c, wl, b', far, ws, ?_, F2, by omega, f0, f1, sb2 _ _ hw1 wf, wf, ok, fun u q' ls H3 sb3 F3 hp fr ok' dp wi nm => ⟨(by show 3 ≤ sizeLine; decide), fun t nt => ?_⟩⟩
        · show [V.ref f, V.int (((b' + 1 : Nat) : Int) - 1), V.ref wl, V.int far] = _
          rw [eb]
        have st := same_upd (o := .tup [.str z, .int v2, u]) nt
        have nf : ∀ a ∈ ls, a ≠ f := fun a ha z => by
          have := fr a ha
          obtain ⟨ys, hy⟩ := F2.lst
          rw [z, hy] at this
          cases this
        subst cz
        exact q (.ref t) (.wthn v2 q') ls _ (((sb1.trans sb2).trans sb3).trans (Sb.of st)) (F3.same st) ⟨t, u, rfl, upd_same, hp.same st⟩ (fun a ha => pl_free (sb1.trans sb2) (fr a ha) (nf a ha)) ok' (by show q'.dp + 1 ≤ _; omega) wi ⟨⟨by omega, by omega⟩, nm⟩
      · rw [decide_eq_false (show ¬ V.str z = V.str "within" from fun e => cz (V.str.inj e))]
        have mw : manyW z := hz.resolve_right cz
        refine iteF ⟨_, rfl, f, c, 3, rfl, F1, by decide, by decide, fun v2 H2 a2 b2 sb2 F2 => ⟨1, v2, rfl, rfl, ?_⟩⟩
        have sb12 := sb1.trans sb2
        have hw2 := sb2 _ _ hw1 wf
        obtain ⟨ys2, hf2⟩ := F2.lst
        refine ⟨_, rfl, _, rfl, 1 + v2, rfl, by omega, by omega, fun D nD => ?_⟩
        have fD : f ≠ D := ne_of_none hf2 nD
        have wD : wl ≠ D := ne_of_none hw2 nD
        obtain ⟨cs, hc2⟩ := F2.cells
        have cD : c ≠ D := ne_of_none hc2 nD
        refine lc_range (lo := 0) (n := (1 + v2).toNat) (fun i H3 => ∃ (acc : List V) (qs : List Pl) (ls : List Addr), Sb f H2 H3 ∧ Flow H3 f c ∧ H3 D = some (.lst acc) ∧ qs.length = i ∧ PlsF H3 qs acc ls ∧ (∀ a ∈ ls, H2 a = none) ∧ D ∉ ls ∧ f ∉ ls ∧ okL qs ∧ dpL qs ≤ max b' 1 ∧ wiL ws far qs ∧ nmL qs) ⟨[], [], [], Sb.of (same_upd nD), F2.same (same_upd nD), upd_same, rfl, ⟨rfl, rfl⟩, (fun a ha => nomatch ha), (fun z => nomatch z), (fun z => nomatch z), True.intro, Nat.zero_le _, True.intro, True.intro⟩ ?_ ?_
        · rintro i H3 hi ⟨acc, qs, ls, sb3, F3, d3, lq, RF, fr, nin, nf, okq, dq, wiq, nmq⟩
          have lacc : acc.length = qs.length := RF.len
          refine ⟨rfl, yes_i (iteT ⟨_, rfl, _, rfl, _, 1, rfl, rfl, _, rfl, _, rfl, f, c, wl, b', far, ws, ?_, F3, by omega, f0, f1, sb3 _ _ hw2 wf, wf, ok, fun u q' ks H4 sb4 F4 hp fk ok' dp wi nm => ?_⟩)⟩
          · show [V.ref f, V.int (((b' + 1 : Nat) : Int) - 1), V.ref wl, V.int far] = _
            rw [eb]
          obtain ⟨ys3, hf3⟩ := F3.lst
          have d4 := sb4 _ _ d3 fD.symm
          have nkD : D ∉ ks := fun h => by
            have := fk D h
            rw [d3] at this
            cases this
          have nkf : f ∉ ks := fun h => by
            have := fk f h
            rw [hf3] at this
            cases this
          have dj : ∀ a ∈ ls, a ∉ ks := fun a hl ha => by
            obtain ⟨ys, hy⟩ := RF.lsts a hl
            have := fk a ha
            rw [hy] at this
            cases this
          have O : Off [D] H4 (upd H4 D (.lst (acc ++ [u]))) := fun b o hb hn => by
            rw [upd_ne (fun z => hn (by rw [z]; exact List.mem_cons_self))]
            exact hb
          have LP : Lsts H4 [D] := fun a ha => by
            rw [List.mem_singleton.mp ha]
            exact ⟨_, d4⟩
          have sbD : Sb f H2 (upd H4 D (.lst (acc ++ [u]))) := fun b o e n => by
            rw [upd_ne (ne_of_none e nD)]
            exact (sb3.trans sb4) b o e n
          refine ⟨acc, d4, small1000 (by omega), acc ++ [u], qs ++ [q'], ls ++ ks, sbD, F4.upd fD cD, upd_same, by rw [List.length_append, lq]; rfl, ?_, fun a ha => ?_, fun h => ?_, fun h => ?_, okL_snoc okq ok', by rw [dpL_snoc]; omega, wiL_snoc wiq wi, nmL_snoc nm nmq⟩
          · exact PlsF.snoc (hp.off O LP fun a ha h => nkD (by rw [List.mem_singleton.mp h] at ha; exact ha)) ((RF.sb sb4 hf3 nf).off O LP fun a ha h => nin (by rw [List.mem_singleton.mp h] at ha; exact ha)) dj
          · rcases List.mem_append.mp ha with ha | ha
            · exact fr a ha
            · exact pl_free sb3 (fk a ha) (fun z => nkf (by rw [← z]; exact ha))
          · rcases List.mem_append.mp h with h | h
            · exact nin h
            · exact nkD h
          · rcases List.mem_append.mp h with h | h
            · exact nf h
            · exact nkf h
        · rintro H3 ⟨acc, qs, ls, sb3, F3, d3, lq, RF, fr, nin, nf, okq, dq, wiq, nmq⟩
          refine ⟨(by show 2 ≤ sizeLine; decide), fun t nt => ?_⟩
          have st := same_upd (o := .tup [.str z, .ref D]) nt
          refine q (.ref t) (.many z qs) (D :: ls) _ ((sb12.trans sb3).trans (Sb.of st)) (F3.same st) ⟨t, D, acc, ls, rfl, upd_same, st _ _ d3, RF.same st, rfl, nin⟩ (fun a ha => ?_) ⟨mw, by omega, by omega, okq⟩ (by show dpL qs + 1 ≤ _; omega) ⟨List.mem_of_getElem? ez, by omega, wiq⟩ nmq
          rcases List.mem_cons.mp ha with rfl | ha
          · exact pl_free sb12 nD fD.symm
          · exact pl_free sb12 (fr a ha) (fun z => nf (by rw [← z]; exact ha))
/-! ### _law_kids -/
/-- a new list, or the plan's own -/
def Pl.mny : Pl → Bool
  | .many _ _ => true
  | _ => false
def KidL (H : Hp) (p : Pl) (v : V) (D : Addr) : Prop := (p.mny = false ∧ H D = none) ∨ ∃ t w ps, p = .many w ps ∧ v = .ref t ∧ H t = some (.tup [.str w, .ref D])
def sp_kids : Sp := fun vs H Q _ => ∃ (v : V) (p : Pl), vs = [v] ∧ PlAt H p v ∧ p.ok ∧ ∀ (D : Addr) (H' : Hp), Same H H' → KidL H p v D → KidsAt H' D p → Q (.ref D) H'
theorem cal__law_kids (T : Tp K mg) : Cal P w K mg base 1 "_law_kids" sp_kids := by
  obtain ⟨fd, F⟩ := f__law_kids T
  refine cal_of F (g__law_kids T) (b__law_kids F) sc__law_kids (fun vs H Q E h => ?_) (fun cdv A outer s H vs Q E hr h => ?_)
  · obtain ⟨v, p, rfl, _⟩ := h
    rfl
  · obtain ⟨v, p, rfl, hp, ok, q⟩ := h
    obtain ⟨t, r, rfl, ht⟩ := hp.tup
    refine ⟨_, (pss_cons (ps_if (pt_cmpR op_in_seq (pe_ix ix_tup (pv 0) pe_int (fun _ _ => rfl)) (pe_lst (pa_cons pe_str (pa_cons pe_str pa_nil))) (by rfl)) (pss_one (ps_ret (pe_lst pa_nil))) pss_nil)
      (pss_one (ps_ret (pe_ifExp (pt_cmpR op_eq (pe_ix ix_tup (pv 0) pe_int (fun _ _ => rfl)) pe_str (nomark _)) (pe_lst (pa_cons (pe_ix ix_tup (pv 0) pe_int (fun _ _ => rfl)) pa_nil)) (pe_ix ix_tup (pv 0) pe_int (fun _ _ => rfl)))))), ?_⟩
    refine ⟨_, rfl, t, _, 0, .str p.wd, rfl, rfl, .inl (.inl ht), atI_nat (j := 0) rfl, (by show 2 ≤ sizeLine; decide), fun g ng => ?_⟩
    have sg := same_upd (o := .lst [.str "ours", .str "weather"]) ng
    have hp1 := hp.same sg
    refine ⟨g, [.str "ours", .str "weather"], rfl, .inl (.inl (.inl upd_same)), rfl, rfl, _, rfl, ?_⟩
    show if inV (.str p.wd) [.str "ours", .str "weather"] = true then _ else _
    rw [two_in, show decide (p.wd = "ours" ∨ p.wd = "weather") = leafW p from rfl]
    generalize upd H g (.lst [.str "ours", .str "weather"]) = H1 at sg hp1 ⊢
    cases p with
    | ours a b =>
      rw [leaf_ours]
      exact iteT ⟨Nat.zero_le _, fun D nD => q D _ (sg.trans (same_upd nD)) (.inl ⟨rfl, sg.free nD⟩) ⟨[], upd_same, rfl⟩⟩
    | wthr a b c =>
      rw [leaf_wthr]
      exact iteT ⟨Nat.zero_le _, fun D nD => q D _ (sg.trans (same_upd nD)) (.inl ⟨rfl, sg.free nD⟩) ⟨[], upd_same, rfl⟩⟩
    | wthn n p =>
      obtain ⟨t', u, e1, h2, h3⟩ := hp1
      cases e1
      rw [leaf_wthn]
      refine iteF ⟨_, rfl, t, _, 0, .str "within", rfl, rfl, .inl (.inl h2), atI_nat (j := 0) rfl, rfl, _, rfl, iteT ⟨_, rfl, t, _, 2, u, rfl, rfl, .inl (.inl h2), atI_nat (j := 2) rfl, (by show 1 ≤ sizeLine; decide), fun D nD => ?_⟩⟩
      have sD := same_upd (o := .lst [u]) nD
      exact q D _ (sg.trans sD) (.inl ⟨rfl, sg.free nD⟩) ⟨[u], upd_same, u, [], rfl, h3.same sD, rfl⟩
    | many w ps =>
      obtain ⟨t0, l0, xs0, e0, g2, g3, g4⟩ := hp
      cases e0
      obtain ⟨t', l, xs, e1, h2, h3, h4⟩ := hp1
      cases e1
      have el : l = l0 := by
        rw [sg _ _ g2] at h2
        injection h2 with h2
        injection h2 with h2
        injection h2 with _ h2
        injection h2 with h2 _
        injection h2 with h2
        exact h2.symm
      subst el
      have no := many_no ok.1
      rw [leaf_many ok.1]
      refine iteF ⟨_, rfl, t, _, 0, .str w, rfl, rfl, .inl (.inl h2), atI_nat (j := 0) rfl, rfl, _, rfl, ?_⟩
      rw [decide_eq_false (show ¬ V.str w = V.str "within" from fun e => no.2.2 (V.str.inj e))]
      exact iteF ⟨_, rfl, t, _, 1, .ref l, rfl, rfl, .inl (.inl h2), atI_nat (j := 1) rfl, q l H1 sg (.inr ⟨t, w, ps, rfl, rfl, g2⟩) ⟨xs, h3, h4⟩⟩
theorem kids_nil {p : Pl} (ok : p.ok) : p.kids.isEmpty = leafW p := by
  cases p with
  | ours a b => rw [leaf_ours]; rfl
  | wthr a b c => rw [leaf_wthr]; rfl
  | wthn n p => rw [leaf_wthn]; rfl
  | many w ps =>
    rw [leaf_many ok.1]
    have := ok.2.1
    match ps, this with
    | _ :: _, _ => rfl
/-! ### the law's counts -/
def sp_lleaf (n : Nat) : Sp := fun vs H Q _ => ∃ (v : V) (p : Pl), vs = [v] ∧ PlAt H p v ∧ p.ok ∧ p.dp ≤ n ∧ ∀ (H' : Hp), Same H H' → Q (.int (p.lc : Nat)) H'
theorem cal_lleaf (T : Tp K mg) : ∀ n : Nat, Cal P w K mg base (n + 1) "_law_leaf_count" (sp_lleaf n)
  | 0 => by
    obtain ⟨fd, F⟩ := f__law_leaf_count T
    refine cal_of F (g__law_leaf_count T) (b__law_leaf_count F) sc__law_leaf_count (fun vs H Q E h => ?_) (fun cdv A outer s H vs Q E hr h => ?_)
    · obtain ⟨v, p, rfl, _⟩ := h
      rfl
    · obtain ⟨v, p, _, _, _, d, _⟩ := h
      have := dp_pos p
      omega
  | n + 1 => by
    have ih := cal_lleaf T n
    obtain ⟨fd, F⟩ := f__law_leaf_count T
    refine cal_of F (g__law_leaf_count T) (b__law_leaf_count F) sc__law_leaf_count (fun vs H Q E h => ?_) (fun cdv A outer s H vs Q E hr h => ?_)
    · obtain ⟨v, p, rfl, _⟩ := h
      rfl
    · obtain ⟨v, p, rfl, hp, ok, d, q⟩ := h
      have hu := hu_of hr
      refine ⟨_, (pss_cons (ps_set (i := 1) sc__law_leaf_count.nd rfl (.inl rfl) (C8.pe_c (cal__law_kids T) hr (by omega) rfl (pa_cons (pv 0) pa_nil)))
      (pss_one (ps_ret (pe_ifExp (pt_cmpR (op_eqNil hu) (pv 1) (pe_lst pa_nil) (nomark _)) pe_int (pe_callB (cr_sum rfl) (by rfl) (z_sum T) bb_sum (pa_cons (pe_lc (own := [("_law_one", 2)]) (g := gName 2) (tt := tYes) rfl sc__law_leaf_count.nd (pi_list (pv 1)) (blkOk_by (N := N__law_leaf_count) (sc := defScope s__law_leaf_count) (by decide +kernel)) (fun _ _ _ _ _ => (pg_name (i := 2) sc__law_leaf_count.nd rfl (.inl rfl))) (fun _ _ _ _ _ => pts_nil) (fun _ _ _ _ _ => (C8.pe_c ih hr (Nat.le_refl _) rfl (pa_cons (pv 2) pa_nil)))) pa_nil)))))), ?_⟩
      refine ⟨_, rfl, v, p, rfl, hp, ok, fun L H2 s2 kl ⟨xs, hL, KL⟩ => ?_⟩
      refine ⟨_, rfl, Nat.zero_le _, fun E0 nE => ?_⟩
      have sE := same_upd (o := .lst []) nE
      have hL3 := sE _ _ hL
      have KL3 := KL.same sE
      refine ⟨L, E0, xs, rfl, rfl, .inl (.inl hL3), .inl (.inl upd_same), _, rfl, ?_⟩
      generalize upd H2 E0 (.lst []) = H3 at sE hL3 KL3 ⊢
      have s13 := s2.trans sE
      have lx := KL3.len
      have em : xs.isEmpty = leafW p := by
        rw [← kids_nil ok]
        match xs, p.kids, lx with
        | [], [], _ => rfl
        | _ :: _, _ :: _, _ => rfl
      rw [em]
      cases e : leafW p with
      | true =>
        have el : p.lc = 1 := by
          cases p with
          | ours a b => rfl
          | wthr a b c => rfl
          | wthn n p =>
            rw [leaf_wthn] at e
            cases e
          | many w ps =>
            rw [leaf_many ok.1] at e
            cases e
        have h := q H3 s13
        rw [el] at h
        exact iteT h
      | false =>
        refine iteF ⟨_, rfl, L, rfl, ⟨_, .inl (.inl hL3)⟩, fun D nD => ?_⟩
        have lk := kids_len ok
        refine lc_pure p.kids (walk_listN lx) (fun c => some (c.lc : Int)) (SV V.int) (fun _ h => h) nD (by omega) (fun H s => .inl (.inl (s _ _ hL3))) ?_ ?_
        · rintro i c x H4 _ ec s4 ⟨rfl, hv⟩ Good Bad kt kf
          have hc := KL3.get hv ec
          have hm := List.mem_of_getElem? ec
          exact ⟨rfl, yes_i (iteT ⟨_, rfl, x, c, rfl, hc.same s4, kids_ok ok hm, kids_dp d hm, fun H5 s5 => kt _ _ _ rfl s5 rfl⟩)⟩
        · intro H4 acc s4 d4 p4
          have ea := paired_enc p4
          rw [show (p.kids.filterMap fun c => some (c.lc : Int)) = p.kids.map fun c => (c.lc : Int) from List.filterMap_eq_map ▸ rfl] at ea
          subst ea
          refine ⟨D, _, rfl, .inl (.inl d4), ?_⟩
          have h := q H4 (s13.trans s4)
          rw [lc_kids e, ← lcS_sum] at h
          exact h
theorem dp_kids {p : Pl} : p.dp = dpL p.kids + 1 := by
  cases p with
  | ours a b => rfl
  | wthr a b c => rfl
  | wthn n p =>
    show p.dp + 1 = max p.dp 0 + 1
    omega
  | many w ps => rfl
def sp_ldepth (n : Nat) : Sp := fun vs H Q _ => ∃ (v : V) (p : Pl), vs = [v] ∧ PlAt H p v ∧ p.ok ∧ p.dp ≤ n ∧ ∀ (H' : Hp), Same H H' → Q (.int (p.dp : Nat)) H'
theorem cal_ldepth (T : Tp K mg) : ∀ n : Nat, Cal P w K mg base (n + 1) "_law_plan_depth" (sp_ldepth n)
  | 0 => by
    obtain ⟨fd, F⟩ := f__law_plan_depth T
    refine cal_of F (g__law_plan_depth T) (b__law_plan_depth F) sc__law_plan_depth (fun vs H Q E h => ?_) (fun cdv A outer s H vs Q E hr h => ?_)
    · obtain ⟨v, p, rfl, _⟩ := h
      rfl
    · obtain ⟨v, p, _, _, _, d, _⟩ := h
      have := dp_pos p
      omega
  | n + 1 => by
    have ih := cal_ldepth T n
    obtain ⟨fd, F⟩ := f__law_plan_depth T
    refine cal_of F (g__law_plan_depth T) (b__law_plan_depth F) sc__law_plan_depth (fun vs H Q E h => ?_) (fun cdv A outer s H vs Q E hr h => ?_)
    · obtain ⟨v, p, rfl, _⟩ := h
      rfl
    · obtain ⟨v, p, rfl, hp, ok, d, q⟩ := h
      have hu64 := hr.units
      refine ⟨_, (pss_one (ps_ret (pe_op op_add pe_int (pe_callBK (cr_maxDf rfl hu64) (by rfl) (z_max T) bb_maxP (pa_cons (pe_lc (own := [("_law_one", 1)]) (g := gName 1) (tt := tYes) rfl sc__law_plan_depth.nd (pi_list (C8.pe_c (cal__law_kids T) hr (by omega) rfl (pa_cons (pv 0) pa_nil))) (blkOk_by (N := N__law_plan_depth) (sc := defScope s__law_plan_depth) (by decide +kernel)) (fun _ _ _ _ _ => (pg_name (i := 1) sc__law_plan_depth.nd rfl (.inl rfl))) (fun _ _ _ _ _ => pts_nil) (fun _ _ _ _ _ => (C8.pe_c ih hr (Nat.le_refl _) rfl (pa_cons (pv 1) pa_nil)))) pa_nil) (pk_cons pe_int pk_nil))))), ?_⟩
      refine ⟨_, rfl, v, p, rfl, hp, ok, fun L H2 s2 kl ⟨xs, hL, KL⟩ => ⟨L, rfl, ⟨_, .inl (.inl hL)⟩, fun D nD => ?_⟩⟩
      have lk := kids_len ok
      refine lc_pure p.kids (walk_listN KL.len) (fun c => some (c.dp : Int)) (SV V.int) (fun _ h => h) nD (by omega) (fun H s => .inl (.inl (s _ _ hL))) ?_ ?_
      · rintro i c x H4 _ ec s4 ⟨rfl, hv⟩ Good Bad kt kf
        have hc := KL.get hv ec
        have hm := List.mem_of_getElem? ec
        exact ⟨rfl, yes_i (iteT ⟨_, rfl, x, c, rfl, hc.same s4, kids_ok ok hm, kids_dp d hm, fun H5 s5 => kt _ _ _ rfl s5 rfl⟩)⟩
      · intro H4 acc s4 d4 p4
        have ea := paired_enc p4
        rw [show (p.kids.filterMap fun c => some (c.dp : Int)) = p.kids.map fun c => (c.dp : Int) from List.filterMap_eq_map ▸ rfl] at ea
        subst ea
        have h := q H4 (s2.trans s4)
        rw [dp_kids] at h
        refine ⟨D, _, 0, rfl, rfl, .inl (.inl d4), fun e => ⟨1, 0, rfl, rfl, ?_⟩, fun y ys e => ⟨1, _, rfl, rfl, ?_⟩⟩
        · have ek : p.kids = [] := List.map_eq_nil_iff.mp e
          rw [ek] at h
          exact h
        · match hk : p.kids, e with
          | c0 :: cs, e =>
            injection e with e1 e2
            subst e1 e2
            rw [hk] at h
            show Q (.int (1 + (cs.map fun c => (c.dp : Int)).foldl max (c0.dp : Int))) H4
            rw [dpL_fold]
            have h : Q (.int ((max c0.dp (dpL cs) + 1 : Nat) : Int)) H4 := h
            rw [show ((max c0.dp (dpL cs) + 1 : Nat) : Int) = 1 + ((max c0.dp (dpL cs) : Nat) : Int) by omega] at h
            exact h
end
end Tw

set_option maxHeartbeats 4000000
namespace Tw
open PySem PySem.Spec PyProof.Rows L2
/-! the law's own of plans: how many readings, whether one is good -/
section
variable {P : Program} {w : World} {K : PySem.W.Frag} {mg : Str → Option Value} {base : Heap}
def sp_lread (n : Nat) : Sp := fun vs H Q _ => ∃ (v : V) (p : Pl), vs = [v] ∧ PlAt H p v ∧ p.ok ∧ p.dp ≤ n ∧ p.lc ≤ 12 ∧ ∀ (H' : Hp), Same H H' → Q (.int (p.rc : Nat)) H'
theorem cal_lread (T : Tp K mg) : ∀ n : Nat, Cal P w K mg base (n + 1) "_law_reading_count" (sp_lread n)
  | 0 => by
    obtain ⟨fd, F⟩ := f__law_reading_count T
    refine cal_of F (g__law_reading_count T) (b__law_reading_count F) sc__law_reading_count (fun vs H Q E h => ?_) (fun cdv A outer s H vs Q E hr h => ?_)
    · obtain ⟨v, p, rfl, _⟩ := h
      rfl
    · obtain ⟨v, p, _, _, _, d, _⟩ := h
      have := dp_pos p
      omega
  | n + 1 => by
    have ih := cal_lread T n
    obtain ⟨fd, F⟩ := f__law_reading_count T
    refine cal_of F (g__law_reading_count T) (b__law_reading_count F) sc__law_reading_count (fun vs H Q E h => ?_) (fun cdv A outer s H vs Q E hr h => ?_)
    · obtain ⟨v, p, rfl, _⟩ := h
      rfl
    · obtain ⟨v, p, rfl, hp, ok, d, few, q⟩ := h
      obtain ⟨t, r, rfl, ht⟩ := hp.tup
      have lk := kids_len ok
      refine ⟨_, (pss_cons (ps_if (pt_cmpR op_eq (pe_ix ix_tup (pv 0) pe_int (fun _ _ => rfl)) pe_str (nomark _)) (pss_one (ps_ret (pe_callB (cr_sum rfl) (by rfl) (z_sum T) bb_sum (pa_cons (pe_lc (own := [("_law_one", 2)]) (g := gName 2) (tt := tYes) rfl sc__law_reading_count.nd (pi_list (pe_ix ix_tup (pv 0) pe_int (fun _ _ => rfl))) (blkOk_by (N := N__law_reading_count) (sc := defScope s__law_reading_count) (by decide +kernel)) (fun _ _ _ _ _ => (pg_name (i := 2) sc__law_reading_count.nd rfl (.inl rfl))) (fun _ _ _ _ _ => pts_nil) (fun _ _ _ _ _ => (C8.pe_c ih hr (Nat.le_refl _) rfl (pa_cons (pv 2) pa_nil)))) pa_nil)))) pss_nil)
      (pss_cons (ps_set (i := 1) sc__law_reading_count.nd rfl (.inl rfl) pe_int)
      (pss_cons (ps_for PassesOwn.never rfl (pi_list (C8.pe_c (cal__law_kids T) hr (by omega) rfl (pa_cons (pv 0) pa_nil))) (pg_name (i := 2) sc__law_reading_count.nd rfl (.inl rfl))
        (pss_one (ps_set (i := 1) sc__law_reading_count.nd rfl (.inl rfl) (pe_op op_mul (pv 1) (C8.pe_c ih hr (Nat.le_refl _) rfl (pa_cons (pv 2) pa_nil))))))
      (pss_one (ps_ret (pv 1)))))), ?_⟩
      refine ⟨_, rfl, t, _, 0, .str p.wd, rfl, rfl, .inl (.inl ht), atI_nat (j := 0) rfl, rfl, _, rfl, ?_⟩
      by_cases ce : p.wd = "either"
      · rw [decide_eq_true (show V.str p.wd = V.str "either" by rw [ce])]
        have er := rc_either ce ok
        cases p with
        | ours a b => exact absurd ce (by show ¬ ("ours" : Str) = "either"; decide +kernel)
        | wthr a b c => exact absurd ce (by show ¬ ("weather" : Str) = "either"; decide +kernel)
        | wthn n p => exact absurd ce (by show ¬ ("within" : Str) = "either"; decide +kernel)
        | many w ps =>
          obtain ⟨t', l, xs, e1, h2, h3, h4⟩ := hp
          cases e1
          refine iteT ⟨_, rfl, t, _, 1, .ref l, rfl, rfl, .inl (.inl h2), atI_nat (j := 1) rfl, l, rfl, ⟨_, .inl (.inl h3)⟩, fun D nD => ?_⟩
          refine lc_pure ps (walk_listN h4.len) (fun c => some (c.rc : Int)) (SV V.int) (fun _ h => h) nD (by show ps.length ≤ 1000; have := ok.2.2.1; omega) (fun H s => .inl (.inl (s _ _ h3))) ?_ ?_
          · rintro i c x H4 _ ec s4 ⟨rfl, hv⟩ Good Bad kt kf
            have hc := h4.get hv ec
            have hm := List.mem_of_getElem? ec
            exact ⟨rfl, yes_i (iteT ⟨_, rfl, x, c, rfl, hc.same s4, kids_ok ok hm, kids_dp d hm, kids_lc ok few hm, fun H5 s5 => kt _ _ _ rfl s5 rfl⟩)⟩
          · intro H4 acc s4 d4 p4
            have ea := paired_enc p4
            rw [show (ps.filterMap fun c => some (c.rc : Int)) = ps.map fun c => (c.rc : Int) from List.filterMap_eq_map ▸ rfl] at ea
            subst ea
            refine ⟨D, _, rfl, .inl (.inl d4), ?_⟩
            have h := q H4 s4
            rw [er, ← rcS_sum] at h
            exact h
      · rw [decide_eq_false (show ¬ V.str p.wd = V.str "either" from fun e => ce (V.str.inj e))]
        refine iteF ⟨_, rfl, _, p, rfl, hp, ok, fun L H2 s2 kl ⟨xs, hL, KL⟩ => ⟨L, rfl, ⟨_, .inl (.inl hL)⟩, ?_⟩⟩
        have lx := KL.len
        refine for_list (K := K) (a := L) (xs := xs) (fun i σ H' => Same H2 H' ∧ ∃ y2 : Option V, σ = [some (.ref t), some (.int (rcP (p.kids.take i) : Nat)), y2]) ⟨Same.refl _, none, rfl⟩ (fun i σ H' _ h => .inl (.inl (h.1 _ _ hL))) ?_ ?_
        · rintro i x σ H4 hv ⟨s4, y2, rfl⟩
          have hi : i < xs.length := (List.getElem?_eq_some_iff.mp hv).1
          obtain ⟨c, ec⟩ : ∃ c, p.kids[i]? = some c := ⟨_, List.getElem?_eq_getElem (by omega)⟩
          have hc := (KL.get hv ec).same s4
          have hm := List.mem_of_getElem? ec
          have em : ((rcP (p.kids.take (i + 1)) : Nat) : Int) = (rcP (p.kids.take i) : Int) * (c.rc : Int) := by
            rw [rcP_step ec]
            exact Int.natCast_mul _ _
          refine ⟨_, rfl, _, rfl, x, c, rfl, hc, kids_ok ok hm, kids_dp d hm, kids_lc ok few hm, fun H5 s5 => ⟨_, _, rfl, rfl, c_mul (rcP_take (okL_kids ok) (lcS_kids few)), s4.trans s5, some x, ?_⟩⟩
          rw [em]
          rfl
        · rintro σ H4 ⟨s4, y2, rfl⟩
          refine ⟨_, rfl, ?_⟩
          have h := q H4 (s2.trans s4)
          rw [rc_prod ce] at h
          rw [lx, List.take_length]
          exact h
/-! ### _law_good_leaf, _law_good_form, _law_good_plan -/
def sp_gleaf : Sp := fun vs H Q _ => ∃ (v : V) (p : Pl), vs = [v] ∧ PlAt H p v ∧ p.ok ∧ leafW p = true ∧ Q (.bl p.gf) H
theorem whB_I {lo hi i : Int} : whB lo hi (.int i) = whI lo hi i := rfl
theorem cal__law_good_leaf (T : Tp K mg) : Cal P w K mg base 3 "_law_good_leaf" sp_gleaf := by
  obtain ⟨fd, F⟩ := f__law_good_leaf T
  refine cal_of F (g__law_good_leaf T) (b__law_good_leaf F) sc__law_good_leaf (fun vs H Q E h => ?_) (fun cdv A outer s H vs Q E hr h => ?_)
  · obtain ⟨v, p, rfl, _⟩ := h
    rfl
  · obtain ⟨v, p, rfl, hp, ok, lf, q⟩ := h
    refine ⟨_, (pss_cons (ps_if (pt_cmpR op_eq (pe_ix ix_tup (pv 0) pe_int (fun _ _ => rfl)) pe_str (nomark _)) (pss_cons (ps_set (i := 1) sc__law_good_leaf.nd rfl (.inl rfl) (pe_and (C8.pe_c (cal__law_whole T) hr (by decide) rfl (pa_cons (pe_ix ix_tup (pv 0) pe_int (fun _ _ => rfl)) (pa_cons pe_int (pa_cons pe_int pa_nil)))) (pe_one (C8.pe_c (cal__law_whole T) hr (by decide) rfl (pa_cons (pe_ix ix_tup (pv 0) pe_int (fun _ _ => rfl)) (pa_cons pe_int (pa_cons pe_int pa_nil)))))))
        (pss_one (ps_ret (pe_and (pv 1) (pe_one (pe_cmpR op_le (pe_ix ix_tup (pv 0) pe_int (fun _ _ => rfl)) (pe_ix ix_tup (pv 0) pe_int (fun _ _ => rfl)) (nomark _))))))) pss_nil)
      (pss_cons (ps_set (i := 1) sc__law_good_leaf.nd rfl (.inl rfl) (pe_and (C8.pe_c (cal__law_whole T) hr (by decide) rfl (pa_cons (pe_ix ix_tup (pv 0) pe_int (fun _ _ => rfl)) (pa_cons pe_int (pa_cons pe_int pa_nil)))) (pe_one (C8.pe_c (cal__law_whole T) hr (by decide) rfl (pa_cons (pe_ix ix_tup (pv 0) pe_int (fun _ _ => rfl)) (pa_cons pe_int (pa_cons pe_int pa_nil)))))))
      (pss_cons (ps_set (i := 1) sc__law_good_leaf.nd rfl (.inl rfl) (pe_and (pv 1) (pe_one (pe_cmpR op_le (pe_ix ix_tup (pv 0) pe_int (fun _ _ => rfl)) (pe_ix ix_tup (pv 0) pe_int (fun _ _ => rfl)) (nomark _)))))
      (pss_one (ps_ret (pe_and (pv 1) (pe_one (pe_or (pe_cmpR op_isN (pe_ix ix_tup (pv 0) pe_int (fun _ _ => rfl)) pe_non (nomark _)) (pe_one (C8.pe_c (cal__law_whole T) hr (by decide) rfl (pa_cons (pe_ix ix_tup (pv 0) pe_int (fun _ _ => rfl)) (pa_cons pe_int (pa_cons pe_int pa_nil))))))))))))), ?_⟩
    cases p with
    | wthn n p =>
      rw [leaf_wthn] at lf
      cases lf
    | many w ps =>
      rw [leaf_many ok.1] at lf
      cases lf
    | ours lo hi =>
      obtain ⟨t, rfl, h2⟩ := hp
      have S : SqT K H t [.str "ours", .int lo, .int hi] := .inl (.inl h2)
      refine ⟨_, rfl, t, _, 0, .str "ours", rfl, rfl, S, atI_nat (j := 0) rfl, rfl, _, rfl, ?_⟩
      rw [eq_str]
      have q : Q (.bl (whI 0 1000 lo && whI 0 1000 hi && decide (lo ≤ hi))) H := q
      refine iteT ⟨_, rfl, t, _, 1, .int lo, rfl, rfl, S, atI_nat (j := 1) rfl, .int lo, 0, 1000, rfl, rfl, _, rfl, ?_⟩
      rw [whB_I]
      cases e1 : whI 0 1000 lo with
      | false =>
        rw [e1] at q
        exact iteF ⟨_, rfl, _, rfl, iteF q⟩
      | true =>
        rw [e1, Bool.true_and] at q
        refine iteT ⟨_, rfl, t, _, 2, .int hi, rfl, rfl, S, atI_nat (j := 2) rfl, .int hi, 0, 1000, rfl, rfl, ?_⟩
        rw [whB_I]
        refine ⟨_, rfl, _, rfl, ?_⟩
        cases e2 : whI 0 1000 hi with
        | false =>
          rw [e2] at q
          exact iteF q
        | true =>
          rw [e2, Bool.true_and] at q
          exact iteT ⟨_, rfl, t, _, 1, .int lo, rfl, rfl, S, atI_nat (j := 1) rfl, _, rfl, t, _, 2, .int hi, rfl, rfl, S, atI_nat (j := 2) rfl, _, _, rfl, rfl, q⟩
    | wthr lo hi la =>
      obtain ⟨t, rfl, h2⟩ := hp
      have S : SqT K H t [.str "weather", .int lo, .int hi, oV la] := .inl (.inl h2)
      refine ⟨_, rfl, t, _, 0, .str "weather", rfl, rfl, S, atI_nat (j := 0) rfl, rfl, _, rfl, ?_⟩
      rw [ne_str (show ¬ ("weather" : Str) = "ours" by decide +kernel)]
      have q : Q (.bl (whI 1 1000 lo && whI 1 1000 hi && decide (lo ≤ hi) && lateO la)) H := q
      refine iteF ⟨_, rfl, t, _, 1, .int lo, rfl, rfl, S, atI_nat (j := 1) rfl, .int lo, 1, 1000, rfl, rfl, _, rfl, ?_⟩
      rw [whB_I]
      cases e1 : whI 1 1000 lo with
      | false =>
        rw [e1] at q
        exact iteF ⟨_, rfl, _, rfl, iteF ⟨_, rfl, _, rfl, iteF q⟩⟩
      | true =>
        rw [e1, Bool.true_and] at q
        refine iteT ⟨_, rfl, t, _, 2, .int hi, rfl, rfl, S, atI_nat (j := 2) rfl, .int hi, 1, 1000, rfl, rfl, ?_⟩
        rw [whB_I]
        refine ⟨_, rfl, _, rfl, ?_⟩
        cases e2 : whI 1 1000 hi with
        | false =>
          rw [e2] at q
          exact iteF ⟨_, rfl, _, rfl, iteF q⟩
        | true =>
          rw [e2, Bool.true_and] at q
          refine iteT ⟨_, rfl, t, _, 1, .int lo, rfl, rfl, S, atI_nat (j := 1) rfl, _, rfl, t, _, 2, .int hi, rfl, rfl, S, atI_nat (j := 2) rfl, _, _, rfl, rfl, ?_⟩
          refine ⟨_, rfl, _, rfl, ?_⟩
          cases e3 : decide (lo ≤ hi) with
          | false =>
            rw [e3] at q
            exact iteF q
          | true =>
            rw [e3, Bool.true_and] at q
            refine iteT ⟨_, rfl, t, _, 3, oV la, rfl, rfl, S, atI_nat (j := 3) rfl, rfl, _, rfl, ?_⟩
            cases la with
            | none =>
              rw [decide_eq_true (show oV none = V.non from rfl)]
              exact iteT q
            | some i =>
              rw [decide_eq_false (show ¬ oV (some i) = V.non from fun z => by cases z)]
              exact iteF ⟨_, rfl, t, _, 3, .int i, rfl, rfl, S, atI_nat (j := 3) rfl, .int i, 0, 1000, rfl, rfl, q⟩
def sz1 : List (Key × V) := [(.inr "ours", .int 3), (.inr "weather", .int 4), (.inr "then", .int 2), (.inr "beside", .int 2), (.inr "either", .int 2), (.inr "within", .int 3)]
/-- how long a plan's tuple is -/
def lenOf : Pl → Nat
  | .ours _ _ => 3
  | .wthr _ _ _ => 4
  | .wthn _ _ => 3
  | .many _ _ => 2
theorem PlAt.tupL {H : Hp} {p : Pl} {v : V} (h : PlAt H p v) : ∃ t r, v = .ref t ∧ H t = some (.tup (.str p.wd :: r)) ∧ (V.str p.wd :: r).length = lenOf p := by
  cases p with
  | ours a b =>
    obtain ⟨t, h1, h2⟩ := h
    exact ⟨t, _, h1, h2, rfl⟩
  | wthr a b c =>
    obtain ⟨t, h1, h2⟩ := h
    exact ⟨t, _, h1, h2, rfl⟩
  | wthn n p =>
    obtain ⟨t, u, h1, h2, _⟩ := h
    exact ⟨t, _, h1, h2, rfl⟩
  | many w ps =>
    obtain ⟨t, l, xs, h1, h2, _⟩ := h
    exact ⟨t, _, h1, h2, rfl⟩
theorem sz1_at {p : Pl} (ok : p.ok) : valV (mergeK [] sz1) (.inr p.wd) = some (.int (lenOf p : Nat)) := by
  cases p with
  | ours a b =>
    show valV (mergeK [] sz1) (.inr "ours") = some (.int 3)
    decide +kernel
  | wthr a b c =>
    show valV (mergeK [] sz1) (.inr "weather") = some (.int 4)
    decide +kernel
  | wthn n p =>
    show valV (mergeK [] sz1) (.inr "within") = some (.int 3)
    decide +kernel
  | many w ps =>
    show valV (mergeK [] sz1) (.inr w) = some (.int 2)
    rcases (show manyW w from ok.1) with rfl | rfl | rfl <;> decide +kernel
def sp_gform (n : Nat) : Sp := fun vs H Q _ => ∃ (v : V) (p : Pl), vs = [v] ∧ PlAt H p v ∧ p.ok ∧ p.dp ≤ n ∧ ∀ (H' : Hp), Same H H' → Q (.bl p.gf) H'
theorem cal_gform (T : Tp K mg) : ∀ n : Nat, Cal P w K mg base (n + 4) "_law_good_form" (sp_gform n)
  | 0 => by
    obtain ⟨fd, F⟩ := f__law_good_form T
    refine cal_of F (g__law_good_form T) (b__law_good_form F) sc__law_good_form (fun vs H Q E h => ?_) (fun cdv A outer s H vs Q E hr h => ?_)
    · obtain ⟨v, p, rfl, _⟩ := h
      rfl
    · obtain ⟨v, p, _, _, _, d, _⟩ := h
      have := dp_pos p
      omega
  | n + 1 => by
    have ih := cal_gform T n
    obtain ⟨fd, F⟩ := f__law_good_form T
    refine cal_of F (g__law_good_form T) (b__law_good_form F) sc__law_good_form (fun vs H Q E h => ?_) (fun cdv A outer s H vs Q E hr h => ?_)
    · obtain ⟨v, p, rfl, _⟩ := h
      rfl
    · obtain ⟨v, p, rfl, hp, ok, d, q⟩ := h
      have hu := hu_of hr
      refine ⟨_, (pss_cons (ps_set (i := 1) sc__law_good_form.nd rfl (.inl rfl) (pe_disp (pps_cons pe_str pe_int (pps_cons pe_str pe_int (pps_cons pe_str pe_int (pps_cons pe_str pe_int (pps_cons pe_str pe_int (pps_cons pe_str pe_int pps_nil)))))) (by rfl) (by rfl) (fun z => by cases z) (by decide)))
      (pss_cons (ps_if (PW.pt (pw_or (pt_not (pt_val (pe_callB call_isK (by rfl) (z_isinstance T) bb_isinstance (pa_cons (pv 0) (pa_cons (pe_bltn (v := .ty "tuple") (by rfl) (z_tuple T) bb_tuple rfl) pa_nil))))) (pw_or1 (pt_cmpR op_eq (pe_callB call_len_seq (by rfl) (z_len T) bb_len (pa_cons (pv 0) pa_nil)) pe_int (nomark _))))) (pss_one (ps_ret pe_bl)) pss_nil)
      (pss_cons (ps_if (pt_cmpR op_ne (pe_dget2 hu (pv 1) (pe_ix ix_tup (pv 0) pe_int (fun _ _ => rfl)) (pe_un un_neg pe_int) ⟨rfl, rfl, rfl, rfl⟩) (pe_callB call_len_seq (by rfl) (z_len T) bb_len (pa_cons (pv 0) pa_nil)) (nomark _)) (pss_one (ps_ret pe_bl)) pss_nil)
      (pss_cons (ps_if (pt_cmpR op_in_seq (pe_ix ix_tup (pv 0) pe_int (fun _ _ => rfl)) (pe_lst (pa_cons pe_str (pa_cons pe_str pa_nil))) (by rfl)) (pss_one (ps_ret (C8.pe_c (cal__law_good_leaf T) hr (by omega) rfl (pa_cons (pv 0) pa_nil)))) pss_nil)
      (pss_cons (ps_if (pt_cmpR op_eq (pe_ix ix_tup (pv 0) pe_int (fun _ _ => rfl)) pe_str (nomark _)) (pss_one (ps_ret (pe_and (C8.pe_c (cal__law_whole T) hr (by omega) rfl (pa_cons (pe_ix ix_tup (pv 0) pe_int (fun _ _ => rfl)) (pa_cons pe_int (pa_cons pe_int pa_nil)))) (pe_one (C8.pe_c ih hr (Nat.le_refl _) rfl (pa_cons (pe_ix ix_tup (pv 0) pe_int (fun _ _ => rfl)) pa_nil)))))) pss_nil)
      (pss_cons (ps_if (PW.pt (pw_or (pt_not (pt_val (pe_callB call_isK (by rfl) (z_isinstance T) bb_isinstance (pa_cons (pe_ix ix_tup (pv 0) pe_int (fun _ _ => rfl)) (pa_cons (pe_bltn (v := .ty "list") (by rfl) (z_list T) bb_list rfl) pa_nil))))) (pw_or1 (pt_not (pt_chain op_le op_le pe_int (pe_callB call_len_seq (by rfl) (z_len T) bb_len (pa_cons (pe_ix ix_tup (pv 0) pe_int (fun _ _ => rfl)) pa_nil)) pe_int))))) (pss_one (ps_ret pe_bl)) pss_nil)
      (pss_one (ps_ret (pe_callB (cr_all rfl) (by rfl) (z_all T) bb_all (pa_cons (pe_lc (own := [("_law_one", 2)]) (g := gName 2) (tt := tYes) rfl sc__law_good_form.nd (pi_list (pe_ix ix_tup (pv 0) pe_int (fun _ _ => rfl))) (blkOk_by (N := N__law_good_form) (sc := defScope s__law_good_form) (by decide +kernel)) (fun _ _ _ _ _ => (pg_name (i := 2) sc__law_good_form.nd rfl (.inl rfl))) (fun _ _ _ _ _ => pts_nil) (fun _ _ _ _ _ => (C8.pe_c ih hr (Nat.le_refl _) rfl (pa_cons (pv 2) pa_nil)))) pa_nil)))))))))), ?_⟩
      refine fun Z nZ => ⟨upd_same, sz1, rfl, by decide, ?_⟩
      have sZ : Same H (upd (upd H Z (.dK [])) Z (.dK (mergeK [] sz1))) := same_put (same_upd nZ) nZ
      have hZ : upd (upd H Z (.dK [])) Z (.dK (mergeK [] sz1)) Z = some (.dK (mergeK [] sz1)) := upd_same
      have hp1 := hp.same sZ
      generalize upd (upd H Z (.dK [])) Z (.dK (mergeK [] sz1)) = H1 at sZ hZ hp1 ⊢
      obtain ⟨t, r, rfl, ht, hlen⟩ := hp1.tupL
      have S : SqT K H1 t (.str p.wd :: r) := .inl (.inl ht)
      refine ⟨_, rfl, _, "tuple", "tuple", rfl, .base (.tup ht), by decide, by decide, _, rfl, iteF ⟨_, rfl, t, _, rfl, .inr S, rfl, _, rfl, ?_⟩⟩
      rw [decide_eq_false (show ¬ V.int ((V.str p.wd :: r).length : Nat) = V.int 0 from fun e => by have e := V.int.inj e; rw [List.length_cons] at e; omega)]
      refine iteF ⟨_, rfl, Z, rfl, .inl ⟨_, .inl hZ⟩, _, rfl, t, _, 0, .str p.wd, rfl, rfl, S, atI_nat (j := 0) rfl, _, rfl, some (.int (lenOf p : Nat)), .inl ⟨_, .inr p.wd, .inl hZ, rfl, (sz1_at ok).symm⟩, _, rfl, t, _, rfl, .inr S, rfl, _, rfl, ?_⟩
      refine iteNS (by rw [hlen]; rfl) ?_
      refine ⟨_, rfl, t, _, 0, .str p.wd, rfl, rfl, S, atI_nat (j := 0) rfl, (by show 2 ≤ sizeLine; decide), fun g ng => ?_⟩
      have sg := same_upd (o := .lst [.str "ours", .str "weather"]) ng
      have hp2 := hp1.same sg
      have s2 := sZ.trans sg
      have ht2 := sg _ _ ht
      refine ⟨g, [.str "ours", .str "weather"], rfl, .inl (.inl (.inl upd_same)), rfl, rfl, _, rfl, ?_⟩
      show if inV (.str p.wd) [.str "ours", .str "weather"] = true then _ else _
      rw [two_in, show decide (p.wd = "ours" ∨ p.wd = "weather") = leafW p from rfl]
      generalize upd H1 g (.lst [.str "ours", .str "weather"]) = H2 at sg hp2 s2 ht2 ⊢
      cases e : leafW p with
      | true => exact iteT ⟨_, rfl, _, p, rfl, hp2, ok, e, q H2 s2⟩
      | false =>
        refine iteF ⟨_, rfl, t, _, 0, .str p.wd, rfl, rfl, .inl (.inl ht2), atI_nat (j := 0) rfl, rfl, _, rfl, ?_⟩
        cases p with
        | ours a b =>
          rw [leaf_ours] at e
          cases e
        | wthr a b c =>
          rw [leaf_wthr] at e
          cases e
        | wthn m p =>
          obtain ⟨t', u, e1, h2, h3⟩ := hp2
          cases e1
          have d : p.dp + 1 ≤ n + 1 := d
          have S2 : SqT K H2 t [.str "within", .int m, u] := .inl (.inl h2)
          rw [show decide (V.str (Pl.wthn m p).wd = V.str "within") = true from eq_str]
          have q : ∀ H', Same H H' → Q (.bl (whI 0 1000 m && p.gf)) H' := q
          refine iteT ⟨_, rfl, t, _, 1, .int m, rfl, rfl, S2, atI_nat (j := 1) rfl, .int m, 0, 1000, rfl, rfl, _, rfl, ?_⟩
          rw [whB_I]
          cases e1 : whI 0 1000 m with
          | false =>
            have h := q H2 s2
            rw [e1] at h
            exact iteF h
          | true =>
            refine iteT ⟨_, rfl, t, _, 2, u, rfl, rfl, S2, atI_nat (j := 2) rfl, u, p, rfl, h3, ok, by omega, fun H3 s3 => ?_⟩
            have h := q H3 (s2.trans s3)
            rw [e1, Bool.true_and] at h
            exact h
        | many w ps =>
          obtain ⟨t', l, xs, e1, h2, h3, h4⟩ := hp2
          cases e1
          have d : dpL ps + 1 ≤ n + 1 := d
          have k1 := ok.2.1
          have k4 := ok.2.2.1
          have lx := h4.len
          have no := many_no ok.1
          have S2 : SqT K H2 t [.str w, .ref l] := .inl (.inl h2)
          rw [show decide (V.str (Pl.many w ps).wd = V.str "within") = false from ne_str no.2.2]
          refine iteF ⟨_, rfl, t, _, 1, .ref l, rfl, rfl, S2, atI_nat (j := 1) rfl, _, "list", "list", rfl, .base (.lst h3), by decide, by decide, _, rfl, iteF ?_⟩
          refine ⟨_, rfl, t, _, 1, .ref l, rfl, rfl, S2, atI_nat (j := 1) rfl, l, xs, rfl, .inl (.inl (.inl h3)), _, _, rfl, rfl, _, rfl, ?_⟩
          rw [decide_eq_true (show (1 : Int) ≤ (xs.length : Nat) by omega)]
          refine iteT ⟨_, _, rfl, rfl, _, rfl, ?_⟩
          rw [decide_eq_true (show ((xs.length : Nat) : Int) ≤ 4 by omega)]
          refine iteF ⟨_, rfl, t, _, 1, .ref l, rfl, rfl, S2, atI_nat (j := 1) rfl, l, rfl, ⟨_, .inl (.inl h3)⟩, fun D nD => ?_⟩
          refine lc_pure ps (walk_listN lx) (fun c => some c.gf) (SV V.bl) (fun _ h => h) nD (by omega) (fun H s => .inl (.inl (s _ _ h3))) ?_ ?_
          · rintro i c x H3 _ ec s3 ⟨rfl, hv⟩ Good Bad kt kf
            have hc := h4.get hv ec
            have hm := List.mem_of_getElem? ec
            have := dpL_mem hm
            exact ⟨rfl, yes_i (iteT ⟨_, rfl, x, c, rfl, hc.same s3, okL_mem ok.2.2.2 hm, by omega, fun H4 s4 => kt _ _ _ rfl s4 rfl⟩)⟩
          · intro H3 acc s3 d3 p3
            have ea := paired_enc p3
            rw [show (ps.filterMap fun c => some c.gf) = ps.map Pl.gf from List.filterMap_eq_map ▸ rfl] at ea
            subst ea
            refine ⟨D, _, rfl, .inl (.inl d3), ?_⟩
            have h : Q (.bl (gfL ps)) H3 := q H3 (s2.trans s3)
            rw [gfL_all] at h
            rw [List.all_map]
            exact h
def GoodP (p : Pl) : Prop := p.gf = true ∧ p.lc ≤ 12 ∧ p.rc ≤ 64
def sp_gplan (n : Nat) : Sp := fun vs H Q _ => ∃ (v : V) (p : Pl), vs = [v] ∧ PlAt H p v ∧ p.ok ∧ p.dp ≤ n ∧ n ≤ 6 ∧ ∀ (H' : Hp) (b : Bool), Same H H' → (b = true → GoodP p) → Q (.bl b) H'
theorem cal_gplan (T : Tp K mg) (n : Nat) : Cal P w K mg base (n + 5) "_law_good_plan" (sp_gplan n) := by
  obtain ⟨fd, F⟩ := f__law_good_plan T
  refine cal_of F (g__law_good_plan T) (b__law_good_plan F) sc__law_good_plan (fun vs H Q E h => ?_) (fun cdv A outer s H vs Q E hr h => ?_)
  · obtain ⟨v, p, rfl, _⟩ := h
    rfl
  · obtain ⟨v, p, rfl, hp, ok, d, n6, q⟩ := h
    refine ⟨_, (pss_cons (ps_if (PW.pt (pw_or (pt_not (pt_val (C8.pe_c (cal_gform T n) hr (by omega) rfl (pa_cons (pv 0) pa_nil)))) (pw_or1 (pt_cmpR op_gt (C8.pe_c (cal_ldepth T n) hr (by omega) rfl (pa_cons (pv 0) pa_nil)) pe_int (nomark _))))) (pss_one (ps_ret pe_bl)) pss_nil)
      (pss_one (ps_ret (pe_and (pe_cmpR op_le (C8.pe_c (cal_lleaf T n) hr (by omega) rfl (pa_cons (pv 0) pa_nil)) pe_int (nomark _)) (pe_one (pe_cmpR op_le (C8.pe_c (cal_lread T n) hr (by omega) rfl (pa_cons (pv 0) pa_nil)) pe_int (nomark _))))))), ?_⟩
    refine ⟨_, rfl, v, p, rfl, hp, ok, d, fun H1 s1 => ⟨_, rfl, ?_⟩⟩
    cases eg : p.gf with
    | false => exact iteT (iteT (q H1 false s1 fun z => nomatch z))
    | true =>
      refine iteF ⟨_, rfl, v, p, rfl, hp.same s1, ok, d, fun H2 s2 => ⟨_, _, rfl, rfl, _, rfl, ?_⟩⟩
      rw [decide_eq_false (show ¬ (6 : Int) < (p.dp : Nat) by omega)]
      refine iteF ⟨_, rfl, v, p, rfl, (hp.same s1).same s2, ok, d, fun H3 s3 => ⟨_, _, rfl, rfl, _, rfl, ?_⟩⟩
      have s13 := (s1.trans s2).trans s3
      by_cases c : p.lc ≤ 12
      · rw [decide_eq_true (show ((p.lc : Nat) : Int) ≤ 12 by omega)]
        refine iteT ⟨_, rfl, v, p, rfl, hp.same s13, ok, d, c, fun H4 s4 => ⟨_, _, rfl, rfl, ?_⟩⟩
        exact q H4 _ (s13.trans s4) fun e => ⟨eg, c, by have := of_decide_eq_true e; omega⟩
      · rw [decide_eq_false (show ¬ ((p.lc : Nat) : Int) ≤ 12 by omega)]
        exact iteF (q H3 false s13 fun z => nomatch z)
end
end Tw

set_option maxHeartbeats 4000000
namespace Tw
open PySem PySem.Spec PyProof.Rows L2
/-- the refusals that are met: the class, its word, its field -/
inductive Fld (K : PySem.W.Frag) : Addr → Str → List V → List (Str × V) → Prop
  | cBadPlan : Fld K (He.ga K "BadPlan") "BadPlan" [] [(("word" : Str), V.str "BadPlan")]
def FieldE (K : PySem.W.Frag) (Q : VK) : XK := fun cls d H => ∃ (C dd : Addr) (u : Str) (ws : List V) (fs : List (Str × V)), Fld K C u ws fs ∧ cls = .ref C ∧ d = some dd ∧ H dd = some (.xd fs) ∧ ∀ t, H t = none → Q (.ref t) (upd H t (.tup (.str u :: ws)))
def TTf (K : PySem.W.Frag) : (XK → Hp → VK → Prop) → Hp → VK → Prop := fun tl H Q => tl (FieldE K Q) H fun _ H' => ∃ v, (some (some V.non) : Option (Option V)) = some (some v) ∧ Q v H'
section
variable {X : Cx}
theorem field_gives (T : Tp X.K X.mg) {g : Addr} {cdg : Value} {q : Str} : LamX.GivesTo X N__law_field "_law_field" (defScope s__law_field) g cdg (defBody s__law_field) "_law_ask" q (TTf X.K) := by
  intro f c' s H Q tl act hc h
  refine ⟨_, pss_cons (ps_set (i := 1) sc__law_field.nd rfl (.inl rfl) pe_non) (pss_cons (ps_tryM (X := (cxOf C8.CX0 X.prog X.w X.K X.mg X.base N__law_field "_law_field" (defScope s__law_field) g cdg X.A X.stack s H C8.E0).nox) (i := 2)
    (tb := fun W D σ H => ∃ Ech : XK, (∀ cls d σ' H', Ech cls d H' → W cls d σ' H') ∧ σ[0]? = some (some (.ref f)) ∧ H c' = some (LamX.CodeO c' q) ∧ tl Ech H (fun _ H' => D.nx σ H')) rfl rfl sc__law_field.nd rfl rfl LamX.takes0 (fun W pn xe tk _ => ?_)
    (.cons (.two ⟨rfl, by decide, .inl (g_BadBy T)⟩ ⟨rfl, by decide, .inl (g_BadDeed T)⟩) (ts := fun _ _ _ => tNever) (fun a oe cls d pn hz hf => pss_never)
      (.cons (.three ⟨rfl, by decide, .inl (g_BadName T)⟩ ⟨rfl, by decide, .inl (g_Taken T)⟩ ⟨rfl, by decide, .inl (g_Used T)⟩) (ts := fun _ _ _ => tNever) (fun a oe cls d pn hz hf => pss_never)
      (.cons (.one ⟨rfl, by decide, .inl (g_Full T)⟩) (ts := fun _ _ _ => tNever) (fun a oe cls d pn hz hf => pss_never)
      (.cons (.one ⟨rfl, by decide, .inl (g_BadLength T)⟩) (ts := fun _ _ _ => tNever) (fun a oe cls d pn hz hf => pss_never)
      (.cons (.one ⟨rfl, by decide, .inl (g_BadLate T)⟩) (ts := fun _ _ _ => tNever) (fun a oe cls d pn hz hf => pss_never)
      (.cons (.one ⟨rfl, by decide, .inl (g_BadTie T)⟩) (ts := fun _ _ _ => tNever) (fun a oe cls d pn hz hf => pss_never)
      (.cons (.three ⟨rfl, by decide, .inl (g_NoMoment T)⟩ ⟨rfl, by decide, .inl (g_NoPoint T)⟩ ⟨rfl, by decide, .inl (g_NoSpan T)⟩) (ts := fun _ _ _ => tNever) (fun a oe cls d pn hz hf => pss_never)
      (.cons (.two ⟨rfl, by decide, .inl (g_NoTie T)⟩ ⟨rfl, by decide, .inl (g_NoDeed T)⟩) (ts := fun _ _ _ => tNever) (fun a oe cls d pn hz hf => pss_never)
      (.cons (.three ⟨rfl, by decide, .inl (g_Done T)⟩ ⟨rfl, by decide, .inl (g_Unbegun T)⟩ ⟨rfl, by decide, .inl (g_Unheard T)⟩) (ts := fun _ _ _ => tNever) (fun a oe cls d pn hz hf => pss_never)
      (.cons (.three ⟨rfl, by decide, .inl (g_TooEarly T)⟩ ⟨rfl, by decide, .inl (g_TooLate T)⟩ ⟨rfl, by decide, .inl (g_BadNews T)⟩) (ts := fun _ _ _ => tNever) (fun a oe cls d pn hz hf => pss_never)
      (.cons (.two ⟨rfl, by decide, .inl (g_BadKeeper T)⟩ ⟨rfl, by decide, .inl (g_Over T)⟩) (ts := fun _ _ _ => tNever) (fun a oe cls d pn hz hf => pss_never)
      (.cons (.two ⟨rfl, by decide, .inl (g_BadPaper T)⟩ ⟨rfl, by decide, .inl (g_BadText T)⟩) (ts := fun _ _ _ => tNever) (fun a oe cls d pn hz hf => pss_never)
      (.cons (.three ⟨rfl, by decide, .inl (g_BadPlan T)⟩ ⟨rfl, by decide, .inl (g_Unsteered T)⟩ ⟨rfl, by decide, .inl (g_NothingBack T)⟩) (fun a oe cls d pn hz hf => pss_one (ps_set (i := 1) sc__law_field.nd rfl (.inl rfl) (pe_tup (pa_cons (pe_xw hz hf (pv 2)) pa_nil))))
      .nil)))))))))))))) (pss_one (ps_ret (pv 1)))), ?_⟩
  · refine ⟨fun pins s' σ H' D I h' => ?_⟩
    obtain ⟨Ech, hW, h1, h2, h3⟩ := h'
    exact (pss_one (ps_expr (act W pn xe Ech _ _ tk hW))).run pins s' σ H' D I ⟨h1, h2, h3⟩
  · refine ⟨FieldE X.K Q, fun cls d σ' H' ⟨C, dd, u, ws, fs, hF, ec, ed, hd, hq⟩ hl => ?_, rfl, hc, h⟩
    subst ec ed
    obtain ⟨x0, x1, x2, rfl⟩ : ∃ x0 x1 x2, σ' = [x0, x1, x2] := match σ', hl with
      | [x0, x1, x2], _ => ⟨x0, x1, x2, rfl⟩
    cases hF with
    | cBadPlan => exact ⟨_, em_BadPlan_0 T, (fun z => nomatch z), fun _ => ⟨_, em_BadPlan_1 T, (fun z => nomatch z), fun _ => ⟨_, em_BadPlan_2 T, (fun z => nomatch z), fun _ => ⟨_, em_BadPlan_3 T, (fun z => nomatch z), fun _ => ⟨_, em_BadPlan_4 T, (fun z => nomatch z), fun _ => ⟨_, em_BadPlan_5 T, (fun z => nomatch z), fun _ => ⟨_, em_BadPlan_6 T, (fun z => nomatch z), fun _ => ⟨_, em_BadPlan_7 T, (fun z => nomatch z), fun _ => ⟨_, em_BadPlan_8 T, (fun z => nomatch z), fun _ => ⟨_, em_BadPlan_9 T, (fun z => nomatch z), fun _ => ⟨_, em_BadPlan_10 T, (fun z => nomatch z), fun _ => ⟨_, em_BadPlan_11 T, (fun z => nomatch z), fun _ => ⟨_, em_BadPlan_12 T, fun _ a na => ⟨_, rfl, rfl, _, dd, _, _, rfl, xf_BadPlan T, nf_BadPlan_word T, rfl, hd, rfl, (by show 1 ≤ sizeLine; decide), fun t nt => ⟨_, rfl, hq t nt⟩⟩, (fun z => nomatch z)⟩⟩⟩⟩⟩⟩⟩⟩⟩⟩⟩⟩⟩
/-- _law_field(lambda: body) -/
theorem pe_lam (T : Tp X.K X.mg) {c Pt : Addr} {k : Nat} {params : Arguments} {body : Expr} {scope : Scope} {t : XK → TE} {p lpos pos : Pos} (TB : LamX.TabB X.base X.mg c Pt) (hcode : X.env.code = .ref c) (hr : Room (k + 2) X.A) (L : LamX.LamS X.env.scope scope)
    (hbody : ∀ (A : Around) (outer : List Env) (s : Shared) (H : Hp) (E : XK) (f c' : Addr), Room k (A.deeper (LamX.lamEnv X scope s.heap.objs.size f c')) → Takes (LamX.lamCx X A outer s H E scope f c') (fun cls d _ H' => E cls d H') → PE (LamX.lamCx X A outer s H E scope f c') body (t E))
    (hg : Gl X "_law_field" := by rfl) (hdef : defaultsOf params X.env = ([], []) := by rfl) (hbind : ∀ (q : Str) (cl : List (Str × Addr)) (pm cv ctv : Value), bindArgs (PySem.W.kla_fn "<lambda>" q params body scope cl pm cv ctv) ⟨[], []⟩ = pure [] := by intros; rfl) :
    PE X (.Call (.Name "_law_field" p) [.Lambda params body scope lpos] [] pos) (LamX.tLam [(Pt, X.env.qual ++ "<lambda>")] (TTf X.K) t) := by
  obtain ⟨fd, F⟩ := f__law_field T
  have b := b__law_field F
  have kp := F.kp
  obtain ⟨oc, od, dV, kV, doc, pm, an, cdv, ct, osl, rfl, lk, hcd, _, _⟩ := F.ex
  exact LamX.pe_lamcall hg (g__law_field T) kp lk hcd b sc__law_field rfl (.inl rfl) (field_gives T) TB hcode List.mem_cons_self (fun p hp _ => by rw [List.mem_singleton.mp hp]) hr L hdef hbind (fun A outer s H E f c' hr' => hbody A outer s H E f c' hr' (takes_of rfl rfl rfl rfl))
/-- .. beside other tables -/
theorem pe_lamT {Ts : List (Addr × Str)} (T : Tp X.K X.mg) {c Pt : Addr} {k : Nat} {params : Arguments} {body : Expr} {scope : Scope} {t : XK → TE} {p lpos pos : Pos} (TB : LamX.TabB X.base X.mg c Pt) (hmT : (Pt, X.env.qual ++ "<lambda>") ∈ Ts) (hu : ∀ p ∈ Ts, p.1 = Pt → p.2 = X.env.qual ++ "<lambda>") (hcode : X.env.code = .ref c) (hr : Room (k + 2) X.A) (L : LamX.LamS X.env.scope scope)
    (hbody : ∀ (A : Around) (outer : List Env) (s : Shared) (H : Hp) (E : XK) (f c' : Addr), Room k (A.deeper (LamX.lamEnv X scope s.heap.objs.size f c')) → Takes (LamX.lamCx X A outer s H E scope f c') (fun cls d _ H' => E cls d H') → PE (LamX.lamCx X A outer s H E scope f c') body (t E))
    (hg : Gl X "_law_field" := by rfl) (hdef : defaultsOf params X.env = ([], []) := by rfl) (hbind : ∀ (q : Str) (cl : List (Str × Addr)) (pm cv ctv : Value), bindArgs (PySem.W.kla_fn "<lambda>" q params body scope cl pm cv ctv) ⟨[], []⟩ = pure [] := by intros; rfl) :
    PE X (.Call (.Name "_law_field" p) [.Lambda params body scope lpos] [] pos) (LamX.tLam Ts (TTf X.K) t) := by
  obtain ⟨fd, F⟩ := f__law_field T
  have b := b__law_field F
  have kp := F.kp
  obtain ⟨oc, od, dV, kV, doc, pm, an, cdv, ct, osl, rfl, lk, hcd, _, _⟩ := F.ex
  exact LamX.pe_lamcall hg (g__law_field T) kp lk hcd b sc__law_field rfl (.inl rfl) (field_gives T) TB hcode hmT hu hr L hdef hbind (fun A outer s H E f c' hr' => hbody A outer s H E f c' hr' (takes_of rfl rfl rfl rfl))
/-- _law_field(v), v a name that keeps a lambda -/
theorem pe_lamv (T : Tp X.K X.mg) {f c' : Addr} {i k : Nat} {v : Str} {params : Arguments} {body : Expr} {scope : Scope} {t : XK → TE} {p p2 pos : Pos} (kp : KeptL X params body scope f c') (hN : X.N[i]? = some v) (hv : Vis X.env.scope v) (hr : Room (k + 2) X.A) (L : LamX.LamS X.env.scope scope)
    (hbody : ∀ (A : Around) (outer : List Env) (s : Shared) (H : Hp) (E : XK), Room k (A.deeper (LamX.lamEnv X scope s.heap.objs.size f c')) → Takes (LamX.lamCx X A outer s H E scope f c') (fun cls d _ H' => E cls d H') → PE (LamX.lamCx X A outer s H E scope f c') body (t E))
    (hg : Gl X "_law_field" := by rfl) (hbind : ∀ (q : Str) (cl : List (Str × Addr)) (pm cv ctv : Value), bindArgs (PySem.W.kla_fn "<lambda>" q params body scope cl pm cv ctv) ⟨[], []⟩ = pure [] := by intros; rfl)
    (hd2 : (v == ("__debug__" : Str)) = false := by decide) (hcd2 : (v == ("__classdict__" : Str)) = false := by decide) :
    PE X (.Call (.Name "_law_field" p) [.Name v p2] [] pos) (tHand (X.env.qual ++ "<lambda>") f c' i (TTf X.K) t) := by
  obtain ⟨fd, F⟩ := f__law_field T
  have b := b__law_field F
  have kk := F.kp
  obtain ⟨oc, od, dV, kV, doc, pm, an, cdv, ct, osl, rfl, lk, hcd, _, _⟩ := F.ex
  exact pe_hand hg (g__law_field T) kk lk hcd b sc__law_field rfl (.inl rfl) (field_gives T) kp hN hv hr L hbind (fun A outer s H E hr' => hbody A outer s H E hr' (takes_of rfl rfl rfl rfl)) (hd2 := hd2) (hcd2 := hcd2)
end
end Tw

set_option maxHeartbeats 4000000
namespace Tw
open PySem PySem.Spec PyProof.Rows L2
/-! the law's own def, where it is known that nothing is being shown: so repr of lists and tuples can be told -/
/-- a def as it is called where no repr is under way -/
def FnG (P : Program) (w : World) (K : PySem.W.Frag) (mg : Str → Option Value) (base : Heap) (CX : CXT) (k : Nat) (f : Addr) (fd : FuncData) (ps : List Str) (sp : Sp) : Prop :=
  ∀ (A : Around) (outer : List Env) (s : Shared) (H : Hp) (args : Args) (us : List Value) (vs : List V) (Q : VK) (E : XK), A.guards = some [] → Room k A → Env0 P w K mg base A outer s H → BindsTo s fd args (ps.zip us) → Vals vs us → sp vs H Q E → codeAny (model P w) A (Code.call (.ref f) args) (CR CX outer P w H s Q E) s
theorem fng_at {P : Program} {w : World} {K : PySem.W.Frag} {mg : Str → Option Value} {base : Heap} {CX : CXT} {k : Nat} {f : Addr} {name qual : Str} {params : Arguments} {body : List Stmt} {scope : Scope} {dV kV doc pm cdv ct oc : Value} {an od : Option Addr} {osl : Array (Option Value)} {N ps : List Str} {sp : Sp}
    (at_ : K.lookup f = some { cls := oc, dict := od, data := .func (PySem.W.fnOf name qual params body scope dV kV doc pm an cdv ct), slots := osl }) (co : PySem.W.codeIn K cdv qual = true) (S : FnScope N ps scope) (len : ∀ vs H Q E, sp vs H Q E → vs.length = ps.length)
    (owed : ∀ (A : Around) (outer : List Env) (s : Shared) (H : Hp) (vs : List V) (Q : VK) (E : XK), A.guards = some [] → Room k (A.deeper (envOfC qual scope s.heap.objs.size f cdv)) → sp vs H Q E → ∃ t, PSs (cxOf CX P w K mg base N qual scope f cdv A outer s H E) body t ∧ t { nx := fun _ H' => Q .non H', rt := Q } (start N vs) H) :
    FnG P w K mg base CX (k + 1) f (PySem.W.fnOf name qual params body scope dV kV doc pm an cdv ct) ps sp := by
  intro A outer s H args us vs Q E hg room e0 hb rv h
  have kb : ∀ (b : Addr) (o : Obj), base.get? b = some o → s.heap.get? b = some o := fun b o z => (e0.bs b o z).1
  have kin := e0.mod.kin.keeps kb
  obtain ⟨t, hp, ht⟩ := owed A outer s H vs Q E hg (room.deeper _) h
  have lv := len vs H Q E h
  refine codeAny_call_function (body := body) room.depth (kin _ _ at_) rfl S.co S.gen rfl (PySem.W.codeRec_of kin co) ?_
  refine hb _ _ _ _ (wpAny_newFunctionEnv_cells S.kind (fun y hy => ?_) fun env ee s' ic => ⟨e0.mod.nolimit.keeps fun b o z => ic.toInCall.keep b o (kb b o z), codeAny_func ?_⟩)
  · rcases S.par y.1 (List.of_mem_zip hy).1 with q | q
    · exact .inl q
    · exact .inr ⟨q, PySem.W.cellsFrom_some _ _ _ (.inl q)⟩
  · subst ee
    have inv := inv_start (CX := CX) (cd := cdv) (qual := qual) (f := f) (E := E) S room.hd e0 lv rv ic
    refine wpAny_mono (hp.run [] s' _ H _ inv ht) (fun fl s2 q => ?_) (fun e s2 q => q)
    cases fl with
    | next =>
      obtain ⟨σ', H', I, q⟩ := q
      exact ⟨.non, H', I.os, I.bare, I.base, I.hok, rfl, q⟩
    | brk =>
      obtain ⟨σ', H', I, q⟩ := q
      exact q.elim
    | cont =>
      obtain ⟨σ', H', I, q⟩ := q
      exact q.elim
    | ret u =>
      obtain ⟨v, σ', H', I, rl, q⟩ := q
      exact ⟨v, H', I.os, I.bare, I.base, I.hok, rl, q⟩
theorem fng_of {P : Program} {w : World} {K : PySem.W.Frag} {mg : Str → Option Value} {base : Heap} {CX : CXT} {x qual : Str} {params : Arguments} {body : List Stmt} {scope : Scope} {dvs : List V} {kws : List (Str × V)} {f : Addr} {fd : FuncData} {N ps : List Str} {k : Nat} {sp : Sp} (F : FunD K x qual params body scope dvs kws f fd) (S : FnScope N ps scope) (len : ∀ vs H Q E, sp vs H Q E → vs.length = ps.length)
    (owed : ∀ (cdv : Value) (A : Around) (outer : List Env) (s : Shared) (H : Hp) (vs : List V) (Q : VK) (E : XK), A.guards = some [] → Room k (A.deeper (envOfC qual scope s.heap.objs.size f cdv)) → sp vs H Q E → ∃ t, PSs (cxOf CX P w K mg base N qual scope f cdv A outer s H E) body t ∧ t { nx := fun _ H' => Q .non H', rt := Q } (start N vs) H) : FnG P w K mg base CX (k + 1) f fd ps sp := by
  obtain ⟨oc, od, dV, kV, doc, pm, an, cdv, ct, osl, rfl, at_, co, _, _⟩ := F.ex
  exact fng_at at_ co S len (owed cdv)
/-! ### where the law is called from outside -/
def hidH (K : PySem.W.Frag) (cs : List (Addr × Addr)) (a : Addr) (o : Obj) (xs : List V) : Hp := fun b => if b ∈ cs.map (·.2) then some (.tbl #[]) else if b = a ∧ K.lookup a = none then some (.frz o (.lst xs)) else none
theorem hid_no {K : PySem.W.Frag} {cs : List (Addr × Addr)} {a b : Addr} {o : Obj} {xs : List V} (h1 : ¬ b ∈ cs.map (·.2)) (h2 : b ≠ a) : hidH K cs a o xs b = none := by
  unfold hidH
  rw [if_neg h1, if_neg fun z => h2 z.1]
theorem law_at {P : Program} {w : World} {K : PySem.W.Frag} {mg mb : Str → Option Value} {CX : CXT} {k : Nat} {fa a : Addr} {cs : List (Addr × Addr)} {fd : FuncData} {x : Str} {sp : Sp} {s : Shared} {vs : List Value} {ns : List Int} (kin : K.In s.heap) (gl : s.heap.Ns mainGlobals mg) (bl : s.heap.Ns builtinsNs mb) (bb : ∀ x, x ≠ Str.ofString "__name__" → mb x = bootBuiltins x) (nl : s.heap.NoLimit) (ge : s.gens = #[])
    (ct : ∀ p ∈ cs, s.heap.get? p.2 = some { cls := .none, data := .fields #[] }) (ck : ∀ p ∈ cs, K.lookup p.2 = none) (ch : ∀ p ∈ cs, PySem.W.CodeHd s.heap p.1 p.2) (bm : ∃ bm ob, mg (Str.ofString "__builtins__") = some (.ref bm) ∧ bm ≠ builtinsNs ∧ s.heap.get? bm = some ob ∧ ob.cls = .type "module" ∧ ob.dict = some builtinsNs ∧ ob.data = .plain)
    (ha : s.heap.get? a = some { cls := .type "list", data := .seq vs.toArray }) (ia : IntsAre vs ns) (ln : ns.length ≤ sizeLine) (room : Room k callerA) (F : ∀ base : Heap, K.In base → base.Ns mainGlobals mg → (∀ p ∈ cs, LamX.TabB base mg p.1 p.2) → FnG P w K mg base CX k fa fd [x] sp) (hb : ∀ (s : Shared) (u : Value), BindsTo s fd ⟨[u], []⟩ [(x, u)])
    (hsp : ∀ H : Hp, (∀ p ∈ cs, H p.2 = some (.tbl #[])) → SqL K H a (ns.map V.int) → sp [.ref a] H (fun v _ => v = .bl true) (fun _ _ _ => False)) (hcx : ∀ (H : Hp) (e : Value) (s' : Shared), CX [] H s (fun _ _ _ => False) e s' → False) :
    codeAny (model P w) callerA (Code.call (.ref fa) ⟨[.ref a], []⟩) (fun r s' => r = .ok (.ret (.bool true)) ∧ OldK s.heap s'.heap ∧ s'.os = s.os ∧ AllBare s'.gens) s := by
  have inC : ∀ {b : Addr}, b ∈ cs.map (·.2) → s.heap.get? b = some { cls := .none, data := .fields #[] } := fun hm => by
    obtain ⟨p, hp, rfl⟩ := List.mem_map.1 hm
    exact ct p hp
  obtain ⟨H0, eH⟩ : ∃ H0 : Hp, H0 = hidH K cs a { cls := .type "list", data := .seq vs.toArray } (ns.map V.int) := ⟨_, rfl⟩
  have no : ∀ {b : Addr} {o : Obj}, s.heap.get? b = some o → (o.data ≠ .fields #[]) → (∀ v n, o.data ≠ .seq v n) → H0 b = none := fun e n1 n2 => by
    rw [eH]
    refine hid_no (fun hm => ?_) fun z => ?_
    · have := inC hm
      rw [e] at this
      cases this
      exact n1 rfl
    · rw [z, ha] at e
      cases e
      exact n2 _ _ rfl
  have keep : ∀ {b : Addr} {o : Obj}, s.heap.get? b = some o → H0 b = none → (hidT s.heap H0).get? b = some o := fun e n => hidT_get e n
  have nsK : ∀ {b : Addr} {m : Str → Option Value}, s.heap.Ns b m → (hidT s.heap H0).Ns b m := fun h => by
    obtain ⟨o, es, ep, h1, h2, h3⟩ := h
    exact ⟨o, es, ep, keep h1 (no h1 (by rw [h2]; exact fun z => nomatch z) (by rw [h2]; exact fun _ _ z => nomatch z)), h2, h3⟩
  have kinB : K.In (hidT s.heap H0) := fun b o e => keep (kin b o e) (by
    rw [eH]
    unfold hidH
    rw [if_neg (fun hm => by
      obtain ⟨p, hp, rfl⟩ := List.mem_map.1 hm
      rw [ck p hp] at e
      cases e), if_neg (fun z => by
      rw [z.1, z.2] at e
      cases e)])
  have glB := nsK gl
  have tabs : ∀ p ∈ cs, LamX.TabB (hidT s.heap H0) mg p.1 p.2 := fun p hp => by
    have hP := ct p hp
    refine ⟨?_, ?_, fun z => ?_⟩
    · obtain ⟨o, v, file, tf, flags, tg, inF, text, tt, c1, c2, c3, c4⟩ := ch p hp
      refine ⟨o, v, file, tf, flags, tg, inF, text, tt, keep c1 ?_, c2, c3, c4⟩
      rw [eH]
      refine hid_no (fun hm => ?_) fun z => ?_
      · have := inC hm
        rw [c1] at this
        cases this
        cases c2
      · rw [z, ha] at c1
        cases c1
        injection c2 with c2
        exact absurd c2 (by decide)
    · obtain ⟨bm, ob, b1, b2, b3, b4, b5, b6⟩ := bm
      refine ⟨bm, ob, b1, b2, fun z => ?_, fun z => ?_, keep b3 (no b3 (by rw [b6]; exact fun z => nomatch z) (by rw [b6]; exact fun _ _ z => nomatch z)), b4, b5, b6⟩
      · obtain ⟨o, es, ep, h1, h2, _⟩ := gl
        rw [← z, b3] at h1
        cases h1
        rw [b6] at h2
        cases h2
      · rw [z, hP] at b3
        cases b3
        cases b6
    · obtain ⟨o, es, ep, h1, h2, _⟩ := gl
      rw [z, hP] at h1
      cases h1
      cases h2
  have hok : HOk P w H0 s.heap := fun b u e => by
    rw [eH] at e
    unfold hidH at e
    by_cases c : b ∈ cs.map (·.2)
    · rw [if_pos c] at e
      cases e
      exact inC c
    · rw [if_neg c] at e
      by_cases d : b = a ∧ K.lookup a = none
      · rw [if_pos d] at e
        cases e
        rw [d.1]
        exact ⟨ha, by rw [List.length_map]; exact ln, vs, _, vals_ints ia, ha⟩
      · rw [if_neg d] at e
        cases e
  have anc : ¬ a ∈ cs.map (·.2) := fun hm => by
    have := inC hm
    rw [ha] at this
    cases this
  have hS : SqL K H0 a (ns.map V.int) := by
    cases e : K.lookup a with
    | none =>
      refine .inl (.inr ⟨{ cls := .type "list", data := .seq vs.toArray }, ?_⟩)
      rw [eH]
      unfold hidH
      rw [if_neg anc, if_pos ⟨rfl, e⟩]
    | some o =>
      have := kin a o e
      rw [ha] at this
      cases this
      refine .inr ⟨_, vs.toArray, _, e, rfl, rfl, rfl, ?_, vals_ints ia⟩
      rw [List.size_toArray, ia.length]
      exact ln
  have env : Env0 P w K mg (hidT s.heap H0) callerA [] s H0 := ⟨rfl, ⟨kinB, glB, ⟨mb, nsK bl, bb⟩, by
    obtain ⟨mc, h1, h2⟩ := nl
    exact ⟨mc, nsK h1, h2⟩⟩, fun b o e => of_hidT e, Nat.le_of_eq (hidT_size _ _), trivial, fun b hb => absurd hb List.not_mem_nil, hok, .of_eq ge⟩
  refine codeAny_mono (F _ kinB glB tabs callerA [] s H0 ⟨[.ref a], []⟩ [.ref a] [.ref a] (fun v _ => v = .bl true) (fun _ _ _ => False) rfl room env (hb s (.ref a)) (.cons rfl .nil) (hsp H0 (fun p hp => ?_) hS)) fun r s' q => ?_
  · rw [eH]
    unfold hidH
    rw [if_pos (List.mem_map.2 ⟨p, hp, rfl⟩)]
  · cases r with
    | error e => exact (hcx _ _ _ q).elim
    | ok fl =>
      cases fl with
      | next => exact q.elim
      | brk => exact q.elim
      | cont => exact q.elim
      | ret u =>
        obtain ⟨v, H', os, bare, un, hok', rl, ev⟩ := q
        have ev : v = .bl true := ev
        subst ev
        have rl : u = .bool true := rl
        subst rl
        have there : ∀ (b : Addr) (o : Obj), s.heap.get? b = some o → asItWas s.heap s'.heap b o ∧ ∃ o', s'.heap.get? b = some o' := fun b o e => by
          by_cases c : b ∈ cs.map (·.2)
          · obtain ⟨more, hm⟩ := un.tbls b #[] (by rw [eH]; unfold hidH; rw [if_pos c])
            have h' := hok' b _ hm
            have h' : s'.heap.get? b = some { cls := .none, data := .fields (#[] ++ more) } := h'
            have e0 := inC c
            rw [e] at e0
            cases e0
            obtain ⟨p, hp, rfl⟩ := List.mem_map.1 c
            have tb := ((ch p hp).tab (ps := #[]) (ct p hp)).isCodeTable
            exact ⟨.inr (.inl ⟨tb, rfl, #[], more, rfl, h'⟩), _, h'⟩
          · by_cases d : b = a ∧ K.lookup a = none
            · have hf := un.frzs b _ _ (by rw [eH]; unfold hidH; rw [if_neg c, if_pos d])
              have h' := (hok' b _ hf).1
              rw [d.1, ha] at e
              cases e
              exact ⟨.inl h', _, h'⟩
            · have h' := un.keep b o e (by rw [eH]; unfold hidH; rw [if_neg c, if_neg d]) (fun z => nomatch z) (fun z => nomatch z)
              exact ⟨.inl h', _, h'⟩
        exact ⟨rfl, ⟨fun b o e => (there b o e).1, fun b o e => (there b o e).2⟩, os, bare⟩
/-- what is known of the law's def where it is called -/
def LawG (l : PySem.W.OpenLaw) (w : World) (K : PySem.W.Frag) (CX : CXT) (k n : Nat) (x : Str) (mg : Str → Option Value) (fa : Addr) (h : Heap) : Prop :=
  ∃ (fd : FuncData) (cs : List (Addr × Addr)) (sp : Sp), (∀ p ∈ cs, h.get? p.2 = some { cls := .none, data := .fields #[] }) ∧ (∀ p ∈ cs, K.lookup p.2 = none) ∧ (∀ p ∈ cs, PySem.W.CodeHd h p.1 p.2) ∧ (∀ (s : Shared) (u : Value), BindsTo s fd ⟨[u], []⟩ [(x, u)]) ∧
    (∀ (H : Hp) (a : Addr) (ns : List Int), ns.length ≤ n → (∀ z ∈ ns, Builtin.Int.intBits z ≤ 1048576) → (∀ p ∈ cs, H p.2 = some (.tbl #[])) → SqL K H a (ns.map V.int) → sp [.ref a] H (fun v _ => v = .bl true) fun _ _ _ => False) ∧
    ∀ base : Heap, K.In base → base.Ns mainGlobals mg → (∀ p ∈ cs, LamX.TabB base mg p.1 p.2) → FnG l.prog w K mg base CX k fa fd [x] sp
theorem walk_at {l : PySem.W.OpenLaw} {n k : Nat} {q : Program} {loose : List Str} {XP : (Str → Option Value) → Heap → Prop} {YP : World → Heap → Prop} {d : DefRec} {CX : World → CXT} {x : Str} (hm : l.most = some n) (hn : n ≤ sizeLine) (hd : d.params.defaults = []) (room : Room k callerA)
    (F : ∀ (w : World) (mg : Str → Option Value) (fa : Addr) (h : Heap), YP w h → h.Ns mainGlobals mg → mg d.name = some (.ref fa) → ∃ K, K.In h ∧ LawG l w K (CX w) k n x mg fa h) (hcx : ∀ (w : World) (H : Hp) (s : Shared) (e : Value) (s' : Shared), CX w [] H s (fun _ _ _ => False) e s' → False) :
    PySem.W.WalkO q loose XP YP l.row.toRowW d [] fun f vs => call f vs := by
  refine Att.attach_callB hm hd fun w s₀ s₁ mg mb fa o pm cd doc a vs ns G Y hf hdat hcr hmg ha ia hl hbits hg => ?_
  obtain ⟨K, kin, fd, cs, sp, c1, c2, c3, hb, hsp, hF⟩ := F w mg fa s₁.heap Y G.T.g hmg
  exact law_at kin G.T.g G.T.b G.T.builtins G.T.nolimit hg c1 c2 c3 G.T.bmain ha ia (Nat.le_trans hl hn) room hF hb (fun H h1 h2 => hsp H a ns hl hbits h1 h2) fun H e s' => hcx w H s₁ e s'
theorem fng_nox {P : Program} {w : World} {K : PySem.W.Frag} {mg : Str → Option Value} {base : Heap} {x qual : Str} {params : Arguments} {body : List Stmt} {scope : Scope} {dvs : List V} {kws : List (Str × V)} {f : Addr} {fd : FuncData} {N ps : List Str} {k : Nat} {sp : Sp} (F : FunD K x qual params body scope dvs kws f fd) (S : FnScope N ps scope) (len : ∀ vs H Q E, sp vs H Q E → vs.length = ps.length)
    (owed : ∀ (cdv : Value) (A : Around) (outer : List Env) (s : Shared) (H : Hp) (vs : List V) (Q : VK) (E : XK), A.guards = some [] → Room k (A.deeper (envOfC qual scope s.heap.objs.size f cdv)) → sp vs H Q E → ∃ t, PSs (cxOf CX0 P w K mg base N qual scope f cdv A outer s H E).nox body t ∧ t { nx := fun _ H' => Q .non H', rt := Q } (start N vs) H) : FnG P w K mg base CX0 (k + 1) f fd ps sp :=
  fng_of F S len fun cdv A outer s H vs Q E hg room h => (owed cdv A outer s H vs Q E hg room h).imp fun _ p => ⟨p.1.nox, p.2⟩
end Tw

set_option maxHeartbeats 4000000
namespace Tw
open PySem PySem.Spec PyProof.Rows L2
/-! plans as they are shown -/
def datO : Option Int → PyData
  | none => .none
  | some i => .int i
mutual
def Pl.dat : Pl → PyData
  | .ours lo hi => .tuple [.str "ours", .int lo, .int hi]
  | .wthr lo hi la => .tuple [.str "weather", .int lo, .int hi, datO la]
  | .wthn n p => .tuple [.str "within", .int n, p.dat]
  | .many w ps => .tuple [.str w, .list (datL ps)]
def datL : List Pl → List PyData
  | [] => []
  | p :: r => p.dat :: datL r
end
theorem int_all : ∀ k : Fin 1001, (PyData.leavesShort 8 (.int ((k.1 : Nat) : Int)) && (PyData.int ((k.1 : Nat) : Int)).showable && decide ((PyData.int ((k.1 : Nat) : Int)).weight ≤ 11)) = true := by decide +kernel
/-- data that can be shown -/
structure Shw (d : PyData) (n : Nat) : Prop where
  s : d.showable = true
  h : d.hasDict = false
  l : PyData.leavesShort 8 d = true
  w : d.weight ≤ n
theorem shw_int {i : Int} (h1 : 0 ≤ i) (h2 : i ≤ 1000) : Shw (.int i) 11 := by
  obtain ⟨k, rfl⟩ : ∃ k : Nat, i = k := ⟨i.toNat, by omega⟩
  have h := int_all ⟨k, by omega⟩
  rw [Bool.and_eq_true, Bool.and_eq_true, decide_eq_true_iff] at h
  exact ⟨h.1.2, rfl, h.1.1, h.2⟩
theorem shw_opt {o : Option Int} (h : ∀ i, o = some i → 0 ≤ i ∧ i ≤ 1000) : Shw (datO o) 11 := by
  cases o with
  | none => exact ⟨rfl, rfl, rfl, Nat.zero_le _⟩
  | some i => exact shw_int (h i rfl).1 (h i rfl).2
structure ShwL (ds : List PyData) (n : Nat) : Prop where
  s : PyData.showableAll ds = true
  h : PyData.hasDictAll ds = false
  l : PyData.leavesShortAll 8 ds = true
  w : PyData.weightAll ds ≤ n
theorem ShwL.nil : ShwL [] 0 := ⟨rfl, rfl, rfl, Nat.le_refl _⟩
theorem ShwL.cons {d : PyData} {ds : List PyData} {a b : Nat} (h : Shw d a) (t : ShwL ds b) : ShwL (d :: ds) (a + 1 + b) := by
  refine ⟨?_, ?_, ?_, ?_⟩
  · show (d.showable && PyData.showableAll ds) = true
    rw [h.s, t.s]
    rfl
  · show (d.hasDict || PyData.hasDictAll ds) = false
    rw [h.h, t.h]
    rfl
  · show (PyData.leavesShort 8 d && PyData.leavesShortAll 8 ds) = true
    rw [h.l, t.l]
    rfl
  · show d.weight + 1 + PyData.weightAll ds ≤ _
    have := h.w
    have := t.w
    omega
theorem ShwL.tup {ds : List PyData} {n : Nat} (h : ShwL ds n) : Shw (.tuple ds) n := ⟨h.s, h.h, h.l, h.w⟩
theorem ShwL.lst {ds : List PyData} {n : Nat} (h : ShwL ds n) : Shw (.list ds) n := ⟨h.s, h.h, h.l, h.w⟩
theorem ShwL.mono {ds : List PyData} {n m : Nat} (h : ShwL ds n) (l : n ≤ m) : ShwL ds m := ⟨h.s, h.h, h.l, Nat.le_trans h.w l⟩
theorem shw_word {w : Str} (h : w = "ours" ∨ w = "weather" ∨ w = "within" ∨ manyW w) : Shw (.str w) 7 := by
  have fin : ∀ z : Str, (PyData.leavesShort 8 (.str z) && decide ((PyData.str z).weight ≤ 7)) = true → Shw (.str z) 7 := fun z e => by
    rw [Bool.and_eq_true, decide_eq_true_iff] at e
    exact ⟨rfl, rfl, e.1, e.2⟩
  rcases h with rfl | rfl | rfl | rfl | rfl | rfl <;> exact fin _ (by decide +kernel)
mutual
theorem shw_pl : ∀ (p : Pl) (d : Nat), p.ok → p.gf = true → p.dp ≤ d → Shw p.dat (60 * (p.lc * d)) ∧ p.dat.depth ≤ 2 * d
  | .ours lo hi, d, _, g, h => by
    have g : (whI 0 1000 lo && whI 0 1000 hi && decide (lo ≤ hi)) = true := g
    rw [Bool.and_eq_true, Bool.and_eq_true] at g
    have a : 0 ≤ lo ∧ lo ≤ 1000 := of_decide_eq_true g.1.1
    have b : 0 ≤ hi ∧ hi ≤ 1000 := of_decide_eq_true g.1.2
    have h : 1 ≤ d := h
    refine ⟨((ShwL.cons (shw_word (.inl rfl)) (ShwL.cons (shw_int a.1 a.2) (ShwL.cons (shw_int b.1 b.2) .nil))).mono ?_).tup, by show 1 ≤ 2 * d; omega⟩
    show _ ≤ 60 * (1 * d)
    omega
  | .wthr lo hi la, d, _, g, h => by
    have g : (whI 1 1000 lo && whI 1 1000 hi && decide (lo ≤ hi) && lateO la) = true := g
    rw [Bool.and_eq_true, Bool.and_eq_true, Bool.and_eq_true] at g
    have a : 1 ≤ lo ∧ lo ≤ 1000 := of_decide_eq_true g.1.1.1
    have b : 1 ≤ hi ∧ hi ≤ 1000 := of_decide_eq_true g.1.1.2
    have c : ∀ i, la = some i → 0 ≤ i ∧ i ≤ 1000 := fun i e => by
      have q := g.2
      rw [e] at q
      exact of_decide_eq_true q
    have h : 1 ≤ d := h
    refine ⟨((ShwL.cons (shw_word (.inr (.inl rfl))) (ShwL.cons (shw_int (by omega) a.2) (ShwL.cons (shw_int (by omega) b.2) (ShwL.cons (shw_opt c) .nil)))).mono ?_).tup, ?_⟩
    · show _ ≤ 60 * (1 * d)
      omega
    · cases la with
      | none => show 1 ≤ 2 * d; omega
      | some i => show 1 ≤ 2 * d; omega
  | .wthn n p, d, ok, g, h => by
    have g : (whI 0 1000 n && p.gf) = true := g
    rw [Bool.and_eq_true] at g
    have a : 0 ≤ n ∧ n ≤ 1000 := of_decide_eq_true g.1
    have h : p.dp + 1 ≤ d := h
    obtain ⟨e, rfl⟩ : ∃ e, d = e + 1 := ⟨d - 1, by omega⟩
    obtain ⟨q, qd⟩ := shw_pl p e ok g.2 (by omega)
    have l1 := (rc_le ok).2
    have l1 : 1 ≤ p.lc := l1
    refine ⟨((ShwL.cons (shw_word (.inr (.inr (.inl rfl)))) (ShwL.cons (shw_int a.1 a.2) (ShwL.cons q .nil))).mono ?_).tup, ?_⟩
    · show _ ≤ 60 * (p.lc * (e + 1))
      rw [Nat.mul_succ]
      omega
    · show max 0 (max 0 (max p.dat.depth 0)) + 1 ≤ 2 * (e + 1)
      omega
  | .many w ps, d, ok, g, h => by
    have h : dpL ps + 1 ≤ d := h
    obtain ⟨e, rfl⟩ : ∃ e, d = e + 1 := ⟨d - 1, by omega⟩
    obtain ⟨q, qd⟩ := shw_pls ps e ok.2.2.2 g (by omega)
    have l1 := (rcL_le ok.2.2.2).2.2
    have l2 := ok.2.1
    refine ⟨((ShwL.cons (shw_word (.inr (.inr (.inr ok.1)))) (ShwL.cons q.lst .nil)).mono ?_).tup, ?_⟩
    · show _ ≤ 60 * (lcS ps * (e + 1))
      rw [Nat.mul_succ]
      omega
    · show max 0 (max (PyData.depthAll (datL ps) + 1) 0) + 1 ≤ 2 * (e + 1)
      omega
theorem shw_pls : ∀ (ps : List Pl) (d : Nat), okL ps → gfL ps = true → dpL ps ≤ d → ShwL (datL ps) (60 * (lcS ps * d) + ps.length) ∧ PyData.depthAll (datL ps) ≤ 2 * d
  | [], d, _, _, _ => ⟨ShwL.nil.mono (Nat.zero_le _), Nat.zero_le _⟩
  | p :: r, d, ok, g, h => by
    have g : (p.gf && gfL r) = true := g
    rw [Bool.and_eq_true] at g
    have h : max p.dp (dpL r) ≤ d := h
    obtain ⟨q1, d1⟩ := shw_pl p d ok.1 g.1 (by omega)
    obtain ⟨q2, d2⟩ := shw_pls r d ok.2 g.2 (by omega)
    refine ⟨(ShwL.cons q1 q2).mono ?_, ?_⟩
    · show _ ≤ 60 * ((p.lc + lcS r) * d) + (r.length + 1)
      rw [Nat.add_mul]
      omega
    · show max p.dat.depth (PyData.depthAll (datL r)) ≤ 2 * d
      omega
end
/-! ### .. as they stand -/
section
variable {P : Program} {w : World} {H : Hp} {h : Heap}
theorem tup_rd (hok : HOk P w H h) {t : Addr} {xs : List V} (e : H t = some (.tup xs)) {ds : List PyData} {as : List Addr} (r : ∀ its, Vals xs its → ∃ as, ReadsAll h its ds as) : ∃ as, Reads h (.ref t) (.tuple ds) as := by
  obtain ⟨_, its, rv, o, h1, h2, n, h3⟩ := hok t _ e
  obtain ⟨as, ra⟩ := r its rv
  exact ⟨as, .tuple h1 h2 h3 ra⟩
theorem lst_rd (hok : HOk P w H h) {t : Addr} {xs : List V} (e : H t = some (.lst xs)) {ds : List PyData} (r : ∀ its, Vals xs its → ∃ as, ReadsAll h its ds as) : ∃ as, Reads h (.ref t) (.list ds) as := by
  obtain ⟨_, its, n, rv, h1⟩ := hok t _ e
  obtain ⟨as, ra⟩ := r its rv
  exact ⟨_, .list h1 rfl rfl ra⟩
theorem rd_cons {x : V} {xs : List V} {its : List Value} {d : PyData} {ds : List PyData} (rv : Vals (x :: xs) its) (a : ∀ u, RelV x u → ∃ as, Reads h u d as) (b : ∀ r, Vals xs r → ∃ as, ReadsAll h r ds as) : ∃ as, ReadsAll h its (d :: ds) as := by
  cases rv with
  | cons e t =>
    obtain ⟨as, ra⟩ := a _ e
    obtain ⟨bs, rb⟩ := b _ t
    exact ⟨_, .cons ra rb⟩
theorem rd_nil {its : List Value} (rv : Vals [] its) : ∃ as, ReadsAll h its [] as := by
  cases rv
  exact ⟨_, .nil⟩
theorem rd_str {z : Str} : ∀ u, RelV (.str z) u → ∃ as, Reads h u (.str z) as := fun u r => by
  obtain ⟨t, e⟩ := r
  rw [e]
  exact ⟨_, .str _ _⟩
theorem rd_int {i : Int} : ∀ u, RelV (.int i) u → ∃ as, Reads h u (.int i) as := fun u r => by
  obtain ⟨t, e⟩ := r
  rw [e]
  exact ⟨_, .int _ _⟩
theorem rd_opt {o : Option Int} : ∀ u, RelV (oV o) u → ∃ as, Reads h u (datO o) as := fun u r => by
  cases o with
  | none =>
    have r : u = .none := r
    rw [r]
    exact ⟨_, .none⟩
  | some i => exact rd_int u r
mutual
theorem pl_reads (hok : HOk P w H h) : ∀ {p : Pl} {v : V}, PlAt H p v → ∀ u, RelV v u → ∃ as, Reads h u p.dat as
  | .ours lo hi, v, hp, u, r => by
    obtain ⟨t, rfl, ht⟩ := hp
    have r : u = .ref t := r
    rw [r]
    exact tup_rd hok ht (as := []) fun its rv => rd_cons rv rd_str fun _ rv => rd_cons rv rd_int fun _ rv => rd_cons rv rd_int fun _ rv => rd_nil rv
  | .wthr lo hi la, v, hp, u, r => by
    obtain ⟨t, rfl, ht⟩ := hp
    have r : u = .ref t := r
    rw [r]
    exact tup_rd hok ht (as := []) fun its rv => rd_cons rv rd_str fun _ rv => rd_cons rv rd_int fun _ rv => rd_cons rv rd_int fun _ rv => rd_cons rv rd_opt fun _ rv => rd_nil rv
  | .wthn n p, v, hp, u, r => by
    obtain ⟨t, x, rfl, ht, hx⟩ := hp
    have r : u = .ref t := r
    rw [r]
    exact tup_rd hok ht (as := []) fun its rv => rd_cons rv rd_str fun _ rv => rd_cons rv rd_int fun _ rv => rd_cons rv (pl_reads hok hx) fun _ rv => rd_nil rv
  | .many z ps, v, hp, u, r => by
    obtain ⟨t, l, xs, rfl, ht, hl, R⟩ := hp
    have r : u = .ref t := r
    rw [r]
    refine tup_rd hok ht (as := []) fun its rv => rd_cons rv rd_str fun _ rv => rd_cons rv (fun y e => ?_) fun _ rv => rd_nil rv
    have e : y = .ref l := e
    rw [e]
    exact lst_rd hok hl fun its rv => pls_reads hok R rv
theorem pls_reads (hok : HOk P w H h) : ∀ {ps : List Pl} {xs : List V} {its : List Value}, PlsAt H ps xs → Vals xs its → ∃ as, ReadsAll h its (datL ps) as
  | [], xs, its, R, rv => by
    have R : xs = [] := R
    rw [R] at rv
    exact rd_nil rv
  | p :: r, xs, its, R, rv => by
    obtain ⟨x, ys, e, hx, hr⟩ := R
    rw [e] at rv
    exact rd_cons rv (pl_reads hok hx) fun _ rv => pls_reads hok hr rv
end
end
def rReprP : List V → Hp → VK → Prop := fun vs H Q => ∃ (v : V) (p : Pl), vs = [v] ∧ PlAt H p v ∧ p.ok ∧ p.gf = true ∧ p.dp ≤ 6 ∧ p.lc ≤ 12 ∧ Q (.str p.dat.shown) H
theorem cr_reprP {X : Cx} (hg : X.A.guards = some []) (hu : X.A.units + 64 < cLine) : CallR X (.builtin "repr") rReprP := by
  rintro pins s σ H _ us Q I r ⟨v, p, rfl, hp, ok, gf, dp, lc, q⟩
  obtain ⟨t, rr, rfl, ht⟩ := hp.tup
  obtain rfl := Vals.ref1 r
  obtain ⟨as, ra⟩ := pl_reads I.hok hp (.ref t) rfl
  obtain ⟨sh, dd⟩ := shw_pl p 6 ok gf dp
  have wt : p.dat.weight ≤ 2 ^ 20 := by
    have := sh.w
    have : (2 : Nat) ^ 20 = 1048576 := by decide
    have : p.lc * 6 ≤ 72 := by omega
    omega
  exact repr_of_reads' ra sh.s (fun e => by rw [sh.h] at e; cases e) hg (by omega) (fun b o e => e) (fun h' u tk hk => ⟨.str _, H, I.kept hk, ⟨_, rfl⟩, q⟩) (PyData.shown_fits (B := 8) (by decide) (by decide) sh.l wt)
end Tw

set_option maxHeartbeats 4000000
/-! numbers, names and None as they stand in texts: the texts by themselves -/
namespace Tw
open PySem PySem.Spec PyProof.Rows L2
/-- the signs of a whole number -/
def itL (i : Int) : List Nat := if i < 0 then 45 :: TL.numL i.natAbs else TL.numL i.natAbs
def numS (i : Int) : Str := Str.ofString (toString i)
theorem tl_numS (i : Int) : TL.tl (numS i) = itL i := by
  cases i with
  | ofNat n =>
    show TL.tl (Str.ofString (toString ((n : Nat) : Int))) = _
    rw [TL.tl_num]
    rfl
  | negSucc m =>
    have e : toString (Int.negSucc m) = "-" ++ Nat.repr (m + 1) := rfl
    unfold numS
    rw [e, TL.tl_ofString, String.toList_append, List.map_append]
    have e2 : (Nat.repr (m + 1)).toList = Nat.toDigits 10 (m + 1) := by
      simp [Nat.repr]
    rw [e2]
    unfold itL
    rw [if_pos (Int.negSucc_lt_zero m)]
    rfl
theorem numL_head {n : Nat} (h : 0 < n) : ∀ c r, TL.numL n = c :: r → c ≠ 48 := by
  induction n using Nat.strongRecOn with
  | _ n ih =>
    intro c r e
    by_cases l : n < 10
    · rw [TL.numL_lt l] at e
      have := (List.cons.inj e).1
      omega
    · rw [TL.numL_step (by omega)] at e
      cases q : TL.numL (n / 10) with
      | nil => exact absurd q (TL.numL_ne _)
      | cons d s =>
        rw [q] at e
        have h1 := (List.cons.inj e).1
        have h2 := ih (n / 10) (by omega) (by omega) d s q
        rw [← h1]
        exact h2
theorem mk_tlS (x : Str) : (⟨(TL.tl x).toArray⟩ : Str) = x := TL.mk_tl x
theorem sub_minus (r : List Nat) : Builtin.Str.subAt ⟨(45 :: r).toArray⟩ "-" 0 = true := by
  unfold Builtin.Str.subAt
  have e : ("-" : Str) = ⟨#[45]⟩ := by decide +kernel
  rw [e]
  simp [Str.length]
theorem rmp_minus {x : Str} {r : List Nat} (h : TL.tl x = 45 :: r) : Txt.removeprefix x "-" = ⟨r.toArray⟩ := by
  have e : ("-" : Str) = ⟨#[45]⟩ := by decide +kernel
  have ex : x = ⟨(45 :: r).toArray⟩ := by rw [← h, mk_tlS]
  subst ex
  rw [StrLaws.removeprefix_eq, sub_minus, e]
  simp [Str.length]
theorem rmp_none {x : Str} (h : ∀ r, TL.tl x ≠ 45 :: r) : Txt.removeprefix x "-" = x := by
  rw [StrLaws.removeprefix_eq]
  refine if_neg fun z => ?_
  rw [Bool.and_eq_true] at z
  have e : ("-" : Str) = ⟨#[45]⟩ := by decide +kernel
  have ex : x = ⟨(TL.tl x).toArray⟩ := (mk_tlS x).symm
  cases q : TL.tl x with
  | nil =>
    rw [q] at ex
    subst ex
    have z1 := z.1
    rw [e] at z1
    exact absurd z1 (by simp [Str.length])
  | cons c r =>
    rw [q] at ex
    have z2 := z.2
    rw [ex, e] at z2
    unfold Builtin.Str.subAt at z2
    have : c = 45 := by
      simpa [Str.length] using z2
    exact h r (by rw [q, this])
theorem numL_len9 {n : Nat} (h : n < 1000000000) : 1 ≤ (TL.numL n).length ∧ (TL.numL n).length ≤ 9 := by
  refine ⟨?_, TL.numL_len (by decide) h⟩
  cases q : TL.numL n with
  | nil => exact absurd q (TL.numL_ne _)
  | cons c r => exact Nat.succ_pos _
/-- the figures of a number's word -/
theorem figures_of {i : Int} : Txt.removeprefix (numS i) "-" = ⟨(TL.numL i.natAbs).toArray⟩ := by
  by_cases h : i < 0
  · exact rmp_minus (by rw [tl_numS, itL, if_pos h])
  · have e : TL.tl (numS i) = TL.numL i.natAbs := by rw [tl_numS, itL, if_neg h]
    rw [rmp_none fun r z => ?_, ← e, mk_tlS]
    rw [e] at z
    have := TL.numL_digits i.natAbs 45 (by rw [z]; exact List.mem_cons_self)
    omega
theorem int_numS {i : Int} (h : i.natAbs < 1000000000) : intText? (numS i) = some i := by
  by_cases hi : i < 0
  · have e : (numS i).cps.toList = 45 :: TL.numL i.natAbs := by
      have := tl_numS i
      rw [itL, if_pos hi] at this
      exact this
    have := PySem.intText_neg e (TL.numL_digits _) (TL.numL_ne _) (by rw [TL.len_tl, tl_numS, itL, if_pos hi]; have := (numL_len9 h).2; show (TL.numL i.natAbs).length + 1 ≤ 4300; omega)
    rw [this, TL.numL_val]
    congr 1
    omega
  · have := TL.int_num (n := i.natAbs) (by have := (numL_len9 h).2; omega)
    have e : ((i.natAbs : Nat) : Int) = i := by omega
    rw [e] at this
    exact this
theorem not_minus0 {i : Int} : ¬ numS i = "-0" := fun h => by
  have e : TL.tl ("-0" : Str) = [45, 48] := by decide +kernel
  have h2 := congrArg TL.tl h
  rw [e, tl_numS] at h2
  by_cases hi : i < 0
  · rw [itL, if_pos hi] at h2
    exact numL_head (show 0 < i.natAbs by omega) _ _ (List.cons.inj h2).2 rfl
  · rw [itL, if_neg hi] at h2
    have := TL.numL_digits i.natAbs 45 (by rw [h2]; exact List.mem_cons_self)
    omega
/-- the word of a thing -/
def wrt : V → Str
  | .int i => numS i
  | .str z => z
  | _ => "-"
def Sml (v : V) : Prop := v = .non ∨ (∃ i : Int, v = .int i ∧ i.natAbs < 1000000000) ∨ ∃ z, v = .str z ∧ Nm z
theorem nm_signs {z : Str} (h : Nm z) : ∀ c ∈ TL.tl z, 97 ≤ c ∧ c ≤ 122 := fun c hc => by
  have := h.2.2 c hc
  revert this
  have : ∀ c ∈ letters.cps.toList, 97 ≤ c ∧ c ≤ 122 := by decide +kernel
  exact this c
theorem wrt_signs {v : V} (h : Sml v) : ∀ c ∈ TL.tl (wrt v), c = 45 ∨ (48 ≤ c ∧ c ≤ 57) ∨ (97 ≤ c ∧ c ≤ 122) := fun c hc => by
  rcases h with rfl | ⟨i, rfl, _⟩ | ⟨z, rfl, n⟩
  · have e : TL.tl ("-" : Str) = [45] := by decide +kernel
    have hc : c ∈ TL.tl ("-" : Str) := hc
    rw [e] at hc
    exact .inl (List.mem_singleton.1 hc)
  · have hc : c ∈ TL.tl (numS i) := hc
    rw [tl_numS, itL] at hc
    by_cases hi : i < 0
    · rw [if_pos hi] at hc
      rcases List.mem_cons.1 hc with e | e
      · exact .inl e
      · exact .inr (.inl (TL.numL_digits _ c e))
    · rw [if_neg hi] at hc
      exact .inr (.inl (TL.numL_digits _ c hc))
  · exact .inr (.inr (nm_signs n c hc))
theorem wrt_len {v : V} (h : Sml v) : (wrt v).length ≤ 10 := by
  rcases h with rfl | ⟨i, rfl, l⟩ | ⟨z, rfl, n⟩
  · show ("-" : Str).length ≤ 10
    decide +kernel
  · show (numS i).length ≤ 10
    rw [TL.len_tl, tl_numS, itL]
    have := (numL_len9 l).2
    split
    · show (TL.numL i.natAbs).length + 1 ≤ 10
      omega
    · omega
  · exact Nat.le_trans n.2.1 (by decide)
/-- joined words, split again -/
theorem words_back {vs : List V} (h : ∀ v ∈ vs, Sml v) (ne : vs ≠ []) : Txt.split (Txt.join " " (vs.map wrt)) " " = vs.map wrt := by
  refine TL.split_join (y := " ") (s := 32) (S := []) (by decide +kernel) (by decide +kernel) (fun e => ne (List.map_eq_nil_iff.1 e)) fun p hp => ?_
  obtain ⟨v, hv, rfl⟩ := List.mem_map.1 hp
  intro hc
  have := wrt_signs (h v hv) 32 hc
  omega
theorem join_len (y : Str) : ∀ ps : List Str, (∀ p ∈ ps, p.length ≤ 10) → (Txt.join y ps).length ≤ ps.length * (10 + y.length)
  | [], _ => by
    rw [TL.join_eq, TL.len_tl, TL.tl_join]
    exact Nat.zero_le _
  | [p], h => by
    have := h p List.mem_cons_self
    rw [TL.join_eq]
    show p.length ≤ 1 * (10 + y.length)
    omega
  | p :: q :: r, h => by
    have h1 := h p List.mem_cons_self
    have h2 := join_len y (q :: r) fun z hz => h z (List.mem_cons_of_mem _ hz)
    rw [TL.join_eq] at h2 ⊢
    have e : (Str.join y (p :: q :: r)).length = p.length + (y.length + (Str.join y (q :: r)).length) := by
      rw [TL.len_tl, TL.tl_join]
      show (TL.tl p ++ (TL.tl y ++ TL.joinL (TL.tl y) (((q :: r).map TL.tl)))).length = _
      rw [List.length_append, List.length_append, ← TL.tl_join, ← TL.len_tl, ← TL.len_tl, ← TL.len_tl]
    rw [e]
    have : (p :: q :: r).length * (10 + y.length) = (q :: r).length * (10 + y.length) + (10 + y.length) := by
      rw [List.length_cons, Nat.succ_mul]
    omega
theorem join_mem (y : Str) : ∀ (ps : List Str) (c : Nat), c ∈ TL.tl (Txt.join y ps) → c ∈ TL.tl y ∨ ∃ p ∈ ps, c ∈ TL.tl p
  | [], c, h => by
    rw [TL.join_eq, TL.tl_join] at h
    exact absurd h List.not_mem_nil
  | [p], c, h => by
    rw [TL.join_eq, TL.tl_join] at h
    exact .inr ⟨p, List.mem_cons_self, h⟩
  | p :: q :: r, c, h => by
    rw [TL.join_eq, TL.tl_join] at h
    have h : c ∈ TL.tl p ++ (TL.tl y ++ TL.joinL (TL.tl y) (((q :: r).map TL.tl))) := h
    rcases List.mem_append.1 h with h | h
    · exact .inr ⟨p, List.mem_cons_self, h⟩
    · rcases List.mem_append.1 h with h | h
      · exact .inl h
      · rw [← TL.tl_join, ← TL.join_eq] at h
        exact (join_mem y (q :: r) c h).imp id fun ⟨z, hz, hc⟩ => ⟨z, List.mem_cons_of_mem _ hz, hc⟩
end Tw

set_option maxHeartbeats 4000000
/-! xs != [] -/
namespace Tw
open PySem PySem.Spec PyProof.Rows L2
def rNeNil (K : PySem.W.Frag) : R2 := fun x y H Q => ∃ a b xs, x = .ref a ∧ y = .ref b ∧ SqL K H a xs ∧ SqL K H b [] ∧ Q (.bl (!xs.isEmpty)) H
theorem op_neNil {X : Cx} (hu : X.A.units + 1 < cLine) : OpR X (compareOp .NotEq) (rNeNil X.K) := by
  intro pins s σ H x y v u Q I rx ry h
  obtain ⟨a, b, xs, rfl, rfl, ha, hb, q⟩ := h
  cases rx
  cases ry
  obtain ⟨its, r1, l1, _⟩ := I.list ha
  obtain ⟨its2, r2, l2, _⟩ := I.list hb
  cases r2
  have le := r1.length
  match xs, its, r1, le, l1, q with
  | [], [], _, _, l1, q =>
    exact PySem.SeqAt.RcNeAt.lists (e := fun _ => true) l1.isList l2.isList rfl (by omega) (fun j h1 _ => absurd h1 (Nat.not_lt_zero _)) _ _ _ _ ⟨.bl false, H, I, rfl, q⟩
  | _ :: _, _ :: _, _, _, l1, q =>
    refine PySem.SeqAt.RcNeAt.lists_lengths l1.isList l2.isList ?_ (by omega) _ _ _ _ ⟨.bl true, H, I, rfl, q⟩
    simp
  | [], _ :: _, _, le, _, _ => cases le
  | _ :: _, [], _, le, _, _ => cases le
end Tw

set_option maxHeartbeats 4000000
/-! d.get((), x) of a dict whose keys are ints and texts: the empty tuple is no key of it -/
namespace Tw
open PySem PySem.Spec PyProof.Rows L2
section
variable {prog : Program} {w : World} {A : Around} {E : Value → Shared → Prop} {s : Shared}
/-- a key of an int or a text, beside the empty tuple -/
theorem quiet_plain {b : Addr} {ks : List Value} {Q : Bool → Shared → Prop} (ht : (tupleKind (mixKind prog w)).is s.heap [] b) (hk : ∀ v ∈ ks, carriedByValue v = true) (q : Q false s) : wpAny (model prog w) A (tableMayTell (.ref b) ks) Q E s := by
  unfold tableMayTell
  split
  · exact wpAny_pure q
  · refine wpAny_bind ((tupleKind (mixKind prog w)).quiet ht ?_)
    simp only [Bool.not_true, Bool.false_eq_true, if_false]
    refine wpAny_bind (wpAny_forIn_list _ (fun rest r s' => s' = s ∧ r = (none, ()) ∧ ∀ v ∈ rest, carriedByValue v = true) _ ?_ ?_ _ _ ⟨rfl, rfl, hk⟩)
    · rintro x rest r s' ⟨rfl, rfl, hr⟩
      have hx := hr x List.mem_cons_self
      have hq : wpAny (model prog w) A (eqIsQuiet 8 x) (fun c s1 => c = true ∧ s1 = s') E s' := by
        cases x with
        | ref a => cases hx
        | _ => exact wpAny_pure ⟨rfl, rfl⟩
      refine wpAny_bind (wpAny_mono hq ?_ fun _ _ z => z)
      rintro c s1 ⟨rfl, rfl⟩
      exact wpAny_pure ⟨rfl, rfl, fun v hv => hr v (List.mem_cons_of_mem _ hv)⟩
    · rintro r s' ⟨rfl, rfl, _⟩
      exact wpAny_pure q
theorem find_et {d b : Addr} {o : Obj} {es : Array DictEntry} {ep : Nat} {h : Int} {items : Array Value} {Q : Option Nat → Shared → Prop} (hu : A.units < cLine) (ht : (tupleKind (mixKind prog w)).is s.heap [] b) (hT : s.heap.IsTuple b items) (ho : s.heap.get? d = some o) (hd : o.data = .dict es ep)
    (hk : ∀ e ∈ es, ∃ k, keyIs k e.key = true) (q : Q none s) : wpAny (model prog w) A (dictFind d (.ref b) h) Q E s := by
  have plain : ∀ e ∈ es, carriedByValue e.key = true ∧ e.key ≠ .ref b := fun e he => by
    obtain ⟨k, z⟩ := hk e he
    rcases keyIs_shape z with ⟨_, _, _, e1⟩ | ⟨_, _, _, e1⟩
    · rw [e1]
      exact ⟨rfl, fun z => nomatch z⟩
    · rw [e1]
      exact ⟨rfl, fun z => nomatch z⟩
  have hst : ∀ v ∈ (placesWithHash es.size (fun i => es[i]?.map (·.hash)) h).filterMap (fun i => es[i]?.map (·.key)), carriedByValue v = true := fun v hv => by
    obtain ⟨i, _, hi⟩ := List.mem_filterMap.mp hv
    cases ei : es[i]? with
    | none =>
      rw [ei] at hi
      cases hi
    | some e =>
      rw [ei] at hi
      cases hi
      exact (plain e (Array.mem_of_getElem? ei)).1
  have hany : ¬ (es.any fun e => e.key == Value.ref b && e.hash != h) = true := by
    rw [← Array.any_toList, List.any_eq_true]
    rintro ⟨e, he, hc⟩
    rw [Bool.and_eq_true] at hc
    exact (plain e (Array.mem_toList_iff.mp he)).2 (eq_of_beq hc.1)
  have noeq : ∀ e ∈ es, PySem.SeqAt.EqAt A s e.key (.ref b) false := fun e he => by
    obtain ⟨k, z⟩ := hk e he
    rcases keyIs_shape z with ⟨j, t, _, e1⟩ | ⟨y, t, _, e1⟩
    · rw [e1]
      exact SeqAt.EqAt.int_tuple j t hT hu
    · rw [e1]
      exact SeqAt.EqAt.str_tuple y t hT hu
  unfold dictFind
  try with_reducible refine wpAny_holding ?_
  refine wpAny_bind (wpAny_dictEntries ho hd ?_)
  dsimp only
  rw [if_neg (show ¬ ((Value.ref b :: (placesWithHash es.size (fun i => es[i]?.map (·.hash)) h).filterMap (fun i => es[i]?.map (·.key))).all carriedByValue) = true by simp [carriedByValue])]
  rw [if_neg hany]
  generalize placesWithHash es.size (fun i => es[i]?.map (·.hash)) h = pl at hst ⊢
  by_cases hone : (pl.filterMap (fun i => es[i]?.map (·.key)) == [Value.ref b]) = true <;>
  (first | rw [if_pos hone] | rw [if_neg hone]) <;> (first | refine wpAny_bind (wpAny_pure ?_) | refine wpAny_bind (quiet_plain ht hst ?_)) <;> (
    rw [if_neg (by simp)]
    refine wpAny_bind (wpAny_forIn_list _ (fun rest r s' => s' = s ∧ r = (none, none)) _ ?_ ?_ _ _ ⟨rfl, rfl⟩)
    · rintro x rest r s' ⟨rfl, rfl⟩
      cases ei : es[x]? with
      | none => exact wpAny_pure ⟨rfl, rfl⟩
      | some e =>
        have ne := noeq e (Array.mem_of_getElem? ei)
        dsimp only
        by_cases hh : (e.hash == h) = true
        · rw [if_pos hh]
          refine wpAny_bind (wpAny_dictEpoch ho hd (wpAny_bind (ne prog w E _ (wpAny_bind (wpAny_dictEpoch ho hd ?_)))))
          show wpAny _ _ (if (ep != ep) = true then _ else _) _ E _
          rw [if_neg (by simp)]
          simp only [Bool.false_eq_true, if_false]
          refine wpAny_bind (wpAny_rule ?_)
          first | rw [if_neg (by simp)] | skip
          first
            | exact wpAny_pure ⟨rfl, rfl⟩
            | exact wpAny_bind (wpAny_pure (wpAny_pure ⟨rfl, rfl⟩))
        · rw [if_neg hh]
          exact wpAny_pure ⟨rfl, rfl⟩
    · rintro r s' ⟨rfl, rfl⟩
      exact wpAny_pure q)
theorem get_et {d b : Addr} {items : Array Value} {vs : List (Key × Value)} {dflt : Value} (hd0 : (d == sysModules) = false) : MeetsIn prog w (Builtin.«dict.get» ⟨[.ref d, .ref b, dflt], []⟩) (fun A R s => A.in1.units < cLine ∧ (tupleKind (mixKind prog w)).is s.heap [] b ∧ s.heap.IsTuple b items ∧ s.heap.DictOf (mixKind prog w) d vs ∧
      R (.ok (.ret dflt)) { s with toks := s.toks + 1 }) :=
  .of_wp fun A R s ⟨hu, ht, hT, hm, h⟩ => by
    obtain ⟨o, es, ep, ho, hx, hdt, hk, hp, hn⟩ := hm
    show wpAny _ _ (dictGet d (.ref b) >>= _) _ _ s
    refine wpAny_bind ?_
    unfold dictGet
    try with_reducible refine wpAny_holding ?_
    have hk' : ∀ e ∈ es, ∃ k, keyIs k e.key = true := fun e he => let ⟨k, h1, _⟩ := hk e he; ⟨k, h1⟩
    refine wpAny_bind ((tupleKind (mixKind prog w)).pyHash (k := ([] : List Key)) hu ht (wpAny_bind (find_et (s := { s with toks := s.toks + _ }) hu ht hT ho hdt hk' ?_)))
    refine wpAny_pure ?_
    show wpAny _ _ (Builtin.Dict.missed d (.ref b) >>= _) _ _ _
    exact wpAny_bind (wpAny_missed_other hd0 (wpAny_pure ⟨dflt, rfl, h⟩))
end
/-- d.get(y, x): y a key, or the empty tuple -/
def tDGetE (td ty tx : TE) : TE := fun σ H Q => td σ H fun x H1 => ∃ a, x = .ref a ∧ IsD H1 a ∧ ty σ H1 fun y H2 => tx σ H2 fun z H3 => (∃ o, DGet H3 a y o ∧ Q (o.getD z) H3) ∨ ∃ b kvs, y = .ref b ∧ H3 b = some (.tup []) ∧ Rd H3 a (.dK kvs) ∧ Q z H3
section
variable {X : Cx} {o e f : Expr} {apos cpos : Pos} {td ty tx : TE}
theorem pe_dgetE (hu : X.A.units + 1 < cLine) (ho : PE X o td) (he : PE X e ty) (hf : PE X f tx) (m : M2 X o "get" apos e f cpos) : PE X (.Call (.Attribute o "get" apos) [e, f] [] cpos) (tDGetE td ty tx) := by
  refine ⟨fun pins s σ H Q I h => ?_⟩
  refine wpAny_Call_method m.base m.few m.line PySem.F.plainAttrs_dict PySem.F.slot_dict_get PySem.F.type_dict_get (thn (ho.run pins s σ H _ I h) fun u s1 ⟨x, H1, I1, rx, a, ex, d, q1⟩ => ?_)
  subst ex
  obtain rfl : u = Value.ref a := rx
  obtain ⟨t1, t2, _⟩ := isD_at I1 d
  refine ⟨t1, t2, ?_⟩
  rw [m.trees]
  refine Calls.callWith_builtin rfl (Calls.evalArgs_plain (Calls.spliced_cons (thn (he.run pins s1 σ H1 _ I1 q1) fun iv s2 ⟨y, H2, I2, ry, q2⟩ =>
    Calls.spliced_cons (thn (hf.run pins s2 σ H2 _ I2 q2) fun fv s3 ⟨z, H3, I3, rz, q3⟩ => Calls.spliced_nil ?_))))
  rcases q3 with ⟨ov, g, q3⟩ | ⟨b, kvs, rfl, hb, rd, q3⟩
  · exact d_get2 hu I3 g ry rz fun w' s4 I4 rw' => ⟨_, H3, I4, rw', q3⟩
  · obtain rfl : iv = Value.ref b := ry
    obtain ⟨_, hd, vs, _, dd⟩ := dk_rd I3.hok rd
    have kb : (tupleKind (mixKind X.prog X.w)).is s3.heap [] b := key_of (ks := []) I3.hok hb
    obtain ⟨_, its, rr, o', h1, h2, n, h3⟩ := I3.hok b _ hb
    refine call_meetsIn PySem.F.slot_dict_get dd.typeIs PySem.F.entry_dict_get (PySem.F.args_dict_get_3 _ _ _) (get_et (prog := X.prog) (w := X.w) (vs := vs) (items := its.toArray) hd) ⟨(tupleKind_room_in1 (knd := mixKind X.prog X.w) hu), kb, ⟨o', h1, h2, n, h3⟩, dd, ?_⟩
    exact ⟨z, H3, I3.tok _, rz, q3⟩
end
end Tw

set_option maxHeartbeats 4000000
namespace Tw
open PySem PySem.Spec PyProof.Rows L2
/-! things that may be plans, or may not -/
inductive Bp where
  | fl (v : V)
  | tup (ds : List Bp)
  | lst (ds : List Bp)
def okF : V → Bool
  | .non => true
  | .bl _ => true
  | .int _ => true
  | .str _ => true
  | _ => false
mutual
def BpAt (H : Hp) : Bp → V → Prop
  | .fl v, x => x = v ∧ okF v = true
  | .tup ds, x => ∃ t xs, x = .ref t ∧ H t = some (.tup xs) ∧ BpsAt H ds xs
  | .lst ds, x => ∃ t xs, x = .ref t ∧ H t = some (.lst xs) ∧ BpsAt H ds xs
def BpsAt (H : Hp) : List Bp → List V → Prop
  | [], xs => xs = []
  | d :: r, xs => ∃ x ys, xs = x :: ys ∧ BpAt H d x ∧ BpsAt H r ys
end
mutual
theorem BpAt.same {H H' : Hp} (s : Same H H') : ∀ {d : Bp} {v : V}, BpAt H d v → BpAt H' d v
  | .fl _, _, h => h
  | .tup _, _, h => by
    obtain ⟨t, xs, h1, h2, h3⟩ := h
    exact ⟨t, xs, h1, s _ _ h2, BpsAt.same s h3⟩
  | .lst _, _, h => by
    obtain ⟨t, xs, h1, h2, h3⟩ := h
    exact ⟨t, xs, h1, s _ _ h2, BpsAt.same s h3⟩
theorem BpsAt.same {H H' : Hp} (s : Same H H') : ∀ {ds : List Bp} {xs : List V}, BpsAt H ds xs → BpsAt H' ds xs
  | [], _, h => h
  | _ :: _, _, h => by
    obtain ⟨x, ys, h1, h2, h3⟩ := h
    exact ⟨x, ys, h1, BpAt.same s h2, BpsAt.same s h3⟩
end
theorem BpsAt.len {H : Hp} : ∀ {ds : List Bp} {xs : List V}, BpsAt H ds xs → xs.length = ds.length
  | [], _, h => by
    have h : _ = [] := h
    rw [h]
    rfl
  | _ :: _, _, h => by
    obtain ⟨x, ys, h1, _, h3⟩ := h
    rw [h1, List.length_cons, List.length_cons, h3.len]
theorem BpsAt.get {H : Hp} : ∀ {ds : List Bp} {xs : List V} {i : Nat} {d : Bp} {x : V}, BpsAt H ds xs → xs[i]? = some x → ds[i]? = some d → BpAt H d x
  | [], _, _, _, _, _, _, e => nomatch e
  | c :: r, _, i, d, x, h, ex, ed => by
    obtain ⟨y, ys, h1, h2, h3⟩ := h
    rw [h1] at ex
    match i, ex, ed with
    | 0, ex, ed =>
      cases ex
      cases ed
      exact h2
    | i + 1, ex, ed => exact h3.get (by exact ex) (by exact ed)
mutual
def Pl.bp : Pl → Bp
  | .ours lo hi => .tup [.fl (.str "ours"), .fl (.int lo), .fl (.int hi)]
  | .wthr lo hi la => .tup [.fl (.str "weather"), .fl (.int lo), .fl (.int hi), .fl (oV la)]
  | .wthn n p => .tup [.fl (.str "within"), .fl (.int n), p.bp]
  | .many w ps => .tup [.fl (.str w), .lst (bpL ps)]
def bpL : List Pl → List Bp
  | [] => []
  | p :: r => p.bp :: bpL r
end
theorem bpL_eq : ∀ (ps : List Pl), bpL ps = ps.map Pl.bp
  | [] => rfl
  | p :: r => by
    show p.bp :: bpL r = p.bp :: r.map Pl.bp
    rw [bpL_eq r]
theorem okF_oV (o : Option Int) : okF (oV o) = true := by cases o <;> rfl
mutual
theorem PlAt.bp {H : Hp} : ∀ {p : Pl} {v : V}, PlAt H p v → BpAt H p.bp v
  | .ours lo hi, _, h => by
    obtain ⟨t, e, h⟩ := h
    exact ⟨t, _, e, h, _, _, rfl, ⟨rfl, rfl⟩, _, _, rfl, ⟨rfl, rfl⟩, _, _, rfl, ⟨rfl, rfl⟩, rfl⟩
  | .wthr lo hi la, _, h => by
    obtain ⟨t, e, h⟩ := h
    exact ⟨t, _, e, h, _, _, rfl, ⟨rfl, rfl⟩, _, _, rfl, ⟨rfl, rfl⟩, _, _, rfl, ⟨rfl, rfl⟩, _, _, rfl, ⟨rfl, okF_oV la⟩, rfl⟩
  | .wthn n p, _, h => by
    obtain ⟨t, u, e, h, g⟩ := h
    exact ⟨t, _, e, h, _, _, rfl, ⟨rfl, rfl⟩, _, _, rfl, ⟨rfl, rfl⟩, _, _, rfl, PlAt.bp g, rfl⟩
  | .many w ps, _, h => by
    obtain ⟨t, l, xs, e, h, g, R⟩ := h
    exact ⟨t, _, e, h, _, _, rfl, ⟨rfl, rfl⟩, _, _, rfl, ⟨l, xs, rfl, g, PlsAt.bp R⟩, rfl⟩
theorem PlsAt.bp {H : Hp} : ∀ {ps : List Pl} {xs : List V}, PlsAt H ps xs → BpsAt H (bpL ps) xs
  | [], _, h => h
  | p :: r, _, h => by
    obtain ⟨x, ys, e, h, R⟩ := h
    exact ⟨x, ys, e, PlAt.bp h, PlsAt.bp R⟩
end
mutual
theorem BpAt.pl {H : Hp} : ∀ {p : Pl} {v : V}, BpAt H p.bp v → PlAt H p v
  | .ours lo hi, _, h => by
    obtain ⟨t, xs, e, h, _, _, e1, ⟨rfl, _⟩, _, _, e2, ⟨rfl, _⟩, _, _, e3, ⟨rfl, _⟩, e4⟩ := h
    subst e1 e2 e3 e4
    exact ⟨t, e, h⟩
  | .wthr lo hi la, _, h => by
    obtain ⟨t, xs, e, h, _, _, e1, ⟨rfl, _⟩, _, _, e2, ⟨rfl, _⟩, _, _, e3, ⟨rfl, _⟩, _, _, e4, ⟨rfl, _⟩, e5⟩ := h
    subst e1 e2 e3 e4 e5
    exact ⟨t, e, h⟩
  | .wthn n p, _, h => by
    obtain ⟨t, xs, e, h, _, _, e1, ⟨rfl, _⟩, _, _, e2, ⟨rfl, _⟩, u, _, e3, g, e4⟩ := h
    subst e1 e2 e3 e4
    exact ⟨t, u, e, h, BpAt.pl g⟩
  | .many w ps, _, h => by
    obtain ⟨t, xs, e, h, _, _, e1, ⟨rfl, _⟩, _, _, e2, ⟨l, ys, rfl, g, R⟩, e3⟩ := h
    subst e1 e2 e3
    exact ⟨t, l, ys, e, h, g, BpsAt.pls R⟩
theorem BpsAt.pls {H : Hp} : ∀ {ps : List Pl} {xs : List V}, BpsAt H (bpL ps) xs → PlsAt H ps xs
  | [], _, h => h
  | p :: r, _, h => by
    obtain ⟨x, ys, e, h, R⟩ := h
    exact ⟨x, ys, e, BpAt.pl h, BpsAt.pls R⟩
end
/-! ### what is made as a plan -/
def Bp.num (lo hi : Int) : Bp → Bool
  | .fl (.int i) => whI lo hi i
  | _ => false
def Bp.late : Bp → Bool
  | .fl .non => true
  | d => d.num 0 1000
def ourB : List Bp → Bool
  | [.fl (.int i), d] => whI 0 1000 i && d.num i 1000
  | _ => false
def wthB : List Bp → Bool
  | [.fl (.int i), d, e] => whI 1 1000 i && d.num i 1000 && e.late
  | _ => false
def manyB (w : Str) : Bool := decide (w = "then" ∨ w = "beside" ∨ w = "either")
def wthnB (f : Bp → Bool) : List Bp → Bool
  | [x, d] => x.num 0 1000 && f d
  | _ => false
def kidsB (f : Bp → Bool) : List Bp → Bool
  | [.lst ds] => decide (1 ≤ ds.length ∧ ds.length ≤ 4) && ds.all f
  | _ => false
def mad : Nat → Bp → Bool
  | n + 1, .tup (.fl (.str w) :: r) =>
    if w = "ours" then ourB r else if w = "weather" then wthB r else if w = "within" then wthnB (mad n) r else if manyB w then kidsB (mad n) r else false
  | _, _ => false
mutual
def Bp.tdp : Bp → Nat
  | .fl _ => 0
  | .tup ds => tdpL ds + 1
  | .lst ds => tdpL ds
def tdpL : List Bp → Nat
  | [] => 0
  | d :: r => max d.tdp (tdpL r)
end
mutual
theorem tdp_bp : ∀ (p : Pl), p.bp.tdp = p.dp
  | .ours _ _ => rfl
  | .wthr _ _ _ => rfl
  | .wthn _ p => by
    show max 0 (max 0 (max p.bp.tdp 0)) + 1 = p.dp + 1
    rw [tdp_bp p]
    omega
  | .many w ps => by
    show max 0 (max (tdpL (bpL ps)) 0) + 1 = dpL ps + 1
    rw [tdpL_bp ps]
    omega
theorem tdpL_bp : ∀ (ps : List Pl), tdpL (bpL ps) = dpL ps
  | [] => rfl
  | p :: r => by
    show max p.bp.tdp (tdpL (bpL r)) = max p.dp (dpL r)
    rw [tdp_bp p, tdpL_bp r]
end
theorem num_of {d : Bp} {lo hi : Int} (h : d.num lo hi = true) : ∃ i, d = .fl (.int i) ∧ lo ≤ i ∧ i ≤ hi := by
  match d, h with
  | .fl (.int i), h =>
    have h : whI lo hi i = true := h
    exact ⟨i, rfl, of_decide_eq_true h⟩
theorem mad_many {w : Str} (h : manyW w) (n : Nat) (ds : List Bp) : mad (n + 1) (.tup [.fl (.str w), .lst ds]) = (decide (1 ≤ ds.length ∧ ds.length ≤ 4) && ds.all (mad n)) := by
  show (if w = "ours" then _ else if w = "weather" then _ else if w = "within" then _ else if manyB w then _ else false) = _
  have m : manyB w = true := decide_eq_true h
  have n1 : ¬ w = "ours" := fun e => by rw [e] at m; exact absurd m (by decide +kernel)
  have n2 : ¬ w = "weather" := fun e => by rw [e] at m; exact absurd m (by decide +kernel)
  have n3 : ¬ w = "within" := fun e => by rw [e] at m; exact absurd m (by decide +kernel)
  rw [if_neg n1, if_neg n2, if_neg n3, if_pos m]
  rfl
theorem mad_pl : ∀ {n : Nat} {d : Bp}, mad n d = true → ∃ p : Pl, d = p.bp ∧ p.ok ∧ p.gf = true ∧ p.dp ≤ n
  | 0, _, h => nomatch h
  | n + 1, d, h => by
    match d, h with
    | .tup (.fl (.str w) :: r), h =>
      have h : (if w = "ours" then ourB r else if w = "weather" then wthB r else if w = "within" then wthnB (mad n) r else if manyB w then kidsB (mad n) r else false) = true := h
      by_cases c1 : w = "ours"
      · rw [if_pos c1] at h
        match r, h with
        | [.fl (.int i), d], h =>
          have h : (whI 0 1000 i && d.num i 1000) = true := h
          rw [Bool.and_eq_true] at h
          obtain ⟨j, rfl, j1, j2⟩ := num_of h.2
          have i1 : 0 ≤ i ∧ i ≤ 1000 := of_decide_eq_true h.1
          refine ⟨.ours i j, by rw [c1]; rfl, True.intro, ?_, Nat.succ_le_succ (Nat.zero_le _)⟩
          show (whI 0 1000 i && whI 0 1000 j && decide (i ≤ j)) = true
          rw [h.1, show whI 0 1000 j = true from decide_eq_true ⟨by omega, j2⟩, decide_eq_true j1]
          rfl
      rw [if_neg c1] at h
      by_cases c2 : w = "weather"
      · rw [if_pos c2] at h
        match r, h with
        | [.fl (.int i), d, e], h =>
          have h : (whI 1 1000 i && d.num i 1000 && e.late) = true := h
          rw [Bool.and_eq_true, Bool.and_eq_true] at h
          obtain ⟨j, rfl, j1, j2⟩ := num_of h.1.2
          have i1 : 1 ≤ i ∧ i ≤ 1000 := of_decide_eq_true h.1.1
          have fin : ∀ la : Option Int, lateO la = true → (Pl.wthr i j la).gf = true := fun la hl => by
            show (whI 1 1000 i && whI 1 1000 j && decide (i ≤ j) && lateO la) = true
            rw [h.1.1, show whI 1 1000 j = true from decide_eq_true ⟨by omega, j2⟩, decide_eq_true j1, hl]
            rfl
          match e, h.2 with
          | .fl .non, _ => exact ⟨.wthr i j none, by rw [c2]; rfl, True.intro, fin none rfl, Nat.succ_le_succ (Nat.zero_le _)⟩
          | .fl (.int k), hk => exact ⟨.wthr i j (some k), by rw [c2]; rfl, True.intro, fin (some k) hk, Nat.succ_le_succ (Nat.zero_le _)⟩
      rw [if_neg c2] at h
      by_cases c3 : w = "within"
      · rw [if_pos c3] at h
        match r, h with
        | [x, d], h =>
          have h : (x.num 0 1000 && mad n d) = true := h
          rw [Bool.and_eq_true] at h
          obtain ⟨i, rfl, i1, i2⟩ := num_of h.1
          obtain ⟨p, rfl, ok, g, dp⟩ := mad_pl h.2
          refine ⟨.wthn i p, by rw [c3]; rfl, ok, ?_, Nat.succ_le_succ dp⟩
          show (whI 0 1000 i && p.gf) = true
          rw [show whI 0 1000 i = true from decide_eq_true ⟨i1, i2⟩, g]
          rfl
      rw [if_neg c3] at h
      by_cases c4 : manyB w = true
      · rw [if_pos c4] at h
        match r, h with
        | [.lst ds], h =>
          have h : (decide (1 ≤ ds.length ∧ ds.length ≤ 4) && ds.all (mad n)) = true := h
          rw [Bool.and_eq_true, decide_eq_true_iff, List.all_eq_true] at h
          have aux : ∀ ds : List Bp, (∀ x ∈ ds, mad n x = true) → ∃ ps : List Pl, ds = bpL ps ∧ okL ps ∧ gfL ps = true ∧ dpL ps ≤ n := by
            intro ds
            induction ds with
            | nil => exact fun _ => ⟨[], rfl, True.intro, rfl, Nat.zero_le _⟩
            | cons d ds ih =>
              intro hh
              obtain ⟨p, e1, ok, g, dp⟩ := mad_pl (hh d List.mem_cons_self)
              obtain ⟨ps, e2, o, gs, dl⟩ := ih fun x hx => hh x (List.mem_cons_of_mem _ hx)
              refine ⟨p :: ps, by rw [e1, e2]; rfl, ⟨ok, o⟩, ?_, ?_⟩
              · show (p.gf && gfL ps) = true
                rw [g, gs]
                rfl
              · show max p.dp (dpL ps) ≤ n
                omega
          obtain ⟨ps, e, o, g, dl⟩ := aux ds h.2
          have el : ds.length = ps.length := by rw [e, bpL_eq, List.length_map]
          refine ⟨.many w ps, by rw [e]; rfl, ⟨have cc : w = "then" ∨ w = "beside" ∨ w = "either" := of_decide_eq_true c4; cc, by omega, by omega, o⟩, g, Nat.succ_le_succ dl⟩
      · rw [if_neg c4] at h
        cases h
mutual
theorem mad_bp : ∀ (p : Pl) (n : Nat), p.ok → p.gf = true → p.dp ≤ n → mad n p.bp = true
  | .ours i j, n, _, g, d => by
    have d : 1 ≤ n := d
    obtain ⟨n, rfl⟩ : ∃ m, n = m + 1 := ⟨n - 1, by omega⟩
    have g : (whI 0 1000 i && whI 0 1000 j && decide (i ≤ j)) = true := g
    rw [Bool.and_eq_true, Bool.and_eq_true, decide_eq_true_iff] at g
    have b : 0 ≤ j ∧ j ≤ 1000 := of_decide_eq_true g.1.2
    show (whI 0 1000 i && whI i 1000 j) = true
    rw [g.1.1, show whI i 1000 j = true from decide_eq_true ⟨g.2, b.2⟩]
    rfl
  | .wthr i j la, n, _, g, d => by
    have d : 1 ≤ n := d
    obtain ⟨n, rfl⟩ : ∃ m, n = m + 1 := ⟨n - 1, by omega⟩
    have g : (whI 1 1000 i && whI 1 1000 j && decide (i ≤ j) && lateO la) = true := g
    rw [Bool.and_eq_true, Bool.and_eq_true, Bool.and_eq_true, decide_eq_true_iff] at g
    have b : 1 ≤ j ∧ j ≤ 1000 := of_decide_eq_true g.1.1.2
    have el : (Bp.fl (oV la)).late = lateO la := by cases la <;> rfl
    show (whI 1 1000 i && whI i 1000 j && (Bp.fl (oV la)).late) = true
    rw [g.1.1.1, show whI i 1000 j = true from decide_eq_true ⟨g.1.2, b.2⟩, el, g.2]
    rfl
  | .wthn i p, n, ok, g, d => by
    have d : p.dp + 1 ≤ n := d
    obtain ⟨n, rfl⟩ : ∃ m, n = m + 1 := ⟨n - 1, by omega⟩
    have g : (whI 0 1000 i && p.gf) = true := g
    rw [Bool.and_eq_true] at g
    show (whI 0 1000 i && mad n p.bp) = true
    rw [g.1, mad_bp p n ok g.2 (by omega)]
    rfl
  | .many w ps, n, ok, g, d => by
    have d : dpL ps + 1 ≤ n := d
    obtain ⟨n, rfl⟩ : ∃ m, n = m + 1 := ⟨n - 1, by omega⟩
    have e := mad_many ok.1 n (bpL ps)
    have k1 := ok.2.1
    have k2 := ok.2.2.1
    refine e.trans ?_
    rw [mad_bps ps n ok.2.2.2 g (by omega), decide_eq_true (by rw [bpL_eq, List.length_map]; exact ⟨k1, k2⟩)]
    rfl
theorem mad_bps : ∀ (ps : List Pl) (n : Nat), okL ps → gfL ps = true → dpL ps ≤ n → (bpL ps).all (mad n) = true
  | [], _, _, _, _ => rfl
  | p :: r, n, ok, g, d => by
    have g : (p.gf && gfL r) = true := g
    rw [Bool.and_eq_true] at g
    have d : max p.dp (dpL r) ≤ n := d
    show (mad n p.bp && (bpL r).all (mad n)) = true
    rw [mad_bp p n ok.1 g.1 (by omega), mad_bps r n ok.2 g.2 (by omega)]
    rfl
end
/-- deep enough, no depth is seen -/
theorem mad_lo {n m : Nat} {p : Pl} (ok : p.ok) (g : p.gf = true) : mad n p.bp = decide (p.dp ≤ n) := by
  by_cases c : p.dp ≤ n
  · rw [mad_bp p n ok g c, decide_eq_true c]
  · rw [decide_eq_false c, Bool.eq_false_iff]
    intro h
    obtain ⟨q, e, _, _, d⟩ := mad_pl h
    have := tdp_bp p
    rw [e, tdp_bp q] at this
    omega
end Tw

set_option maxHeartbeats 4000000
namespace Tw
open PySem PySem.Spec PyProof.Rows L2
/-! what the program and the law say of things that may be no plan -/
def Bp.ty : Bp → String
  | .fl .non => "NoneType"
  | .fl (.bl _) => "bool"
  | .fl (.int _) => "int"
  | .fl (.str _) => "str"
  | .fl _ => ""
  | .tup _ => "tuple"
  | .lst _ => "list"
theorem oV_inj {a b : Option Int} (h : oV a = oV b) : a = b := by
  cases a <;> cases b <;> first | rfl | cases h
  rfl
mutual
theorem bp_inj : ∀ {p q : Pl}, p.bp = q.bp → p = q
  | .ours a b, .ours c d, h => by
    have h : Bp.tup [.fl (.str "ours"), .fl (.int a), .fl (.int b)] = Bp.tup [.fl (.str "ours"), .fl (.int c), .fl (.int d)] := h
    simp only [Bp.tup.injEq, List.cons.injEq, Bp.fl.injEq, V.int.injEq, and_true, true_and] at h
    rw [h.1, h.2]
  | .wthr a b c, .wthr d e f, h => by
    have h : Bp.tup [.fl (.str "weather"), .fl (.int a), .fl (.int b), .fl (oV c)] = Bp.tup [.fl (.str "weather"), .fl (.int d), .fl (.int e), .fl (oV f)] := h
    simp only [Bp.tup.injEq, List.cons.injEq, Bp.fl.injEq, V.int.injEq, and_true, true_and] at h
    rw [h.1, h.2.1, oV_inj h.2.2]
  | .wthn a p, .wthn b q, h => by
    have h : Bp.tup [.fl (.str "within"), .fl (.int a), p.bp] = Bp.tup [.fl (.str "within"), .fl (.int b), q.bp] := h
    simp only [Bp.tup.injEq, List.cons.injEq, Bp.fl.injEq, V.int.injEq, and_true, true_and] at h
    rw [h.1, bp_inj h.2]
  | .many w ps, .many z qs, h => by
    have h : Bp.tup [.fl (.str w), .lst (bpL ps)] = Bp.tup [.fl (.str z), .lst (bpL qs)] := h
    simp only [Bp.tup.injEq, List.cons.injEq, Bp.fl.injEq, V.str.injEq, Bp.lst.injEq, and_true] at h
    rw [h.1, bpL_inj h.2]
  | .ours a b, .wthr c d e, h => by cases (congrArg (fun d => match d with | .tup l => l.length | _ => 0) h : 3 = 4)
  | .wthr c d e, .ours a b, h => by cases (congrArg (fun d => match d with | .tup l => l.length | _ => 0) h : 4 = 3)
  | .ours a b, .wthn c d, h => by
    have h := (List.cons.inj (Bp.tup.inj h)).1
    exact absurd (V.str.inj (Bp.fl.inj h)) (by decide +kernel)
  | .wthn c d, .ours a b, h => by
    have h := (List.cons.inj (Bp.tup.inj h)).1
    exact absurd (V.str.inj (Bp.fl.inj h)) (by decide +kernel)
  | .ours a b, .many c d, h => by cases (congrArg (fun d => match d with | .tup l => l.length | _ => 0) h : 3 = 2)
  | .many c d, .ours a b, h => by cases (congrArg (fun d => match d with | .tup l => l.length | _ => 0) h : 2 = 3)
  | .wthr a b e, .wthn c d, h => by cases (congrArg (fun d => match d with | .tup l => l.length | _ => 0) h : 4 = 3)
  | .wthn c d, .wthr a b e, h => by cases (congrArg (fun d => match d with | .tup l => l.length | _ => 0) h : 3 = 4)
  | .wthr a b e, .many c d, h => by cases (congrArg (fun d => match d with | .tup l => l.length | _ => 0) h : 4 = 2)
  | .many c d, .wthr a b e, h => by cases (congrArg (fun d => match d with | .tup l => l.length | _ => 0) h : 2 = 4)
  | .wthn a b, .many c d, h => by cases (congrArg (fun d => match d with | .tup l => l.length | _ => 0) h : 3 = 2)
  | .many c d, .wthn a b, h => by cases (congrArg (fun d => match d with | .tup l => l.length | _ => 0) h : 2 = 3)
theorem bpL_inj : ∀ {ps qs : List Pl}, bpL ps = bpL qs → ps = qs
  | [], [], _ => rfl
  | [], _ :: _, h => nomatch h
  | _ :: _, [], h => nomatch h
  | p :: r, q :: t, h => by
    have h := List.cons.inj (show p.bp :: bpL r = q.bp :: bpL t from h)
    rw [bp_inj h.1, bpL_inj h.2]
end
section
variable {P : Program} {w : World} {K : PySem.W.Frag} {mg : Str → Option Value} {base : Heap}
theorem bp_ty {H : Hp} {d : Bp} {v : V} (h : BpAt H d v) : TyX K H v (.type d.ty) ∧ d.ty ∈ kinds := by
  cases d with
  | fl u =>
    obtain ⟨rfl, o⟩ := h
    cases v with
    | non => exact ⟨.base .non, by decide⟩
    | bl b => exact ⟨.base (.bl _), by show "bool" ∈ kinds; decide⟩
    | int i => exact ⟨.base (.int _), by show "int" ∈ kinds; decide⟩
    | str z => exact ⟨.base (.str _), by show "str" ∈ kinds; decide⟩
    | _ => cases o
  | tup ds =>
    obtain ⟨t, xs, rfl, ht, _⟩ := h
    exact ⟨.base (.tup ht), by show "tuple" ∈ kinds; decide⟩
  | lst ds =>
    obtain ⟨t, xs, rfl, ht, _⟩ := h
    exact ⟨.base (.lst ht), by show "list" ∈ kinds; decide⟩
def Bp.isI : Bp → Bool
  | .fl (.int _) => true
  | _ => false
def sp_numB : Sp := fun vs H Q _ => ∃ (v : V) (d : Bp), vs = [v] ∧ BpAt H d v ∧ Q (.bl d.isI) H
theorem cal_numB (T : Tp K mg) : Cal P w K mg base 1 "is_number" sp_numB := by
  obtain ⟨fd, F⟩ := f_is_number T
  refine cal_of F (g_is_number T) (b_is_number F) sc_is_number (fun vs H Q E h => ?_) (fun cdv A outer s H vs Q E hr h => ?_)
  · obtain ⟨v, d, rfl, _⟩ := h
    rfl
  · obtain ⟨v, d, rfl, hd, q⟩ := h
    refine ⟨_, (pss_one (ps_ret (pe_and (pe_callB call_isK (by rfl) (z_isinstance T) bb_isinstance (pa_cons (pv 0) (pa_cons (pe_bltn (v := .ty "int") (by rfl) (z_int T) bb_int rfl) pa_nil))) (pe_one (pe_not (pe_callB call_isK (by rfl) (z_isinstance T) bb_isinstance (pa_cons (pv 0) (pa_cons (pe_bltn (v := .ty "bool") (by rfl) (z_bool T) bb_bool rfl) pa_nil)))))))), ?_⟩
    obtain ⟨ty, hk⟩ := bp_ty (K := K) hd
    refine ⟨_, rfl, _, "int", d.ty, rfl, ty, hk, by decide, _, rfl, ?_⟩
    cases d with
    | fl u =>
      obtain ⟨rfl, o⟩ := hd
      cases v with
      | non => exact iteF q
      | bl b => exact iteT ⟨_, rfl, _, "bool", "bool", rfl, ty, hk, by decide, _, rfl, q⟩
      | int i => exact iteT ⟨_, rfl, _, "bool", "int", rfl, ty, hk, by decide, _, rfl, q⟩
      | str z => exact iteF q
      | _ => cases o
    | tup ds => exact iteF q
    | lst ds => exact iteF q
def sp_wholeB : Sp := fun vs H Q _ => ∃ (v : V) (d : Bp) (lo hi : Int), vs = [v, .int lo, .int hi] ∧ BpAt H d v ∧ Q (.bl (d.num lo hi)) H
theorem cal_wholeB (T : Tp K mg) : Cal P w K mg base 2 "is_whole" sp_wholeB := by
  obtain ⟨fd, F⟩ := f_is_whole T
  refine cal_of F (g_is_whole T) (b_is_whole F) sc_is_whole (fun vs H Q E h => ?_) (fun cdv A outer s H vs Q E hr h => ?_)
  · obtain ⟨v, d, lo, hi, rfl, _⟩ := h
    rfl
  · obtain ⟨v, d, lo, hi, rfl, hd, q⟩ := h
    refine ⟨_, (pss_one (ps_ret (pe_and (C8.pe_c (cal_numB T) hr (by decide) rfl (pa_cons (pv 0) pa_nil)) (pe_one (pe_chain op_le op_le (pv 1) (pv 0) (pv 2)))))), ?_⟩
    refine ⟨_, rfl, v, d, rfl, hd, _, rfl, ?_⟩
    cases d with
    | fl u =>
      obtain ⟨rfl, o⟩ := hd
      cases v with
      | int i =>
        refine iteT ⟨_, rfl, _, rfl, _, _, rfl, rfl, _, rfl, ite2 (fun e => ?_) (fun e => ?_)⟩
        · have e1 : lo ≤ i := of_decide_eq_true e
          refine ⟨_, rfl, _, _, rfl, rfl, ?_⟩
          have e2 : whI lo hi i = decide (i ≤ hi) := by
            unfold whI
            simp [e1]
          have q : Q (.bl (whI lo hi i)) H := q
          rw [e2] at q
          exact q
        · have e1 : ¬ lo ≤ i := fun z => e (decide_eq_true z)
          have e2 : whI lo hi i = false := by
            unfold whI
            simp [e1]
          have q : Q (.bl (whI lo hi i)) H := q
          rw [e2] at q
          exact q
      | non => exact iteF q
      | bl b => exact iteF q
      | str z => exact iteF q
      | _ => cases o
    | tup ds => exact iteF q
    | lst ds => exact iteF q
def lenB : Bp → Bp → Bool
  | .fl (.int i), e => whI 1 1000 i && e.num i 1000
  | _, _ => false
theorem lenB_no {d e : Bp} (h : d.num 1 1000 = false) : lenB d e = false := by
  match d, h with
  | .fl (.int i), h =>
    show (whI 1 1000 i && e.num i 1000) = false
    rw [show whI 1 1000 i = false from h]
    rfl
  | .fl .non, _ => rfl
  | .fl (.bl _), _ => rfl
  | .fl (.str _), _ => rfl
  | .fl (.byt _), _ => rfl
  | .fl (.flt _), _ => rfl
  | .fl (.ref _), _ => rfl
  | .fl (.ty _), _ => rfl
  | .tup _, _ => rfl
  | .lst _, _ => rfl
def sp_lenB : Sp := fun vs H Q _ => ∃ (x y : V) (d e : Bp), vs = [x, y] ∧ BpAt H d x ∧ BpAt H e y ∧ Q (.bl (lenB d e)) H
theorem cal_lenB (T : Tp K mg) : Cal P w K mg base 3 "are_lengths" sp_lenB := by
  obtain ⟨fd, F⟩ := f_are_lengths T
  refine cal_of F (g_are_lengths T) (b_are_lengths F) sc_are_lengths (fun vs H Q E h => ?_) (fun cdv A outer s H vs Q E hr h => ?_)
  · obtain ⟨x, y, d, e, rfl, _⟩ := h
    rfl
  · obtain ⟨x, y, d, e, rfl, hd, he, q⟩ := h
    refine ⟨_, (pss_one (ps_ret (pe_and (C8.pe_c (cal_wholeB T) hr (by decide) rfl (pa_cons (pv 0) (pa_cons pe_int (pa_cons (C8.pe_gc (by rfl) (c_MOST_LENGTH T)) pa_nil)))) (pe_one (C8.pe_c (cal_wholeB T) hr (by decide) rfl (pa_cons (pv 1) (pa_cons (pv 0) (pa_cons (C8.pe_gc (by rfl) (c_MOST_LENGTH T)) pa_nil)))))))), ?_⟩
    refine ⟨_, rfl, x, d, 1, 1000, rfl, hd, _, rfl, ?_⟩
    cases c : d.num 1 1000 with
    | true =>
      obtain ⟨i, rfl, i1, i2⟩ := num_of c
      obtain ⟨rfl, _⟩ := hd
      have c : whI 1 1000 i = true := c
      have q : Q (.bl (whI 1 1000 i && e.num i 1000)) H := q
      rw [c, Bool.true_and] at q
      exact iteT ⟨_, rfl, _, rfl, y, e, i, 1000, rfl, he, q⟩
    | false =>
      rw [lenB_no c] at q
      exact iteF q
def sp_lateB : Sp := fun vs H Q _ => ∃ (x : V) (d : Bp), vs = [x] ∧ BpAt H d x ∧ Q (.bl d.late) H
theorem cal_lateB (T : Tp K mg) : Cal P w K mg base 3 "is_lateness" sp_lateB := by
  obtain ⟨fd, F⟩ := f_is_lateness T
  refine cal_of F (g_is_lateness T) (b_is_lateness F) sc_is_lateness (fun vs H Q E h => ?_) (fun cdv A outer s H vs Q E hr h => ?_)
  · obtain ⟨x, d, rfl, _⟩ := h
    rfl
  · obtain ⟨x, d, rfl, hd, q⟩ := h
    refine ⟨_, (pss_one (ps_ret (pe_or (pe_cmpR op_isN (pv 0) pe_non (nomark _)) (pe_one (C8.pe_c (cal_wholeB T) hr (by decide) rfl (pa_cons (pv 0) (pa_cons pe_int (pa_cons (C8.pe_gc (by rfl) (c_MOST_LATE T)) pa_nil)))))))), ?_⟩
    refine ⟨_, rfl, rfl, _, rfl, ?_⟩
    by_cases c : x = .non
    · rw [decide_eq_true c]
      have ed : d = .fl .non := by
        cases d with
        | fl u =>
          obtain ⟨rfl, _⟩ := hd
          rw [c]
        | tup ds =>
          obtain ⟨t, _, e, _⟩ := hd
          rw [e] at c
          cases c
        | lst ds =>
          obtain ⟨t, _, e, _⟩ := hd
          rw [e] at c
          cases c
      rw [ed] at q
      exact iteT q
    · rw [decide_eq_false c]
      refine iteF ⟨_, rfl, x, d, 0, 1000, rfl, hd, ?_⟩
      have e : d.late = d.num 0 1000 := by
        unfold Bp.late
        split
        · obtain ⟨rfl, _⟩ := hd
          exact absurd rfl c
        · rfl
      rw [e] at q
      exact q
theorem two_of {r : List Bp} (h : r.length = 2) : ∃ a b, r = [a, b] := by
  match r, h with
  | [a, b], _ => exact ⟨a, b, rfl⟩
theorem three_of' {r : List Bp} (h : r.length = 3) : ∃ a b c, r = [a, b, c] := by
  match r, h with
  | [a, b, c], _ => exact ⟨a, b, c, rfl⟩
theorem ourB_len {r : List Bp} (h : ¬ r.length = 2) : ourB r = false := by
  unfold ourB
  split
  · exact absurd rfl h
  · rfl
theorem ourB_num {d e : Bp} (h : d.num 0 1000 = false) : ourB [d, e] = false := by
  unfold ourB
  split
  · rename_i i d2 e2
    have e3 := (List.cons.inj e2).1
    rw [e3] at h
    rw [show whI 0 1000 i = false from h]
    rfl
  · rfl
theorem wthB_len {r : List Bp} (h : ¬ r.length = 3) : wthB r = false := by
  unfold wthB
  split
  · exact absurd rfl h
  · rfl
theorem wthB_eq (d e f : Bp) : wthB [d, e, f] = (lenB d e && f.late) := by
  unfold wthB
  split
  · rename_i i d2 e2 h
    cases h
    rfl
  · rename_i h
    cases c : lenB d e with
    | false => rfl
    | true =>
      unfold lenB at c
      split at c
      · exact absurd rfl (h _ _ _)
      · cases c
theorem wthnB_len {f : Bp → Bool} {r : List Bp} (h : ¬ r.length = 2) : wthnB f r = false := by
  unfold wthnB
  split
  · exact absurd rfl h
  · rfl
theorem kidsB_len {f : Bp → Bool} {r : List Bp} (h : ¬ r.length = 1) : kidsB f r = false := by
  unfold kidsB
  split
  · exact absurd rfl h
  · rfl
def sp_madeB (n : Nat) : Sp := fun vs H Q _ => ∃ (v : V) (d : Bp), vs = [v, .int (n : Nat)] ∧ BpAt H d v ∧ ∀ (H' : Hp), Same H H' → Q (.bl (mad n d)) H'
theorem cal_madeB (T : Tp K mg) : ∀ n : Nat, Cal P w K mg base (n + 5) "is_made" (sp_madeB n)
  | 0 => by
    obtain ⟨fd, F⟩ := f_is_made T
    refine cal_of F (g_is_made T) (b_is_made F) sc_is_made (fun vs H Q E h => ?_) (fun cdv A outer s H vs Q E hr h => ?_)
    · obtain ⟨v, d, rfl, _⟩ := h
      rfl
    · obtain ⟨v, d, rfl, hd, q⟩ := h
      refine ⟨_, (pss_cons (ps_if (PW.pt (pw_or (pt_cmpR op_eq (pv 1) pe_int (nomark _)) (pw_or (pt_not (pt_val (pe_callB call_isK (by rfl) (z_isinstance T) bb_isinstance (pa_cons (pv 0) (pa_cons (pe_bltn (v := .ty "tuple") (by rfl) (z_tuple T) bb_tuple rfl) pa_nil))))) (pw_or (pt_cmpR op_eq (pe_callB call_len_seq (by rfl) (z_len T) bb_len (pa_cons (pv 0) pa_nil)) pe_int (nomark _)) (pw_or1 (pt_not (pt_val (pe_callB call_isK (by rfl) (z_isinstance T) bb_isinstance (pa_cons (pe_ix ix_tup (pv 0) pe_int (fun _ _ => rfl)) (pa_cons (pe_bltn (v := .ty "str") (by rfl) (z_str T) bb_str rfl) pa_nil)))))))))) (pss_one (ps_ret pe_bl)) pss_nil)
      (pss_cons (ps_set (i := 2) sc_is_made.nd rfl (.inl rfl) (pe_ix ix_tup (pv 0) pe_int (fun _ _ => rfl)))
      (pss_cons (ps_if (pt_cmpR op_eq (pv 2) pe_str (nomark _)) (pss_one (ps_ret (pe_and (pe_cmpR op_eq (pe_callB call_len_seq (by rfl) (z_len T) bb_len (pa_cons (pv 0) pa_nil)) pe_int (nomark _)) (pe_and (C8.pe_c (cal_wholeB T) hr (by omega) rfl (pa_cons (pe_ix ix_tup (pv 0) pe_int (fun _ _ => rfl)) (pa_cons pe_int (pa_cons (C8.pe_gc (by rfl) (c_MOST_TICKS T)) pa_nil)))) (pe_one (C8.pe_c (cal_wholeB T) hr (by omega) rfl (pa_cons (pe_ix ix_tup (pv 0) pe_int (fun _ _ => rfl)) (pa_cons (pe_ix ix_tup (pv 0) pe_int (fun _ _ => rfl)) (pa_cons (C8.pe_gc (by rfl) (c_MOST_TICKS T)) pa_nil))))))))) pss_nil)
      (pss_cons (ps_if (pt_cmpR op_eq (pv 2) pe_str (nomark _)) (pss_one (ps_ret (pe_and (pe_cmpR op_eq (pe_callB call_len_seq (by rfl) (z_len T) bb_len (pa_cons (pv 0) pa_nil)) pe_int (nomark _)) (pe_and (C8.pe_c (cal_lenB T) hr (by omega) rfl (pa_cons (pe_ix ix_tup (pv 0) pe_int (fun _ _ => rfl)) (pa_cons (pe_ix ix_tup (pv 0) pe_int (fun _ _ => rfl)) pa_nil))) (pe_one (C8.pe_c (cal_lateB T) hr (by omega) rfl (pa_cons (pe_ix ix_tup (pv 0) pe_int (fun _ _ => rfl)) pa_nil))))))) pss_nil)
      (pss_cons (ps_if (pt_cmpR op_eq (pv 2) pe_str (nomark _)) (pss_one (ps_ret (pe_and (pe_cmpR op_eq (pe_callB call_len_seq (by rfl) (z_len T) bb_len (pa_cons (pv 0) pa_nil)) pe_int (nomark _)) (pe_and (C8.pe_c (cal_wholeB T) hr (by omega) rfl (pa_cons (pe_ix ix_tup (pv 0) pe_int (fun _ _ => rfl)) (pa_cons pe_int (pa_cons (C8.pe_gc (by rfl) (c_MOST_TICKS T)) pa_nil)))) (pe_one (C8.pe_c (cal_made T 0) hr (by omega) rfl (pa_cons (pe_ix ix_tup (pv 0) pe_int (fun _ _ => rfl)) (pa_cons (pe_op op_sub (pv 1) pe_int) pa_nil)))))))) pss_nil)
      (pss_cons (ps_if (PW.pt (pw_or (pt_cmpR op_notIn_seq (pv 2) (pe_tup (pa_cons pe_str (pa_cons pe_str (pa_cons pe_str pa_nil)))) (by rfl)) (pw_or (pt_cmpR op_ne (pe_callB call_len_seq (by rfl) (z_len T) bb_len (pa_cons (pv 0) pa_nil)) pe_int (nomark _)) (pw_or1 (pt_not (pt_val (pe_callB call_isK (by rfl) (z_isinstance T) bb_isinstance (pa_cons (pe_ix ix_tup (pv 0) pe_int (fun _ _ => rfl)) (pa_cons (pe_bltn (v := .ty "list") (by rfl) (z_list T) bb_list rfl) pa_nil))))))))) (pss_one (ps_ret pe_bl)) pss_nil)
      (pss_one (ps_ret (pe_and (pe_chain op_le op_le pe_int (pe_callB call_len_seq (by rfl) (z_len T) bb_len (pa_cons (pe_ix ix_tup (pv 0) pe_int (fun _ _ => rfl)) pa_nil)) (C8.pe_gc (by rfl) (c_MOST_PLANS T))) (pe_one (pe_callB (cr_all rfl) (by rfl) (z_all T) bb_all (pa_cons (pe_lc (own := [("part", 3)]) (g := gName 3) (tt := tYes) rfl sc_is_made.nd (pi_list (pe_ix ix_tup (pv 0) pe_int (fun _ _ => rfl))) (blkOk_by (N := N_is_made) (sc := defScope s_is_made) (by decide +kernel)) (fun _ _ _ _ _ => (pg_name (i := 3) sc_is_made.nd rfl (.inl rfl))) (fun _ _ _ _ _ => pts_nil) (fun _ _ _ _ _ => (C8.pe_c (cal_made T 0) hr (by omega) rfl (pa_cons (pv 3) (pa_cons (pe_op op_sub (pv 1) pe_int) pa_nil))))) pa_nil)))))))))))), ?_⟩
      refine ⟨_, rfl, rfl, _, rfl, ?_⟩
      rw [decide_eq_true (show V.int ((0 : Nat) : Int) = V.int 0 from rfl)]
      exact iteT (q H (Same.refl H))
  | n + 1 => by
    have ih := cal_madeB T n
    obtain ⟨fd, F⟩ := f_is_made T
    refine cal_of F (g_is_made T) (b_is_made F) sc_is_made (fun vs H Q E h => ?_) (fun cdv A outer s H vs Q E hr h => ?_)
    · obtain ⟨v, d, rfl, _⟩ := h
      rfl
    · obtain ⟨v, d, rfl, hd, q⟩ := h
      refine ⟨_, (pss_cons (ps_if (PW.pt (pw_or (pt_cmpR op_eq (pv 1) pe_int (nomark _)) (pw_or (pt_not (pt_val (pe_callB call_isK (by rfl) (z_isinstance T) bb_isinstance (pa_cons (pv 0) (pa_cons (pe_bltn (v := .ty "tuple") (by rfl) (z_tuple T) bb_tuple rfl) pa_nil))))) (pw_or (pt_cmpR op_eq (pe_callB call_len_seq (by rfl) (z_len T) bb_len (pa_cons (pv 0) pa_nil)) pe_int (nomark _)) (pw_or1 (pt_not (pt_val (pe_callB call_isK (by rfl) (z_isinstance T) bb_isinstance (pa_cons (pe_ix ix_tup (pv 0) pe_int (fun _ _ => rfl)) (pa_cons (pe_bltn (v := .ty "str") (by rfl) (z_str T) bb_str rfl) pa_nil)))))))))) (pss_one (ps_ret pe_bl)) pss_nil)
      (pss_cons (ps_set (i := 2) sc_is_made.nd rfl (.inl rfl) (pe_ix ix_tup (pv 0) pe_int (fun _ _ => rfl)))
      (pss_cons (ps_if (pt_cmpR op_eq (pv 2) pe_str (nomark _)) (pss_one (ps_ret (pe_and (pe_cmpR op_eq (pe_callB call_len_seq (by rfl) (z_len T) bb_len (pa_cons (pv 0) pa_nil)) pe_int (nomark _)) (pe_and (C8.pe_c (cal_wholeB T) hr (by omega) rfl (pa_cons (pe_ix ix_tup (pv 0) pe_int (fun _ _ => rfl)) (pa_cons pe_int (pa_cons (C8.pe_gc (by rfl) (c_MOST_TICKS T)) pa_nil)))) (pe_one (C8.pe_c (cal_wholeB T) hr (by omega) rfl (pa_cons (pe_ix ix_tup (pv 0) pe_int (fun _ _ => rfl)) (pa_cons (pe_ix ix_tup (pv 0) pe_int (fun _ _ => rfl)) (pa_cons (C8.pe_gc (by rfl) (c_MOST_TICKS T)) pa_nil))))))))) pss_nil)
      (pss_cons (ps_if (pt_cmpR op_eq (pv 2) pe_str (nomark _)) (pss_one (ps_ret (pe_and (pe_cmpR op_eq (pe_callB call_len_seq (by rfl) (z_len T) bb_len (pa_cons (pv 0) pa_nil)) pe_int (nomark _)) (pe_and (C8.pe_c (cal_lenB T) hr (by omega) rfl (pa_cons (pe_ix ix_tup (pv 0) pe_int (fun _ _ => rfl)) (pa_cons (pe_ix ix_tup (pv 0) pe_int (fun _ _ => rfl)) pa_nil))) (pe_one (C8.pe_c (cal_lateB T) hr (by omega) rfl (pa_cons (pe_ix ix_tup (pv 0) pe_int (fun _ _ => rfl)) pa_nil))))))) pss_nil)
      (pss_cons (ps_if (pt_cmpR op_eq (pv 2) pe_str (nomark _)) (pss_one (ps_ret (pe_and (pe_cmpR op_eq (pe_callB call_len_seq (by rfl) (z_len T) bb_len (pa_cons (pv 0) pa_nil)) pe_int (nomark _)) (pe_and (C8.pe_c (cal_wholeB T) hr (by omega) rfl (pa_cons (pe_ix ix_tup (pv 0) pe_int (fun _ _ => rfl)) (pa_cons pe_int (pa_cons (C8.pe_gc (by rfl) (c_MOST_TICKS T)) pa_nil)))) (pe_one (C8.pe_c ih hr (Nat.le_refl _) rfl (pa_cons (pe_ix ix_tup (pv 0) pe_int (fun _ _ => rfl)) (pa_cons (pe_op op_sub (pv 1) pe_int) pa_nil)))))))) pss_nil)
      (pss_cons (ps_if (PW.pt (pw_or (pt_cmpR op_notIn_seq (pv 2) (pe_tup (pa_cons pe_str (pa_cons pe_str (pa_cons pe_str pa_nil)))) (by rfl)) (pw_or (pt_cmpR op_ne (pe_callB call_len_seq (by rfl) (z_len T) bb_len (pa_cons (pv 0) pa_nil)) pe_int (nomark _)) (pw_or1 (pt_not (pt_val (pe_callB call_isK (by rfl) (z_isinstance T) bb_isinstance (pa_cons (pe_ix ix_tup (pv 0) pe_int (fun _ _ => rfl)) (pa_cons (pe_bltn (v := .ty "list") (by rfl) (z_list T) bb_list rfl) pa_nil))))))))) (pss_one (ps_ret pe_bl)) pss_nil)
      (pss_one (ps_ret (pe_and (pe_chain op_le op_le pe_int (pe_callB call_len_seq (by rfl) (z_len T) bb_len (pa_cons (pe_ix ix_tup (pv 0) pe_int (fun _ _ => rfl)) pa_nil)) (C8.pe_gc (by rfl) (c_MOST_PLANS T))) (pe_one (pe_callB (cr_all rfl) (by rfl) (z_all T) bb_all (pa_cons (pe_lc (own := [("part", 3)]) (g := gName 3) (tt := tYes) rfl sc_is_made.nd (pi_list (pe_ix ix_tup (pv 0) pe_int (fun _ _ => rfl))) (blkOk_by (N := N_is_made) (sc := defScope s_is_made) (by decide +kernel)) (fun _ _ _ _ _ => (pg_name (i := 3) sc_is_made.nd rfl (.inl rfl))) (fun _ _ _ _ _ => pts_nil) (fun _ _ _ _ _ => (C8.pe_c ih hr (Nat.le_refl _) rfl (pa_cons (pv 3) (pa_cons (pe_op op_sub (pv 1) pe_int) pa_nil))))) pa_nil)))))))))))), ?_⟩
      refine ⟨_, rfl, rfl, _, rfl, ?_⟩
      rw [decide_eq_false (show ¬ V.int ((n + 1 : Nat) : Int) = V.int 0 from fun e => by have e := V.int.inj e; omega)]
      have no : mad (n + 1) d = false → Q (.bl false) H := fun e => by
        have := q H (Same.refl H)
        rw [e] at this
        exact this
      obtain ⟨ty, hk⟩ := bp_ty (K := K) hd
      refine iteF ⟨_, rfl, _, "tuple", d.ty, rfl, ty, hk, by decide, _, rfl, ?_⟩
      match d, hd, ty, hk, q, no with
      | .fl u, hd, ty, hk, q, no =>
        obtain ⟨rfl, o⟩ := hd
        cases v with
        | non => exact iteT (no rfl)
        | bl b => exact iteT (no rfl)
        | int i => exact iteT (no rfl)
        | str z => exact iteT (no rfl)
        | _ => cases o
      | .lst ds, hd, ty, hk, q, no => exact iteT (no rfl)
      | .tup ds, hd, ty, hk, q, no =>
        obtain ⟨t, xs, rfl, ht, R⟩ := hd
        have S : SqT K H t xs := .inl (.inl ht)
        refine iteF ⟨_, rfl, t, _, rfl, .inr S, rfl, _, rfl, ?_⟩
        match ds, R, q, no with
        | [], R, q, no =>
          have R : xs = [] := R
          rw [R]
          exact iteT (no rfl)
        | d0 :: r, R, q, no =>
          obtain ⟨x, ys, rfl, h0, R1⟩ := R
          have lr : ys.length = r.length := R1.len
          rw [decide_eq_false (show ¬ V.int ((x :: ys).length : Nat) = V.int 0 from fun e => by have e := V.int.inj e; rw [List.length_cons] at e; omega)]
          obtain ⟨ty0, hk0⟩ := bp_ty (K := K) h0
          refine iteF ⟨_, rfl, t, _, 0, x, rfl, rfl, S, atI_nat (j := 0) rfl, _, "str", d0.ty, rfl, ty0, hk0, by decide, _, rfl, ?_⟩
          match d0, h0, ty0, hk0, q, no with
          | .tup _, h0, ty0, hk0, q, no => exact iteT (no rfl)
          | .lst _, h0, ty0, hk0, q, no => exact iteT (no rfl)
          | .fl u, h0, ty0, hk0, q, no =>
            obtain ⟨rfl, o⟩ := h0
            match x, o, ty0, hk0, q, no with
            | .non, o, ty0, hk0, q, no => exact iteT (no rfl)
            | .bl _, o, ty0, hk0, q, no => exact iteT (no rfl)
            | .int _, o, ty0, hk0, q, no => exact iteT (no rfl)
            | .str w, o, ty0, hk0, q, no =>
              refine iteF ?_
              refine ⟨_, rfl, t, _, 0, .str w, rfl, rfl, S, atI_nat (j := 0) rfl, ?_⟩
              refine ⟨_, rfl, rfl, _, rfl, ?_⟩
              have em : mad (n + 1) (.tup (.fl (.str w) :: r)) = (if w = "ours" then ourB r else if w = "weather" then wthB r else if w = "within" then wthnB (mad n) r else if manyB w then kidsB (mad n) r else false) := rfl
              by_cases c1 : w = "ours"
              · rw [show decide (V.str w = V.str "ours") = true from by rw [c1]; exact eq_str]
                rw [em, if_pos c1] at q no
                refine iteT ⟨_, rfl, t, _, rfl, .inr S, rfl, _, rfl, ?_⟩
                by_cases l2 : r.length = 2
                · obtain ⟨a, b, rfl⟩ := two_of l2
                  obtain ⟨y1, _, rfl, h1, y2, _, rfl, h2, rfl⟩ := R1
                  refine iteT ⟨_, rfl, t, _, 1, y1, rfl, rfl, S, atI_nat (j := 1) rfl, y1, a, 0, 1000, rfl, h1, _, rfl, ?_⟩
                  cases c : a.num 0 1000 with
                  | false => exact iteF (no (ourB_num c))
                  | true =>
                    obtain ⟨i, rfl, i1, i2⟩ := num_of c
                    obtain ⟨rfl, _⟩ := h1
                    have q := q H (Same.refl H)
                    have e2 : ourB [.fl (.int i), b] = (whI 0 1000 i && b.num i 1000) := rfl
                    rw [e2, show whI 0 1000 i = true from c, Bool.true_and] at q
                    exact iteT ⟨_, rfl, t, _, 2, y2, rfl, rfl, S, atI_nat (j := 2) rfl, _, rfl, t, _, 1, .int i, rfl, rfl, S, atI_nat (j := 1) rfl, y2, b, i, 1000, rfl, h2, q⟩
                · rw [decide_eq_false (show ¬ V.int ((V.str w :: ys).length : Nat) = V.int 3 from fun e => by have e := V.int.inj e; rw [List.length_cons] at e; omega)]
                  exact iteF (no (ourB_len l2))
              rw [show decide (V.str w = V.str "ours") = false from ne_str c1]
              rw [em, if_neg c1] at q no
              refine iteF ⟨_, rfl, rfl, _, rfl, ?_⟩
              by_cases c2 : w = "weather"
              · rw [show decide (V.str w = V.str "weather") = true from by rw [c2]; exact eq_str]
                rw [if_pos c2] at q no
                refine iteT ⟨_, rfl, t, _, rfl, .inr S, rfl, _, rfl, ?_⟩
                by_cases l3 : r.length = 3
                · obtain ⟨a, b, cc, rfl⟩ := three_of' l3
                  obtain ⟨y1, _, rfl, h1, y2, _, rfl, h2, y3, _, rfl, h3, rfl⟩ := R1
                  rw [wthB_eq] at q no
                  refine iteT ⟨_, rfl, t, _, 1, y1, rfl, rfl, S, atI_nat (j := 1) rfl, _, rfl, t, _, 2, y2, rfl, rfl, S, atI_nat (j := 2) rfl, y1, y2, a, b, rfl, h1, h2, _, rfl, ?_⟩
                  cases c : lenB a b with
                  | false => exact iteF (no (by rw [c]; rfl))
                  | true =>
                    have q := q H (Same.refl H)
                    rw [c, Bool.true_and] at q
                    exact iteT ⟨_, rfl, t, _, 3, y3, rfl, rfl, S, atI_nat (j := 3) rfl, y3, cc, rfl, h3, q⟩
                · rw [decide_eq_false (show ¬ V.int ((V.str w :: ys).length : Nat) = V.int 4 from fun e => by have e := V.int.inj e; rw [List.length_cons] at e; omega)]
                  exact iteF (no (wthB_len l3))
              rw [show decide (V.str w = V.str "weather") = false from ne_str c2]
              rw [if_neg c2] at q no
              refine iteF ⟨_, rfl, rfl, _, rfl, ?_⟩
              by_cases c3 : w = "within"
              · rw [show decide (V.str w = V.str "within") = true from by rw [c3]; exact eq_str]
                rw [if_pos c3] at q no
                refine iteT ⟨_, rfl, t, _, rfl, .inr S, rfl, _, rfl, ?_⟩
                by_cases l2 : r.length = 2
                · obtain ⟨a, b, rfl⟩ := two_of l2
                  obtain ⟨y1, _, rfl, h1, y2, _, rfl, h2, rfl⟩ := R1
                  have ew : wthnB (mad n) [a, b] = (a.num 0 1000 && mad n b) := rfl
                  rw [ew] at q no
                  refine iteT ⟨_, rfl, t, _, 1, y1, rfl, rfl, S, atI_nat (j := 1) rfl, y1, a, 0, 1000, rfl, h1, _, rfl, ?_⟩
                  cases c : a.num 0 1000 with
                  | false => exact iteF (no (by rw [c]; rfl))
                  | true =>
                    rw [c, Bool.true_and] at q
                    refine iteT ⟨_, rfl, t, _, 2, y2, rfl, rfl, S, atI_nat (j := 2) rfl, _, rfl, _, 1, rfl, rfl, y2, b, ?_, h2, q⟩
                    show [y2, V.int (((n + 1 : Nat) : Int) - 1)] = [y2, V.int (n : Nat)]
                    rw [show ((n + 1 : Nat) : Int) - 1 = (n : Nat) by omega]
                · rw [decide_eq_false (show ¬ V.int ((V.str w :: ys).length : Nat) = V.int 3 from fun e => by have e := V.int.inj e; rw [List.length_cons] at e; omega)]
                  exact iteF (no (wthnB_len l2))
              rw [show decide (V.str w = V.str "within") = false from ne_str c3]
              rw [if_neg c3] at q no
              refine iteF ⟨_, rfl, (by show 3 ≤ sizeLine; decide), fun g ng => ?_⟩
              have sg := same_upd (o := .tup [.str "then", .str "beside", .str "either"]) ng
              refine ⟨g, (["then", "beside", "either"] : List Str).map V.str, rfl, .inr (.inl (.inl upd_same)), rfl, rfl, _, rfl, ?_⟩
              show if (!inV (.str w) ((["then", "beside", "either"] : List Str).map V.str)) = true then _ else _
              rw [in_strs, show decide (w ∈ (["then", "beside", "either"] : List Str)) = manyB w from by
                unfold manyB
                simp only [List.mem_cons, List.not_mem_nil, or_false]]
              have no1 : (if manyB w = true then kidsB (mad n) r else false) = false → ∀ H', Same H H' → Q (.bl false) H' := fun e H' s => by
                have := q H' s
                rw [e] at this
                exact this
              cases c4 : manyB w with
              | false => exact iteT (no1 (by rw [c4]; rfl) _ sg)
              | true =>
                have S1 : SqT K (upd H g (.tup [.str "then", .str "beside", .str "either"])) t (.str w :: ys) := .inl (.inl (sg _ _ ht))
                rw [c4, if_pos rfl] at q no no1
                refine iteF ⟨_, rfl, t, _, rfl, .inr S1, rfl, _, rfl, ?_⟩
                by_cases l1 : r.length = 1
                · obtain ⟨a, rfl⟩ := List.length_eq_one_iff.1 l1
                  obtain ⟨y1, _, rfl, h1, rfl⟩ := R1
                  have h1 := h1.same sg
                  generalize upd H g (.tup [.str "then", .str "beside", .str "either"]) = H1 at sg S1 h1 ⊢
                  obtain ⟨ty1, hk1⟩ := bp_ty (K := K) h1
                  refine iteF ⟨_, rfl, t, _, 1, y1, rfl, rfl, S1, atI_nat (j := 1) rfl, _, "list", a.ty, rfl, ty1, hk1, by decide, _, rfl, ?_⟩
                  match a, h1, ty1, hk1, q, no1 with
                  | .tup _, h1, ty1, hk1, q, no1 => exact iteT (no1 rfl _ sg)
                  | .fl u, h1, ty1, hk1, q, no1 =>
                    obtain ⟨rfl, o1⟩ := h1
                    match y1, o1, ty1, hk1, q, no1 with
                    | .non, o, ty0, hk0, q, no1 => exact iteT (no1 rfl _ sg)
                    | .bl _, o, ty0, hk0, q, no1 => exact iteT (no1 rfl _ sg)
                    | .int _, o, ty0, hk0, q, no1 => exact iteT (no1 rfl _ sg)
                    | .str _, o, ty0, hk0, q, no1 => exact iteT (no1 rfl _ sg)
                  | .lst ds, h1, ty1, hk1, q, no1 =>
                    obtain ⟨l, zs, rfl, hl, Rz⟩ := h1
                    have lz := Rz.len
                    have ek : kidsB (mad n) [.lst ds] = (decide (1 ≤ ds.length ∧ ds.length ≤ 4) && ds.all (mad n)) := rfl
                    rw [ek] at q no1
                    refine iteF ⟨_, rfl, t, _, 1, .ref l, rfl, rfl, S1, atI_nat (j := 1) rfl, l, zs, rfl, .inl (.inl (.inl hl)), _, _, rfl, rfl, ?_⟩
                    refine ⟨_, rfl, ?_⟩
                    by_cases k1 : 1 ≤ ds.length
                    · rw [decide_eq_true (show (1 : Int) ≤ (zs.length : Nat) by omega)]
                      refine iteT ⟨_, _, rfl, rfl, _, rfl, ?_⟩
                      by_cases k4 : ds.length ≤ 4
                      · rw [decide_eq_true (show ((zs.length : Nat) : Int) ≤ 4 by omega)]
                        rw [decide_eq_true (show 1 ≤ ds.length ∧ ds.length ≤ 4 from ⟨k1, k4⟩), Bool.true_and] at q
                        refine iteT ⟨_, rfl, t, _, 1, .ref l, rfl, rfl, S1, atI_nat (j := 1) rfl, l, rfl, ⟨_, .inl (.inl hl)⟩, fun D nD => ?_⟩
                        refine lc_pure ds (walk_listN lz) (fun c => some (mad n c)) (SV V.bl) (fun _ h => h) nD (by omega) (fun H s => .inl (.inl (s _ _ hl))) ?_ ?_
                        · rintro i c x H3 _ ec s3 ⟨rfl, hv⟩ Good Bad kt kf
                          have hc := Rz.get hv ec
                          refine ⟨rfl, yes_i (iteT ⟨_, rfl, _, rfl, _, 1, rfl, rfl, x, c, ?_, hc.same s3, fun H4 s4 => kt _ _ _ rfl s4 rfl⟩)⟩
                          show [x, V.int (((n + 1 : Nat) : Int) - 1)] = [x, V.int (n : Nat)]
                          rw [show ((n + 1 : Nat) : Int) - 1 = (n : Nat) by omega]
                        · intro H3 acc s3 d3 p3
                          have ea := paired_enc p3
                          rw [show (ds.filterMap fun c => some (mad n c)) = ds.map (mad n) from List.filterMap_eq_map ▸ rfl] at ea
                          subst ea
                          refine ⟨D, _, rfl, .inl (.inl d3), ?_⟩
                          rw [List.all_map]
                          exact q H3 (sg.trans s3)
                      · rw [decide_eq_false (show ¬ ((zs.length : Nat) : Int) ≤ 4 by omega)]
                        exact iteF (no1 (by rw [decide_eq_false (fun z => k4 z.2)]; rfl) _ sg)
                    · rw [decide_eq_false (show ¬ (1 : Int) ≤ (zs.length : Nat) by omega)]
                      exact iteF ⟨_, rfl, iteF (no1 (by rw [decide_eq_false (fun z => k1 z.1)]; rfl) _ sg)⟩
                · rw [decide_eq_false (show ¬ V.int ((V.str w :: ys).length : Nat) = V.int 2 from fun e => by have e := V.int.inj e; rw [List.length_cons] at e; omega)]
                  exact iteT (no1 (kidsB_len l1) _ sg)
/-- a plan that is let -/
def GoodD (d : Bp) : Prop := ∃ p : Pl, d = p.bp ∧ p.ok ∧ p.gf = true ∧ p.dp ≤ 6 ∧ p.lc ≤ 12 ∧ p.rc ≤ 64
def sp_needX (K : PySem.W.Frag) : Sp := fun vs H Q E => ∃ (v : V) (d : Bp), vs = [v] ∧ BpAt H d v ∧ (GoodD d → ∀ H', Same H H' → Q .non H') ∧ (¬ GoodD d → Out0 H E (He.ga K "BadPlan") "BadPlan")
theorem calx_needX (T : Tp K mg) : CalX P w K mg base 13 "need_plan" (sp_needX K) := by
  obtain ⟨fd, F⟩ := f_need_plan T
  refine calx_of F (g_need_plan T) (b_need_plan F) sc_need_plan (fun vs H Q E h => ?_) (fun cdv A outer s H vs Q E hr h tk => ?_)
  · obtain ⟨v, d, rfl, _⟩ := h
    rfl
  · obtain ⟨v, d, rfl, hd, q, o⟩ := h
    refine ⟨_, (pss_one (ps_if (PW.pt (pw_or (pt_not (pt_val (C8.pe_c (cal_madeB T 6) hr (by decide) rfl (pa_cons (pv 0) (pa_cons (C8.pe_gc (by rfl) (c_MOST_DEPTH T)) pa_nil))))) (pw_or (pt_cmpR op_gt (C8.pe_c (cal_pcount T 6) hr (by decide) rfl (pa_cons (pv 0) pa_nil)) (C8.pe_gc (by rfl) (c_MOST_PARTS T)) (nomark _)) (pw_or1 (pt_cmpR op_gt (C8.pe_c (cal_rcount T 6) hr (by decide) rfl (pa_cons (pv 0) pa_nil)) (C8.pe_gc (by rfl) (c_MOST_READINGS T)) (nomark _)))))) (pss_one (ps_raise rfl tk (pmk_b0 (mkx_BadPlan T) hr (by decide) rfl))) pss_nil)), ?_⟩
    refine ⟨_, rfl, v, d, rfl, hd, fun H1 s1 => ⟨_, rfl, ?_⟩⟩
    cases em : mad 6 d with
    | false =>
      refine iteT (iteT (mk_out0 ((o fun ⟨p, e, ok, gf, dp, _⟩ => ?_).same s1)))
      rw [e, mad_bp p 6 ok gf dp] at em
      cases em
    | true =>
      obtain ⟨p, e, ok, gf, dp⟩ := mad_pl em
      rw [e] at hd
      have hp := hd.pl
      have inj : ∀ r : Pl, p.bp = r.bp → r = p := fun r er => bp_inj er.symm
      refine iteF ⟨_, rfl, v, p, rfl, hp.same s1, ok, dp, fun H2 s2 => ⟨_, _, rfl, rfl, _, rfl, ?_⟩⟩
      by_cases lc : p.lc ≤ 12
      · rw [decide_eq_false (show ¬ (12 : Int) < (p.lc : Nat) by omega)]
        refine iteF ⟨_, rfl, v, p, rfl, (hp.same s1).same s2, ok, dp, lc, fun H3 s3 => ⟨_, _, rfl, rfl, _, rfl, ?_⟩⟩
        have s13 := (s1.trans s2).trans s3
        by_cases rc : p.rc ≤ 64
        · rw [decide_eq_false (show ¬ (64 : Int) < (p.rc : Nat) by omega)]
          exact iteF (q ⟨p, e, ok, gf, dp, lc, rc⟩ H3 s13)
        · rw [decide_eq_true (show (64 : Int) < (p.rc : Nat) by omega)]
          refine iteT (mk_out0 ((o fun ⟨r, er, _, _, _, _, rr⟩ => ?_).same s13))
          rw [e] at er
          rw [inj r er] at rr
          exact rc rr
      · rw [decide_eq_true (show (12 : Int) < (p.lc : Nat) by omega)]
        refine iteT (iteT (mk_out0 ((o fun ⟨r, er, _, _, _, lr, _⟩ => ?_).same (s1.trans s2))))
        rw [e] at er
        rw [inj r er] at lr
        exact lc lr
end
end Tw

set_option maxHeartbeats 4000000
namespace Tw
open PySem PySem.Spec PyProof.Rows L2
/-! what the law says of things that may be no plan -/
section
variable {P : Program} {w : World} {K : PySem.W.Frag} {mg : Str → Option Value} {base : Heap}
theorem cal_lwholeB (T : Tp K mg) : Cal P w K mg base 2 "_law_whole" sp_wholeB := by
  obtain ⟨fd, F⟩ := f__law_whole T
  refine cal_of F (g__law_whole T) (b__law_whole F) sc__law_whole (fun vs H Q E h => ?_) (fun cdv A outer s H vs Q E hr h => ?_)
  · obtain ⟨v, d, lo, hi, rfl, _⟩ := h
    rfl
  · obtain ⟨v, d, lo, hi, rfl, hd, q⟩ := h
    obtain ⟨ty, hk⟩ := bp_ty (K := K) hd
    refine ⟨_, (pss_one (ps_ret (pe_and (pe_callB call_isK (by rfl) (z_isinstance T) bb_isinstance (pa_cons (pv 0) (pa_cons (pe_bltn (v := .ty "int") (by rfl) (z_int T) bb_int rfl) pa_nil))) (pe_and (pe_not (pe_callB call_isK (by rfl) (z_isinstance T) bb_isinstance (pa_cons (pv 0) (pa_cons (pe_bltn (v := .ty "bool") (by rfl) (z_bool T) bb_bool rfl) pa_nil)))) (pe_one (pe_chain op_le op_le (pv 1) (pv 0) (pv 2))))))), ?_⟩
    refine ⟨_, rfl, _, "int", d.ty, rfl, ty, hk, by decide, _, rfl, ?_⟩
    match d, hd, ty, hk, q with
    | .tup ds, hd, ty, hk, q => exact iteF q
    | .lst ds, hd, ty, hk, q => exact iteF q
    | .fl u, hd, ty, hk, q =>
      obtain ⟨rfl, o⟩ := hd
      match v, o, ty, hk, q with
      | .non, o, ty, hk, q => exact iteF q
      | .str _, o, ty, hk, q => exact iteF q
      | .bl _, o, ty, hk, q =>
        exact iteT ⟨_, rfl, _, "bool", "bool", rfl, ty, hk, by decide, _, rfl, _, rfl, iteF q⟩
      | .int i, o, ty, hk, q =>
        refine iteT ⟨_, rfl, _, "bool", "int", rfl, ty, hk, by decide, _, rfl, _, rfl, ?_⟩
        have q : Q (.bl (whI lo hi i)) H := q
        unfold whI at q
        refine iteT ⟨_, rfl, _, rfl, _, _, rfl, rfl, _, rfl, ite2 (fun e => ?_) (fun e => ?_)⟩
        · have e1 : lo ≤ i := of_decide_eq_true e
          refine ⟨_, rfl, _, _, rfl, rfl, ?_⟩
          rw [show decide (lo ≤ i ∧ i ≤ hi) = decide (i ≤ hi) by simp [e1]] at q
          exact q
        · have e1 : ¬ lo ≤ i := fun z => e (decide_eq_true z)
          rw [show decide (lo ≤ i ∧ i ≤ hi) = false by simp [e1]] at q
          exact q
/-- a leaf by its word -/
def leafB (z : Str) (r : List Bp) : Bool := if z = "ours" then ourB r else wthB r
theorem ourB_eq (a b : Bp) : ourB [a, b] = (match a with | .fl (.int i) => whI 0 1000 i && b.num i 1000 | _ => false) := by
  unfold ourB
  split
  · rename_i h
    cases h
    rfl
  · rename_i h
    split
    · exact absurd rfl (h _ _)
    · rfl
theorem num_less {b : Bp} {i lo : Int} (h : lo ≤ i) (n : b.num lo 1000 = false) : b.num i 1000 = false := by
  cases c : b.num i 1000 with
  | false => rfl
  | true =>
    obtain ⟨j, rfl, j1, j2⟩ := num_of c
    rw [show Bp.num lo 1000 (.fl (.int j)) = true from decide_eq_true ⟨by omega, j2⟩] at n
    cases n
theorem late_at {H : Hp} {d : Bp} {x : V} (hd : BpAt H d x) : (x = .non → d.late = true) ∧ (x ≠ .non → d.late = d.num 0 1000) := by
  constructor
  · intro c
    cases d with
    | fl u =>
      obtain ⟨rfl, _⟩ := hd
      rw [c]
      rfl
    | tup ds =>
      obtain ⟨t, _, e, _⟩ := hd
      rw [e] at c
      cases c
    | lst ds =>
      obtain ⟨t, _, e, _⟩ := hd
      rw [e] at c
      cases c
  · intro c
    unfold Bp.late
    split
    · obtain ⟨rfl, _⟩ := hd
      exact absurd rfl c
    · rfl
def sp_gleafB : Sp := fun vs H Q _ => ∃ (v : V) (z : Str) (r : List Bp), vs = [v] ∧ BpAt H (.tup (.fl (.str z) :: r)) v ∧ ((z = "ours" ∧ r.length = 2) ∨ (z = "weather" ∧ r.length = 3)) ∧ Q (.bl (leafB z r)) H
theorem cal_gleafB (T : Tp K mg) : Cal P w K mg base 3 "_law_good_leaf" sp_gleafB := by
  obtain ⟨fd, F⟩ := f__law_good_leaf T
  refine cal_of F (g__law_good_leaf T) (b__law_good_leaf F) sc__law_good_leaf (fun vs H Q E h => ?_) (fun cdv A outer s H vs Q E hr h => ?_)
  · obtain ⟨v, z, r, rfl, _⟩ := h
    rfl
  · obtain ⟨v, z, r, rfl, hd, k, q⟩ := h
    refine ⟨_, (pss_cons (ps_if (pt_cmpR op_eq (pe_ix ix_tup (pv 0) pe_int (fun _ _ => rfl)) pe_str (nomark _)) (pss_cons (ps_set (i := 1) sc__law_good_leaf.nd rfl (.inl rfl) (pe_and (C8.pe_c (cal_lwholeB T) hr (by decide) rfl (pa_cons (pe_ix ix_tup (pv 0) pe_int (fun _ _ => rfl)) (pa_cons pe_int (pa_cons pe_int pa_nil)))) (pe_one (C8.pe_c (cal_lwholeB T) hr (by decide) rfl (pa_cons (pe_ix ix_tup (pv 0) pe_int (fun _ _ => rfl)) (pa_cons pe_int (pa_cons pe_int pa_nil)))))))
        (pss_one (ps_ret (pe_and (pv 1) (pe_one (pe_cmpR op_le (pe_ix ix_tup (pv 0) pe_int (fun _ _ => rfl)) (pe_ix ix_tup (pv 0) pe_int (fun _ _ => rfl)) (nomark _))))))) pss_nil)
      (pss_cons (ps_set (i := 1) sc__law_good_leaf.nd rfl (.inl rfl) (pe_and (C8.pe_c (cal_lwholeB T) hr (by decide) rfl (pa_cons (pe_ix ix_tup (pv 0) pe_int (fun _ _ => rfl)) (pa_cons pe_int (pa_cons pe_int pa_nil)))) (pe_one (C8.pe_c (cal_lwholeB T) hr (by decide) rfl (pa_cons (pe_ix ix_tup (pv 0) pe_int (fun _ _ => rfl)) (pa_cons pe_int (pa_cons pe_int pa_nil)))))))
      (pss_cons (ps_set (i := 1) sc__law_good_leaf.nd rfl (.inl rfl) (pe_and (pv 1) (pe_one (pe_cmpR op_le (pe_ix ix_tup (pv 0) pe_int (fun _ _ => rfl)) (pe_ix ix_tup (pv 0) pe_int (fun _ _ => rfl)) (nomark _)))))
      (pss_one (ps_ret (pe_and (pv 1) (pe_one (pe_or (pe_cmpR op_isN (pe_ix ix_tup (pv 0) pe_int (fun _ _ => rfl)) pe_non (nomark _)) (pe_one (C8.pe_c (cal_lwholeB T) hr (by decide) rfl (pa_cons (pe_ix ix_tup (pv 0) pe_int (fun _ _ => rfl)) (pa_cons pe_int (pa_cons pe_int pa_nil))))))))))))), ?_⟩
    obtain ⟨t, xs, rfl, ht, x0, ys, rfl, ⟨rfl, _⟩, R⟩ := hd
    have S : SqT K H t (.str z :: ys) := .inl (.inl ht)
    refine ⟨_, rfl, t, _, 0, .str z, rfl, rfl, S, atI_nat (j := 0) rfl, rfl, _, rfl, ?_⟩
    rcases k with ⟨rfl, l2⟩ | ⟨rfl, l3⟩
    · obtain ⟨a, b, rfl⟩ := two_of l2
      obtain ⟨y1, _, rfl, h1, y2, _, rfl, h2, rfl⟩ := R
      rw [eq_str]
      have q : Q (.bl (ourB [a, b])) H := q
      refine iteT ⟨_, rfl, t, _, 1, y1, rfl, rfl, S, atI_nat (j := 1) rfl, y1, a, 0, 1000, rfl, h1, _, rfl, ?_⟩
      cases c : a.num 0 1000 with
      | false =>
        rw [ourB_num c] at q
        exact iteF ⟨_, rfl, _, rfl, iteF q⟩
      | true =>
        obtain ⟨i, rfl, i1, i2⟩ := num_of c
        obtain ⟨rfl, _⟩ := h1
        have e2 : ourB [.fl (.int i), b] = (whI 0 1000 i && b.num i 1000) := rfl
        rw [e2, show whI 0 1000 i = true from c, Bool.true_and] at q
        refine iteT ⟨_, rfl, t, _, 2, y2, rfl, rfl, S, atI_nat (j := 2) rfl, y2, b, 0, 1000, rfl, h2, ?_⟩
        refine ⟨_, rfl, _, rfl, ?_⟩
        cases c2 : b.num 0 1000 with
        | false =>
          rw [num_less i1 c2] at q
          exact iteF q
        | true =>
          obtain ⟨j, rfl, j1, j2⟩ := num_of c2
          obtain ⟨rfl, _⟩ := h2
          have e3 : Bp.num i 1000 (.fl (.int j)) = decide (i ≤ j) := by
            show decide (i ≤ j ∧ j ≤ 1000) = decide (i ≤ j)
            simp [j2]
          rw [e3] at q
          exact iteT ⟨_, rfl, t, _, 1, .int i, rfl, rfl, S, atI_nat (j := 1) rfl, _, rfl, t, _, 2, .int j, rfl, rfl, S, atI_nat (j := 2) rfl, _, _, rfl, rfl, q⟩
    · obtain ⟨a, b, cc, rfl⟩ := three_of' l3
      obtain ⟨y1, _, rfl, h1, y2, _, rfl, h2, y3, _, rfl, h3, rfl⟩ := R
      rw [ne_str (show ¬ ("weather" : Str) = "ours" by decide +kernel)]
      have q : Q (.bl (wthB [a, b, cc])) H := q
      rw [wthB_eq] at q
      refine iteF ⟨_, rfl, t, _, 1, y1, rfl, rfl, S, atI_nat (j := 1) rfl, y1, a, 1, 1000, rfl, h1, _, rfl, ?_⟩
      cases c : a.num 1 1000 with
      | false =>
        rw [lenB_no c] at q
        exact iteF ⟨_, rfl, _, rfl, iteF ⟨_, rfl, _, rfl, iteF q⟩⟩
      | true =>
        obtain ⟨i, rfl, i1, i2⟩ := num_of c
        obtain ⟨rfl, _⟩ := h1
        have e2 : lenB (.fl (.int i)) b = (whI 1 1000 i && b.num i 1000) := rfl
        rw [e2, show whI 1 1000 i = true from c, Bool.true_and] at q
        refine iteT ⟨_, rfl, t, _, 2, y2, rfl, rfl, S, atI_nat (j := 2) rfl, y2, b, 1, 1000, rfl, h2, ?_⟩
        refine ⟨_, rfl, _, rfl, ?_⟩
        cases c2 : b.num 1 1000 with
        | false =>
          rw [num_less i1 c2] at q
          exact iteF ⟨_, rfl, _, rfl, iteF q⟩
        | true =>
          obtain ⟨j, rfl, j1, j2⟩ := num_of c2
          obtain ⟨rfl, _⟩ := h2
          have e3 : Bp.num i 1000 (.fl (.int j)) = decide (i ≤ j) := by
            show decide (i ≤ j ∧ j ≤ 1000) = decide (i ≤ j)
            simp [j2]
          rw [e3] at q
          refine iteT ⟨_, rfl, t, _, 1, .int i, rfl, rfl, S, atI_nat (j := 1) rfl, _, rfl, t, _, 2, .int j, rfl, rfl, S, atI_nat (j := 2) rfl, _, _, rfl, rfl, ?_⟩
          refine ⟨_, rfl, _, rfl, ?_⟩
          cases c3 : decide (i ≤ j) with
          | false =>
            rw [c3, Bool.false_and] at q
            exact iteF q
          | true =>
            rw [c3, Bool.true_and] at q
            refine iteT ⟨_, rfl, t, _, 3, y3, rfl, rfl, S, atI_nat (j := 3) rfl, rfl, _, rfl, ?_⟩
            by_cases cn : y3 = .non
            · rw [decide_eq_true cn]
              rw [(late_at h3).1 cn] at q
              exact iteT q
            · rw [decide_eq_false cn]
              rw [(late_at h3).2 cn] at q
              exact iteF ⟨_, rfl, t, _, 3, y3, rfl, rfl, S, atI_nat (j := 3) rfl, y3, cc, 0, 1000, rfl, h3, q⟩
theorem ite_ne {c A B : Prop} [Decidable c] (hc : ¬ c) (h : A) : if (!decide c) = true then A else B := by
  rw [decide_eq_false hc]
  exact iteT h
def szZ (z : Str) : Int := if z = "ours" then 3 else if z = "weather" then 4 else if z = "within" then 3 else if manyB z then 2 else -1
theorem sz_no {z : Str} (h1 : ¬ z = "ours") (h2 : ¬ z = "weather") (h3 : ¬ z = "within") (h4 : manyB z = false) : valV (mergeK [] sz1) (.inr z) = none := by
  have m : mergeK [] sz1 = sz1 := by decide +kernel
  have h4 : ¬ (z = "then" ∨ z = "beside" ∨ z = "either") := of_decide_eq_false h4
  rw [m]
  unfold valV sz1
  simp [Ne.symm h1, Ne.symm h2, Ne.symm h3]
  exact ⟨fun e => h4 (.inl e.symm), fun e => h4 (.inr (.inl e.symm)), fun e => h4 (.inr (.inr e.symm))⟩
theorem sz_or (z : Str) : (valV (mergeK [] sz1) (.inr z) = some (.int (szZ z)) ∧ 0 ≤ szZ z) ∨ (valV (mergeK [] sz1) (.inr z) = none ∧ szZ z = -1) := by
  by_cases c1 : z = "ours"
  · subst c1
    exact .inl (by decide +kernel)
  by_cases c2 : z = "weather"
  · subst c2
    exact .inl (by decide +kernel)
  by_cases c3 : z = "within"
  · subst c3
    exact .inl (by decide +kernel)
  cases c4 : manyB z with
  | true =>
    have cc : z = "then" ∨ z = "beside" ∨ z = "either" := of_decide_eq_true c4
    rcases cc with rfl | rfl | rfl <;> exact .inl (by decide +kernel)
  | false =>
    refine .inr ⟨sz_no c1 c2 c3 c4, ?_⟩
    unfold szZ
    rw [if_neg c1, if_neg c2, if_neg c3, c4]
    rfl
theorem mad_len {n : Nat} {z : Str} {r : List Bp} (h : szZ z ≠ ((r.length + 1 : Nat) : Int)) : mad (n + 1) (.tup (.fl (.str z) :: r)) = false := by
  show (if z = "ours" then ourB r else if z = "weather" then wthB r else if z = "within" then wthnB (mad n) r else if manyB z then kidsB (mad n) r else false) = false
  unfold szZ at h
  by_cases c1 : z = "ours"
  · rw [if_pos c1] at h ⊢
    exact ourB_len fun e => h (by omega)
  rw [if_neg c1] at h ⊢
  by_cases c2 : z = "weather"
  · rw [if_pos c2] at h ⊢
    exact wthB_len fun e => h (by omega)
  rw [if_neg c2] at h ⊢
  by_cases c3 : z = "within"
  · rw [if_pos c3] at h ⊢
    exact wthnB_len fun e => h (by omega)
  rw [if_neg c3] at h ⊢
  by_cases c4 : manyB z = true
  · rw [if_pos c4] at h ⊢
    exact kidsB_len fun e => h (by omega)
  · rw [if_neg c4]
def Bp.isT : Bp → Bool
  | .tup _ => true
  | _ => false
mutual
/-- where a tuple begins, a text stands, or the empty tuple -/
def Bp.hdT : Bp → Prop
  | .fl _ => True
  | .tup ds => (∀ x r, ds = x :: r → (∃ z, x = .fl (.str z)) ∨ x = .tup []) ∧ hdR ds
  | .lst ds => hdL ds
/-- .. where the law looks: a tuple as the second thing of a tuple is passed by -/
def hdR : List Bp → Prop
  | [] => True
  | [_] => True
  | _ :: y :: r => (y.isT = true ∨ y.hdT) ∧ hdL r
def hdL : List Bp → Prop
  | [] => True
  | d :: r => d.hdT ∧ hdL r
end
theorem tdpL_mem {d : Bp} : ∀ {ds : List Bp}, d ∈ ds → d.tdp ≤ tdpL ds
  | c :: r, h => by
    show d.tdp ≤ max c.tdp (tdpL r)
    rcases List.mem_cons.1 h with e | e
    · rw [e]
      omega
    · have := tdpL_mem e
      omega
theorem hdL_mem {d : Bp} : ∀ {ds : List Bp}, hdL ds → d ∈ ds → d.hdT
  | c :: r, h, hm => by
    rcases List.mem_cons.1 hm with e | e
    · rw [e]
      exact h.1
    · exact hdL_mem h.2 e
def sp_gformB (n : Nat) : Sp := fun vs H Q _ => ∃ (v : V) (d : Bp), vs = [v] ∧ BpAt H d v ∧ d.hdT ∧ d.tdp ≤ n ∧ ∀ (H' : Hp), Same H H' → Q (.bl (mad n d)) H'
theorem cal_gformB (T : Tp K mg) : ∀ n : Nat, Cal P w K mg base (n + 5) "_law_good_form" (sp_gformB n)
  | 0 => by
    obtain ⟨fd, F⟩ := f__law_good_form T
    refine cal_of F (g__law_good_form T) (b__law_good_form F) sc__law_good_form (fun vs H Q E h => ?_) (fun cdv A outer s H vs Q E hr h => ?_)
    · obtain ⟨v, d, rfl, _⟩ := h
      rfl
    · obtain ⟨v, d, rfl, hd, _, dp, q⟩ := h
      have hu := hu_of hr
      refine ⟨_, (pss_cons (ps_set (i := 1) sc__law_good_form.nd rfl (.inl rfl) (pe_disp (pps_cons pe_str pe_int (pps_cons pe_str pe_int (pps_cons pe_str pe_int (pps_cons pe_str pe_int (pps_cons pe_str pe_int (pps_cons pe_str pe_int pps_nil)))))) (by rfl) (by rfl) (fun z => by cases z) (by decide)))
      (pss_cons (ps_if (PW.pt (pw_or (pt_not (pt_val (pe_callB call_isK (by rfl) (z_isinstance T) bb_isinstance (pa_cons (pv 0) (pa_cons (pe_bltn (v := .ty "tuple") (by rfl) (z_tuple T) bb_tuple rfl) pa_nil))))) (pw_or1 (pt_cmpR op_eq (pe_callB call_len_seq (by rfl) (z_len T) bb_len (pa_cons (pv 0) pa_nil)) pe_int (nomark _))))) (pss_one (ps_ret pe_bl)) pss_nil)
      (pss_cons (ps_if (pt_cmpR op_ne (pe_dget2 hu (pv 1) (pe_ix ix_tup (pv 0) pe_int (fun _ _ => rfl)) (pe_un un_neg pe_int) ⟨rfl, rfl, rfl, rfl⟩) (pe_callB call_len_seq (by rfl) (z_len T) bb_len (pa_cons (pv 0) pa_nil)) (nomark _)) (pss_one (ps_ret pe_bl)) pss_nil)
      (pss_cons (ps_if (pt_cmpR op_in_seq (pe_ix ix_tup (pv 0) pe_int (fun _ _ => rfl)) (pe_lst (pa_cons pe_str (pa_cons pe_str pa_nil))) (by rfl)) (pss_one (ps_ret (C8.pe_c (cal_gleafB T) hr (by omega) rfl (pa_cons (pv 0) pa_nil)))) pss_nil)
      (pss_cons (ps_if (pt_cmpR op_eq (pe_ix ix_tup (pv 0) pe_int (fun _ _ => rfl)) pe_str (nomark _)) (pss_one (ps_ret (pe_and (C8.pe_c (cal_lwholeB T) hr (by omega) rfl (pa_cons (pe_ix ix_tup (pv 0) pe_int (fun _ _ => rfl)) (pa_cons pe_int (pa_cons pe_int pa_nil)))) (pe_one (C8.pe_c (cal_gform T 0) hr (by omega) rfl (pa_cons (pe_ix ix_tup (pv 0) pe_int (fun _ _ => rfl)) pa_nil)))))) pss_nil)
      (pss_cons (ps_if (PW.pt (pw_or (pt_not (pt_val (pe_callB call_isK (by rfl) (z_isinstance T) bb_isinstance (pa_cons (pe_ix ix_tup (pv 0) pe_int (fun _ _ => rfl)) (pa_cons (pe_bltn (v := .ty "list") (by rfl) (z_list T) bb_list rfl) pa_nil))))) (pw_or1 (pt_not (pt_chain op_le op_le pe_int (pe_callB call_len_seq (by rfl) (z_len T) bb_len (pa_cons (pe_ix ix_tup (pv 0) pe_int (fun _ _ => rfl)) pa_nil)) pe_int))))) (pss_one (ps_ret pe_bl)) pss_nil)
      (pss_one (ps_ret (pe_callB (cr_all rfl) (by rfl) (z_all T) bb_all (pa_cons (pe_lc (own := [("_law_one", 2)]) (g := gName 2) (tt := tYes) rfl sc__law_good_form.nd (pi_list (pe_ix ix_tup (pv 0) pe_int (fun _ _ => rfl))) (blkOk_by (N := N__law_good_form) (sc := defScope s__law_good_form) (by decide +kernel)) (fun _ _ _ _ _ => (pg_name (i := 2) sc__law_good_form.nd rfl (.inl rfl))) (fun _ _ _ _ _ => pts_nil) (fun _ _ _ _ _ => (C8.pe_c (cal_gform T 0) hr (by omega) rfl (pa_cons (pv 2) pa_nil)))) pa_nil)))))))))), ?_⟩
      refine fun Z nZ => ⟨upd_same, sz1, rfl, by decide, ?_⟩
      have sZ : Same H (upd (upd H Z (.dK [])) Z (.dK (mergeK [] sz1))) := same_put (same_upd nZ) nZ
      have hd1 := hd.same sZ
      generalize upd (upd H Z (.dK [])) Z (.dK (mergeK [] sz1)) = H1 at sZ hd1 ⊢
      obtain ⟨ty, hk⟩ := bp_ty (K := K) hd1
      refine ⟨_, rfl, _, "tuple", d.ty, rfl, ty, hk, by decide, _, rfl, ?_⟩
      match d, hd1, ty, hk, dp, q with
      | .tup ds, hd1, ty, hk, dp, q =>
        have dp : tdpL ds + 1 ≤ 0 := dp
        omega
      | .lst ds, hd1, ty, hk, dp, q => exact iteT (q H1 sZ)
      | .fl u, hd1, ty, hk, dp, q =>
        obtain ⟨rfl, o⟩ := hd1
        match v, o, ty, hk, q with
        | .non, o, ty, hk, q => exact iteT (q H1 sZ)
        | .bl _, o, ty, hk, q => exact iteT (q H1 sZ)
        | .int _, o, ty, hk, q => exact iteT (q H1 sZ)
        | .str _, o, ty, hk, q => exact iteT (q H1 sZ)
  | n + 1 => by
    have ih := cal_gformB T n
    obtain ⟨fd, F⟩ := f__law_good_form T
    refine cal_of F (g__law_good_form T) (b__law_good_form F) sc__law_good_form (fun vs H Q E h => ?_) (fun cdv A outer s H vs Q E hr h => ?_)
    · obtain ⟨v, d, rfl, _⟩ := h
      rfl
    · obtain ⟨v, d, rfl, hd, hT, dp, q⟩ := h
      have hu := hu_of hr
      refine ⟨_, (pss_cons (ps_set (i := 1) sc__law_good_form.nd rfl (.inl rfl) (pe_disp (pps_cons pe_str pe_int (pps_cons pe_str pe_int (pps_cons pe_str pe_int (pps_cons pe_str pe_int (pps_cons pe_str pe_int (pps_cons pe_str pe_int pps_nil)))))) (by rfl) (by rfl) (fun z => by cases z) (by decide)))
      (pss_cons (ps_if (PW.pt (pw_or (pt_not (pt_val (pe_callB call_isK (by rfl) (z_isinstance T) bb_isinstance (pa_cons (pv 0) (pa_cons (pe_bltn (v := .ty "tuple") (by rfl) (z_tuple T) bb_tuple rfl) pa_nil))))) (pw_or1 (pt_cmpR op_eq (pe_callB call_len_seq (by rfl) (z_len T) bb_len (pa_cons (pv 0) pa_nil)) pe_int (nomark _))))) (pss_one (ps_ret pe_bl)) pss_nil)
      (pss_cons (ps_if (pt_cmpR op_ne (pe_dgetE hu (pv 1) (pe_ix ix_tup (pv 0) pe_int (fun _ _ => rfl)) (pe_un un_neg pe_int) ⟨rfl, rfl, rfl, rfl⟩) (pe_callB call_len_seq (by rfl) (z_len T) bb_len (pa_cons (pv 0) pa_nil)) (nomark _)) (pss_one (ps_ret pe_bl)) pss_nil)
      (pss_cons (ps_if (pt_cmpR op_in_seq (pe_ix ix_tup (pv 0) pe_int (fun _ _ => rfl)) (pe_lst (pa_cons pe_str (pa_cons pe_str pa_nil))) (by rfl)) (pss_one (ps_ret (C8.pe_c (cal_gleafB T) hr (by omega) rfl (pa_cons (pv 0) pa_nil)))) pss_nil)
      (pss_cons (ps_if (pt_cmpR op_eq (pe_ix ix_tup (pv 0) pe_int (fun _ _ => rfl)) pe_str (nomark _)) (pss_one (ps_ret (pe_and (C8.pe_c (cal_lwholeB T) hr (by omega) rfl (pa_cons (pe_ix ix_tup (pv 0) pe_int (fun _ _ => rfl)) (pa_cons pe_int (pa_cons pe_int pa_nil)))) (pe_one (C8.pe_c ih hr (Nat.le_refl _) rfl (pa_cons (pe_ix ix_tup (pv 0) pe_int (fun _ _ => rfl)) pa_nil)))))) pss_nil)
      (pss_cons (ps_if (PW.pt (pw_or (pt_not (pt_val (pe_callB call_isK (by rfl) (z_isinstance T) bb_isinstance (pa_cons (pe_ix ix_tup (pv 0) pe_int (fun _ _ => rfl)) (pa_cons (pe_bltn (v := .ty "list") (by rfl) (z_list T) bb_list rfl) pa_nil))))) (pw_or1 (pt_not (pt_chain op_le op_le pe_int (pe_callB call_len_seq (by rfl) (z_len T) bb_len (pa_cons (pe_ix ix_tup (pv 0) pe_int (fun _ _ => rfl)) pa_nil)) pe_int))))) (pss_one (ps_ret pe_bl)) pss_nil)
      (pss_one (ps_ret (pe_callB (cr_all rfl) (by rfl) (z_all T) bb_all (pa_cons (pe_lc (own := [("_law_one", 2)]) (g := gName 2) (tt := tYes) rfl sc__law_good_form.nd (pi_list (pe_ix ix_tup (pv 0) pe_int (fun _ _ => rfl))) (blkOk_by (N := N__law_good_form) (sc := defScope s__law_good_form) (by decide +kernel)) (fun _ _ _ _ _ => (pg_name (i := 2) sc__law_good_form.nd rfl (.inl rfl))) (fun _ _ _ _ _ => pts_nil) (fun _ _ _ _ _ => (C8.pe_c ih hr (Nat.le_refl _) rfl (pa_cons (pv 2) pa_nil)))) pa_nil)))))))))), ?_⟩
      refine fun Z nZ => ⟨upd_same, sz1, rfl, by decide, ?_⟩
      have sZ : Same H (upd (upd H Z (.dK [])) Z (.dK (mergeK [] sz1))) := same_put (same_upd nZ) nZ
      have hZ : upd (upd H Z (.dK [])) Z (.dK (mergeK [] sz1)) Z = some (.dK (mergeK [] sz1)) := upd_same
      have hd1 := hd.same sZ
      generalize upd (upd H Z (.dK [])) Z (.dK (mergeK [] sz1)) = H1 at sZ hZ hd1 ⊢
      obtain ⟨ty, hk⟩ := bp_ty (K := K) hd1
      refine ⟨_, rfl, _, "tuple", d.ty, rfl, ty, hk, by decide, _, rfl, ?_⟩
      match d, hd1, hT, ty, hk, dp, q with
      | .lst ds, hd1, _, ty, hk, dp, q => exact iteT (q H1 sZ)
      | .fl u, hd1, _, ty, hk, dp, q =>
        obtain ⟨rfl, o⟩ := hd1
        match v, o, ty, hk, q with
        | .non, o, ty, hk, q => exact iteT (q H1 sZ)
        | .bl _, o, ty, hk, q => exact iteT (q H1 sZ)
        | .int _, o, ty, hk, q => exact iteT (q H1 sZ)
        | .str _, o, ty, hk, q => exact iteT (q H1 sZ)
      | .tup [], hd1, _, ty, hk, dp, q =>
        obtain ⟨t, xs, rfl, ht, R⟩ := hd1
        have R : xs = [] := R
        subst R
        exact iteF ⟨_, rfl, t, _, rfl, .inr (.inl (.inl ht)), rfl, _, rfl, iteT (q H1 sZ)⟩
      | .tup (d0 :: r), hd1, hT, ty, hk, dp, q =>
        rcases hT.1 _ _ rfl with ⟨z, rfl⟩ | rfl
        case inr =>
          obtain ⟨t, xs, rfl, ht, x0, ys, rfl, ⟨b, bs, rfl, hb, R0⟩, R1⟩ := hd1
          have R0 : bs = [] := R0
          subst R0
          have S : SqT K H1 t (.ref b :: ys) := .inl (.inl ht)
          refine iteF ⟨_, rfl, t, _, rfl, .inr S, rfl, _, rfl, ?_⟩
          rw [decide_eq_false (show ¬ V.int ((V.ref b :: ys).length : Nat) = V.int 0 from fun e => by have e := V.int.inj e; rw [List.length_cons] at e; omega)]
          exact iteF ⟨_, rfl, Z, rfl, .inl ⟨_, .inl hZ⟩, _, rfl, t, _, 0, .ref b, rfl, rfl, S, atI_nat (j := 0) rfl, _, rfl, .inr ⟨b, _, rfl, hb, .inl hZ, _, rfl, t, _, rfl, .inr S, rfl, _, rfl, ite_ne (fun e => by have e := V.int.inj e; omega) (q H1 sZ)⟩⟩
        obtain ⟨t, xs, rfl, ht, x0, ys, rfl, ⟨rfl, _⟩, R1⟩ := hd1
        have S : SqT K H1 t (.str z :: ys) := .inl (.inl ht)
        have lr : ys.length = r.length := R1.len
        refine iteF ⟨_, rfl, t, _, rfl, .inr S, rfl, _, rfl, ?_⟩
        rw [decide_eq_false (show ¬ V.int ((V.str z :: ys).length : Nat) = V.int 0 from fun e => by have e := V.int.inj e; rw [List.length_cons] at e; omega)]
        have no : mad (n + 1) (.tup (.fl (.str z) :: r)) = false → Q (.bl false) H1 := fun e => by
          have := q H1 sZ
          rw [e] at this
          exact this
        rcases sz_or z with ⟨ev, e0⟩ | ⟨ev, e0⟩
        · refine iteF ⟨_, rfl, Z, rfl, .inl ⟨_, .inl hZ⟩, _, rfl, t, _, 0, .str z, rfl, rfl, S, atI_nat (j := 0) rfl, _, rfl, .inl ⟨some (.int (szZ z)), .inl ⟨_, .inr z, .inl hZ, rfl, ev.symm⟩, _, rfl, t, _, rfl, .inr S, rfl, _, rfl, ?_⟩⟩
          by_cases el : szZ z = ((r.length + 1 : Nat) : Int)
          · refine iteNS (by rw [el, List.length_cons, lr]; rfl) ?_
            refine ⟨_, rfl, t, _, 0, .str z, rfl, rfl, S, atI_nat (j := 0) rfl, (by show 2 ≤ sizeLine; decide), fun g ng => ?_⟩
            have sg := same_upd (o := .lst [.str "ours", .str "weather"]) ng
            have s2 := sZ.trans sg
            have ht2 := sg _ _ ht
            have R2 := R1.same sg
            refine ⟨g, [.str "ours", .str "weather"], rfl, .inl (.inl (.inl upd_same)), rfl, rfl, _, rfl, ?_⟩
            show if inV (.str z) [.str "ours", .str "weather"] = true then _ else _
            rw [two_in]
            generalize upd H1 g (.lst [.str "ours", .str "weather"]) = H2 at sg s2 ht2 R2 ⊢
            have S2 : SqT K H2 t (.str z :: ys) := .inl (.inl ht2)
            by_cases cl : z = "ours" ∨ z = "weather"
            · rw [decide_eq_true cl]
              have q := q H2 s2
              rcases cl with rfl | rfl
              · have el : (3 : Int) = ((r.length + 1 : Nat) : Int) := el
                exact iteT ⟨_, rfl, .ref t, "ours", r, rfl, ⟨t, _, rfl, ht2, _, _, rfl, ⟨rfl, rfl⟩, R2⟩, .inl ⟨rfl, by omega⟩, q⟩
              · have el : szZ "weather" = ((r.length + 1 : Nat) : Int) := el
                rw [show szZ "weather" = 4 by decide +kernel] at el
                have e1 : mad (n + 1) (.tup (.fl (.str "weather") :: r)) = leafB "weather" r := by
                  show (if ("weather" : Str) = "ours" then ourB r else if ("weather" : Str) = "weather" then wthB r else _) = (if ("weather" : Str) = "ours" then ourB r else wthB r)
                  rw [if_neg (show ¬ ("weather" : Str) = "ours" by decide +kernel), if_pos rfl, if_neg (show ¬ ("weather" : Str) = "ours" by decide +kernel)]
                rw [e1] at q
                exact iteT ⟨_, rfl, .ref t, "weather", r, rfl, ⟨t, _, rfl, ht2, _, _, rfl, ⟨rfl, rfl⟩, R2⟩, .inr ⟨rfl, by omega⟩, q⟩
            · rw [decide_eq_false cl]
              have c1 : ¬ z = "ours" := fun e => cl (.inl e)
              have c2 : ¬ z = "weather" := fun e => cl (.inr e)
              have em : mad (n + 1) (.tup (.fl (.str z) :: r)) = (if z = "within" then wthnB (mad n) r else if manyB z then kidsB (mad n) r else false) := by
                show (if z = "ours" then ourB r else if z = "weather" then wthB r else _) = _
                rw [if_neg c1, if_neg c2]
              rw [em] at q
              have el2 : (if z = "within" then (3 : Int) else if manyB z then 2 else -1) = ((r.length + 1 : Nat) : Int) := by
                rw [← el]
                unfold szZ
                rw [if_neg c1, if_neg c2]
              refine iteF ⟨_, rfl, t, _, 0, .str z, rfl, rfl, S2, atI_nat (j := 0) rfl, rfl, _, rfl, ?_⟩
              have dpr : tdpL r ≤ n := by
                have dp : max 0 (tdpL r) + 1 ≤ n + 1 := dp
                omega
              have hTr : hdR (.fl (.str z) :: r) := hT.2
              by_cases c3 : z = "within"
              · rw [show decide (V.str z = V.str "within") = true from by rw [c3]; exact eq_str]
                rw [if_pos c3] at q el2
                obtain ⟨a, b, rfl⟩ := two_of (r := r) (by omega)
                obtain ⟨y1, _, rfl, h1, y2, _, rfl, h2, rfl⟩ := R2
                have ew : wthnB (mad n) [a, b] = (a.num 0 1000 && mad n b) := rfl
                rw [ew] at q
                refine iteT ⟨_, rfl, t, _, 1, y1, rfl, rfl, S2, atI_nat (j := 1) rfl, y1, a, 0, 1000, rfl, h1, _, rfl, ?_⟩
                cases c : a.num 0 1000 with
                | false =>
                  have q := q H2 s2
                  rw [c] at q
                  exact iteF q
                | true =>
                  rw [c, Bool.true_and] at q
                  have db : max a.tdp (max b.tdp 0) ≤ n := dpr
                  exact iteT ⟨_, rfl, t, _, 2, y2, rfl, rfl, S2, atI_nat (j := 2) rfl, y2, b, rfl, h2, hTr.2.1, by omega, fun H3 s3 => q H3 (s2.trans s3)⟩
              · rw [show decide (V.str z = V.str "within") = false from ne_str c3]
                rw [if_neg c3] at q el2
                cases c4 : manyB z with
                | false =>
                  rw [c4, if_neg (by decide)] at el2
                  omega
                | true =>
                  rw [c4, if_pos rfl] at q el2
                  obtain ⟨a, rfl⟩ := List.length_eq_one_iff.1 (show r.length = 1 by omega)
                  obtain ⟨y1, _, rfl, h1, rfl⟩ := R2
                  obtain ⟨ty1, hk1⟩ := bp_ty (K := K) h1
                  refine iteF ⟨_, rfl, t, _, 1, y1, rfl, rfl, S2, atI_nat (j := 1) rfl, _, "list", a.ty, rfl, ty1, hk1, by decide, _, rfl, ?_⟩
                  match a, h1, ty1, hk1, q, hTr, dpr with
                  | .tup _, h1, ty1, hk1, q, _, _ => exact iteT (q H2 s2)
                  | .fl u, h1, ty1, hk1, q, _, _ =>
                    obtain ⟨rfl, o1⟩ := h1
                    match y1, o1, ty1, hk1, q with
                    | .non, o, ty0, hk0, q => exact iteT (q H2 s2)
                    | .bl _, o, ty0, hk0, q => exact iteT (q H2 s2)
                    | .int _, o, ty0, hk0, q => exact iteT (q H2 s2)
                    | .str _, o, ty0, hk0, q => exact iteT (q H2 s2)
                  | .lst ds, h1, ty1, hk1, q, hTr, dpr =>
                    obtain ⟨l, zs, rfl, hl, Rz⟩ := h1
                    have lz := Rz.len
                    have ek : kidsB (mad n) [.lst ds] = (decide (1 ≤ ds.length ∧ ds.length ≤ 4) && ds.all (mad n)) := rfl
                    rw [ek] at q
                    refine iteF ⟨_, rfl, t, _, 1, .ref l, rfl, rfl, S2, atI_nat (j := 1) rfl, l, zs, rfl, .inl (.inl (.inl hl)), _, _, rfl, rfl, _, rfl, ?_⟩
                    have dl : max (tdpL ds) 0 ≤ n := dpr
                    have hTl : hdL ds := hTr.1.resolve_left (fun e => nomatch e)
                    by_cases k1 : 1 ≤ ds.length
                    · rw [decide_eq_true (show (1 : Int) ≤ (zs.length : Nat) by omega)]
                      refine iteT ⟨_, _, rfl, rfl, _, rfl, ?_⟩
                      by_cases k4 : ds.length ≤ 4
                      · rw [decide_eq_true (show ((zs.length : Nat) : Int) ≤ 4 by omega)]
                        rw [decide_eq_true (show 1 ≤ ds.length ∧ ds.length ≤ 4 from ⟨k1, k4⟩), Bool.true_and] at q
                        refine iteF ⟨_, rfl, t, _, 1, .ref l, rfl, rfl, S2, atI_nat (j := 1) rfl, l, rfl, ⟨_, .inl (.inl hl)⟩, fun D nD => ?_⟩
                        refine lc_pure ds (walk_listN lz) (fun c => some (mad n c)) (SV V.bl) (fun _ h => h) nD (by omega) (fun H s => .inl (.inl (s _ _ hl))) ?_ ?_
                        · rintro i c x H3 _ ec s3 ⟨rfl, hv⟩ Good Bad kt kf
                          have hc := Rz.get hv ec
                          have hm := List.mem_of_getElem? ec
                          have := tdpL_mem hm
                          exact ⟨rfl, yes_i (iteT ⟨_, rfl, x, c, rfl, hc.same s3, hdL_mem hTl hm, by omega, fun H4 s4 => kt _ _ _ rfl s4 rfl⟩)⟩
                        · intro H3 acc s3 d3 p3
                          have ea := paired_enc p3
                          rw [show (ds.filterMap fun c => some (mad n c)) = ds.map (mad n) from List.filterMap_eq_map ▸ rfl] at ea
                          subst ea
                          refine ⟨D, _, rfl, .inl (.inl d3), ?_⟩
                          rw [List.all_map]
                          exact q H3 (s2.trans s3)
                      · rw [decide_eq_false (show ¬ ((zs.length : Nat) : Int) ≤ 4 by omega)]
                        have q := q H2 s2
                        rw [decide_eq_false (fun z => k4 z.2)] at q
                        exact iteT q
                    · rw [decide_eq_false (show ¬ (1 : Int) ≤ (zs.length : Nat) by omega)]
                      have q := q H2 s2
                      rw [decide_eq_false (fun z => k1 z.1)] at q
                      exact iteF ⟨_, rfl, iteT q⟩
          · exact ite_ne (fun e => el (by rw [V.int.inj e, List.length_cons, lr])) (no (mad_len el))
        · refine iteF ⟨_, rfl, Z, rfl, .inl ⟨_, .inl hZ⟩, _, rfl, t, _, 0, .str z, rfl, rfl, S, atI_nat (j := 0) rfl, _, rfl, .inl ⟨none, .inl ⟨_, .inr z, .inl hZ, rfl, ev.symm⟩, _, rfl, t, _, rfl, .inr S, rfl, _, rfl, ?_⟩⟩
          exact ite_ne (fun e => by have e := V.int.inj e; omega) (no (mad_len (by rw [e0]; omega)))
def sp_gplanB : Sp := fun vs H Q _ => ∃ (v : V) (d : Bp), vs = [v] ∧ BpAt H d v ∧ d.hdT ∧ d.tdp ≤ 9 ∧ ∀ (H' : Hp) (b : Bool), Same H H' → (b = true ↔ GoodD d) → Q (.bl b) H'
theorem cal_gplanB (T : Tp K mg) : Cal P w K mg base 16 "_law_good_plan" sp_gplanB := by
  obtain ⟨fd, F⟩ := f__law_good_plan T
  refine cal_of F (g__law_good_plan T) (b__law_good_plan F) sc__law_good_plan (fun vs H Q E h => ?_) (fun cdv A outer s H vs Q E hr h => ?_)
  · obtain ⟨v, d, rfl, _⟩ := h
    rfl
  · obtain ⟨v, d, rfl, hd, hT, dp, q⟩ := h
    refine ⟨_, (pss_cons (ps_if (PW.pt (pw_or (pt_not (pt_val (C8.pe_c (cal_gformB T 9) hr (by omega) rfl (pa_cons (pv 0) pa_nil)))) (pw_or1 (pt_cmpR op_gt (C8.pe_c (cal_ldepth T 9) hr (by omega) rfl (pa_cons (pv 0) pa_nil)) pe_int (nomark _))))) (pss_one (ps_ret pe_bl)) pss_nil)
      (pss_one (ps_ret (pe_and (pe_cmpR op_le (C8.pe_c (cal_lleaf T 9) hr (by omega) rfl (pa_cons (pv 0) pa_nil)) pe_int (nomark _)) (pe_one (pe_cmpR op_le (C8.pe_c (cal_lread T 9) hr (by omega) rfl (pa_cons (pv 0) pa_nil)) pe_int (nomark _))))))), ?_⟩
    refine ⟨_, rfl, v, d, rfl, hd, hT, dp, fun H1 s1 => ⟨_, rfl, ?_⟩⟩
    cases em : mad 9 d with
    | false =>
      refine iteT (iteT (q H1 false s1 ⟨fun z => (nomatch z), fun ⟨p, e, ok, gf, d6, _⟩ => ?_⟩))
      rw [e, mad_bp p 9 ok gf (by omega)] at em
      cases em
    | true =>
      obtain ⟨p, e, ok, gf, d9⟩ := mad_pl em
      rw [e] at hd
      have hp := hd.pl
      have good : GoodD d ↔ p.dp ≤ 6 ∧ p.lc ≤ 12 ∧ p.rc ≤ 64 := by
        constructor
        · rintro ⟨r, er, _, _, a, b, c⟩
          have x := er.symm.trans e
          rw [bp_inj x] at a b c
          exact ⟨a, b, c⟩
        · rintro ⟨a, b, c⟩
          exact ⟨p, e, ok, gf, a, b, c⟩
      refine iteF ⟨_, rfl, v, p, rfl, hp.same s1, ok, d9, fun H2 s2 => ⟨_, _, rfl, rfl, _, rfl, ?_⟩⟩
      have s12 := s1.trans s2
      by_cases c6 : p.dp ≤ 6
      · rw [decide_eq_false (show ¬ (6 : Int) < (p.dp : Nat) by omega)]
        refine iteF ⟨_, rfl, v, p, rfl, hp.same s12, ok, d9, fun H3 s3 => ⟨_, _, rfl, rfl, _, rfl, ?_⟩⟩
        have s13 := s12.trans s3
        by_cases c : p.lc ≤ 12
        · rw [decide_eq_true (show ((p.lc : Nat) : Int) ≤ 12 by omega)]
          refine iteT ⟨_, rfl, v, p, rfl, hp.same s13, ok, d9, c, fun H4 s4 => ⟨_, _, rfl, rfl, ?_⟩⟩
          refine q H4 _ (s13.trans s4) (Iff.trans ⟨fun z => ?_, fun z => ?_⟩ good.symm)
          · have := of_decide_eq_true z
            exact ⟨c6, c, by omega⟩
          · exact decide_eq_true (by have := z.2.2; omega)
        · rw [decide_eq_false (show ¬ ((p.lc : Nat) : Int) ≤ 12 by omega)]
          exact iteF (q H3 false s13 ⟨fun z => (nomatch z), fun z => absurd (good.1 z).2.1 c⟩)
      · rw [decide_eq_true (show (6 : Int) < (p.dp : Nat) by omega)]
        exact iteT (q H2 false s12 ⟨fun z => (nomatch z), fun z => absurd (good.1 z).1 c6⟩)
end
end Tw

set_option maxHeartbeats 4000000
namespace Tw
open PySem PySem.Spec PyProof.Rows L2
section
variable (P : Program) (w : World) (K : PySem.W.Frag) (mg : Str → Option Value) (base : Heap)
/-- a def of the top for n positional values and the keywords ks -/
structure CalN (CX : CXT) (k : Nat) (x : Str) (sp : Sp) (n : Nat) (ks : List Str) (gV : List V → List V → List V) : Prop where
  ex : ∃ (f : Addr) (fd : FuncData) (ps : List Str) (g : List Value → List Value → List Value), mg x = some (.ref f) ∧ PySem.W.keepIn K (.ref f) = true ∧ FnOk P w K mg base CX k f fd ps sp ∧ KBn K fd ps n ks g gV
end
theorem pe_cn0 {X : Cx} {k j n : Nat} {x : Str} {sp : Sp} {p pos : Pos} {e : Expr} {es : List Expr} {kws : List Keyword} {t tk : TA} {ks : List Str} {gV : List V → List V → List V} (c : CalN X.prog X.w X.K X.mg X.base CX0 k x sp n ks gV) (hr : Room j X.A) (hk : k ≤ j) (hg : Gl X x) (ha : PA X (e :: es) t) (hkw : PK X kws tk)
    (h1 : (backToKw pos (keywordEach kws X.env)).all (fun x => x.1.isSome) = true := by rfl) (h2 : (backToKw pos (keywordEach kws X.env)).filterMap (fun x => x.1) = ks := by rfl) (h3 : (x == Str.ofString "__debug__") = false := by decide) (h4 : starEach (e :: es) X.env = (false, eval e X.env) :: starEach es X.env := by rfl) (h5 : ((backTo pos (starEach (e :: es) X.env)).any (fun x => x.1) || (backToKw pos (keywordEach kws X.env)).any (fun x => x.1.isNone)) = false := by rfl) :
    PE X (.Call (.Name x p) (e :: es) kws pos) (tCallN n ks.length sp gV E0 t tk) :=
  let ⟨_, _, _, _, hm, kp, F, kb⟩ := c.ex
  pe_callN F (hr.mono hk) hg hm kp kb pass0 ha hkw h1 h2 h3 h4 h5
end Tw

set_option maxHeartbeats 4000000
namespace Tw
open PySem PySem.Spec PyProof.Rows L2
theorem pe_cnx {X : Cx} {k j n : Nat} {x : Str} {sp : Sp} {p pos : Pos} {e : Expr} {es : List Expr} {kws : List Keyword} {t tk : TA} {ks : List Str} {gV : List V → List V → List V} {E : XK} {W : WX} (c : CalN X.prog X.w X.K X.mg X.base (L2.CX X.prog X.w) k x sp n ks gV) (taken : Takes X W) (hW : ∀ cls d σ H, E cls d H → W cls d σ H) (hr : Room j X.A) (hk : k ≤ j) (hg : Gl X x) (ha : PA X (e :: es) t) (hkw : PK X kws tk)
    (h1 : (backToKw pos (keywordEach kws X.env)).all (fun x => x.1.isSome) = true := by rfl) (h2 : (backToKw pos (keywordEach kws X.env)).filterMap (fun x => x.1) = ks := by rfl) (h3 : (x == Str.ofString "__debug__") = false := by decide) (h4 : starEach (e :: es) X.env = (false, eval e X.env) :: starEach es X.env := by rfl) (h5 : ((backTo pos (starEach (e :: es) X.env)).any (fun x => x.1) || (backToKw pos (keywordEach kws X.env)).any (fun x => x.1.isNone)) = false := by rfl) :
    PE X (.Call (.Name x p) (e :: es) kws pos) (tCallN n ks.length sp gV E t tk) :=
  let ⟨_, _, _, _, hm, kp, F, kb⟩ := c.ex
  pe_callN F (hr.mono hk) hg hm kp kb (passes_call taken hW) ha hkw h1 h2 h3 h4 h5
end Tw

set_option maxHeartbeats 4000000
namespace Tw
open PySem PySem.Spec PyProof.Rows L2
/-! what is no plan is refused -/
section
variable {P : Program} {w : World} {K : PySem.W.Frag} {mg : Str → Option Value} {base : Heap}
def sp_badX (K : PySem.W.Frag) : Sp := fun vs H _ E => ∃ (v : V) (d : Bp), vs = [v] ∧ BpAt H d v ∧ ¬ GoodD d ∧ Out0 H E (He.ga K "BadPlan") "BadPlan"
theorem calx_readingsX (T : Tp K mg) : CalX P w K mg base 17 "readings" (sp_badX K) := by
  obtain ⟨fd, F⟩ := f_readings T
  refine calx_of F (g_readings T) (b_readings F) sc_readings (fun vs H Q E h => ?_) (fun cdv A outer s H vs Q E hr h tk => ?_)
  · obtain ⟨v, d, rfl, _⟩ := h
    rfl
  · obtain ⟨v, d, rfl, hd, ng, o⟩ := h
    refine ⟨_, (pss_cons (ps_expr (pe_cx (calx_needX T) tk (fun _ _ _ _ h ↦ h) hr (by decide) rfl (pa_cons (pv 0) pa_nil)))
      (pss_one (ps_ret (pe_lc (own := [("at", 1)]) (g := gName 1) (tt := tYes) rfl sc_readings.nd (pi_range1 rfl (z_range T) (pa_cons (C8.pe_c (cal_rcount T 6) hr (by decide) rfl (pa_cons (pv 0) pa_nil)) pa_nil)) (blkOk_by (N := N_readings) (sc := defScope s_readings) (by decide +kernel)) (fun _ _ _ _ _ => (pg_name (i := 1) sc_readings.nd rfl (.inl rfl))) (fun _ _ _ _ _ => pts_nil) (fun _ _ _ _ _ => (C8.pe_c (cal_read T 6) hr (by decide) rfl (pa_cons (pv 0) (pa_cons (pv 1) pa_nil)))))))), ?_⟩
    exact ⟨_, rfl, v, d, rfl, hd, fun g => absurd g ng, fun _ => o⟩
def sp_bad2X (K : PySem.W.Frag) : Sp := fun vs H _ E => ∃ (v : V) (d : Bp) (n : Int), vs = [v, .int n] ∧ BpAt H d v ∧ ¬ GoodD d ∧ Out0 H E (He.ga K "BadPlan") "BadPlan"
theorem fnx_laidX (T : Tp K mg) {fd : FuncData} (F : FunD K "laid" "laid" (defArgs s_laid) (defBody s_laid) (defScope s_laid) [] [("by", V.int 100)] (He.ga K "laid") fd) : FnOk P w K mg base (L2.CX P w) 18 (He.ga K "laid") fd ["plan", "by"] (sp_bad2X K) := by
  refine fnx_of (k := 17) F sc_laid (fun vs H Q E h => ?_) (fun cdv A outer s H vs Q E hr h tk => ?_)
  · obtain ⟨v, d, n, rfl, _⟩ := h
    rfl
  · obtain ⟨v, d, n, rfl, hd, ng, o⟩ := h
    refine ⟨_, (pss_cons (ps_expr (pe_cx (calx_needX T) tk (fun _ _ _ _ h ↦ h) hr (by decide) rfl (pa_cons (pv 0) pa_nil)))
      pss_never), ?_⟩
    exact ⟨_, rfl, v, d, rfl, hd, fun g => absurd g ng, fun _ => o⟩
theorem fnx_chosenX (T : Tp K mg) {fd : FuncData} (F : FunD K "chosen" "chosen" (defArgs s_chosen) (defBody s_chosen) (defScope s_chosen) [] [("by", V.int 100)] (He.ga K "chosen") fd) : FnOk P w K mg base (L2.CX P w) 19 (He.ga K "chosen") fd ["plan", "by"] (sp_bad2X K) := by
  refine fnx_of (k := 18) F sc_chosen (fun vs H Q E h => ?_) (fun cdv A outer s H vs Q E hr h tk => ?_)
  · obtain ⟨v, d, n, rfl, _⟩ := h
    rfl
  · obtain ⟨v, d, n, rfl, hd, ng, o⟩ := h
    refine ⟨_, (pss_cons (ps_for (passes_of rfl) rfl (pi_list (pe_cx (calx_readingsX T) tk (fun _ _ _ _ h ↦ h) hr (by decide) rfl (pa_cons (pv 0) pa_nil))) (pg_name (i := 2) sc_chosen.nd rfl (.inl rfl))
        pss_never)
      (pss_one (ps_ret pe_non))), ?_⟩
    exact ⟨_, rfl, v, d, rfl, hd, ng, o⟩
theorem calnx_chosen_by (T : Tp K mg) : CalN P w K mg base (L2.CX P w) 19 "chosen" (sp_bad2X K) 1 ["by"] (fun us ws => us ++ ws) := by
  obtain ⟨fd, F⟩ := f_chosen T
  exact ⟨_, fd, ["plan", "by"], _, g_chosen T, F.kp, fnx_chosenX T F, kbn_of F fun kV doc pm an cdv ct us ws h1 h2 => match us, ws, h1, h2 with
    | [_], [_], _, _ => rfl⟩
theorem calnx_laid_ (T : Tp K mg) : CalN P w K mg base (L2.CX P w) 18 "laid" (sp_bad2X K) 1 [] (fun us ws => us ++ [.int 100]) := by
  obtain ⟨fd, F⟩ := f_laid T
  obtain ⟨mv, hb⟩ := F.kbinds0 (ps := ["plan", "by"]) 1 [] [("by", .int 100)] (fun us mv ws => us ++ mv) (by simp) (by simp) (fun r1 r2 r3 => r1.append r2) fun D doc pm an cdv ct us mv ws h1 h2 h3 => match us, mv, ws, h1, h2, h3 with
    | [_], [_], [], _, _, _ => ⟨_, _, _, _, _, _, rfl, rfl, rfl⟩
  exact ⟨_, fd, ["plan", "by"], _, g_laid T, F.kp, fnx_laidX T F, hb⟩
end
end Tw

set_option maxHeartbeats 4000000
namespace Tw
open PySem PySem.Spec PyProof.Rows L2
/-! things that may be no plan: as they are shown, how great they are -/
mutual
def Bp.dat : Bp → PyData
  | .fl (.bl b) => .bool b
  | .fl (.int i) => .int i
  | .fl (.str z) => .str z
  | .fl _ => .none
  | .tup ds => .tuple (datBL ds)
  | .lst ds => .list (datBL ds)
def datBL : List Bp → List PyData
  | [] => []
  | d :: r => d.dat :: datBL r
end
section
variable {P : Program} {w : World} {H : Hp} {h : Heap}
mutual
theorem bp_reads (hok : HOk P w H h) : ∀ {d : Bp} {v : V}, BpAt H d v → ∀ u, RelV v u → ∃ as, Reads h u d.dat as
  | .fl v, x, hp, u, r => by
    obtain ⟨rfl, o⟩ := hp
    match x, o, r with
    | .non, _, r =>
      have r : u = .none := r
      rw [r]
      exact ⟨_, .none⟩
    | .bl b, _, r =>
      have r : u = .bool b := r
      rw [r]
      exact ⟨_, .bool _⟩
    | .int i, _, r => exact rd_int u r
    | .str z, _, r => exact rd_str u r
  | .tup ds, x, hp, u, r => by
    obtain ⟨t, xs, rfl, ht, R⟩ := hp
    have r : u = .ref t := r
    rw [r]
    exact tup_rd hok ht (as := []) fun its rv => bps_reads hok R rv
  | .lst ds, x, hp, u, r => by
    obtain ⟨t, xs, rfl, ht, R⟩ := hp
    have r : u = .ref t := r
    rw [r]
    exact lst_rd hok ht fun its rv => bps_reads hok R rv
theorem bps_reads (hok : HOk P w H h) : ∀ {ds : List Bp} {xs : List V} {its : List Value}, BpsAt H ds xs → Vals xs its → ∃ as, ReadsAll h its (datBL ds) as
  | [], xs, its, R, rv => by
    have R : xs = [] := R
    rw [R] at rv
    exact rd_nil rv
  | d :: r, xs, its, R, rv => by
    obtain ⟨x, ys, e, hx, hr⟩ := R
    rw [e] at rv
    exact rd_cons rv (bp_reads hok hx) fun _ rv => bps_reads hok hr rv
end
end
/-! ### bounds: of what is shown (w), of the depth (k), of tuples within tuples (t) -/
structure GB (d : Bp) (w k t : Nat) : Prop where
  s : d.dat.showable = true
  h : d.dat.hasDict = false
  l : PyData.leavesShort 40 d.dat = true
  w : d.dat.weight ≤ w
  k : d.dat.depth ≤ k
  hd : d.hdT
  t : d.tdp ≤ t
structure GBL (ds : List Bp) (w k t : Nat) : Prop where
  s : PyData.showableAll (datBL ds) = true
  h : PyData.hasDictAll (datBL ds) = false
  l : PyData.leavesShortAll 40 (datBL ds) = true
  w : PyData.weightAll (datBL ds) ≤ w
  k : PyData.depthAll (datBL ds) ≤ k
  hd : hdL ds
  t : tdpL ds ≤ t
theorem GB.mono {d : Bp} {w k t w' k' t' : Nat} (g : GB d w k t) (h1 : w ≤ w') (h2 : k ≤ k') (h3 : t ≤ t') : GB d w' k' t' := ⟨g.s, g.h, g.l, Nat.le_trans g.w h1, Nat.le_trans g.k h2, g.hd, Nat.le_trans g.t h3⟩
theorem GBL.mono {d : List Bp} {w k t w' k' t' : Nat} (g : GBL d w k t) (h1 : w ≤ w') (h2 : k ≤ k') (h3 : t ≤ t') : GBL d w' k' t' := ⟨g.s, g.h, g.l, Nat.le_trans g.w h1, Nat.le_trans g.k h2, g.hd, Nat.le_trans g.t h3⟩
theorem GBL.nil {k t : Nat} : GBL [] 0 k t := ⟨rfl, rfl, rfl, Nat.le_refl _, Nat.zero_le _, True.intro, Nat.zero_le _⟩
theorem GBL.cons {d : Bp} {r : List Bp} {a b k t : Nat} (g : GB d a k t) (h : GBL r b k t) : GBL (d :: r) (a + 1 + b) k t := by
  refine ⟨?_, ?_, ?_, ?_, ?_, ⟨g.hd, h.hd⟩, ?_⟩
  · show (d.dat.showable && PyData.showableAll (datBL r)) = true
    rw [g.s, h.s]
    rfl
  · show (d.dat.hasDict || PyData.hasDictAll (datBL r)) = false
    rw [g.h, h.h]
    rfl
  · show (PyData.leavesShort 40 d.dat && PyData.leavesShortAll 40 (datBL r)) = true
    rw [g.l, h.l]
    rfl
  · show d.dat.weight + 1 + PyData.weightAll (datBL r) ≤ _
    have := g.w
    have := h.w
    omega
  · show max d.dat.depth (PyData.depthAll (datBL r)) ≤ k
    have := g.k
    have := h.k
    omega
  · show max d.tdp (tdpL r) ≤ t
    have := g.t
    have := h.t
    omega
theorem GBL.app {b k t : Nat} {m : List Bp} (h : GBL m b k t) : ∀ {l : List Bp} {a : Nat}, GBL l a k t → GBL (l ++ m) (a + b) k t
  | [], a, g => h.mono (by omega) (Nat.le_refl _) (Nat.le_refl _)
  | d :: r, a, g => by
    have gs : (d.dat.showable && PyData.showableAll (datBL r)) = true := g.s
    have gh : (d.dat.hasDict || PyData.hasDictAll (datBL r)) = false := g.h
    have gl : (PyData.leavesShort 40 d.dat && PyData.leavesShortAll 40 (datBL r)) = true := g.l
    have gw : d.dat.weight + 1 + PyData.weightAll (datBL r) ≤ a := g.w
    have gk : max d.dat.depth (PyData.depthAll (datBL r)) ≤ k := g.k
    have gt : max d.tdp (tdpL r) ≤ t := g.t
    rw [Bool.and_eq_true] at gs gl
    rw [Bool.or_eq_false_iff] at gh
    have g1 : GB d d.dat.weight k t := ⟨gs.1, gh.1, gl.1, Nat.le_refl _, by omega, g.hd.1, by omega⟩
    have g2 : GBL r (PyData.weightAll (datBL r)) k t := ⟨gs.2, gh.2, gl.2, Nat.le_refl _, by omega, g.hd.2, by omega⟩
    exact (GBL.cons g1 (GBL.app h g2)).mono (by omega) (Nat.le_refl _) (Nat.le_refl _)
/-- a list's things, one by one -/
theorem GBL.all {w k t : Nat} : ∀ {l : List Bp}, GBL l w k t → ∀ d ∈ l, GB d w k t
  | d :: r, g, x, hx => by
    have gs : (d.dat.showable && PyData.showableAll (datBL r)) = true := g.s
    have gh : (d.dat.hasDict || PyData.hasDictAll (datBL r)) = false := g.h
    have gl : (PyData.leavesShort 40 d.dat && PyData.leavesShortAll 40 (datBL r)) = true := g.l
    have gw : d.dat.weight + 1 + PyData.weightAll (datBL r) ≤ w := g.w
    have gk : max d.dat.depth (PyData.depthAll (datBL r)) ≤ k := g.k
    have gt : max d.tdp (tdpL r) ≤ t := g.t
    rw [Bool.and_eq_true] at gs gl
    rw [Bool.or_eq_false_iff] at gh
    rcases List.mem_cons.1 hx with rfl | hx
    · exact ⟨gs.1, gh.1, gl.1, by omega, by omega, g.hd.1, by omega⟩
    · exact GBL.all (l := r) ⟨gs.2, gh.2, gl.2, by omega, by omega, g.hd.2, by omega⟩ x hx
theorem GBL.of {w k t : Nat} : ∀ {l : List Bp}, (∀ d ∈ l, GB d w k t) → GBL l (l.length * (w + 1)) k t
  | [], _ => GBL.nil.mono (Nat.zero_le _) (Nat.le_refl _) (Nat.le_refl _)
  | d :: r, h => by
    have g := GBL.cons (h d List.mem_cons_self) (GBL.of fun x hx => h x (List.mem_cons_of_mem _ hx))
    refine g.mono ?_ (Nat.le_refl _) (Nat.le_refl _)
    rw [List.length_cons, Nat.succ_mul]
    omega
theorem GBL.left {k t : Nat} {b : List Bp} : ∀ {a : List Bp} {w : Nat}, GBL (a ++ b) w k t → GBL a w k t
  | [], _, _ => GBL.nil.mono (Nat.zero_le _) (Nat.le_refl _) (Nat.le_refl _)
  | d :: r, w, g => by
    have gs : (d.dat.showable && PyData.showableAll (datBL (r ++ b))) = true := g.s
    have gh : (d.dat.hasDict || PyData.hasDictAll (datBL (r ++ b))) = false := g.h
    have gl : (PyData.leavesShort 40 d.dat && PyData.leavesShortAll 40 (datBL (r ++ b))) = true := g.l
    have gw : d.dat.weight + 1 + PyData.weightAll (datBL (r ++ b)) ≤ w := g.w
    have gk : max d.dat.depth (PyData.depthAll (datBL (r ++ b))) ≤ k := g.k
    have gt : max d.tdp (tdpL (r ++ b)) ≤ t := g.t
    rw [Bool.and_eq_true] at gs gl
    rw [Bool.or_eq_false_iff] at gh
    have g1 : GB d d.dat.weight k t := ⟨gs.1, gh.1, gl.1, Nat.le_refl _, by omega, g.hd.1, by omega⟩
    have g2 : GBL r (w - d.dat.weight - 1) k t := GBL.left (b := b) ⟨gs.2, gh.2, gl.2, by omega, by omega, g.hd.2, by omega⟩
    exact (GBL.cons g1 g2).mono (by omega) (Nat.le_refl _) (Nat.le_refl _)
theorem GBL.take {w k t n : Nat} {l : List Bp} (g : GBL l w k t) : GBL (l.take n) w k t := GBL.left (b := l.drop n) (by rw [List.take_append_drop]; exact g)
theorem GB.lst {ds : List Bp} {w k t : Nat} (g : GBL ds w k t) : GB (.lst ds) w (k + 1) t := ⟨g.s, g.h, g.l, g.w, Nat.succ_le_succ g.k, g.hd, g.t⟩
theorem GB.tup {ds : List Bp} {w k t : Nat} (g : GBL ds w k t) (c : ∀ x r, ds = x :: r → (∃ z, x = .fl (.str z)) ∨ x = .tup []) : GB (.tup ds) w (k + 1) (t + 1) := by
  refine ⟨g.s, g.h, g.l, g.w, Nat.succ_le_succ g.k, ⟨c, ?_⟩, Nat.succ_le_succ g.t⟩
  match ds, g with
  | [], _ => exact True.intro
  | [_], _ => exact True.intro
  | _ :: y :: r, g => exact ⟨.inr g.hd.2.1, g.hd.2.2⟩
theorem GB.of_tup {ds : List Bp} {w k t : Nat} (g : GB (.tup ds) w (k + 1) (t + 1)) (h : hdL ds) : GBL ds w k t := ⟨g.s, g.h, g.l, g.w, Nat.le_of_succ_le_succ g.k, h, Nat.le_of_succ_le_succ g.t⟩
theorem gb_non {k t : Nat} : GB (.fl .non) 0 k t := ⟨rfl, rfl, rfl, Nat.le_refl _, Nat.zero_le _, True.intro, Nat.zero_le _⟩
theorem gb_bl {b : Bool} {k t : Nat} : GB (.fl (.bl b)) 0 k t := ⟨rfl, rfl, rfl, Nat.le_refl _, Nat.zero_le _, True.intro, Nat.zero_le _⟩
theorem gb_int {i : Int} {k t : Nat} (h : i.natAbs < 10 ^ 32) : GB (.fl (.int i)) 110 k t := by
  have l2 : i.natAbs.log2 < 108 := by
    by_cases z : i.natAbs = 0
    · rw [z]
      decide
    · exact (Nat.log2_lt z).2 (Nat.lt_trans h (by decide))
  refine ⟨decide_eq_true (show i.natAbs.log2 < 1920 by omega), rfl, decide_eq_true ?_, ?_, Nat.zero_le _, True.intro, Nat.zero_le _⟩
  · have e : (PyData.shown (.int i)).length = (itL i).length := by
      show (numS i).length = _
      rw [TL.len_tl, tl_numS]
    rw [e]
    have n := TL.numL_len (n := i.natAbs) (k := 32) (by decide) h
    unfold itL
    split
    · show (TL.numL i.natAbs).length + 1 ≤ 40
      omega
    · omega
  · show (if (i == 0) = true then 0 else i.natAbs.log2 + 1) ≤ 110
    split
    · omega
    · omega
theorem gb_str {z : Str} {k t : Nat} (h : (decide (z.cps.size ≤ 10) && z.cps.toList.all fun c => decide (c < 16 ^ 8)) = true) : GB (.fl (.str z)) 10 k t := by
  rw [Bool.and_eq_true, decide_eq_true_iff] at h
  exact ⟨rfl, rfl, h.2, h.1, Nat.zero_le _, True.intro, Nat.zero_le _⟩
theorem gb_nm {i : Int} {k t : Nat} (h : nmI i) : GB (.fl (.int i)) 24 k t := by
  have a := h.1
  have b := h.2
  have : (10 : Nat) ^ 32 = 100000000000000000000000000000000 := by decide
  have g := gb_int (i := i) (k := k) (t := t) (by omega)
  refine ⟨g.s, g.h, g.l, ?_, g.k, g.hd, g.t⟩
  show (if (i == 0) = true then 0 else i.natAbs.log2 + 1) ≤ 24
  split
  · omega
  · rename_i z
    have z : i.natAbs ≠ 0 := by
      intro e
      exact z (by rw [beq_iff_eq]; omega)
    have := (Nat.log2_lt z (k := 23)).2 (by show i.natAbs < 8388608; omega)
    omega
theorem gb_la {la : Option Int} {k t : Nat} (h : ∀ i, la = some i → nmI i) : GB (.fl (oV la)) 24 k t := by
  cases la with
  | none => exact gb_non.mono (Nat.zero_le _) (Nat.le_refl _) (Nat.le_refl _)
  | some i => exact gb_nm (h i rfl)
theorem gb_w {w : Str} {k t : Nat} (h : w = "ours" ∨ w = "weather" ∨ w = "within" ∨ manyW w) : GB (.fl (.str w)) 10 k t := by
  rcases h with rfl | rfl | rfl | rfl | rfl | rfl <;> exact gb_str (by decide +kernel)
abbrev gW (n : Nat) : Nat := 25 * 4 ^ n
theorem gW_succ (n : Nat) : gW (n + 1) = 4 * gW n := by
  show 25 * 4 ^ (n + 1) = 4 * (25 * 4 ^ n)
  rw [Nat.pow_succ]
  omega
theorem gW_ge (n : Nat) : 25 ≤ gW n := by
  have : 1 ≤ 4 ^ n := Nat.one_le_pow _ _ (by decide)
  show 25 ≤ 25 * 4 ^ n
  omega
mutual
theorem gb_pl {ws : List Str} {far : Int} : ∀ (p : Pl) (n : Nat), p.ok → p.nm → p.wi ws far → p.dp ≤ n → GB p.bp (gW n) (2 * n) n
  | .ours lo hi, n, _, m, _, d => by
    have d : 1 ≤ n := d
    obtain ⟨e, rfl⟩ : ∃ e, n = e + 1 := ⟨n - 1, by omega⟩
    have g := GBL.cons (k := 0) (t := 0) (gb_w (.inl rfl)) (GBL.cons (gb_nm m.1) (GBL.cons (gb_nm m.2) GBL.nil))
    exact (GB.tup g fun x r h => .inl ⟨_, (List.cons.inj h).1.symm⟩).mono (by have := gW_ge e; rw [gW_succ]; omega) (by omega) (by omega)
  | .wthr lo hi la, n, _, m, _, d => by
    have d : 1 ≤ n := d
    obtain ⟨e, rfl⟩ : ∃ e, n = e + 1 := ⟨n - 1, by omega⟩
    have g := GBL.cons (k := 0) (t := 0) (gb_w (.inr (.inl rfl))) (GBL.cons (gb_nm m.1) (GBL.cons (gb_nm m.2.1) (GBL.cons (gb_la m.2.2) GBL.nil)))
    exact (GB.tup g fun x r h => .inl ⟨_, (List.cons.inj h).1.symm⟩).mono (by have := gW_ge e; rw [gW_succ]; omega) (by omega) (by omega)
  | .wthn i p, n, ok, m, wi, d => by
    have d : p.dp + 1 ≤ n := d
    obtain ⟨e, rfl⟩ : ∃ e, n = e + 1 := ⟨n - 1, by omega⟩
    have q := gb_pl p e ok m.2 wi (by omega)
    have g := GBL.cons (k := 2 * e) (t := e) (gb_w (.inr (.inr (.inl rfl)))) (GBL.cons (gb_nm m.1) (GBL.cons q GBL.nil))
    exact (GB.tup g fun x r h => .inl ⟨_, (List.cons.inj h).1.symm⟩).mono (by have := gW_ge e; rw [gW_succ]; omega) (by omega) (by omega)
  | .many w ps, n, ok, m, wi, d => by
    have d : dpL ps + 1 ≤ n := d
    obtain ⟨e, rfl⟩ : ∃ e, n = e + 1 := ⟨n - 1, by omega⟩
    have q := gb_pls ps e ok.2.2.2 m wi.2.2 (by omega)
    have g := GBL.cons (k := 2 * e + 1) (t := e) (gb_w (.inr (.inr (.inr ok.1)))) (GBL.cons (GB.lst q) GBL.nil)
    refine (GB.tup g fun x r h => .inl ⟨_, (List.cons.inj h).1.symm⟩).mono ?_ (by omega) (by omega)
    have := gW_ge e
    have l3 := wi.2.1
    have : ps.length * (gW e + 1) ≤ 3 * (gW e + 1) := Nat.mul_le_mul_right _ l3
    rw [gW_succ]
    omega
theorem gb_pls {ws : List Str} {far : Int} : ∀ (ps : List Pl) (n : Nat), okL ps → nmL ps → wiL ws far ps → dpL ps ≤ n → GBL (bpL ps) (ps.length * (gW n + 1)) (2 * n) n
  | [], n, _, _, _, _ => GBL.nil.mono (Nat.zero_le _) (Nat.zero_le _) (Nat.zero_le _)
  | p :: r, n, ok, m, wi, d => by
    have d : max p.dp (dpL r) ≤ n := d
    have g := GBL.cons (gb_pl p n ok.1 m.1 wi.1 (by omega)) (gb_pls r n ok.2 m.2 wi.2 (by omega))
    refine g.mono ?_ (Nat.le_refl _) (Nat.le_refl _)
    show _ ≤ (r.length + 1) * (gW n + 1)
    rw [Nat.succ_mul]
    omega
end
def rReprB : List V → Hp → VK → Prop := fun vs H Q => ∃ (v : V) (d : Bp), vs = [v] ∧ BpAt H d v ∧ GB d 200000 30 30 ∧ Q (.str d.dat.shown) H
theorem cr_reprB {X : Cx} (hg : X.A.guards = some []) (hu : X.A.units + 64 < cLine) : CallR X (.builtin "repr") rReprB := by
  rintro pins s σ H _ us Q I r ⟨v, d, rfl, hd, g, q⟩
  have sz : d.dat.shown.length ≤ sizeLine := by
    have h := PyData.shown_le 40 (by decide) d.dat g.l
    have h2 : (40 + 2) * d.dat.weight ≤ 42 * 200000 := Nat.mul_le_mul (by omega) g.w
    rw [sizeLine_eq]
    omega
  have gk := g.k
  have fin : ∀ (a : Addr), v = .ref a → wpAny (model X.prog X.w) X.A (call (.builtin "repr") us) (EP X pins σ Q) X.xe s := fun a e => by
    subst e
    obtain rfl := Vals.ref1 r
    obtain ⟨as, ra⟩ := bp_reads I.hok hd (.ref a) rfl
    exact repr_of_reads' ra g.s (fun e => by rw [g.h] at e; cases e) hg (by omega) (fun b o e => e) (fun h' u tk hk => ⟨.str _, H, I.kept hk, ⟨_, rfl⟩, q⟩) sz
  match d, hd, g, sz, q with
  | .tup ds, hd, g, sz, q =>
    obtain ⟨t, xs, e, _⟩ := hd
    exact fin t e
  | .lst ds, hd, g, sz, q =>
    obtain ⟨t, xs, e, _⟩ := hd
    exact fin t e
  | .fl u0, hd, g, sz, q =>
    obtain ⟨rfl, o⟩ := hd
    cases r with
    | cons r1 rr =>
      cases rr
      match v, o, r1, g, sz, q with
      | .non, _, r1, g, sz, q =>
        have r1 : _ = Value.none := r1
        rw [r1]
        exact PySem.P.repr_of_none ⟨.str _, H, I.tok _, ⟨_, rfl⟩, q⟩
      | .bl b, _, r1, g, sz, q =>
        have r1 : _ = Value.bool b := r1
        rw [r1]
        refine PySem.P.repr_of_bool ⟨.str _, H, I.tok _, ⟨_, rfl⟩, ?_⟩
        cases b <;> exact q
      | .int i, _, r1, g, sz, q =>
        obtain ⟨t, rfl⟩ := r1
        exact PySem.P.repr_of_int (of_decide_eq_true g.s) ⟨.str _, H, I.tok _, ⟨_, rfl⟩, q⟩
      | .str z, _, r1, g, sz, q =>
        obtain ⟨t, rfl⟩ := r1
        exact PySem.P.repr_of_str ⟨.str _, H, I.tok _, ⟨_, rfl⟩, q⟩ sz
/-! ### lists of things -/
theorem BpsAt.app {H : Hp} {m : List Bp} {ys : List V} (h : BpsAt H m ys) : ∀ {l : List Bp} {xs : List V}, BpsAt H l xs → BpsAt H (l ++ m) (xs ++ ys)
  | [], _, e => by
    have e : _ = [] := e
    rw [e]
    exact h
  | _ :: _, _, ⟨x, zs, e, hx, hr⟩ => ⟨x, zs ++ ys, by rw [e]; rfl, hx, BpsAt.app h hr⟩
theorem BpsAt.take {H : Hp} : ∀ {l : List Bp} {xs : List V} (n : Nat), BpsAt H l xs → BpsAt H (l.take n) (xs.take n)
  | [], _, n, e => by
    have e : _ = [] := e
    rw [e, List.take_nil, List.take_nil]
    exact rfl
  | _ :: _, _, 0, ⟨x, zs, e, hx, hr⟩ => rfl
  | _ :: _, _, n + 1, ⟨x, zs, e, hx, hr⟩ => by
    rw [e]
    exact ⟨x, zs.take n, rfl, hx, BpsAt.take n hr⟩
theorem BpsAt.drop {H : Hp} : ∀ {l : List Bp} {xs : List V} (n : Nat), BpsAt H l xs → BpsAt H (l.drop n) (xs.drop n)
  | [], _, n, e => by
    have e : _ = [] := e
    rw [e, List.drop_nil, List.drop_nil]
    exact rfl
  | _ :: _, _, 0, h => h
  | _ :: _, _, n + 1, ⟨x, zs, e, hx, hr⟩ => by
    rw [e]
    exact BpsAt.drop n hr
theorem PlsAt.bps {H : Hp} {ps : List Pl} {xs : List V} (h : PlsAt H ps xs) : BpsAt H (bpL ps) xs := PlsAt.bp h
end Tw

set_option maxHeartbeats 4000000
namespace Tw
open PySem PySem.Spec PyProof.Rows L2
/-! the law's bent plans, plans at the edge -/
theorem fit5 {n : Nat} (h : n ≤ 100) : n ≤ sizeLine := Nat.le_trans h (by decide)
theorem wdw {p : Pl} (ok : p.ok) : p.wd = "ours" ∨ p.wd = "weather" ∨ p.wd = "within" ∨ manyW p.wd := by
  cases p with
  | ours lo hi => exact .inl rfl
  | wthr lo hi la => exact .inr (.inl rfl)
  | wthn n p => exact .inr (.inr (.inl rfl))
  | many w ps => exact .inr (.inr (.inr ok.1))
theorem GBL.tail {d : Bp} {r : List Bp} {w k t : Nat} (g : GBL (d :: r) w k t) : GBL r w k t := by
  have gs : (d.dat.showable && PyData.showableAll (datBL r)) = true := g.s
  have gh : (d.dat.hasDict || PyData.hasDictAll (datBL r)) = false := g.h
  have gl : (PyData.leavesShort 40 d.dat && PyData.leavesShortAll 40 (datBL r)) = true := g.l
  have gw : d.dat.weight + 1 + PyData.weightAll (datBL r) ≤ w := g.w
  have gk : max d.dat.depth (PyData.depthAll (datBL r)) ≤ k := g.k
  have gt : max d.tdp (tdpL r) ≤ t := g.t
  rw [Bool.and_eq_true] at gs gl
  rw [Bool.or_eq_false_iff] at gh
  exact ⟨gs.2, gh.2, gl.2, by omega, by omega, g.hd.2, by omega⟩
/-- a tuple in a list's place -/
theorem gb_tt {z : Str} {ds : List Bp} {w k t : Nat} (gz : GB (.fl (.str z)) 10 k t) (g : GBL ds w k t) : GB (.tup [.fl (.str z), .tup ds]) (12 + w) (k + 2) (t + 2) := by
  have h1 : PyData.leavesShort 40 (.str z) = true := gz.l
  have h2 : z.cps.size ≤ 10 := gz.w
  refine ⟨?_, ?_, ?_, ?_, ?_, ⟨fun x r h => .inl ⟨_, (List.cons.inj h).1.symm⟩, .inl rfl, True.intro⟩, ?_⟩
  · show (true && (PyData.showableAll (datBL ds) && true)) = true
    rw [g.s]
    rfl
  · show (false || (PyData.hasDictAll (datBL ds) || false)) = false
    rw [g.h]
    rfl
  · show (PyData.leavesShort 40 (.str z) && (PyData.leavesShortAll 40 (datBL ds) && true)) = true
    rw [h1, g.l]
    rfl
  · show z.cps.size + 1 + (PyData.weightAll (datBL ds) + 1 + 0) ≤ _
    have := g.w
    omega
  · show max 0 (max (PyData.depthAll (datBL ds) + 1) 0) + 1 ≤ _
    have := g.k
    omega
  · show max 0 (max (tdpL ds + 1) 0) + 1 ≤ _
    have := g.t
    omega
theorem cutTk (xs : List V) (k : Nat) : cutV xs none (some (k : Int)) = xs.take k := by
  have e : cutV xs none (some (k : Int)) = xs.take (min k xs.length) := by
    unfold cutV
    rw [HT.sIx_none, HT.sIx_nat, List.drop_zero, Nat.sub_zero]
  rw [e]
  by_cases h : k ≤ xs.length
  · rw [Nat.min_eq_left h]
  · rw [Nat.min_eq_right (by omega), List.take_length, List.take_of_length_le (by omega)]
theorem cutDr (xs : List V) (k : Nat) (h : k ≤ xs.length) : cutV xs (some (k : Int)) none = xs.drop k := by
  have e : cutV xs (some (k : Int)) none = (xs.drop k).take (xs.length - k) := by
    unfold cutV
    rw [HT.sIx_none, HT.sIx_nat, Nat.min_eq_left h]
  rw [e]
  exact List.take_of_length_le (by rw [List.length_drop]; exact Nat.le_refl _)
theorem BpsAt.one {H : Hp} {d : Bp} {x : V} (h : BpAt H d x) : BpsAt H [d] [x] := ⟨x, [], rfl, h, rfl⟩
theorem GB.rest {z : Str} {r : List Bp} {w k t : Nat} (g : GB (.tup (.fl (.str z) :: r)) w (k + 1) (t + 1)) (h : hdL r) : GBL r w k t := by
  have gs : (true && PyData.showableAll (datBL r)) = true := g.s
  have gh : (false || PyData.hasDictAll (datBL r)) = false := g.h
  have gl : (PyData.leavesShort 40 (.str z) && PyData.leavesShortAll 40 (datBL r)) = true := g.l
  have gw : z.cps.size + 1 + PyData.weightAll (datBL r) ≤ w := g.w
  have gk : max 0 (PyData.depthAll (datBL r)) + 1 ≤ k + 1 := g.k
  have gt : max 0 (tdpL r) + 1 ≤ t + 1 := g.t
  rw [Bool.and_eq_true] at gs gl
  rw [Bool.or_eq_false_iff] at gh
  exact ⟨gs.2, gh.2, gl.2, by omega, by omega, h, by omega⟩
/-- a plan behind its word -/
theorem pl_rest {p : Pl} {w k t : Nat} (g : GB p.bp w (k + 1) (t + 1)) (gk : ∀ q ∈ p.kids, q.bp.hdT) : ∃ r, p.bp = .tup (.fl (.str p.wd) :: r) ∧ r ≠ [] ∧ r.length ≤ 3 ∧ GBL r w k t := by
  cases p with
  | ours lo hi => exact ⟨_, rfl, by simp, Nat.le_of_ble_eq_true rfl, g.rest ⟨True.intro, True.intro, True.intro⟩⟩
  | wthr lo hi la => exact ⟨_, rfl, by simp, Nat.le_of_ble_eq_true rfl, g.rest ⟨True.intro, True.intro, True.intro, True.intro⟩⟩
  | wthn n p => exact ⟨_, rfl, by simp, Nat.le_of_ble_eq_true rfl, g.rest ⟨True.intro, gk p List.mem_cons_self, True.intro⟩⟩
  | many z ps => exact ⟨_, rfl, by simp, Nat.le_of_ble_eq_true rfl, g.rest ⟨g.hd.2.1.resolve_left (fun e => nomatch e), True.intro⟩⟩
theorem nmL_mem {q : Pl} : ∀ {ps : List Pl}, nmL ps → q ∈ ps → q.nm
  | p :: r, h, hq => by
    rcases List.mem_cons.1 hq with rfl | hq
    · exact h.1
    · exact nmL_mem h.2 hq
theorem wiL_mem {q : Pl} {ws : List Str} {far : Int} : ∀ {ps : List Pl}, wiL ws far ps → q ∈ ps → q.wi ws far
  | p :: r, h, hq => by
    rcases List.mem_cons.1 hq with rfl | hq
    · exact h.1
    · exact wiL_mem h.2 hq
theorem nm_kids {p q : Pl} (h : p.nm) (hq : q ∈ p.kids) : q.nm := by
  cases p with
  | ours lo hi => exact absurd hq List.not_mem_nil
  | wthr lo hi la => exact absurd hq List.not_mem_nil
  | wthn n p =>
    rw [List.mem_singleton.1 hq]
    exact h.2
  | many w ps => exact nmL_mem h hq
theorem wi_kids {p q : Pl} {ws : List Str} {far : Int} (h : p.wi ws far) (hq : q ∈ p.kids) : q.wi ws far := by
  cases p with
  | ours lo hi => exact absurd hq List.not_mem_nil
  | wthr lo hi la => exact absurd hq List.not_mem_nil
  | wthn n p =>
    rw [List.mem_singleton.1 hq]
    exact h
  | many w ps => exact wiL_mem h.2.2 hq
theorem cut1 (x : V) (r : List V) : cutV (x :: r) (some 1) none = r := cutDr (x :: r) 1 (by rw [List.length_cons]; omega)
theorem bpL_mem {ps : List Pl} {d : Bp} (h : d ∈ bpL ps) : ∃ p ∈ ps, d = p.bp := by
  rw [bpL_eq] at h
  obtain ⟨p, hp, e⟩ := List.mem_map.1 h
  exact ⟨p, hp, e.symm⟩
theorem PlsF.get {H : Hp} : ∀ {ps : List Pl} {xs : List V} {ls : List Addr}, PlsF H ps xs ls → ∀ {i : Nat} {x : V} {p : Pl}, xs[i]? = some x → ps[i]? = some p → ∃ ks, PlF H p x ks ∧ ∀ a ∈ ks, a ∈ ls
  | [], _, _, _, _, _, _, _, e => nomatch e
  | q :: r, _, _, h, i, x, p, ex, ep => by
    obtain ⟨y, ys, ms, ns, rfl, h2, h3, rfl, _⟩ := h
    match i, ex, ep with
    | 0, ex, ep =>
      cases ex
      cases ep
      exact ⟨ms, h2, fun a ha => List.mem_append_left _ ha⟩
    | i + 1, ex, ep =>
      obtain ⟨ks, k1, k2⟩ := PlsF.get h3 (i := i) ex ep
      exact ⟨ks, k1, fun a ha => List.mem_append_right _ (k2 a ha)⟩
section
variable {P : Program} {w : World} {K : PySem.W.Frag} {mg : Str → Option Value} {base : Heap}
def sp_strangeB : Sp := fun vs H Q _ => ∃ (f c : Addr) (lo hi : Int), vs = [.ref f, .int lo, .int hi] ∧ Flow H f c ∧ lo.natAbs ≤ 1000 ∧ hi.natAbs ≤ 1000 ∧ ∀ (v : V) (d : Bp) (H' : Hp), Sb f H H' → Flow H' f c → BpAt H' d v → d = .fl v → GB d 110 0 0 → Q v H'
theorem cal__law_strangeB (T : Tp K mg) : Cal P w K mg base 4 "_law_strange" sp_strangeB := by
  obtain ⟨fd, F⟩ := f__law_strange T
  refine cal_of F (g__law_strange T) (b__law_strange F) sc__law_strange (fun vs H Q E h => ?_) (fun cdv A outer s H vs Q E hr h => ?_)
  · obtain ⟨f, c, lo, hi, rfl, _⟩ := h
    rfl
  · obtain ⟨f, c, lo, hi, rfl, FL, b1, b2, q⟩ := h
    refine ⟨_, (pss_cons (ps_set (i := 3) sc__law_strange.nd rfl (.inl rfl) (pe_op op_add pe_int (C8.pe_c (cal__law_draw T) hr (by decide) rfl (pa_cons (pv 0) (pa_cons (pe_op op_pow pe_int pe_int) pa_nil)))))
      (pss_one (ps_ret (C8.pe_c (cal__law_pick T) hr (by decide) rfl (pa_cons (pv 0) (pa_cons (pe_lst (pa_cons pe_bl (pa_cons pe_bl (pa_cons pe_non (pa_cons (pe_op op_sub (pv 1) pe_int) (pa_cons (pe_op op_add (pv 2) pe_int) (pa_cons (pe_op op_sub (pv 1) (pv 3)) (pa_cons (pe_op op_add (pv 2) (pv 3)) pa_nil)))))))) pa_nil)))))), ?_⟩
    refine ⟨_, rfl, 10, 30, rfl, rfl, ⟨by decide, by decide, by decide⟩, f, c, _, rfl, FL, by decide, by decide, fun v H1 v0 v1 sb1 F1 => ⟨1, v, rfl, rfl, ?_⟩⟩
    refine ⟨_, rfl, _, rfl, _, _, rfl, rfl, _, rfl, _, _, rfl, rfl, _, rfl, _, rfl, _, _, rfl, rfl, _, rfl, _, rfl, _, _, rfl, rfl, (by show 7 ≤ sizeLine; decide), fun l nl => ?_⟩
    have v1 : v < 1000000000000000000000000000000 := Int.lt_of_lt_of_le v1 (by decide)
    have big : (10 : Nat) ^ 32 = 100000000000000000000000000000000 := by decide
    have s2 := same_upd (o := .lst [.bl true, .bl false, .non, .int (lo - 1), .int (hi + 1), .int (lo - (1 + v)), .int (hi + (1 + v))]) nl
    obtain ⟨zs, hf⟩ := F1.lst
    refine ⟨f, c, l, _, rfl, F1.same s2, upd_same, (ne_of_none hf nl).symm, by show 0 < 7; decide, by show 7 ≤ 1000; decide, fun x H2 hx sb3 F3 => ?_⟩
    have sb := (sb1.trans (Sb.of s2)).trans sb3
    simp only [List.mem_cons, List.not_mem_nil, or_false] at hx
    rcases hx with rfl | rfl | rfl | rfl | rfl | rfl | rfl
    · exact q _ (.fl (.bl true)) H2 sb F3 ⟨rfl, rfl⟩ rfl (gb_bl.mono (by omega) (Nat.le_refl _) (Nat.le_refl _))
    · exact q _ (.fl (.bl false)) H2 sb F3 ⟨rfl, rfl⟩ rfl (gb_bl.mono (by omega) (Nat.le_refl _) (Nat.le_refl _))
    · exact q _ (.fl .non) H2 sb F3 ⟨rfl, rfl⟩ rfl (gb_non.mono (by omega) (Nat.le_refl _) (Nat.le_refl _))
    · exact q _ (.fl (.int _)) H2 sb F3 ⟨rfl, rfl⟩ rfl (gb_int (by omega))
    · exact q _ (.fl (.int _)) H2 sb F3 ⟨rfl, rfl⟩ rfl (gb_int (by omega))
    · exact q _ (.fl (.int _)) H2 sb F3 ⟨rfl, rfl⟩ rfl (gb_int (by omega))
    · exact q _ (.fl (.int _)) H2 sb F3 ⟨rfl, rfl⟩ rfl (gb_int (by omega))
def sp_bent (ws : List Str) (far : Int) (n : Nat) : Sp := fun vs H Q _ => ∃ (f c : Addr) (v : V) (p : Pl) (ls : List Addr), vs = [.ref f, v] ∧ Flow H f c ∧ PlF H p v ls ∧ f ∉ ls ∧ p.ok ∧ p.nm ∧ p.wi ws far ∧ p.dp ≤ n ∧
  ∀ (u : V) (d : Bp) (H' : Hp), Sb f H H' → Flow H' f c → BpAt H' d u → GB d (6 * gW n) (2 * n + 2) (n + 1) → Q u H'
theorem cal_bent (T : Tp K mg) (ws : List Str) (far : Int) : ∀ n : Nat, Cal P w K mg base (n + 5) "_law_bent_plan" (sp_bent ws far n)
  | 0 => by
    obtain ⟨fd, F⟩ := f__law_bent_plan T
    refine cal_of F (g__law_bent_plan T) (b__law_bent_plan F) sc__law_bent_plan (fun vs H Q E h => ?_) (fun cdv A outer s H vs Q E hr h => ?_)
    · obtain ⟨f, c, v, p, ls, rfl, _⟩ := h
      rfl
    · obtain ⟨f, c, v, p, ls, _, _, _, _, _, _, _, d, _⟩ := h
      have := dp_pos p
      omega
  | n + 1 => by
    have ih := cal_bent T ws far n
    obtain ⟨fd, F⟩ := f__law_bent_plan T
    refine cal_of F (g__law_bent_plan T) (b__law_bent_plan F) sc__law_bent_plan (fun vs H Q E h => ?_) (fun cdv A outer s H vs Q E hr h => ?_)
    · obtain ⟨f, c, v, p, ls, rfl, _⟩ := h
      rfl
    · obtain ⟨f, c, v, p, ls, rfl, FL, hF, nf, ok, nm, wi, d, q⟩ := h
      have hu := hu_of hr
      have gp := gb_pl p (n + 1) ok nm wi d
      have lk := kids_len ok
      have hp := hF.at
      refine ⟨_, (pss_cons (ps_set (i := 2) sc__law_bent_plan.nd rfl (.inl rfl) (C8.pe_c (cal__law_kids T) hr (by omega) rfl (pa_cons (pv 1) pa_nil)))
      (C8.pss_cut (ps_if (PW.pt (pw_and (pt_cmpR (op_neNil hu) (pv 2) (pe_lst pa_nil) (nomark _)) (pw_and1 (pt_cmpR op_gt (C8.pe_c (cal__law_draw T) hr (by omega) rfl (pa_cons (pv 0) (pa_cons pe_int pa_nil))) pe_int (nomark _))))) (pss_cons (ps_if (pt_cmpR op_eq (pe_ix ix_tup (pv 1) pe_int (fun _ _ => rfl)) pe_str (nomark _)) (pss_one (ps_ret (pe_op op_catU (pe_slice sl_tupU (pv 1) po_none (po_some pe_int)) (pe_tup (pa_cons (C8.pe_c ih hr (by omega) rfl (pa_cons (pv 0) (pa_cons (pe_ix ix_tup (pv 1) pe_int (fun _ _ => rfl)) pa_nil))) pa_nil))))) pss_nil)
        (pss_cons (ps_set (i := 3) sc__law_bent_plan.nd rfl (.inl rfl) (C8.pe_c (cal__law_draw T) hr (by omega) rfl (pa_cons (pv 0) (pa_cons (pe_callB call_len_seq (by rfl) (z_len T) bb_len (pa_cons (pv 2) pa_nil)) pa_nil))))
        (pss_one (ps_ret (pe_tup (pa_cons (pe_ix ix_tup (pv 1) pe_int (fun _ _ => rfl)) (pa_cons (pe_op op_cat (pe_op op_cat (pe_slice sl_list (pv 2) po_none (po_some (pv 3))) (pe_lst (pa_cons (C8.pe_c ih hr (by omega) rfl (pa_cons (pv 0) (pa_cons (pe_ix ix_list (pv 2) (pv 3) (fun _ _ => rfl)) pa_nil))) pa_nil))) (pe_slice sl_list (pv 2) (po_some (pe_op op_add (pv 3) pe_int)) po_none)) pa_nil))))))) pss_nil)
      (pss_cons (ps_set (i := 4) sc__law_bent_plan.nd rfl (.inl rfl) (C8.pe_c (cal__law_draw T) hr (by omega) rfl (pa_cons (pv 0) (pa_cons pe_int pa_nil))))
      (pss_cons (ps_if (pt_cmpR op_eq (pv 4) pe_int (nomark _)) (pss_one (ps_ret (pe_op op_catU (pe_tup (pa_cons (C8.pe_c (cal__law_pick T) hr (by omega) rfl (pa_cons (pv 0) (pa_cons (pe_lst (pa_cons pe_str (pa_cons pe_str (pa_cons pe_str (pa_cons pe_str (pa_cons pe_str pa_nil)))))) pa_nil))) pa_nil)) (pe_slice sl_tupU (pv 1) (po_some pe_int) po_none)))) pss_nil)
      (pss_cons (ps_if (pt_cmpR op_eq (pv 4) pe_int (nomark _)) (pss_one (ps_ret (pe_slice sl_tupU (pv 1) po_none (po_some (pe_un un_neg pe_int))))) pss_nil)
      (pss_cons (ps_if (pt_cmpR op_eq (pv 4) pe_int (nomark _)) (pss_one (ps_ret (pe_op op_catU (pv 1) (pe_tup (pa_cons pe_int pa_nil))))) pss_nil)
      (pss_cons (ps_if (PW.pt (pw_or (pt_cmpR (op_eqNil hu) (pv 2) (pe_lst pa_nil) (nomark _)) (pw_or1 (pt_cmpR op_eq (pe_ix ix_tup (pv 1) pe_int (fun _ _ => rfl)) pe_str (nomark _))))) (pss_one (ps_ret (pe_op op_catU (pe_tup (pa_cons (pe_ix ix_tup (pv 1) pe_int (fun _ _ => rfl)) (pa_cons (C8.pe_c (cal__law_strangeB T) hr (by omega) rfl (pa_cons (pv 0) (pa_cons pe_int (pa_cons pe_int pa_nil)))) pa_nil))) (pe_slice sl_tupU (pv 1) (po_some pe_int) po_none)))) pss_nil)
      (pss_cons (ps_set (i := 5) sc__law_bent_plan.nd rfl (.inl rfl) (pe_lst (pa_cons (pe_lst pa_nil) (pa_cons (pe_op op_rep (pv 2) pe_int) (pa_cons (pe_callTy call_tuple_of (by rfl) (z_tuple T) bb_tuple (pa_cons (pv 2) pa_nil)) (pa_cons pe_non (pa_cons (pe_op op_cat (pv 2) (pe_lst (pa_cons pe_int pa_nil))) pa_nil)))))))
      (pss_one (ps_ret (pe_tup (pa_cons (pe_ix ix_tup (pv 1) pe_int (fun _ _ => rfl)) (pa_cons (C8.pe_c (cal__law_pick T) hr (by omega) rfl (pa_cons (pv 0) (pa_cons (pv 5) pa_nil))) pa_nil))))))))))))), ?_⟩
      refine ⟨_, rfl, v, p, rfl, hp, ok, fun L H1 s1 kl ⟨xs, hL, KL⟩ => ?_⟩
      obtain ⟨zs, hf⟩ := FL.lst
      have Lf : L ≠ f := by
        rcases kl with ⟨_, n⟩ | ⟨t, w', ps, rfl, rfl, ht⟩
        · intro e
          rw [e, hf] at n
          cases n
        · obtain ⟨t', l, ys, ms, e1, e2, e3, e4, e5, _⟩ := hF
          cases e1
          rw [ht] at e2
          cases e2
          intro e
          exact nf (by rw [e5, ← e]; exact List.mem_cons_self)
      have F1 := FL.same s1
      have hF1 := hF.same s1
      have lx := KL.len
      obtain ⟨t, r0, rfl, ht0⟩ := hp.tup
      have kn := kids_nil ok
      refine ⟨fun σ H' => σ = [some (.ref f), some (.ref t), some (.ref L), none, none, none] ∧ Sb f H H' ∧ Flow H' f c ∧ H' L = some (.lst xs), ?_, ?_⟩
      · refine ⟨_, rfl, Nat.zero_le _, fun E0 nE => ?_⟩
        have sE := same_upd (o := .lst []) nE
        refine ⟨L, E0, xs, rfl, rfl, .inl (.inl (sE _ _ hL)), .inl (.inl upd_same), _, rfl, ?_⟩
        have sE1 := s1.trans sE
        have FE := F1.same sE
        have hFE := hF1.same sE
        have hLE := sE _ _ hL
        generalize upd H1 E0 (.lst []) = HE at sE1 FE hFE hLE ⊢
        obtain ⟨zsE, hfE⟩ := FE.lst
        cases hx : xs.isEmpty with
        | true => exact iteF (iteF ⟨rfl, Sb.of sE1, FE, hLE⟩)
        | false =>
          refine iteT ⟨_, rfl, f, c, 3, rfl, FE, by decide, by decide, fun v3 H2 a3 b3 sb2 F2 => ⟨_, _, rfl, rfl, _, rfl, ite2 (fun _ => ?_) (fun _ => ⟨rfl, (Sb.of sE1).trans sb2, F2, sb2 _ _ hLE Lf⟩)⟩⟩
          have hF2 := hFE.sb sb2 hfE nf
          have hL2 := sb2 _ _ hLE Lf
          have ht2 : H2 t = some (.tup (.str p.wd :: r0)) := sb2 _ _ (sE1 _ _ ht0) (fun e => by rw [e, hf] at ht0; cases ht0)
          have sb02 := (Sb.of sE1).trans sb2
          obtain ⟨zs2, hf2⟩ := F2.lst
          refine ⟨_, rfl, t, _, 0, .str p.wd, rfl, rfl, .inl (.inl ht2), atI_nat (j := 0) rfl, rfl, _, rfl, ?_⟩
          cases p with
          | ours lo hi =>
            have : xs = [] := KL
            rw [this] at hx
            cases hx
          | wthr lo hi la =>
            have : xs = [] := KL
            rw [this] at hx
            cases hx
          | wthn m p0 =>
            have d0 : p0.dp + 1 ≤ n + 1 := d
            rw [show decide (V.str (Pl.wthn m p0).wd = V.str "within") = true from eq_str]
            obtain ⟨t', u, e1, h2, hu2⟩ := hF2
            cases e1
            refine iteT ⟨_, rfl, 2, rfl, t, _, rfl, h2, fun k H3 s3 e3 => ⟨_, rfl, _, rfl, t, _, 2, u, rfl, rfl, .inl (.inl (s3 _ _ h2)), atI_nat (j := 2) rfl, f, c, u, p0, ls, rfl, F2.same s3, hu2.same s3, nf, ok, nm.2, wi, by omega, fun x dx H4 sb4 F4 hx4 gx => ⟨(by show 1 ≤ sizeLine; decide), fun a na => ?_⟩⟩⟩
            have kf : k ≠ f := fun e => by
              have := s3 _ _ hf2
              rw [← e, e3] at this
              cases this
            have sa := same_upd (o := .tup [x]) na
            refine ⟨k, a, _, _, rfl, rfl, sa _ _ (sb4 _ _ e3 kf), upd_same, (by show 2 + 1 ≤ sizeLine; decide), fun t2 H5 s5 e5 => ?_⟩
            have s45 := sa.trans s5
            refine q (.ref t2) (.tup [.fl (.str "within"), .fl (.int m), dx]) H5 (((sb02.trans (Sb.of s3)).trans sb4).trans (Sb.of s45)) (F4.same s45) ⟨t2, _, rfl, e5, _, _, rfl, ⟨rfl, rfl⟩, _, _, rfl, ⟨rfl, rfl⟩, _, _, rfl, hx4.same s45, rfl⟩ ?_
            have g := GBL.cons (k := 2 * n + 2) (t := n + 1) (gb_w (.inr (.inr (.inl rfl)))) (GBL.cons (gb_nm nm.1) (GBL.cons gx GBL.nil))
            refine (GB.tup g fun x r h => .inl ⟨_, (List.cons.inj h).1.symm⟩).mono ?_ (by omega) (by omega)
            have := gW_ge n
            rw [gW_succ]
            omega
          | many z ps =>
            have no := many_no ok.1
            rw [show decide (V.str (Pl.many z ps).wd = V.str "within") = false from ne_str no.2.2]
            have xp : 0 < xs.length := by
              cases xs with
              | nil => cases hx
              | cons _ _ => exact Nat.succ_pos _
            have x4 : xs.length ≤ 4 := by rw [lx]; exact lk
            refine iteF ⟨_, rfl, _, rfl, L, _, rfl, .inl (.inl (.inl hL2)), f, c, _, rfl, F2, by omega, by omega, fun v4 H3 a4 b4 sb3 F3 => ?_⟩
            obtain ⟨i, rfl⟩ : ∃ i : Nat, v4 = (i : Int) := ⟨v4.toNat, by omega⟩
            have hF3 := hF2.sb sb3 hf2 nf
            have hL3 := sb3 _ _ hL2 Lf
            obtain ⟨t', l, xs0, ms, e1, h2, h3, RF, els, nin⟩ := hF3
            cases e1
            have eL : l = L := by
              rcases kl with ⟨e, _⟩ | ⟨t9, w9, ps9, e8, e9, h9⟩
              · cases e
              · cases e8
                cases e9
                have : t ≠ f := fun e => by rw [e, hf] at h9; cases h9
                have h9 := sb3 _ _ (sb02 _ _ h9 this) this
                rw [h9] at h2
                cases h2
                rfl
            subst eL
            rw [hL3] at h3
            cases h3
            have sb03 := sb02.trans sb3
            obtain ⟨zs3, hf3⟩ := F3.lst
            obtain ⟨x, ex⟩ : ∃ x, xs[i]? = some x := ⟨_, List.getElem?_eq_getElem (by omega)⟩
            have lps : xs.length = ps.length := RF.len
            obtain ⟨q0, eq0⟩ : ∃ q0, ps[i]? = some q0 := ⟨_, List.getElem?_eq_getElem (by omega)⟩
            obtain ⟨ks, hk1, hk2⟩ := RF.get ex eq0
            have hq0 : q0 ∈ (Pl.many z ps).kids := List.mem_of_getElem? eq0
            refine ⟨_, rfl, t, _, 0, .str z, rfl, rfl, .inl (.inl h2), atI_nat (j := 0) rfl, _, rfl, _, rfl, _, rfl, l, _, rfl, .inl (.inl hL3), fun A nA => ?_⟩
            rw [cutTk]
            have sA := same_upd (o := .lst (xs.take i)) nA
            have Af : A ≠ f := (ne_of_none hf3 nA).symm
            have hA := upd_same (H := H3) (a := A) (o := .lst (xs.take i))
            have F4 := F3.same sA
            have hk4 := hk1.same sA
            have hL4 := sA _ _ hL3
            have R4 := RF.same sA
            have ht4 := sA _ _ h2
            generalize upd H3 A (.lst (xs.take i)) = H4 at sA hA F4 hk4 hL4 R4 ht4 ⊢
            obtain ⟨zs4, hf4⟩ := F4.lst
            have nfm : f ∉ ms := fun h => nf (by rw [els]; exact List.mem_cons_of_mem _ h)
            refine ⟨_, rfl, _, rfl, _, rfl, l, xs, (i : Int), x, rfl, rfl, .inl (.inl hL4), atI_nat ex, f, c, x, q0, ks, rfl, F4, hk4, fun h => nfm (hk2 f h), kids_ok ok hq0, nmL_mem nm hq0, wiL_mem wi.2.2 hq0, kids_dp d hq0, fun xx dx H5 sb5 F5 hx5 gx => ⟨(by show 1 ≤ sizeLine; decide), fun B nB => ?_⟩⟩
            have R5 := R4.sb sb5 hf4 nfm
            have hA5 := sb5 _ _ hA Af
            have hL5 := sb5 _ _ hL4 Lf
            have sB := same_upd (o := .lst [xx]) nB
            refine ⟨A, B, _, _, rfl, rfl, sB _ _ hA5, upd_same, fit5 (by rw [List.length_take]; show min i xs.length + 1 ≤ 100; omega), fun C nC => ?_⟩
            have sC := same_upd (o := .lst (xs.take i ++ [xx])) nC
            refine ⟨_, rfl, _, rfl, _, _, rfl, rfl, _, rfl, l, _, rfl, .inl (.inl (sC _ _ (sB _ _ hL5))), fun D nD => ?_⟩
            rw [show ((i : Int) + 1) = ((i + 1 : Nat) : Int) by omega, cutDr _ _ (by omega)]
            have sD := same_upd (o := .lst (xs.drop (i + 1))) nD
            have hC := sD _ _ (upd_same (H := upd H5 B (.lst [xx])) (a := C) (o := .lst (xs.take i ++ [xx])))
            have hD := upd_same (H := upd (upd H5 B (.lst [xx])) C (.lst (xs.take i ++ [xx]))) (a := D) (o := .lst (xs.drop (i + 1)))
            have sBD := (sB.trans sC).trans sD
            generalize upd (upd (upd H5 B (.lst [xx])) C (.lst (xs.take i ++ [xx]))) D (.lst (xs.drop (i + 1))) = H6 at sBD hC hD ⊢
            refine ⟨C, D, _, _, rfl, rfl, hC, hD, fit5 (by rw [List.length_append, List.length_take, List.length_drop]; show min i xs.length + 1 + (xs.length - (i + 1)) ≤ 100; omega), fun G nG => ⟨(by show 2 ≤ sizeLine; decide), fun t2 nt2 => ?_⟩⟩
            have sG := same_upd (o := .lst (xs.take i ++ [xx] ++ xs.drop (i + 1))) nG
            have hG := upd_same (H := H6) (a := G) (o := .lst (xs.take i ++ [xx] ++ xs.drop (i + 1)))
            have nt2 : (upd H6 G (.lst (xs.take i ++ [xx] ++ xs.drop (i + 1)))) t2 = none := nt2
            have st2 := same_upd (o := .tup [.str z, .ref G]) nt2
            have sE6 := (sBD.trans sG).trans st2
            have RB := (R5.at.bps).same sE6
            have hx6 := hx5.same sE6
            refine q (.ref t2) (.tup [.fl (.str z), .lst ((bpL ps).take i ++ [dx] ++ (bpL ps).drop (i + 1))]) _ (((sb03.trans (Sb.of sA)).trans sb5).trans (Sb.of sE6)) (F5.same sE6) ⟨t2, _, rfl, upd_same, _, _, rfl, ⟨rfl, rfl⟩, _, _, rfl, ⟨G, _, rfl, st2 _ _ hG, BpsAt.app (RB.drop (i + 1)) (BpsAt.app (BpsAt.one hx6) (RB.take i))⟩, rfl⟩ ?_
            have gk : ∀ d' ∈ bpL ps, GB d' (gW n) (2 * n + 2) (n + 1) := fun d' hd' => by
              obtain ⟨p', hp', rfl⟩ := bpL_mem hd'
              exact (gb_pl p' n (kids_ok ok hp') (nmL_mem nm hp') (wiL_mem wi.2.2 hp') (kids_dp d hp')).mono (Nat.le_refl _) (by omega) (by omega)
            have lb : (bpL ps).length = ps.length := by rw [bpL_eq, List.length_map]
            have g1 := GBL.of (l := (bpL ps).take i) fun d' hd' => gk d' (List.mem_of_mem_take hd')
            have g2 := GBL.of (l := (bpL ps).drop (i + 1)) fun d' hd' => gk d' (List.mem_of_mem_drop hd')
            have g3 := GBL.app g2 (GBL.app (GBL.cons gx GBL.nil) g1)
            have g4 := GBL.cons (k := 2 * n + 3) (gb_w (.inr (.inr (.inr ok.1)))) (GBL.cons (GB.lst g3) GBL.nil)
            refine (GB.tup g4 fun x r h => .inl ⟨_, (List.cons.inj h).1.symm⟩).mono ?_ (by omega) (by omega)
            have w3 := wi.2.1
            have t1 : ((bpL ps).take i).length * (gW n + 1) ≤ 3 * (gW n + 1) := Nat.mul_le_mul_right _ (by rw [List.length_take]; omega)
            have t2 : ((bpL ps).drop (i + 1)).length * (gW n + 1) ≤ 3 * (gW n + 1) := Nat.mul_le_mul_right _ (by rw [List.length_drop]; omega)
            have := gW_ge n
            rw [gW_succ]
            omega
      · rintro σ H2 ⟨rfl, sb2, F2, hL2⟩
        have hF2 : PlF H2 p (.ref t) ls := hF.sb sb2 hf nf
        obtain ⟨zs2, hf2⟩ := F2.lst
        refine ⟨_, rfl, f, c, 6, rfl, F2, by decide, by decide, fun v4 H3 a4 b4 sb3 F3 => ?_⟩
        have hF3 := hF2.sb sb3 hf2 nf
        have hL3 := sb3 _ _ hL2 Lf
        have sb03 := sb2.trans sb3
        obtain ⟨zs3, hf3⟩ := F3.lst
        have gkids : ∀ q0 ∈ p.kids, GB q0.bp (gW n) (2 * n + 2) (n + 1) := fun q0 hq0 => (gb_pl q0 n (kids_ok ok hq0) (nm_kids nm hq0) (wi_kids wi hq0) (kids_dp d hq0)).mono (Nat.le_refl _) (by omega) (by omega)
        have gp2 : GB p.bp (gW (n + 1)) (2 * n + 1 + 1) (n + 1) := gp.mono (Nat.le_refl _) (by omega) (Nat.le_refl _)
        obtain ⟨r, er, rne, rl3, gr⟩ := pl_rest gp2 fun q0 hq0 => (gkids q0 hq0).hd
        have ra : ∀ {H' : Hp}, PlF H' p (.ref t) ls → ∃ ys, H' t = some (.tup (.str p.wd :: ys)) ∧ BpsAt H' r ys ∧ ys.length = r.length := fun {H'} h => by
          have hb := h.at.bp
          rw [er] at hb
          obtain ⟨t', _, e1, ht3, _, ys, rfl, ⟨rfl, _⟩, R3⟩ := hb
          cases e1
          exact ⟨ys, ht3, R3, R3.len⟩
        have gge := gW_ge n
        have gs4 := gW_succ n
        have gw0 : GBL (.fl (.str p.wd) :: r) (11 + gW (n + 1)) (2 * n + 1) n := (GBL.cons (gb_w (wdw ok)) gr).mono (by omega) (Nat.le_refl _) (Nat.le_refl _)
        refine ⟨_, rfl, rfl, _, rfl, ite2 (fun _ => ?_) (fun _ => ⟨_, rfl, rfl, _, rfl, ite2 (fun _ => ?_) (fun _ => ⟨_, rfl, rfl, _, rfl, ite2 (fun _ => ?_) (fun _ => ?_)⟩)⟩)⟩
        · refine ⟨_, rfl, (by show 5 ≤ sizeLine; decide), fun L5 n5 => ?_⟩
          have s5 := same_upd (o := .lst [.str "Then", .str "", .str "ours", .str "within", .str "or"]) n5
          have F5 := F3.same s5
          refine ⟨f, c, L5, _, rfl, F5, upd_same, (ne_of_none hf3 n5).symm, by show 0 < 5; decide, by show 5 ≤ 1000; decide, fun u H4 hu4 sb4 F4 => ⟨(by show 1 ≤ sizeLine; decide), fun T1 nT1 => ?_⟩⟩
          have sT := same_upd (o := .tup [u]) nT1
          obtain ⟨zs5, hf5⟩ := F5.lst
          have hF4 := (hF3.same s5).sb sb4 hf5 nf
          obtain ⟨ys, ht4, R4, ly⟩ := ra (hF4.same sT)
          refine ⟨_, rfl, 1, rfl, t, _, rfl, ht4, fun k H6 s6 e6 => ?_⟩
          rw [cut1] at e6
          refine ⟨T1, k, _, _, rfl, rfl, s6 _ _ upd_same, e6, fit5 (by show 1 + ys.length ≤ 100; omega), fun t2 H7 s7 e7 => ?_⟩
          have sA := (sT.trans s6).trans s7
          obtain ⟨z, rfl, gz⟩ : ∃ z : Str, u = .str z ∧ GB (.fl (.str z)) 10 (2 * n + 1) n := by
            simp only [List.mem_cons, List.not_mem_nil, or_false] at hu4
            rcases hu4 with rfl | rfl | rfl | rfl | rfl <;> exact ⟨_, rfl, gb_str (by decide +kernel)⟩
          refine q (.ref t2) (.tup (.fl (.str z) :: r)) H7 (((sb03.trans (Sb.of s5)).trans sb4).trans (Sb.of sA)) (F4.same sA) ⟨t2, _, rfl, e7, _, _, rfl, ⟨rfl, rfl⟩, (R4.same s6).same s7⟩ ?_
          exact (GB.tup (GBL.cons gz gr) fun x r h => .inl ⟨_, (List.cons.inj h).1.symm⟩).mono (by omega) (by omega) (by omega)
        · obtain ⟨ys, ht3, R3, ly⟩ := ra hF3
          refine ⟨_, rfl, _, rfl, _, rfl, t, _, rfl, ht3, fun k H6 s6 e6 => ?_⟩
          rw [cut_init (by rw [List.length_cons]; omega) (by rw [List.length_cons]; omega), List.dropLast_eq_take] at e6
          have RA : BpsAt H3 (.fl (.str p.wd) :: r) (.str p.wd :: ys) := ⟨_, _, rfl, ⟨rfl, rfl⟩, R3⟩
          refine q (.ref k) (.tup ((.fl (.str p.wd) :: r).take ((V.str p.wd :: ys).length - 1))) H6 (sb03.trans (Sb.of s6)) (F3.same s6) ⟨k, _, rfl, e6, (RA.take _).same s6⟩ ?_
          refine (GB.tup gw0.take fun x r' h => .inl ⟨p.wd, ?_⟩).mono (by omega) (by omega) (by omega)
          rw [List.length_cons] at h
          cases ys with
          | nil => cases h
          | cons y0 y1 => exact (List.cons.inj h).1.symm
        · obtain ⟨ys, ht3, R3, ly⟩ := ra hF3
          refine ⟨_, rfl, (by show 1 ≤ sizeLine; decide), fun T1 nT1 => ?_⟩
          have sT := same_upd (o := .tup [.int 1]) nT1
          refine ⟨t, T1, _, _, rfl, rfl, sT _ _ ht3, upd_same, fit5 (by rw [List.length_cons]; show ys.length + 1 + 1 ≤ 100; omega), fun t2 H6 s6 e6 => ?_⟩
          have sA := sT.trans s6
          have RA : BpsAt H3 (.fl (.str p.wd) :: r) (.str p.wd :: ys) := ⟨_, _, rfl, ⟨rfl, rfl⟩, R3⟩
          refine q (.ref t2) (.tup ((.fl (.str p.wd) :: r) ++ [.fl (.int 1)])) H6 (sb03.trans (Sb.of sA)) (F3.same sA) ⟨t2, _, rfl, e6, BpsAt.app (BpsAt.one (d := .fl (.int 1)) (x := .int 1) ⟨rfl, rfl⟩) (RA.same sA)⟩ ?_
          have g1 := GBL.app (GBL.cons (gb_int (i := 1) (by decide)) GBL.nil) gw0
          exact (GB.tup g1 fun x r' h => .inl ⟨_, (List.cons.inj h).1.symm⟩).mono (by omega) (by omega) (by omega)
        · refine ⟨_, rfl, Nat.zero_le _, fun E0 nE => ?_⟩
          have sE := same_upd (o := .lst []) nE
          refine ⟨L, E0, xs, rfl, rfl, .inl (.inl (sE _ _ hL3)), .inl (.inl upd_same), _, rfl, ?_⟩
          have F4 := F3.same sE
          have hF4 := hF3.same sE
          have hL4 := sE _ _ hL3
          have sb04 := sb03.trans (Sb.of sE)
          generalize upd H3 E0 (.lst []) = H4 at F4 hF4 hL4 sb04 ⊢
          obtain ⟨zs4, hf4⟩ := F4.lst
          cases hx : xs.isEmpty with
          | true =>
            refine iteT (iteT ?_)
            obtain ⟨ys, ht4, R4, ly⟩ := ra hF4
            refine ⟨_, rfl, t, _, 0, .str p.wd, rfl, rfl, .inl (.inl ht4), atI_nat (j := 0) rfl, _, rfl, f, c, 0, 1000, rfl, F4, by decide, by decide, fun u d5 H5 sb5 F5 hv ed gv => ⟨(by show 2 ≤ sizeLine; decide), fun T1 nT1 => ?_⟩⟩
            have sT := same_upd (o := .tup [.str p.wd, u]) nT1
            obtain ⟨ys5, ht5, R5, ly5⟩ := ra ((hF4.sb sb5 hf4 nf).same sT)
            refine ⟨_, rfl, 2, rfl, t, _, rfl, ht5, fun k H6 s6 e6 => ?_⟩
            obtain ⟨b0, rr, rfl⟩ := List.exists_cons_of_ne_nil rne
            have l2 : 2 ≤ (V.str p.wd :: ys5).length := by rw [List.length_cons, ly5, List.length_cons]; omega
            rw [show ((2 : Int)) = ((2 : Nat) : Int) from rfl, cutDr _ 2 l2] at e6
            have e6 : H6 k = some (.tup (ys5.drop 1)) := e6
            refine ⟨T1, k, _, _, rfl, rfl, s6 _ _ upd_same, e6, fit5 (by rw [List.length_drop]; show 2 + (ys5.length - 1) ≤ 100; omega), fun t2 H7 s7 e7 => ?_⟩
            have sA := (sT.trans s6).trans s7
            refine q (.ref t2) (.tup (.fl (.str p.wd) :: d5 :: rr)) H7 ((sb04.trans sb5).trans (Sb.of sA)) (F5.same sA) ⟨t2, _, rfl, e7, _, _, rfl, ⟨rfl, rfl⟩, _, _, rfl, hv.same sA, ((R5.drop 1).same s6).same s7⟩ ?_
            have g5 := GBL.cons (gb_w (wdw ok)) (GBL.cons (gv.mono (Nat.le_refl _) (Nat.zero_le (2 * n + 1)) (Nat.zero_le n)) gr.tail)
            exact (GB.tup g5 fun x r' h => .inl ⟨_, (List.cons.inj h).1.symm⟩).mono (by omega) (by omega) (by omega)
          | false =>
            obtain ⟨ys, ht4, R4, ly⟩ := ra hF4
            refine iteF ⟨_, rfl, t, _, 0, .str p.wd, rfl, rfl, .inl (.inl ht4), atI_nat (j := 0) rfl, rfl, _, rfl, ?_⟩
            by_cases cw : p.wd = "within"
            · rw [show decide (V.str p.wd = V.str "within") = true from by rw [cw]; exact eq_str]
              refine iteT ?_
              obtain ⟨ys, ht4, R4, ly⟩ := ra hF4
              refine ⟨_, rfl, t, _, 0, .str p.wd, rfl, rfl, .inl (.inl ht4), atI_nat (j := 0) rfl, _, rfl, f, c, 0, 1000, rfl, F4, by decide, by decide, fun u d5 H5 sb5 F5 hv ed gv => ⟨(by show 2 ≤ sizeLine; decide), fun T1 nT1 => ?_⟩⟩
              have sT := same_upd (o := .tup [.str p.wd, u]) nT1
              obtain ⟨ys5, ht5, R5, ly5⟩ := ra ((hF4.sb sb5 hf4 nf).same sT)
              refine ⟨_, rfl, 2, rfl, t, _, rfl, ht5, fun k H6 s6 e6 => ?_⟩
              obtain ⟨b0, rr, rfl⟩ := List.exists_cons_of_ne_nil rne
              have l2 : 2 ≤ (V.str p.wd :: ys5).length := by rw [List.length_cons, ly5, List.length_cons]; omega
              rw [show ((2 : Int)) = ((2 : Nat) : Int) from rfl, cutDr _ 2 l2] at e6
              have e6 : H6 k = some (.tup (ys5.drop 1)) := e6
              refine ⟨T1, k, _, _, rfl, rfl, s6 _ _ upd_same, e6, fit5 (by rw [List.length_drop]; show 2 + (ys5.length - 1) ≤ 100; omega), fun t2 H7 s7 e7 => ?_⟩
              have sA := (sT.trans s6).trans s7
              refine q (.ref t2) (.tup (.fl (.str p.wd) :: d5 :: rr)) H7 ((sb04.trans sb5).trans (Sb.of sA)) (F5.same sA) ⟨t2, _, rfl, e7, _, _, rfl, ⟨rfl, rfl⟩, _, _, rfl, hv.same sA, ((R5.drop 1).same s6).same s7⟩ ?_
              have g5 := GBL.cons (gb_w (wdw ok)) (GBL.cons (gv.mono (Nat.le_refl _) (Nat.zero_le (2 * n + 1)) (Nat.zero_le n)) gr.tail)
              exact (GB.tup g5 fun x r' h => .inl ⟨_, (List.cons.inj h).1.symm⟩).mono (by omega) (by omega) (by omega)
            · rw [ne_str cw]
              refine iteF ?_
              have mn : p.mny = true := by
                cases p with
                | ours lo hi =>
                  have : xs = [] := KL
                  rw [this] at hx
                  cases hx
                | wthr lo hi la =>
                  have : xs = [] := KL
                  rw [this] at hx
                  cases hx
                | wthn m p0 => exact absurd rfl cw
                | many z ps => rfl
              have x4 : xs.length ≤ 4 := by rw [lx]; exact lk
              have kb : ∀ {H' : Hp}, Sb f H H' → PlF H' p (.ref t) ls → H' L = some (.lst xs) → BpsAt H' (bpL p.kids) xs := fun {H'} sb' h' hL' => by
                cases p with
                | ours lo hi => cases mn
                | wthr lo hi la => cases mn
                | wthn m p0 => cases mn
                | many z ps =>
                  obtain ⟨t', l, xs0, ms, e1, h2, h3, RF, els, nin⟩ := h'
                  cases e1
                  have eL : l = L := by
                    rcases kl with ⟨e, _⟩ | ⟨t9, w9, ps9, e8, e9, h9⟩
                    · cases e
                    · cases e8
                      cases e9
                      have h9 := sb' _ _ h9 (fun e => by rw [e, hf] at h9; cases h9)
                      rw [h9] at h2
                      cases h2
                      rfl
                  subst eL
                  rw [hL'] at h3
                  cases h3
                  exact RF.at.bps
              have gkt : GBL (bpL p.kids) (3 * (gW n + 1)) (2 * n + 2) n := by
                refine (GBL.of fun d' hd' => ?_).mono (Nat.mul_le_mul_right (gW n + 1) ?_) (Nat.le_refl _) (Nat.le_refl _)
                · obtain ⟨p', hp', rfl⟩ := bpL_mem hd'
                  exact (gb_pl p' n (kids_ok ok hp') (nm_kids nm hp') (wi_kids wi hp') (kids_dp d hp')).mono (Nat.le_refl _) (by omega) (Nat.le_refl _)
                · rw [bpL_eq, List.length_map]
                  cases p with
                  | ours lo hi => cases mn
                  | wthr lo hi la => cases mn
                  | wthn m p0 => cases mn
                  | many z ps => exact wi.2.1
              have gkl := gkt.mono (t' := n + 1) (Nat.le_refl _) (Nat.le_refl _) (by omega)
              refine ⟨Nat.zero_le _, fun A nA => ⟨_, rfl, ?_⟩⟩
              have sA := same_upd (o := .lst []) nA
              refine ⟨L, 5, xs, rfl, rfl, sA _ _ hL4, by decide, by decide, fit5 (by show xs.length * 5 ≤ 100; omega), fun B nB => ?_⟩
              have sB := same_upd (o := .lst (List.replicate (Int.toNat 5) xs).flatten) nB
              refine ⟨_, rfl, L, xs, rfl, .inl ⟨.inl (.inl (sB _ _ (sA _ _ hL4))), fun C nC => ?_⟩⟩
              have sC := same_upd (o := .tup xs) nC
              refine ⟨_, rfl, (by show 1 ≤ sizeLine; decide), fun D nD => ?_⟩
              have sD := same_upd (o := .lst [.int 5]) nD
              refine ⟨L, D, _, _, rfl, rfl, sD _ _ (sC _ _ (sB _ _ (sA _ _ hL4))), upd_same, fit5 (by show xs.length + 1 ≤ 100; omega), fun G nG => ⟨(by show 5 ≤ sizeLine; decide), fun R nR => ?_⟩⟩
              have sG := same_upd (o := .lst (xs ++ [.int 5])) nG
              have sR := same_upd (o := .lst [.ref A, .ref B, .ref C, .non, .ref G]) nR
              have hA := sR _ _ (sG _ _ (sD _ _ (sC _ _ (sB _ _ (upd_same (H := H4) (a := A) (o := .lst []))))))
              have hB := sR _ _ (sG _ _ (sD _ _ (sC _ _ (upd_same (H := upd H4 A (.lst [])) (a := B) (o := .lst (List.replicate (Int.toNat 5) xs).flatten)))))
              have hC := sR _ _ (sG _ _ (sD _ _ (upd_same (H := upd (upd H4 A (.lst [])) B (.lst (List.replicate (Int.toNat 5) xs).flatten)) (a := C) (o := .tup xs))))
              have hG := sR _ _ (upd_same (H := upd (upd (upd (upd H4 A (.lst [])) B (.lst (List.replicate (Int.toNat 5) xs).flatten)) C (.tup xs)) D (.lst [.int 5])) (a := G) (o := .lst (xs ++ [.int 5])))
              have hR := upd_same (H := upd (upd (upd (upd (upd H4 A (.lst [])) B (.lst (List.replicate (Int.toNat 5) xs).flatten)) C (.tup xs)) D (.lst [.int 5])) G (.lst (xs ++ [.int 5]))) (a := R) (o := .lst [.ref A, .ref B, .ref C, .non, .ref G])
              have sAll := ((((sA.trans sB).trans sC).trans sD).trans sG).trans sR
              generalize upd (upd (upd (upd (upd (upd H4 A (.lst [])) B (.lst (List.replicate (Int.toNat 5) xs).flatten)) C (.tup xs)) D (.lst [.int 5])) G (.lst (xs ++ [.int 5]))) R (.lst [.ref A, .ref B, .ref C, .non, .ref G]) = H5 at sAll hA hB hC hG hR ⊢
              have F5 := F4.same sAll
              have hF5 := hF4.same sAll
              obtain ⟨zs5, hf5⟩ := F5.lst
              have nr : ∀ {x : Addr}, H4 x = none → x ≠ f := fun {x} nx e => by rw [e, hf4] at nx; cases nx
              have Rf : R ≠ f := fun e => by
                rw [e] at hR
                have := sAll _ _ hf4
                rw [hR] at this
                cases this
                exact nr ((((((sA.trans sB).trans sC).trans sD).trans sG)).free nR) e
              have Af : A ≠ f := nr nA
              have Bf : B ≠ f := nr (sA.free nB)
              have Cf : C ≠ f := nr ((sA.trans sB).free nC)
              have Gf : G ≠ f := nr ((((sA.trans sB).trans sC).trans sD).free nG)
              obtain ⟨ys5, ht5, R5, ly5⟩ := ra hF5
              refine ⟨_, rfl, t, _, 0, .str p.wd, rfl, rfl, .inl (.inl ht5), atI_nat (j := 0) rfl, _, rfl, _, rfl, f, c, R, _, rfl, F5, hR, Rf, by show 0 < 5; decide, by show 5 ≤ 1000; decide, fun u H6 hu6 sb6 F6 => ⟨(by show 2 ≤ sizeLine; decide), fun t2 nt2 => ?_⟩⟩
              have st := same_upd (o := .tup [.str p.wd, u]) nt2
              have sbA := (sb04.trans (Sb.of sAll)).trans sb6
              have hF6 := hF5.sb sb6 hf5 nf
              have K6 := kb sbA hF6 (sb6 _ _ (sAll _ _ hL4) Lf)
              have fin : ∀ d6 : Bp, BpAt H6 d6 u → GB (.tup [.fl (.str p.wd), d6]) (6 * gW (n + 1)) (2 * (n + 1) + 2) (n + 1 + 1) → Q (.ref t2) (upd H6 t2 (.tup [.str p.wd, u])) := fun d6 h6 g6 =>
                q (.ref t2) (.tup [.fl (.str p.wd), d6]) _ (sbA.trans (Sb.of st)) (F6.same st) ⟨t2, _, rfl, upd_same, _, _, rfl, ⟨rfl, rfl⟩, _, _, rfl, h6.same st, rfl⟩ g6
              have wrap : ∀ {d6 : Bp} {w6 : Nat}, GB d6 w6 (2 * n + 3) (n + 1) → w6 ≤ 5 * gW (n + 1) → GB (.tup [.fl (.str p.wd), d6]) (6 * gW (n + 1)) (2 * (n + 1) + 2) (n + 1 + 1) := fun {d6 w6} g l =>
                (GB.tup (GBL.cons (gb_w (wdw ok)) (GBL.cons g GBL.nil)) fun x r' h => .inl ⟨_, (List.cons.inj h).1.symm⟩).mono (by omega) (by omega) (by omega)
              simp only [List.mem_cons, List.not_mem_nil, or_false] at hu6
              rcases hu6 with rfl | rfl | rfl | rfl | rfl
              · exact fin (.lst []) ⟨A, [], rfl, sb6 _ _ hA Af, rfl⟩ (wrap (GB.lst GBL.nil) (Nat.zero_le _))
              · have g5 := GBL.app (GBL.app (GBL.app (GBL.app gkl gkl) gkl) gkl) gkl
                have g6 := g5.mono (w' := 15 * (gW n + 1)) (k' := 2 * n + 2) (t' := n + 1) (by omega) (Nat.le_refl _) (Nat.le_refl _)
                have wl : 15 * (gW n + 1) ≤ 5 * gW (n + 1) := by omega
                refine fin (.lst (bpL p.kids ++ (bpL p.kids ++ (bpL p.kids ++ (bpL p.kids ++ bpL p.kids))))) ⟨B, _, rfl, ?_, BpsAt.app (BpsAt.app (BpsAt.app (BpsAt.app K6 K6) K6) K6) K6⟩ (wrap (GB.lst g6) wl)
                rw [sb6 _ _ hB Bf]
                show some (HO.lst (xs ++ (xs ++ (xs ++ (xs ++ (xs ++ [])))))) = _
                rw [List.append_nil]
              · exact fin (.tup (bpL p.kids)) ⟨C, _, rfl, sb6 _ _ hC Cf, K6⟩ ((gb_tt (k := 2 * n + 2) (t := n) (gb_w (wdw ok)) gkt).mono (by omega) (by omega) (by omega))
              · exact fin (.fl .non) ⟨rfl, rfl⟩ (wrap gb_non (Nat.zero_le _))
              · have g5 := GBL.app (GBL.cons (gb_int (i := 5) (by decide)) GBL.nil) gkl
                have g6 := g5.mono (w' := 3 * (gW n + 1) + 200) (k' := 2 * n + 2) (t' := n + 1) (by omega) (Nat.le_refl _) (Nat.le_refl _)
                have wl : 3 * (gW n + 1) + 200 ≤ 5 * gW (n + 1) := by omega
                exact fin (.lst (bpL p.kids ++ [.fl (.int 5)])) ⟨G, _, rfl, sb6 _ _ hG Gf, BpsAt.app (BpsAt.one (d := .fl (.int 5)) (x := .int 5) ⟨rfl, rfl⟩) K6⟩ (wrap (GB.lst g6) wl)
/-! ### things written out: what a text of tuples, lists and names of things makes -/
end
def er (L : List Addr) (H : Hp) : Hp := fun a => if a ∈ L then none else H a
theorem er_sub {L : List Addr} {H : Hp} : Same (er L H) H := fun b o h => by
  unfold er at h
  split at h
  · cases h
  · exact h
theorem er_in {L : List Addr} {H : Hp} {b : Addr} {o : HO} (h : H b = some o) (n : b ∉ L) : er L H b = some o := by
  unfold er
  rw [if_neg n]
  exact h
theorem er_same {L : List Addr} {H H' : Hp} (s : Same H H') : Same (er L H) (er L H') := fun b o h => by
  unfold er at h
  split at h
  · cases h
  · rename_i n
    exact er_in (s _ _ h) n
theorem er_sb {f : Addr} {H H' : Hp} (s : Sb f H H') : Same (er [f] H) (er [f] H') := fun b o h => by
  unfold er at h
  split at h
  · cases h
  · rename_i n
    exact er_in (s _ _ h fun e => n (by rw [e]; exact List.mem_cons_self)) n
theorem er_add {L : List Addr} {H H' : Hp} {r : Addr} (n : H r = none) (s : Same H H') : Same (er L H) (er (r :: L) H') := fun b o h => by
  unfold er at h
  split at h
  · cases h
  · rename_i k
    refine er_in (s _ _ h) fun m => ?_
    rcases List.mem_cons.1 m with rfl | m
    · rw [n] at h
      cases h
    · exact k m
theorem er_put {L : List Addr} {H : Hp} {r : Addr} {o : HO} (m : r ∈ L) : Same (er L H) (er L (upd H r o)) := fun b o h => by
  unfold er at h
  split at h
  · cases h
  · rename_i k
    exact er_in (by rw [upd_ne fun e => k (by rw [e]; exact m)]; exact h) k
theorem er_new {L : List Addr} {H : Hp} {t : Addr} {o : HO} (n : ∀ a ∈ L, H a ≠ none) (nt : H t = none) : er L (upd H t o) t = some o := er_in upd_same fun m => n t m nt
inductive Lit where
  | c (v : V)
  | v (i : Nat)
  | t (ls : List Lit)
  | l (ls : List Lit)
mutual
def Lit.tm : Lit → TE
  | .c v => tC v
  | .v i => tVar i
  | .t ls => tTup (tmL ls)
  | .l ls => tLst (tmL ls)
def tmL : List Lit → TA
  | [] => tNil
  | x :: r => tCons x.tm (tmL r)
end
def eAt (E : List (Option Bp)) (i : Nat) : Bp := ((E[i]?).getD none).getD (.fl .non)
mutual
def Lit.bp (E : List (Option Bp)) : Lit → Bp
  | .c v => .fl v
  | .v i => eAt E i
  | .t ls => .tup (bpLs E ls)
  | .l ls => .lst (bpLs E ls)
def bpLs (E : List (Option Bp)) : List Lit → List Bp
  | [] => []
  | x :: r => x.bp E :: bpLs E r
end
mutual
def Lit.okb (E : List (Option Bp)) : Lit → Bool
  | .c v => okF v
  | .v i => ((E[i]?).getD none).isSome
  | .t ls => decide (ls.length ≤ 100) && okLs E ls
  | .l ls => decide (ls.length ≤ 100) && okLs E ls
def okLs (E : List (Option Bp)) : List Lit → Bool
  | [] => true
  | x :: r => x.okb E && okLs E r
end
def EnvAt (G : Hp) (E : List (Option Bp)) (σ : L2.St) : Prop := ∀ i, ((E[i]?).getD none).isSome = true → ∃ x, σ[i]? = some (some x) ∧ BpAt G (eAt E i) x
theorem env_nil {G : Hp} {σ : L2.St} : EnvAt G [] σ := fun i h => by cases h
theorem env_no {G : Hp} {E : List (Option Bp)} {σ : L2.St} {y : Option V} (h : EnvAt G E σ) : EnvAt G (none :: E) (y :: σ) := fun i k => by
  cases i with
  | zero => cases k
  | succ i => exact h i k
theorem env_at {G : Hp} {E : List (Option Bp)} {σ : L2.St} {d : Bp} {x : V} (hx : BpAt G d x) (h : EnvAt G E σ) : EnvAt G (some d :: E) (some x :: σ) := fun i k => by
  cases i with
  | zero => exact ⟨x, rfl, hx⟩
  | succ i => exact h i k
theorem EnvAt.same {G G' : Hp} {E : List (Option Bp)} {σ : L2.St} (s : Same G G') (h : EnvAt G E σ) : EnvAt G' E σ := fun i k => by
  obtain ⟨x, e, b⟩ := h i k
  exact ⟨x, e, b.same s⟩
mutual
theorem lit_run {L : List Addr} {E : List (Option Bp)} {σ : L2.St} : ∀ (e : Lit) {H : Hp} {Q : VK}, e.okb E = true → EnvAt (er L H) E σ → (∀ a ∈ L, H a ≠ none) → (∀ u H', Same H H' → Same (er L H) (er L H') → BpAt (er L H') (e.bp E) u → Q u H') → e.tm σ H Q
  | .c v, H, Q, o, N, n, q => q v H (Same.refl _) (Same.refl _) ⟨rfl, o⟩
  | .v i, H, Q, o, N, n, q => by
    obtain ⟨x, e, b⟩ := N i o
    exact ⟨x, e, q x H (Same.refl _) (Same.refl _) b⟩
  | .t ls, H, Q, o, N, n, q => by
    have o : (decide (ls.length ≤ 100) && okLs E ls) = true := o
    rw [Bool.and_eq_true, decide_eq_true_iff] at o
    refine lits_run ls o.2 N n fun us H1 s1 r1 B lu => ⟨fit5 (by rw [lu]; exact o.1), fun t nt => ?_⟩
    have st := same_upd (o := .tup us) nt
    have n1 : ∀ a ∈ L, H1 a ≠ none := fun a m e => n a m (s1.free e)
    exact q (.ref t) _ (s1.trans st) (r1.trans (er_same st)) ⟨t, us, rfl, er_new n1 nt, B.same (er_same st)⟩
  | .l ls, H, Q, o, N, n, q => by
    have o : (decide (ls.length ≤ 100) && okLs E ls) = true := o
    rw [Bool.and_eq_true, decide_eq_true_iff] at o
    refine lits_run ls o.2 N n fun us H1 s1 r1 B lu => ⟨fit5 (by rw [lu]; exact o.1), fun t nt => ?_⟩
    have st := same_upd (o := .lst us) nt
    have n1 : ∀ a ∈ L, H1 a ≠ none := fun a m e => n a m (s1.free e)
    exact q (.ref t) _ (s1.trans st) (r1.trans (er_same st)) ⟨t, us, rfl, er_new n1 nt, B.same (er_same st)⟩
theorem lits_run {L : List Addr} {E : List (Option Bp)} {σ : L2.St} : ∀ (ls : List Lit) {H : Hp} {Q : List V → Hp → Prop}, okLs E ls = true → EnvAt (er L H) E σ → (∀ a ∈ L, H a ≠ none) → (∀ us H', Same H H' → Same (er L H) (er L H') → BpsAt (er L H') (bpLs E ls) us → us.length = ls.length → Q us H') → tmL ls σ H Q
  | [], H, Q, o, N, n, q => q [] H (Same.refl _) (Same.refl _) rfl rfl
  | e :: r, H, Q, o, N, n, q => by
    have o : (e.okb E && okLs E r) = true := o
    rw [Bool.and_eq_true] at o
    refine lit_run e o.1 N n fun u H1 s1 r1 b1 => ?_
    refine lits_run r o.2 (N.same r1) (fun a m k => n a m (s1.free k)) fun us H2 s2 r2 b2 lu => ?_
    exact q (u :: us) H2 (s1.trans s2) (r1.trans r2) ⟨u, us, rfl, b1.same r2, b2⟩ (by rw [List.length_cons, List.length_cons, lu])
end
theorem bpls_len {E : List (Option Bp)} : ∀ {ls : List Lit}, (bpLs E ls).length = ls.length
  | [] => rfl
  | _ :: r => congrArg (· + 1) (bpls_len (ls := r))
theorem lit_go (L : List Addr) (E : List (Option Bp)) (e : Lit) {te : TE} {σ : L2.St} {H : Hp} {Q : VK} (he : te = e.tm) (o : e.okb E = true) (N : EnvAt (er L H) E σ) (n : ∀ a ∈ L, H a ≠ none) (q : ∀ u H', Same H H' → Same (er L H) (er L H') → BpAt (er L H') (e.bp E) u → Q u H') : te σ H Q := by
  rw [he]
  exact lit_run e o N n q
theorem lit_seq (L : List Addr) (E : List (Option Bp)) (e : Lit) {te : TE} {i : Nat} {u : TS} {D : Ends} {σ : L2.St} {H : Hp} (he : te = e.tm) (o : e.okb E = true) (N : EnvAt (er L H) E σ) (n : ∀ a ∈ L, H a ≠ none)
    (q : ∀ x H', Same H H' → Same (er L H) (er L H') → BpAt (er L H') (e.bp E) x → u D (σ.set i (some x)) H') : tSeq (tAsg te (gName i)) u D σ H := lit_go L E e (Q := fun x H1 => gName i x σ H1 (u D)) he o N n q
theorem lit_opA (L : List Addr) (E : List (Option Bp)) (e : Lit) {te tb : TE} {r : R2} {g : TG} {D : Ends} {σ : L2.St} {H : Hp} (he : te = e.tm) (o : e.okb E = true) (N : EnvAt (er L H) E σ) (n : ∀ a ∈ L, H a ≠ none)
    (q : ∀ x H', Same H H' → Same (er L H) (er L H') → BpAt (er L H') (e.bp E) x → tb σ H' fun y H2 => r x y H2 fun z H3 => g z σ H3 D.nx) : tAsg (tOp r te tb) g D σ H := lit_go L E e (Q := fun x H' => tb σ H' fun y H2 => r x y H2 fun z H3 => g z σ H3 D.nx) he o N n q
theorem lit_cat (L : List Addr) (E : List (Option Bp)) (ls : List Lit) {te : TE} {i j : Nat} {u : TS} {D : Ends} {σ : L2.St} {H : Hp} {l : Addr} {xs : List V} (hv : σ[i]? = some (some (.ref l))) (hl : H l = some (.lst xs)) (hz : xs.length + ls.length ≤ 100) (he : te = (Lit.l ls).tm) (o : (Lit.l ls).okb E = true) (N : EnvAt (er L H) E σ) (n : ∀ a ∈ L, H a ≠ none)
    (q : ∀ p H1 H' us, Same H H1 → Same (er L H) (er L H1) → H1 p = none → Same H1 H' → BpsAt (er L H1) (bpLs E ls) us → us.length = ls.length → H' p = some (.lst (xs ++ us)) → u D (σ.set j (some (.ref p))) H') : tSeq (tAsg (tOp rCat (tVar i) te) (gName j)) u D σ H := by
  refine ⟨_, hv, lit_go L E (.l ls) (Q := fun y H2 => rCat (.ref l) y H2 fun z H3 => gName j z σ H3 (u D)) he o N n fun x H1 s1 r1 b1 => ?_⟩
  obtain ⟨b, us, rfl, hb, B⟩ := b1
  have hus : us.length = ls.length := by
    rw [B.len]
    exact bpls_len
  refine ⟨l, b, xs, us, rfl, rfl, s1 _ _ hl, er_sub _ _ hb, fit5 (by omega), fun p np => ?_⟩
  have sp := same_upd (o := .lst (xs ++ us)) np
  exact q p H1 _ us s1 r1 np sp B hus upd_same
theorem lits_go (L : List Addr) (E : List (Option Bp)) (ls : List Lit) {t : TA} {σ : L2.St} {H : Hp} {Q : List V → Hp → Prop} (he : t = tmL ls) (o : okLs E ls = true) (N : EnvAt (er L H) E σ) (n : ∀ a ∈ L, H a ≠ none)
    (q : ∀ us H', Same H H' → Same (er L H) (er L H') → BpsAt (er L H') (bpLs E ls) us → us.length = ls.length → Q us H') : t σ H Q := by
  rw [he]
  exact lits_run ls o N n q
theorem er_sbto {L : List Addr} {f : Addr} {H H' : Hp} (m : f ∈ L) (s : Sb f H H') : Same (er L H) H' := fun b o h => by
  unfold er at h
  split at h
  · cases h
  · rename_i n
    exact s _ _ h fun e => n (by rw [e]; exact m)
theorem bps_mem {H : Hp} : ∀ {ds : List Bp} {xs : List V} {x : V}, BpsAt H ds xs → x ∈ xs → ∃ d ∈ ds, BpAt H d x
  | [], xs, x, h, m => by
    have h : xs = [] := h
    rw [h] at m
    cases m
  | d :: r, xs, x, ⟨y, ys, e, hx, hr⟩, m => by
    rw [e] at m
    rcases List.mem_cons.1 m with rfl | m
    · exact ⟨d, List.mem_cons_self, hx⟩
    · obtain ⟨d', m', h'⟩ := bps_mem hr m
      exact ⟨d', List.mem_cons_of_mem _ m', h'⟩
theorem GBL.two {d : Bp} {r : List Bp} {a b k t k' t' : Nat} (g : GB d a k t) (h : GBL r b k' t') : GBL (d :: r) (a + 1 + b) (max k k') (max t t') :=
  GBL.cons (g.mono (Nat.le_refl _) (Nat.le_max_left _ _) (Nat.le_max_left _ _)) (h.mono (Nat.le_refl _) (Nat.le_max_right _ _) (Nat.le_max_right _ _))
/-- a word and its list -/
theorem gb_th {z : Str} {ds : List Bp} {w k t : Nat} (hz : z = "ours" ∨ z = "weather" ∨ z = "within" ∨ manyW z) (g : GBL ds w k t) : GB (.tup [.fl (.str z), .lst ds]) (12 + w) (k + 2) (t + 1) :=
  (GB.tup (GBL.cons (gb_w hz) (GBL.cons (GB.lst g) GBL.nil)) fun x r h => .inl ⟨_, (List.cons.inj h).1.symm⟩).mono (by omega) (by omega) (by omega)
theorem gb_wn {d : Bp} {w k t : Nat} (g : GB d w k t) : GB (.tup [.fl (.str "within"), .fl (.int 9), d]) (130 + w) (k + 2) (t + 1) :=
  (GB.tup (GBL.cons (gb_w (.inr (.inr (.inl rfl)))) (GBL.cons (gb_int (i := 9) (by decide)) (GBL.cons g GBL.nil))) fun x r h => .inl ⟨_, (List.cons.inj h).1.symm⟩).mono (by omega) (by omega) (by omega)
def thB (z : Str) (ds : List Bp) : Bp := .tup [.fl (.str z), .lst ds]
def eOne : Bp := .tup [.fl (.str "ours"), .fl (.int 1), .fl (.int 2)]
def eTwo : Bp := thB "either" [eOne, eOne]
def eThree : Bp := thB "either" [eOne, eOne, eOne]
def eFour : Bp := thB "beside" [eOne, eOne, eOne, eOne]
theorem hzT : (("then" : Str) = "ours") ∨ (("then" : Str) = "weather") ∨ (("then" : Str) = "within") ∨ manyW "then" := .inr (.inr (.inr (by simp [manyW])))
theorem hzB : (("beside" : Str) = "ours") ∨ (("beside" : Str) = "weather") ∨ (("beside" : Str) = "within") ∨ manyW "beside" := .inr (.inr (.inr (by simp [manyW])))
theorem hzE : (("either" : Str) = "ours") ∨ (("either" : Str) = "weather") ∨ (("either" : Str) = "within") ∨ manyW "either" := .inr (.inr (.inr (by simp [manyW])))
theorem gb_one : GB eOne 250 1 1 :=
  (GB.tup (GBL.cons (k := 0) (t := 0) (gb_w (.inl rfl)) (GBL.cons (gb_int (i := 1) (by decide)) (GBL.cons (gb_int (i := 2) (by decide)) GBL.nil))) fun x r h => .inl ⟨_, (List.cons.inj h).1.symm⟩).mono (by omega) (by omega) (by omega)
theorem gb_two : GB eTwo 600 3 2 := (gb_th hzE (GBL.two gb_one (GBL.two gb_one (GBL.nil (k := 0) (t := 0))))).mono (by decide) (by decide) (by decide)
theorem gb_three : GB eThree 800 3 2 := (gb_th hzE (GBL.two gb_one (GBL.two gb_one (GBL.two gb_one (GBL.nil (k := 0) (t := 0)))))).mono (by decide) (by decide) (by decide)
theorem gb_four : GB eFour 1100 3 2 := (gb_th hzB (GBL.two gb_one (GBL.two gb_one (GBL.two gb_one (GBL.two gb_one (GBL.nil (k := 0) (t := 0))))))).mono (by decide) (by decide) (by decide)
def eR1 : Bp := thB "then" [eFour, eFour, eFour]
def eR2 : Bp := thB "then" [eFour, eFour, eFour, eOne]
def eR3 : Bp := thB "then" [thB "then" [eTwo, eTwo, eTwo], thB "then" [eTwo, eTwo, eTwo]]
def eR4 : Bp := thB "either" [eR3, eOne]
def eR5 : Bp := thB "beside" [eThree, eThree, eThree, eThree]
theorem gb_R1 : GB eR1 9000 7 5 := (gb_th hzT (GBL.two gb_four (GBL.two gb_four (GBL.two gb_four (GBL.nil (k := 0) (t := 0)))))).mono (by decide) (by decide) (by decide)
theorem gb_R2 : GB eR2 9000 7 5 := (gb_th hzT (GBL.two gb_four (GBL.two gb_four (GBL.two gb_four (GBL.two gb_one (GBL.nil (k := 0) (t := 0))))))).mono (by decide) (by decide) (by decide)
theorem gb_t2 : GB (thB "then" [eTwo, eTwo, eTwo]) 2000 5 3 := (gb_th hzT (GBL.two gb_two (GBL.two gb_two (GBL.two gb_two (GBL.nil (k := 0) (t := 0)))))).mono (by decide) (by decide) (by decide)
theorem gb_R3 : GB eR3 9000 7 5 := (gb_th hzT (GBL.two gb_t2 (GBL.two gb_t2 (GBL.nil (k := 0) (t := 0))))).mono (by decide) (by decide) (by decide)
theorem gb_R4 : GB eR4 20000 9 6 := (gb_th hzE (GBL.two gb_R3 (GBL.two gb_one (GBL.nil (k := 0) (t := 0))))).mono (by decide) (by decide) (by decide)
theorem gb_R5 : GB eR5 20000 9 6 := (gb_th hzB (GBL.two gb_three (GBL.two gb_three (GBL.two gb_three (GBL.two gb_three (GBL.nil (k := 0) (t := 0))))))).mono (by decide) (by decide) (by decide)
theorem gb_e0 : GB (.tup []) 0 1 1 := (GB.tup (GBL.nil (k := 0) (t := 0)) fun x r h => nomatch h)
section
variable {P : Program} {w : World} {K : PySem.W.Frag} {mg : Str → Option Value} {base : Heap}
/-! ### plans at the edge -/
def sp_edge : Sp := fun vs H Q _ => ∃ (f c : Addr), vs = [.ref f] ∧ Flow H f c ∧ ∀ (u : V) (d : Bp) (H' : Hp), Sb f H H' → Flow H' f c → BpAt H' d u → GB d 100000 20 9 → Q u H'
theorem cal_edge (T : Tp K mg) : Cal P w K mg base 5 "_law_edge_plan" sp_edge := by
  obtain ⟨fd, F⟩ := f__law_edge_plan T
  refine cal_of F (g__law_edge_plan T) (b__law_edge_plan F) sc__law_edge_plan (fun vs H Q E h => ?_) (fun cdv A outer s H vs Q E hr h => ?_)
  · obtain ⟨f, c, rfl, _⟩ := h
    rfl
  · obtain ⟨f, c, rfl, FL, q⟩ := h
    refine ⟨_, (pss_cons (ps_set (i := 1) sc__law_edge_plan.nd rfl (.inl rfl) (pe_tup (pa_cons pe_str (pa_cons pe_int (pa_cons pe_int pa_nil)))))
      (pss_cons (ps_set (i := 2) sc__law_edge_plan.nd rfl (.inl rfl) (pe_tup (pa_cons pe_str (pa_cons (pe_lst (pa_cons (pv 1) (pa_cons (pv 1) pa_nil))) pa_nil))))
      (pss_cons (ps_set (i := 3) sc__law_edge_plan.nd rfl (.inl rfl) (pv 1))
      (pss_cons (ps_for PassesOwn.never rfl (pi_range1 rfl (z_range T) (pa_cons (pe_op op_add pe_int (C8.pe_c (cal__law_draw T) hr (by decide) rfl (pa_cons (pv 0) (pa_cons pe_int pa_nil)))) pa_nil)) (pg_name (i := 4) sc__law_edge_plan.nd rfl (.inl rfl))
        (pss_one (ps_set (i := 3) sc__law_edge_plan.nd rfl (.inl rfl) (pe_ix ix_list (pe_lst (pa_cons (pe_tup (pa_cons pe_str (pa_cons (pe_lst (pa_cons (pv 3) pa_nil)) pa_nil))) (pa_cons (pe_tup (pa_cons pe_str (pa_cons pe_int (pa_cons (pv 3) pa_nil)))) pa_nil))) (C8.pe_c (cal__law_draw T) hr (by decide) rfl (pa_cons (pv 0) (pa_cons pe_int pa_nil))) (fun _ _ => rfl)))))
      (pss_cons (ps_set (i := 5) sc__law_edge_plan.nd rfl (.inl rfl) (pe_tup (pa_cons pe_str (pa_cons (pe_lst (pa_cons (pv 1) (pa_cons (pv 1) (pa_cons (pv 1) (pa_cons (pv 1) pa_nil))))) pa_nil))))
      (pss_cons (ps_set (i := 6) sc__law_edge_plan.nd rfl (.inl rfl) (pe_lst (pa_cons (pv 3) (pa_cons (pe_tup (pa_cons pe_str (pa_cons (pe_lst (pa_cons (pv 5) (pa_cons (pv 5) (pa_cons (pv 5) pa_nil)))) pa_nil))) (pa_cons (pe_tup (pa_cons pe_str (pa_cons (pe_lst (pa_cons (pv 5) (pa_cons (pv 5) (pa_cons (pv 5) (pa_cons (pv 1) pa_nil))))) pa_nil))) pa_nil)))))
      (pss_cons (ps_set (i := 6) sc__law_edge_plan.nd rfl (.inl rfl) (pe_op op_cat (pv 6) (pe_lst (pa_cons (pe_tup (pa_cons pe_str (pa_cons (pe_lst (pa_cons (pe_tup (pa_cons pe_str (pa_cons (pe_lst (pa_cons (pv 2) (pa_cons (pv 2) (pa_cons (pv 2) pa_nil)))) pa_nil))) (pa_cons (pe_tup (pa_cons pe_str (pa_cons (pe_lst (pa_cons (pv 2) (pa_cons (pv 2) (pa_cons (pv 2) pa_nil)))) pa_nil))) pa_nil))) pa_nil))) pa_nil))))
      (pss_cons (ps_set (i := 6) sc__law_edge_plan.nd rfl (.inl rfl) (pe_op op_cat (pv 6) (pe_lst (pa_cons (pe_tup (pa_cons pe_str (pa_cons (pe_lst (pa_cons (pe_tup (pa_cons pe_str (pa_cons (pe_lst (pa_cons (pe_tup (pa_cons pe_str (pa_cons (pe_lst (pa_cons (pv 2) (pa_cons (pv 2) (pa_cons (pv 2) pa_nil)))) pa_nil))) (pa_cons (pe_tup (pa_cons pe_str (pa_cons (pe_lst (pa_cons (pv 2) (pa_cons (pv 2) (pa_cons (pv 2) pa_nil)))) pa_nil))) pa_nil))) pa_nil))) (pa_cons (pv 1) pa_nil))) pa_nil))) pa_nil))))
      (pss_cons (ps_set (i := 7) sc__law_edge_plan.nd rfl (.inl rfl) (pe_tup (pa_cons pe_str (pa_cons (pe_lst (pa_cons (pv 1) (pa_cons (pv 1) (pa_cons (pv 1) pa_nil)))) pa_nil))))
      (pss_cons (ps_expr (pe_bm PySem.F.plainAttrs_list PySem.F.slot_list_append PySem.F.type_list_append mt_append (pv 6) (pa_cons (pe_tup (pa_cons pe_str (pa_cons (pe_lst (pa_cons (pv 7) (pa_cons (pv 7) (pa_cons (pv 7) (pa_cons (pv 7) pa_nil))))) pa_nil))) pa_nil)))
      (pss_one (ps_ret (C8.pe_c (cal__law_pick T) hr (by decide) rfl (pa_cons (pv 0) (pa_cons (pe_op op_cat (pv 6) (pe_lst (pa_cons pe_non (pa_cons pe_int (pa_cons pe_str (pa_cons (pe_lst (pa_cons (pv 1) pa_nil)) (pa_cons (pe_tup pa_nil) (pa_cons (pe_tup (pa_cons (pe_tup pa_nil) pa_nil)) pa_nil)))))))) pa_nil))))))))))))))), ?_⟩
    obtain ⟨zs, hf⟩ := FL.lst
    have nf : ∀ {H' : Hp}, Flow H' f c → ∀ a ∈ [f], H' a ≠ none := fun {H'} F' a m e => by
      obtain ⟨zs', h'⟩ := F'.lst
      rw [List.mem_singleton.1 m, h'] at e
      cases e
    refine lit_seq [f] [] (.t [.c (.str "ours"), .c (.int 1), .c (.int 2)]) rfl rfl env_nil (nf FL) fun u1 H1 s1 r1 b1 => ?_
    have b1 : BpAt (er [f] H1) eOne u1 := b1
    have F1 := FL.same s1
    refine lit_seq [f] [none, some eOne] (.t [.c (.str "either"), .l [.v 1, .v 1]]) rfl rfl (env_no (env_at b1 env_nil)) (nf F1) fun u2 H2 s2 r2 b2 => ?_
    have b2 : BpAt (er [f] H2) eTwo u2 := b2
    have b1 := b1.same r2
    have F2 := F1.same s2
    refine ⟨_, rfl, _, rfl, f, c, 4, rfl, F2, by decide, by decide, fun v H3 v0 v1 sb3 F3 => ⟨_, _, rfl, rfl, _, rfl, by omega, by omega, ?_⟩⟩
    have b1 := b1.same (er_sb sb3)
    have b2 := b2.same (er_sb sb3)
    have sb03 := (Sb.of (s1.trans s2)).trans sb3
    refine for_range (lo := 0) (n := Int.toNat (4 + v)) (fun i σ H' => ∃ (y3 : V) (y4 : Option V) (d : Bp), σ = [some (.ref f), some u1, some u2, some y3, y4, none, none, none] ∧ Sb f H H' ∧ Flow H' f c ∧ BpAt (er [f] H') eOne u1 ∧ BpAt (er [f] H') eTwo u2 ∧ BpAt (er [f] H') d y3 ∧ GB d (250 + 150 * i) (1 + 2 * i) (1 + i)) ⟨u1, none, eOne, rfl, sb03, F3, b1, b2, b1, gb_one⟩ ?_ ?_
    · rintro i σ H4 li ⟨y3, y4, d, rfl, sb4, F4, b1, b2, b3, g3⟩
      refine lit_opA [f] [none, none, none, some d] (.l [.t [.c (.str "then"), .l [.v 3]], .t [.c (.str "within"), .c (.int 9), .v 3]]) rfl rfl (env_no (env_no (env_no (env_at b3 env_nil)))) (nf F4) fun u5 H5 s5 r5 b5 => ?_
      obtain ⟨l, xs, rfl, hl, x1, ys, rfl, b6, x2, zs2, rfl, b7, rfl⟩ := b5
      have F5 := F4.same s5
      refine ⟨_, rfl, f, c, 2, rfl, F5, by decide, by decide, fun k H6 k0 k1 sb6 F6 => ?_⟩
      have r6 := r5.trans (er_sb sb6)
      have hl6 : H6 l = some (.lst [x1, x2]) := er_sub _ _ (er_sb sb6 _ _ hl)
      have b1 := b1.same r6
      have b2 := b2.same r6
      have b6 := b6.same (er_sb sb6)
      have b7 := b7.same (er_sb sb6)
      have sb06 := (sb4.trans (Sb.of s5)).trans sb6
      have b6 : BpAt (er [f] H6) (thB "then" [d]) x1 := b6
      have b7 : BpAt (er [f] H6) (.tup [.fl (.str "within"), .fl (.int 9), d]) x2 := b7
      have ck : k = 0 ∨ k = 1 := by omega
      rcases ck with rfl | rfl
      · refine ⟨l, _, 0, x1, rfl, rfl, .inl (.inl hl6), atI_nat (j := 0) rfl, x1, _, _, rfl, sb06, F6, b1, b2, b6, ?_⟩
        exact (gb_th hzT (GBL.cons g3 GBL.nil)).mono (by omega) (by omega) (by omega)
      · refine ⟨l, _, 1, x2, rfl, rfl, .inl (.inl hl6), atI_nat (j := 1) rfl, x2, _, _, rfl, sb06, F6, b1, b2, b7, ?_⟩
        exact (gb_wn g3).mono (by omega) (by omega) (by omega)
    · rintro σ H4 ⟨y3, y4, d, rfl, sb4, F4, b1, b2, b3, g3⟩
      have gd : GB d 100000 20 9 := g3.mono (by omega) (by omega) (by omega)
      refine lit_seq [f] [none, some eOne] (.t [.c (.str "beside"), .l [.v 1, .v 1, .v 1, .v 1]]) rfl rfl (env_no (env_at b1 env_nil)) (nf F4) fun u5 H5 s5 r5 b5 => ?_
      have b5 : BpAt (er [f] H5) eFour u5 := b5
      have b1 := b1.same r5
      have b2 := b2.same r5
      have b3 := b3.same r5
      have F5 := F4.same s5
      refine lit_seq [f] [none, some eOne, some eTwo, some d, none, some eFour] (.l [.v 3, .t [.c (.str "then"), .l [.v 5, .v 5, .v 5]], .t [.c (.str "then"), .l [.v 5, .v 5, .v 5, .v 1]]]) rfl rfl (env_no (env_at b1 (env_at b2 (env_at b3 (env_no (env_at b5 env_nil)))))) (nf F5) fun u6 H6 s6 r6 b6 => ?_
      obtain ⟨l6, xs6, rfl, hl6, B6⟩ := b6
      have F6 := F5.same s6
      have hl6 : H6 l6 = some (.lst xs6) := er_sub _ _ hl6
      have b1 := b1.same r6
      have b2 := b2.same r6
      have l6n : xs6.length = 3 := B6.len
      have B6 : BpsAt (er [f] H6) [d, eR1, eR2] xs6 := B6
      refine lit_cat [f] [none, some eOne, some eTwo] [.t [.c (.str "then"), .l [.t [.c (.str "then"), .l [.v 2, .v 2, .v 2]], .t [.c (.str "then"), .l [.v 2, .v 2, .v 2]]]]] rfl hl6 (by rw [l6n]; decide) rfl rfl (env_no (env_at b1 (env_at b2 env_nil))) (nf F6) fun p7 H6' H7 us7 s6' r6' n7 s7' B7 l7n hl7 => ?_
      have s7 := s6'.trans s7'
      have r7 : Same (er [f] H6) (er [f] H7) := r6'.trans (er_same s7')
      have B7 : BpsAt (er [f] H7) [eR3] us7 := B7.same (er_same s7')
      have B67 := BpsAt.app B7 (B6.same r7)
      have b1 := b1.same r7
      have b2 := b2.same r7
      have F7 := F6.same s7
      have l67 : (xs6 ++ us7).length = 4 := by rw [List.length_append, l6n, l7n]; rfl
      refine lit_cat [f] [none, some eOne, some eTwo] [.t [.c (.str "either"), .l [.t [.c (.str "then"), .l [.t [.c (.str "then"), .l [.v 2, .v 2, .v 2]], .t [.c (.str "then"), .l [.v 2, .v 2, .v 2]]]], .v 1]]] rfl hl7 (by rw [l67]; decide) rfl rfl (env_no (env_at b1 (env_at b2 env_nil))) (nf F7) fun R H8 H9 us8 s8 r8 nR s9 B8 l8n hR9 => ?_
      have B8 : BpsAt (er [f] H8) [eR4] us8 := B8
      have B68 := BpsAt.app B8 (B67.same r8)
      have b1 := b1.same r8
      have F8 := F7.same s8
      have F9 := F8.same s9
      have l68 : ((xs6 ++ us7) ++ us8).length = 5 := by rw [List.length_append, l67, l8n]; rfl
      generalize (xs6 ++ us7) ++ us8 = xs8 at B68 hR9 l68
      have r9 : Same (er [f] H8) (er [R, f] H9) := er_add nR s9
      have b1 := b1.same r9
      have B68 := B68.same r9
      have nRf : ∀ {H' : Hp} {x : List V}, Flow H' f c → H' R = some (.lst x) → ∀ a ∈ [R, f], H' a ≠ none := fun {H' x} F' h' a m => by
        rcases List.mem_cons.1 m with rfl | m
        · rw [h']
          exact fun e => nomatch e
        · exact nf F' a m
      refine lit_seq [R, f] [none, some eOne] (.t [.c (.str "either"), .l [.v 1, .v 1, .v 1]]) rfl rfl (env_no (env_at b1 env_nil)) (nRf F9 hR9) fun u9 H10 s10 r10 b9 => ?_
      have b9 : BpAt (er [R, f] H10) eThree u9 := b9
      have b1 := b1.same r10
      have B68 := B68.same r10
      have F10 := F9.same s10
      have hR10 := s10 _ _ hR9
      refine ⟨_, rfl, .inl ⟨rfl, _, .inl (.inl hR10)⟩, lits_go [R, f] [none, none, none, none, none, none, none, some eThree] [.t [.c (.str "beside"), .l [.v 7, .v 7, .v 7, .v 7]]] rfl rfl (env_no (env_no (env_no (env_no (env_no (env_no (env_no (env_at b9 env_nil)))))))) (nRf F10 hR10) fun us11 H11 s11 r11 B11 l11n => ?_⟩
      obtain ⟨x11, ys11, rfl, b11, rfl⟩ := B11
      have hR11 := s11 _ _ hR10
      have s811 := (s9.trans s10).trans s11
      have F12 := F8.same (same_put (o := .lst (xs8 ++ [x11])) s811 nR)
      have r12 := er_put (L := [R, f]) (H := H11) (o := .lst (xs8 ++ [x11])) List.mem_cons_self
      have b1 := b1.same (r11.trans r12)
      have B68 := BpsAt.app (BpsAt.one (d := eR5) (b11.same r12)) (B68.same (r11.trans r12))
      have sb12 := ((((sb4.trans (Sb.of s5)).trans (Sb.of s6)).trans (Sb.of s7)).trans (Sb.of s8)).trans (Sb.of (same_put (o := .lst (xs8 ++ [x11])) s811 nR))
      refine ⟨R, _, _, rfl, rfl, hR11, by rw [l68]; decide, ?_⟩
      have hR12 := upd_same (H := H11) (a := R) (o := .lst (xs8 ++ [x11]))
      generalize upd H11 R (.lst (xs8 ++ [x11])) = H12 at F12 b1 B68 sb12 hR12 ⊢
      have lx8 : (xs8 ++ [x11]).length = 6 := by rw [List.length_append, l68]; rfl
      generalize xs8 ++ [x11] = xs9 at B68 hR12 lx8
      refine ⟨_, rfl, _, rfl, lit_go [R, f] [none, some eOne] (.l [.c .non, .c (.int 5), .c (.str "ours 1 2"), .l [.v 1], .t [], .t [.t []]]) rfl rfl (env_no (env_at b1 env_nil)) (nRf F12 hR12) fun u13 H13 s13 r13 b13 => ?_⟩
      obtain ⟨l13, us13, rfl, hl13, B13⟩ := b13
      have B13 : BpsAt (er [R, f] H13) [.fl .non, .fl (.int 5), .fl (.str "ours 1 2"), .lst [eOne], .tup [], .tup [.tup []]] us13 := B13
      have l13n : us13.length = 6 := B13.len
      have BA := BpsAt.app B13 (B68.same r13)
      have F13 := F12.same s13
      obtain ⟨zs13, hf13⟩ := F13.lst
      refine ⟨R, l13, _, _, rfl, rfl, s13 _ _ hR12, er_sub _ _ hl13, fit5 (by omega), fun p np => ⟨f, c, p, _, rfl, F13.same (same_upd np), upd_same, (ne_of_none hf13 np).symm, by rw [List.length_append]; omega, by rw [List.length_append]; omega, fun u H' hu sb' F' => ?_⟩⟩
      have sp := same_upd (o := .lst (xs9 ++ us13)) np
      obtain ⟨d', md, hd'⟩ := bps_mem BA hu
      have sbp := (Sb.of sp).trans sb'
      refine q u d' H' ((sb12.trans (Sb.of s13)).trans sbp) F' (hd'.same (er_sbto (by simp) sbp)) ?_
      simp only [List.cons_append, List.nil_append, List.mem_cons, List.not_mem_nil, or_false] at md
      rcases md with rfl | rfl | rfl | rfl | rfl | rfl | rfl | rfl | rfl | rfl | rfl | rfl
      · exact gd
      · exact gb_R1.mono (by decide) (by decide) (by decide)
      · exact gb_R2.mono (by decide) (by decide) (by decide)
      · exact gb_R3.mono (by decide) (by decide) (by decide)
      · exact gb_R4.mono (by decide) (by decide) (by decide)
      · exact gb_R5.mono (by decide) (by decide) (by decide)
      · exact (gb_non (k := 0) (t := 0)).mono (by decide) (by decide) (by decide)
      · exact (gb_int (i := 5) (k := 0) (t := 0) (by decide)).mono (by decide) (by decide) (by decide)
      · exact (gb_str (k := 0) (t := 0) (by decide +kernel)).mono (by decide) (by decide) (by decide)
      · exact (GB.lst (GBL.cons gb_one (GBL.nil (k := 1) (t := 1)))).mono (by decide) (by decide) (by decide)
      · exact gb_e0.mono (by decide) (by decide) (by decide)
      · exact (GB.tup (GBL.cons gb_e0 GBL.nil) fun x r h => .inr (List.cons.inj h).1.symm).mono (by decide) (by decide) (by decide)
end
end Tw

set_option maxHeartbeats 4000000
namespace Tw
open PySem PySem.Spec PyProof.Rows L2
open LamX (ExtN Tabs)
abbrev qlam : Str := ("law" : Str) ++ ".<locals>." ++ "<lambda>"
theorem tabs_new {P : Addr} {q : Str} {H : Hp} (h : H P = some (.tbl #[])) : Tabs [(P, q)] H := fun p hp => by
  have e := List.mem_singleton.mp hp
  subst e
  exact ⟨#[], h, True.intro, fun pos cv hc => nomatch hc⟩
theorem tabs_same {T : List (Addr × Str)} {H H' : Hp} (h : Tabs T H) (s : Same H H') : Tabs T H' := fun p hp => (h p hp).ext s
theorem tabs_sb {T : List (Addr × Str)} {H H' : Hp} {f : Addr} {xs : List V} (h : Tabs T H) (s : Sb f H H') (hf : H f = some (.lst xs)) : Tabs T H' := fun p hp => by
  obtain ⟨ps, h1, h2, h3⟩ := h p hp
  refine ⟨ps, s _ _ h1 (fun z => by rw [z, hf] at h1; cases h1), h2, fun pos cv hc => ?_⟩
  obtain ⟨c, e1, e2⟩ := h3 pos cv hc
  exact ⟨c, e1, s _ _ e2 (fun z => by rw [z, hf] at e2; cases e2)⟩
theorem Flow.ext {H H' : Hp} {f c : Addr} (h : Flow H f c) (e : ExtN H H') : Flow H' f c := by
  obtain ⟨ns, i, r, st, e1, e2, e3⟩ := h.ex
  exact ⟨ns, i, r, st, e _ _ e1 (fun ps z => by cases z), e _ _ e2 (fun ps z => by cases z), e3⟩
theorem iteFd {c : Bool} (e : c = false) {A B : Prop} (h : B) : if c = true then A else B := by
  rw [e]
  exact iteF h
theorem extn_put {H H' : Hp} {l : Addr} {o : HO} (s : ExtN H H') (n : H l = none) : ExtN H (upd H' l o) := fun b x h k => by
  rw [upd_ne fun z => by rw [z, n] at h; cases h]
  exact s b x h k
mutual
theorem BpAt.ext {H H' : Hp} (s : ExtN H H') : ∀ {d : Bp} {v : V}, BpAt H d v → BpAt H' d v
  | .fl _, _, h => h
  | .tup _, _, h => by
    obtain ⟨t, xs, h1, h2, h3⟩ := h
    exact ⟨t, xs, h1, s _ _ h2 (fun _ z => nomatch z), BpsAt.ext s h3⟩
  | .lst _, _, h => by
    obtain ⟨t, xs, h1, h2, h3⟩ := h
    exact ⟨t, xs, h1, s _ _ h2 (fun _ z => nomatch z), BpsAt.ext s h3⟩
theorem BpsAt.ext {H H' : Hp} (s : ExtN H H') : ∀ {ds : List Bp} {xs : List V}, BpsAt H ds xs → BpsAt H' ds xs
  | [], _, h => h
  | _ :: _, _, h => by
    obtain ⟨x, ys, h1, h2, h3⟩ := h
    exact ⟨x, ys, h1, BpAt.ext s h2, BpsAt.ext s h3⟩
end
mutual
theorem wi_mono {ws : List Str} {a b : Int} (h : a ≤ b) : ∀ {p : Pl}, p.wi ws a → p.wi ws b
  | .ours lo _, w => by
    have w : lo ≤ 2 * a := w
    show lo ≤ 2 * b
    omega
  | .wthr _ hi _, w => by
    have w : hi ≤ 2 * a := w
    show hi ≤ 2 * b
    omega
  | .wthn _ p, w => wi_mono h (p := p) w
  | .many _ ps, w => ⟨w.1, w.2.1, wiL_mono h w.2.2⟩
theorem wiL_mono {ws : List Str} {a b : Int} (h : a ≤ b) : ∀ {ps : List Pl}, wiL ws a ps → wiL ws b ps
  | [], w => w
  | _ :: _, w => ⟨wi_mono h w.1, wiL_mono h w.2⟩
end
abbrev wd49 : List Str := ["then", "beside", "within", "either"]
theorem wd49_ok : WdsOk wd49 := by
  refine ⟨by decide, by decide, fun z hz => ?_⟩
  simp only [wd49, List.mem_cons, List.not_mem_nil, or_false] at hz
  rcases hz with rfl | rfl | rfl | rfl
  · exact .inl (.inl rfl)
  · exact .inl (.inr (.inl rfl))
  · exact .inr rfl
  · exact .inl (.inr (.inr rfl))
section
variable {P : Program} {w : World} {K : PySem.W.Frag} {mg : Str → Option Value} {base : Heap}
def sp_law (K : PySem.W.Frag) : Sp := fun vs H Q _ => ∃ (a : Addr) (ns : List Int), vs = [.ref a] ∧ SqL K H a (ns.map V.int) ∧ H (He.cT K ("law", none)).2 = some (.tbl #[]) ∧ ∀ H', Q (.bl true) H'
theorem ok_law (T : Tp K mg) (TB0 : LamX.TabB base mg (He.cT K ("law", none)).1 (He.cT K ("law", none)).2) {fd : FuncData} (F : FunD K "law" "law" (defArgs s_law) (defBody s_law) (defScope s_law) [] [] (He.ga K "law") fd) : FnG P w K mg base CX0 34 (He.ga K "law") fd ["_law_script"] (sp_law K) := by
  obtain ⟨oc, od, dV, kV, doc, pm, an, cdv, ct, osl, rfl, lk, hcd, _, _⟩ := F.ex
  obtain ⟨cc, rfl⟩ := He.codeIn_ref hcd
  have hcc : He.codeOf K ("law", none) = cc := He.codeOf_eq lk rfl
  generalize hPt : (He.cT K ("law", none)).2 = Pt at TB0
  have TB : LamX.TabB base mg cc Pt := by
    rw [← hcc]
    exact TB0
  refine fng_at lk hcd sc_law (fun vs H Q E h => ?_) (fun A outer s H vs Q E hg hr h => ?_)
  · obtain ⟨a, ns, rfl, _⟩ := h
    rfl
  suffices hh : ∃ t, PSs (cxOf CX0 P w K mg base N_law "law" (defScope s_law) (He.ga K "law") (.ref cc) A outer s H E).nox (defBody s_law) t ∧ t { nx := fun _ H' => Q .non H', rt := Q } (start N_law vs) H by
    obtain ⟨t, h1, h2⟩ := hh
    exact ⟨t, h1.nox, h2⟩
  obtain ⟨a, ns, rfl, hS, hT, q⟩ := h
  rw [hPt] at hT
  have hu := hu_of hr
  have hu64 := hr.units
  have tb0 : Tabs [(Pt, qlam)] H := tabs_new hT
  refine ⟨_, (pss_cons (ps_set (i := 1) sc_law.nd rfl (.inl rfl) (C8.pe_c (cal__law_flow T) hr (by decide) rfl (pa_cons (pv 0) pa_nil)))
      (pss_cons (ps_set (i := 2) sc_law.nd rfl (.inl rfl) (pe_lst (pa_cons pe_str (pa_cons pe_str (pa_cons pe_str (pa_cons pe_str pa_nil))))))
      (pss_cons (ps_for PassesOwn.never rfl (pi_range1 rfl (z_range T) (pa_cons pe_int pa_nil)) (pg_name (i := 3) sc_law.nd rfl (.inl rfl))
        (pss_cons (ps_set (i := 4) sc_law.nd rfl (.inr rfl) (C8.pe_c (cal_plan T 5) hr (by decide) rfl (pa_cons (pv 1) (pa_cons pe_int (pa_cons (pv 2) (pa_cons (pe_op op_add pe_int (C8.pe_c (cal__law_draw T) hr (by decide) rfl (pa_cons (pv 1) (pa_cons pe_int pa_nil)))) pa_nil))))))
        (pss_cons (ps_set (i := 5) sc_law.nd rfl (.inl rfl) (C8.pe_c (cal__law_draw T) hr (by decide) rfl (pa_cons (pv 1) (pa_cons pe_int pa_nil))))
        (C8.pss_cut (ps_if (pt_cmpR op_eq (pv 5) pe_int (nomark _)) (pss_one (ps_set (i := 4) sc_law.nd rfl (.inr rfl) (C8.pe_c (cal_bent T wd49 1000 4) hr (by decide) rfl (pa_cons (pv 1) (pa_cons (pv 4) pa_nil))))) pss_nil)
        (C8.pss_cut (ps_if (pt_cmpR op_eq (pv 5) pe_int (nomark _)) (pss_one (ps_set (i := 4) sc_law.nd rfl (.inr rfl) (C8.pe_c (cal_edge T) hr (by decide) rfl (pa_cons (pv 1) pa_nil)))) pss_nil)
        (pss_cons (ps_set (i := 6) sc_law.nd rfl (.inl rfl) (C8.pe_c (cal_gplanB T) hr (by decide) rfl (pa_cons (pv 4) pa_nil)))
        (pss_cons (ps_set (i := 7) sc_law.nd rfl (.inl rfl) (pe_callB (cr_reprB hg hu64) (by rfl) (z_repr T) bb_repr (pa_cons (pv 4) pa_nil)))
        (pss_cons (ps_set (i := 8) sc_law.nd rfl (.inl rfl) (pe_ifExp (pt_val (pv 6)) pe_non (pe_tup (pa_cons pe_str pa_nil))))
        (pss_cons (ps_if (pt_not (pt_val (C8.pe_c (cal_same T 4) hr (by decide) rfl (pa_cons (pe_lam T TB rfl hr (LamX.lamS_by (sc := defScope s_law) (by decide +kernel)) (fun A' outer' s' H' E' f' c' hr tk => (pe_cx (calx_needX T) tk (fun _ _ _ _ h ↦ h) hr (by decide) rfl (pa_cons (pv 4) pa_nil)))) (pa_cons (pv 8) pa_nil))))) (pss_one (ps_ret pe_bl)) pss_nil)
        (C8.pss_cut (ps_if (pt_not (pt_val (pv 6))) (pss_cons (ps_set (i := 9) sc_law.nd rfl (.inl rfl) (pe_lst (pa_cons (pe_lam T TB rfl hr (LamX.lamS_by (sc := defScope s_law) (by decide +kernel)) (fun A' outer' s' H' E' f' c' hr tk => (pe_cx (calx_readingsX T) tk (fun _ _ _ _ h ↦ h) hr (by decide) rfl (pa_cons (pv 4) pa_nil)))) pa_nil)))
          (pss_cons (ps_expr (pe_bm PySem.F.plainAttrs_list PySem.F.slot_list_append PySem.F.type_list_append mt_append (pv 9) (pa_cons (pe_lam T TB rfl hr (LamX.lamS_by (sc := defScope s_law) (by decide +kernel)) (fun A' outer' s' H' E' f' c' hr tk => (pe_cnx (calnx_laid_ T) tk (fun _ _ _ _ h ↦ h) hr (by decide) rfl (pa_cons (pv 4) pa_nil) pk_nil))) pa_nil)))
          (pss_cons (ps_expr (pe_bm PySem.F.plainAttrs_list PySem.F.slot_list_append PySem.F.type_list_append mt_append (pv 9) (pa_cons (pe_lam T TB rfl hr (LamX.lamS_by (sc := defScope s_law) (by decide +kernel)) (fun A' outer' s' H' E' f' c' hr tk => (pe_cnx (calnx_chosen_by T) tk (fun _ _ _ _ h ↦ h) hr (by decide) rfl (pa_cons (pv 4) pa_nil) (pk_cons pe_int pk_nil)))) pa_nil)))
          (pss_one (ps_if (pt_not (pt_val (C8.pe_c (cal_same T 4) hr (by decide) rfl (pa_cons (pv 9) (pa_cons (pe_op op_rep (pe_lst (pa_cons (pv 8) pa_nil)) pe_int) pa_nil))))) (pss_one (ps_ret pe_bl)) pss_nil))))) pss_nil)
        (pss_one (ps_if (pt_cmpR op_ne (pe_callB (cr_reprB hg hu64) (by rfl) (z_repr T) bb_repr (pa_cons (pv 4) pa_nil)) (pv 7) (nomark _)) (pss_one (ps_ret pe_bl)) pss_nil))))))))))))
      (pss_one (ps_ret (pe_cmpR op_isN (C8.pe_c (cal_need_plan T) hr (by decide) rfl (pa_cons (pe_tup (pa_cons pe_str (pa_cons pe_int (pa_cons pe_int pa_nil)))) pa_nil)) pe_non (nomark _))))))), ?_⟩
  refine ⟨_, rfl, a, ns, rfl, hS, fun f c H1 s1 nf nc F1 => ⟨(by show 4 ≤ sizeLine; decide), fun W nW => ?_⟩⟩
  have sW := same_upd (o := .lst (wd49.map V.str)) nW
  obtain ⟨zs1, hf1⟩ := F1.lst
  have Wf : W ≠ f := (ne_of_none hf1 nW).symm
  refine ⟨6, rfl, by decide, by decide, for_range (lo := 0) (n := 6) (fun i σ H' => ∃ y3 y4 y5 y6 y7 y8 y9 : Option V, σ = [some (.ref a), some (.ref f), some (.ref W), y3, y4, y5, y6, y7, y8, y9] ∧ Flow H' f c ∧ Tabs [(Pt, qlam)] H' ∧ H' W = some (.lst (wd49.map V.str))) ⟨none, none, none, none, none, none, none, rfl, F1.same sW, tabs_same tb0 (s1.trans sW), upd_same⟩ ?_ ?_⟩
  · rintro i σ H2 _ ⟨y3, y4, y5, y6, y7, y8, y9, rfl, F2, tb2, hW2⟩
    obtain ⟨zs2, hf2⟩ := F2.lst
    refine ⟨_, rfl, _, rfl, _, rfl, f, c, 400, rfl, F2, by decide, by decide, fun v0 H3 a0 b0 sb3 F3 => ⟨_, _, rfl, rfl, ?_⟩⟩
    have hW3 := sb3 _ _ hW2 Wf
    obtain ⟨zs3, hf3⟩ := F3.lst
    have tb3 : Tabs [(Pt, qlam)] H3 := tabs_sb tb2 sb3 hf2
    refine ⟨f, c, W, 4, 1 + v0, wd49, rfl, F3, by decide, by omega, by omega, hW3, Wf, wd49_ok, fun v1 p1 ls1 H4 sb4 F4 hp1 fr1 ok1 dp1 wi1 nm1 => ?_⟩
    have dp1 : p1.dp ≤ 4 := dp1
    have tb4 := tabs_sb tb3 sb4 hf3
    obtain ⟨zs4, hf4⟩ := F4.lst
    have hW4 := sb4 _ _ hW3 Wf
    have nf1 : f ∉ ls1 := fun h => by
      have := fr1 f h
      rw [hf3] at this
      cases this
    have wi1 := wi_mono (b := 1000) (by omega) wi1
    have gp : GB p1.bp 100000 20 9 := (gb_pl p1 4 ok1 nm1 wi1 dp1).mono (by decide) (by decide) (by decide)
    refine ⟨_, rfl, f, c, 3, rfl, F4, by decide, by decide, fun v2 H5 a2 b2 sb5 F5 => ?_⟩
    have hp5 := hp1.sb sb5 hf4 nf1
    have tb5 := tabs_sb tb4 sb5 hf4
    have hW5 := sb5 _ _ hW4 Wf
    obtain ⟨zs5, hf5⟩ := F5.lst
    refine ⟨fun σ' H' => ∃ (u : V) (d : Bp), σ' = [some (.ref a), some (.ref f), some (.ref W), some (.int (0 + ↑i)), some u, some (.int v2), y6, y7, y8, y9] ∧ Flow H' f c ∧ Tabs [(Pt, qlam)] H' ∧ H' W = some (.lst (wd49.map V.str)) ∧ BpAt H' d u ∧ GB d 100000 20 9, ?_, ?_⟩
    · refine ⟨_, rfl, rfl, _, rfl, ite2 (fun _ => ?_) (fun _ => ⟨_, _, rfl, F5, tb5, hW5, hp5.at.bp, gp⟩)⟩
      exact ⟨_, rfl, _, rfl, f, c, v1, p1, ls1, rfl, F5, hp5, nf1, ok1, nm1, wi1, dp1, fun u d H6 sb6 F6 hd gd => ⟨u, d, rfl, F6, tabs_sb tb5 sb6 hf5, sb6 _ _ hW5 Wf, hd, gd.mono (by decide) (by decide) (by decide)⟩⟩
    · rintro σ' H6 ⟨u, d, rfl, F6, tb6, hW6, hd6, gd⟩
      obtain ⟨zs6, hf6⟩ := F6.lst
      refine ⟨fun σ' H' => ∃ (u : V) (d : Bp), σ' = [some (.ref a), some (.ref f), some (.ref W), some (.int (0 + ↑i)), some u, some (.int v2), y6, y7, y8, y9] ∧ Flow H' f c ∧ Tabs [(Pt, qlam)] H' ∧ H' W = some (.lst (wd49.map V.str)) ∧ BpAt H' d u ∧ GB d 100000 20 9, ?_, ?_⟩
      · refine ⟨_, rfl, rfl, _, rfl, ite2 (fun _ => ?_) (fun _ => ⟨_, _, rfl, F6, tb6, hW6, hd6, gd⟩)⟩
        exact ⟨_, rfl, f, c, rfl, F6, fun u d H7 sb7 F7 hd gd => ⟨u, d, rfl, F7, tabs_sb tb6 sb7 hf6, sb7 _ _ hW6 Wf, hd, gd⟩⟩
      · rintro σ' H7 ⟨u, d, rfl, F7, tb7, hW7, hd7, gd⟩
        have gr : GB d 200000 30 30 := gd.mono (by decide) (by decide) (by decide)
        refine ⟨_, rfl, u, d, rfl, hd7, gd.hd, gd.t, fun H8 g s8 hg => ⟨_, rfl, u, d, rfl, hd7.same s8, gr, ?_⟩⟩
        have F8 := F7.same s8
        have tb8 := tabs_same tb7 s8
        have hW8 := s8 _ _ hW7
        have hd8 := hd7.same s8
        generalize hsh : d.dat.shown = sh
        cases g with
        | true =>
          have gg : GoodD d := hg.1 rfl
          refine ⟨_, rfl, _, rfl, iteT ⟨tb8, fun H9 e9 tb9 => ?_⟩⟩
          have hd9 := hd8.ext e9
          have F9 := F8.ext e9
          have hW9 := e9 _ _ hW8 (fun _ z => nomatch z)
          refine ⟨_, rfl, u, d, rfl, hd9, fun _ H10 s10 => ?_, fun ng => absurd gg ng⟩
          refine ⟨_, rfl, _, rfl, _, _, rfl, Sm.flat rfl, fun H11 s11 => ⟨_, rfl, iteF ?_⟩⟩
          have s911 := s10.trans s11
          refine ⟨fun σ' H' => σ' = [some (.ref a), some (.ref f), some (.ref W), some (.int (0 + ↑i)), some u, some (.int v2), some (.bl true), some (.str sh), some .non, y9] ∧ Same H11 H', ⟨_, rfl, _, rfl, iteF ⟨rfl, Same.refl _⟩⟩, ?_⟩
          rintro σ' H12 ⟨rfl, s12⟩
          have sA := s911.trans s12
          refine ⟨_, rfl, u, d, rfl, hd9.same sA, gr, _, rfl, rfl, _, rfl, iteFd (by simp [hsh]) ⟨_, _, _, _, _, _, _, rfl, F9.same sA, tabs_same tb9 sA, sA _ _ hW9⟩⟩
        | false =>
          have gg : ¬ GoodD d := fun h => Bool.noConfusion (hg.2 h)
          refine ⟨_, rfl, _, rfl, iteF ⟨(by show 1 ≤ sizeLine; decide), fun t nt => ?_⟩⟩
          have st := same_upd (o := .tup [.str "BadPlan"]) nt
          refine ⟨tabs_same tb8 st, fun H9 e9 tb9 => ?_⟩
          have hd9 := (hd8.same st).ext e9
          have F9 := (F8.same st).ext e9
          have hW9 := e9 _ _ (st _ _ hW8) (fun _ z => nomatch z)
          have ht9 := e9 _ _ (upd_same (H := H8) (a := t) (o := .tup [.str "BadPlan"])) (fun _ z => nomatch z)
          refine ⟨_, rfl, u, d, rfl, hd9, fun h => absurd h gg, fun _ => ?_⟩
          intro e H10 s10 ne hE
          refine ⟨_, e, _, _, _, .cBadPlan, rfl, rfl, hE, fun tt ntt => ?_⟩
          have su := s10.trans (same_upd (o := .tup [.str "BadPlan"]) ntt)
          refine ⟨_, rfl, _, _, rfl, sm_tup (n := 3) upd_same (su _ _ ht9) rfl (by show 1 ≤ 1000; decide) (sm_flats rfl), fun H11 s11 => ⟨_, rfl, iteF ?_⟩⟩
          have s911 := su.trans s11
          have hd11 := hd9.same s911
          have F11 := F9.same s911
          have hW11 := s911 _ _ hW9
          have ht11 := s911 _ _ ht9
          have tb11 := tabs_same tb9 s911
          refine ⟨fun σ' H' => ∃ y9' : Option V, σ' = [some (.ref a), some (.ref f), some (.ref W), some (.int (0 + ↑i)), some u, some (.int v2), some (.bl false), some (.str sh), some (.ref t), y9'] ∧ Flow H' f c ∧ Tabs [(Pt, qlam)] H' ∧ H' W = some (.lst (wd49.map V.str)) ∧ BpAt H' d u, ?_, ?_⟩
          · refine ⟨_, rfl, _, rfl, iteT ⟨tb11, fun H12 e12 tb12 => ?_⟩⟩
            have hd12 := hd11.ext e12
            have F12 := F11.ext e12
            have hW12 := e12 _ _ hW11 (fun _ z => nomatch z)
            have ht12 := e12 _ _ ht11 (fun _ z => nomatch z)
            refine ⟨_, rfl, u, d, rfl, hd12, gg, ?_⟩
            intro e1 H13 s13 ne1 hE1
            refine ⟨_, e1, _, _, _, .cBadPlan, rfl, rfl, hE1, fun t1 nt1 => ⟨(by show 1 ≤ sizeLine; decide), fun L nL => ?_⟩⟩
            have s14 := s13.trans (same_upd (o := .tup [.str "BadPlan"]) nt1)
            have h1 := upd_same (H := H13) (a := t1) (o := .tup [.str "BadPlan"])
            generalize upd H13 t1 (.tup [.str "BadPlan"]) = HB at s14 h1 nL ⊢
            have hdB := hd12.same s14
            have FB := F12.same s14
            have hWB := s14 _ _ hW12
            have htB := s14 _ _ ht12
            have tbB := tabs_same tb12 s14
            have sL := same_upd (o := .lst [.ref t1]) nL
            have tb15 := tabs_same tbB sL
            have hL15 := upd_same (H := HB) (a := L) (o := .lst [.ref t1])
            generalize upd HB L (.lst [.ref t1]) = H15 at sL tb15 hL15 ⊢
            refine ⟨_, rfl, .inl ⟨rfl, _, .inl (.inl hL15)⟩, tb15, fun H16 e16 tb16 => ?_⟩
            have eB16 := (ExtN.of sL).trans e16
            have hL16 := e16 _ _ hL15 (fun _ z => nomatch z)
            refine ⟨_, rfl, rfl, rfl, u, d, _, rfl, hdB.ext eB16, gg, ?_⟩
            intro e2 H17 s17 ne2 hE2
            refine ⟨_, e2, _, _, _, .cBadPlan, rfl, rfl, hE2, fun t2 nt2 => ?_⟩
            have s18 := s17.trans (same_upd (o := .tup [.str "BadPlan"]) nt2)
            have h2 := upd_same (H := H17) (a := t2) (o := .tup [.str "BadPlan"])
            generalize upd H17 t2 (.tup [.str "BadPlan"]) = H18 at s18 h2 ⊢
            have eB18 := eB16.trans (ExtN.of s18)
            have hL18 := s18 _ _ hL16
            have tb18 := tabs_same tb16 s18
            refine ⟨L, _, _, rfl, rfl, hL18, by show 1 < sizeLine; decide, ?_⟩
            have tb19 := tabs_sb tb18 (Sb.upd (f := L) (o := .lst ([.ref t1] ++ [.ref t2]))) hL18
            have hL19 := upd_same (H := H18) (a := L) (o := .lst ([.ref t1] ++ [.ref t2]))
            have eB19 := extn_put (o := .lst ([.ref t1] ++ [.ref t2])) eB18 nL
            have h2 : (upd H18 L (.lst ([.ref t1] ++ [.ref t2]))) t2 = some (.tup [.str "BadPlan"]) := by
              rw [upd_ne fun z => by rw [z, hL18] at h2; cases h2]
              exact h2
            generalize upd H18 L (.lst ([.ref t1] ++ [.ref t2])) = H19 at tb19 hL19 eB19 h2 ⊢
            refine ⟨_, rfl, .inl ⟨rfl, _, .inl (.inl hL19)⟩, tb19, fun H20 e20 tb20 => ?_⟩
            have eB20 := eB19.trans e20
            have hL20 := e20 _ _ hL19 (fun _ z => nomatch z)
            have h2 := e20 _ _ h2 (fun _ z => nomatch z)
            refine ⟨_, rfl, rfl, rfl, u, d, _, rfl, hdB.ext eB20, gg, ?_⟩
            intro e3 H21 s21 ne3 hE3
            refine ⟨_, e3, _, _, _, .cBadPlan, rfl, rfl, hE3, fun t3 nt3 => ?_⟩
            have s22 := s21.trans (same_upd (o := .tup [.str "BadPlan"]) nt3)
            have h3 := upd_same (H := H21) (a := t3) (o := .tup [.str "BadPlan"])
            generalize upd H21 t3 (.tup [.str "BadPlan"]) = H22 at s22 h3 ⊢
            have eB22 := eB20.trans (ExtN.of s22)
            have hL22 := s22 _ _ hL20
            have h2 := s22 _ _ h2
            have tb22 := tabs_same tb20 s22
            refine ⟨L, _, _, rfl, rfl, hL22, by show 2 < sizeLine; decide, ?_⟩
            have tb23 := tabs_sb tb22 (Sb.upd (f := L) (o := .lst ([.ref t1] ++ [.ref t2] ++ [.ref t3]))) hL22
            have hL23 := upd_same (H := H22) (a := L) (o := .lst ([.ref t1] ++ [.ref t2] ++ [.ref t3]))
            have eB23 := extn_put (o := .lst ([.ref t1] ++ [.ref t2] ++ [.ref t3])) eB22 nL
            have h2 : (upd H22 L (.lst ([.ref t1] ++ [.ref t2] ++ [.ref t3]))) t2 = some (.tup [.str "BadPlan"]) := by
              rw [upd_ne fun z => by rw [z, hL22] at h2; cases h2]
              exact h2
            have h3 : (upd H22 L (.lst ([.ref t1] ++ [.ref t2] ++ [.ref t3]))) t3 = some (.tup [.str "BadPlan"]) := by
              rw [upd_ne fun z => by rw [z, hL22] at h3; cases h3]
              exact h3
            generalize upd H22 L (.lst ([.ref t1] ++ [.ref t2] ++ [.ref t3])) = H23 at tb23 hL23 eB23 h2 h3 ⊢
            have h1 := eB23 _ _ h1 (fun _ z => nomatch z)
            have ht23 := eB23 _ _ htB (fun _ z => nomatch z)
            refine ⟨_, rfl, _, rfl, (by show 1 ≤ sizeLine; decide), fun l1 n1 => ?_⟩
            have s24 := same_upd (o := .lst [.ref t]) n1
            refine ⟨l1, 3, [.ref t], rfl, rfl, upd_same, by decide, by decide, (by show 1 * 3 ≤ sizeLine; decide), fun l2 n2 => ?_⟩
            have s25 := same_upd (o := .lst (List.replicate (Int.toNat 3) [V.ref t]).flatten) n2
            have s2325 := s24.trans s25
            have hl2 := upd_same (H := upd H23 l1 (.lst [.ref t])) (a := l2) (o := .lst (List.replicate (Int.toNat 3) [V.ref t]).flatten)
            generalize upd (upd H23 l1 (.lst [.ref t])) l2 (.lst (List.replicate (Int.toNat 3) [V.ref t]).flatten) = H25 at s2325 hl2 ⊢
            have pr : ∀ {x : Addr}, H25 x = some (.tup [.str "BadPlan"]) → Sm 3 (.ref x) (.ref t) H25 := fun {x} hx => sm_tup (n := 2) hx (s2325 _ _ ht23) rfl (by show 1 ≤ 1000; decide) (sm_flats rfl)
            refine ⟨_, _, rfl, sm_lst (n := 3) (s2325 _ _ hL23) hl2 rfl (by show 3 ≤ 1000; decide) fun j x y hx hy => ?_, fun H26 s26 => ⟨_, rfl, iteF ⟨_, rfl, ?_⟩⟩⟩
            · match j, hx, hy with
              | 0, hx, hy =>
                cases hx
                cases hy
                exact pr (s2325 _ _ h1)
              | 1, hx, hy =>
                cases hx
                cases hy
                exact pr (s2325 _ _ h2)
              | 2, hx, hy =>
                cases hx
                cases hy
                exact pr (s2325 _ _ h3)
              | j + 3, hx, hy => cases hx
            · have s2326 := s2325.trans s26
              have eB26 := eB23.trans (ExtN.of s2326)
              exact ⟨FB.ext eB26, tabs_same tb23 s2326, eB26 _ _ hWB (fun _ z => nomatch z), hdB.ext eB26⟩
          · rintro σ' H12 ⟨y9', rfl, F12, tb12, hW12, hd12⟩
            refine ⟨_, rfl, u, d, rfl, hd12, gr, _, rfl, rfl, _, rfl, iteFd (by simp [hsh]) ⟨_, _, _, _, _, _, _, rfl, F12, tb12, hW12⟩⟩
  · rintro σ H2 ⟨y3, y4, y5, y6, y7, y8, y9, rfl, F2, tb2, hW2⟩
    refine ⟨(by show 3 ≤ sizeLine; decide), fun t nt => ⟨.ref t, .ours 0 1000, rfl, ⟨t, rfl, upd_same⟩, True.intro, rfl, by decide, by decide, by decide, fun H3 _ => ⟨rfl, q H3⟩⟩⟩
end
end Tw

set_option maxHeartbeats 0
namespace Tw
open PySem PySem.Spec PyProof.Rows L2
theorem facts {l : PySem.W.OpenLaw} {w : World} {K : PySem.W.Frag} {h : Heap} {mg : Str → Option Value} {f : Addr} (X : K.In h) (G : h.Ns mainGlobals mg) (hfa : mg ("law" : Str) = some (.ref f)) (c : SaysY fa fn tf ex h K) : LawG l w K CX0 34 63 "_law_script" mg f h := by
  have T : Tp K mg := tp_mk X G c.d c.more
  have e := hfa.symm.trans (g_law T)
  cases e
  obtain ⟨fd, F⟩ := f_law T
  have b := FunD.bindsA (ps := ["_law_script"]) F fun _ _ _ _ _ _ us hl => match us, hl with
    | [_], _ => rfl
  have m : (("law" : Str), (none : Option Str)) ∈ tf := List.mem_cons_self
  have one : ∀ {R : Addr × Addr → Prop}, R (He.cT K ("law", none)) → ∀ p ∈ [He.cT K ("law", none)], R p := fun hR p hp => by
    rw [List.mem_singleton.mp hp]
    exact hR
  exact ⟨fd, [He.cT K ("law", none)], sp_law K, one (c.empty _ m), one (c.out _ m), one (PySem.W.codeHd_of_K X (c.code _ m)), fun s v => b s [v] rfl, fun H a ns _ _ hH hS => ⟨a, ns, rfl, hS, hH _ List.mem_cons_self, fun _ => rfl⟩,
    fun base _ _ hT => ok_law T (hT _ List.mem_cons_self) F⟩
end Tw
open PySem PySem.W PySem.Calls PyProof.Rows
theorem PySem.Challenge.cw_tidewaiter_k49_plans_judged_holds : PySem.Challenge.rw_tidewaiter_k49_plans_judged.Holds := by
  w_on; o_law
  refine HandSHeadRun.head_any (r := Tw.R) (q := view Tw.R.prog [Tw.lawAt]) (H := Tw.hk) (ob := Tw.ob) (M := 30000) (loose := Tw.loose) (d := HandSHeadRun.topDef Tw.R.prog Tw.lawAt) (kwd := []) Tw.ob_eq
    (by kernel_rfl) (fun s => by kernel_rfl) Tw.run (by kernel_rfl) (by kernel_rfl) (by kernel_rfl) (by rfl) (by first | assumption | decide +kernel) (by decide +kernel) ⟨rfl, rfl, rfl, rfl, rfl, by decide +kernel⟩ ?hw ?hc
  case hw => w_witness2
  case hc =>
    refine Tw.walk_at (l := PySem.Challenge.rw_tidewaiter_k49_plans_judged) (n := 63) (k := 34) (x := "_law_script") (CX := fun _ => L2.CX0) rfl (by decide) (by kernel_rfl) ⟨rfl, by decide, by decide⟩ ?F (fun _ _ _ _ _ z => z)
    intro w mg fa h Y G hmg0
    obtain ⟨K, KX, c⟩ := Y
    have hmg : mg ("law" : PySem.Str) = some (.ref fa) := by
      have e : (HandSHeadRun.topDef Tw.R.prog Tw.lawAt).name = ("law" : PySem.Str) := by kernel_rfl
      rw [← e]
      exact hmg0
    exact ⟨K, KX, Tw.facts KX G hmg c⟩

