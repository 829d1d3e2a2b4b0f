import PyProof.Rows.All
import Wide.All
import OpenK.AllK
import Wide.FinOn
import KE.KStateDown
import HandS.ForMost
import HandS.IsInst
import HandS.FStr
import HandS.Star
import HandS.Style
import HandS.Codes
import HandS.Walk
import HandS.Defaults
import HandS.MakeKw
import HandS.SlotsOwn
import HandS.HeadEnd
import HandS.HeadHook1
import HandS.HeadHook2
import HandS.Head0
import HandS.Head1
import HandS.Head2
import HandS.Exc
import HandS.TryMany
import KE.KTryMore
import HandS.ExcInit
import HandS.ExcField
import HandS.Lambda
import HandS.EndTab
import HandS.HeadWalk
import HandS.HeadHook4
import KE.KExcInit
import HandS.HeadHook3
import Wide.Once
import HandS.DictComp
import HandS.TupAny
import HandS.Deep
import HandS.CallLocal
import PyProof.P3Eq
import HandS.Flow
import HandS.DictTup
import HandS.TupLen
import HandS.Iter
import HandS.More
import HandS.Conv
import HandS.RevRange
import HandS.SortInts
import HandS.Small
import HandS.TryOnly
import HandS.SortKw
import KE.DataMinMax
import PySem.Challenge.RW_tidewaiter_k22_whole_looser_never_harms
set_option Elab.async false
set_option linter.all false
set_option maxRecDepth 100000
set_option maxHeartbeats 4000000
/-! rules of our own over the layer: a def's promise out of its place in the top (the promises themselves are C8's), methods called with keywords, len and repr of an own instance -/
namespace Tw
open PySem PySem.Spec PyProof.Rows L2
section
variable (P : Program) (w : World) (K : PySem.W.Frag) (mg : Str → Option Value) (base : Heap)
/-- the library's promises of a def and of a method, where every parameter is handed in -/
abbrev Cal (k : Nat) (x : Str) (sp : Sp) : Prop := C8.Cal P w K mg base k x sp []
abbrev Met (k : Nat) (C : Addr) (m : Str) (sp : Sp) : Prop := C8.Met P w K mg base k C m sp []
abbrev Mak (k : Nat) (x : Str) (C : Addr) (sp : Sp) (dvs : List V) : Prop := C8.Mak P w K mg base k x C sp dvs
/-- what is owed for a body: it can be read, and under the promise's premise its reading does what the promise tells -/
abbrev BodyOk (k : Nat) (N : List Str) (qual : Str) (body : List Stmt) (scope : Scope) (f : Addr) (sp : Sp) : Prop :=
  ∀ (cdv : Value) (A : Around) (outer : List Env) (s : Shared) (H : Hp) (vs : List V) (Q : VK) (E : XK), Room k (A.deeper (envOfC qual scope s.heap.objs.size f cdv)) → sp vs H Q E →
      ∃ t, PSs (cxOf CX0 P w K mg base N qual scope f cdv A outer s H E).nox body t ∧ t { nx := fun _ H' => Q .non H', rt := Q } (start N vs) H
/-- a method of C for n positional values (self among them) and the keywords ks; gV puts them into the parameters' order -/
structure MetG (CX : CXT) (k : Nat) (C : Addr) (m : Str) (sp : Sp) (n : Nat) (ks : List Str) (gV : List V → List V → List V) : Prop where
  ex : ∃ (f : Addr) (fd : FuncData) (ps : List Str) (g : List Value → List Value → List Value), Cls K C ∧ Meth K C m f ∧ FnOk P w K mg base CX k f fd ps sp ∧ KBn K fd ps n ks g gV
abbrev MetN (k : Nat) (C : Addr) (m : Str) (sp : Sp) (n : Nat) (ks : List Str) : Prop := MetG P w K mg base CX0 k C m sp n ks (fun us ws => us ++ ws)
end
section
variable {P : Program} {w : World} {K : PySem.W.Frag} {mg : Str → Option Value} {base : Heap} {x qual : Str} {C f : Addr} {params : Arguments} {body : List Stmt} {scope : Scope} {dvs : List V} {kws : List (Str × V)} {fd : FuncData} {N ps ks : List Str} {k n : Nat} {sp : Sp}
theorem fnok_of (F : FunD K x qual params body scope dvs kws f fd) (S : FnScope N ps scope) (len : ∀ vs H Q E, sp vs H Q E → vs.length = ps.length) (owed : BodyOk P w K mg base k N qual body scope f sp) : FnOk P w K mg base CX0 (k + 1) f fd ps sp :=
  F.ok S len fun cdv A outer s H vs Q E room h => (owed cdv A outer s H vs Q E room h).imp fun _ p => ⟨p.1.nox, p.2⟩
theorem cal_of (F : FunD K x x params body scope [] [] f fd) (hm : mg x = some (.ref f)) (b : Binds K fd ps []) (S : FnScope N ps scope) (len : ∀ vs H Q E, sp vs H Q E → vs.length = ps.length) (owed : BodyOk P w K mg base k N x body scope f sp) : Cal P w K mg base (k + 1) x sp :=
  ⟨f, fd, ps, [], fnok_of F S len owed, hm, F.kp, b, .nil⟩
theorem met_of (F : FunD K x qual params body scope dvs kws f fd) (c : Cls K C) (me : Meth K C x f) (b : Binds K fd ps []) (S : FnScope N ps scope) (len : ∀ vs H Q E, sp vs H Q E → vs.length = ps.length) (owed : BodyOk P w K mg base k N qual body scope f sp) : Met P w K mg base (k + 1) C x sp :=
  ⟨f, fd, ps, [], c, me, fnok_of F S len owed, b, .nil⟩
/-- no defaults: the handed values, put in order by g, are the parameters -/
theorem kbn_by (F : FunD K x qual params body scope [] kws f fd) (g : {α : Type} → List α → List α → List α) (hrel : ∀ {vs zs : List V} {us ws : List Value}, Vals vs us → Vals zs ws → Vals (g vs zs) (g us ws))
    (h : ∀ (kV doc pm : Value) (an : Option Addr) (cdv ct : Value) (us ws : List Value), us.length = n → ws.length = ks.length → bindArgs (PySem.W.fnOf x qual params body scope .none kV doc pm an cdv ct) ⟨us, ks.zip ws⟩ = pure (ps.zip (g us ws))) :
    KBn K fd ps n ks (fun us ws => g us ws) (fun us ws => g us ws) := by
  obtain ⟨_, _, _, kV, doc, pm, an, cdv, ct, _, rfl, _, _, none_ | ⟨some_, _⟩, _⟩ := F.ex
  · cases none_.2
    exact ⟨fun _ us ws _ l1 l2 => .of_eq (h kV doc pm an cdv ct us ws l1 l2), hrel⟩
  · cases some_ rfl
theorem kbn_of (F : FunD K x qual params body scope [] kws f fd)
    (h : ∀ (kV doc pm : Value) (an : Option Addr) (cdv ct : Value) (us ws : List Value), us.length = n → ws.length = ks.length → bindArgs (PySem.W.fnOf x qual params body scope .none kV doc pm an cdv ct) ⟨us, ks.zip ws⟩ = pure (ps.zip (us ++ ws))) :
    KBn K fd ps n ks (fun us ws => us ++ ws) (fun us ws => us ++ ws) := kbn_by F (fun us ws => us ++ ws) (fun r1 r2 => r1.append r2) h
end
section
variable {X : Cx} {CX : CXT} {k j n : Nat} {C : Addr} {x m : Str} {sp : Sp} {dvs : List V} {p pos apos : Pos} {e o : Expr} {es : List Expr} {ta : TE} {t tk : TA} {ks : List Str} {kws : List Keyword} {gV : List V → List V → List V} {E : XK} {pl : Sem Bool}
/-- C() with all its parameters left out -/
theorem pe_mk0 (c : Mak X.prog X.w X.K X.mg X.base k x C sp dvs) (hr : Room j X.A) (hk : k + 1 ≤ j) (hg : Gl X x) (hdb : (x == ("__debug__" : Str)) = false := by decide) : PE X (.Call (.Name x p) [] [] pos) (tMake C sp dvs E0 tNil) :=
  let ⟨_, _, _, _, made, F, at_, b, d⟩ := c.ex
  pe_make0 made F (hr.mono hk) hg at_ b d pass0 hdb
/-- the text o.m(e, .., k = v, ..) has no star, names its keywords ks, and goes these steps -/
structure KwForm (X : Cx) (pl : Sem Bool) (o e : Expr) (es : List Expr) (kws : List Keyword) (m : Str) (apos pos : Pos) (ks : List Str) : Prop where
  named : (backToKw pos (keywordEach kws X.env)).all (·.1.isSome) = true
  names : (backToKw pos (keywordEach kws X.env)).filterMap (·.1) = ks
  first : starEach (e :: es) X.env = (false, eval e X.env) :: starEach es X.env
  plain : ((backTo pos (starEach (e :: es) X.env)).any (·.1) || (backToKw pos (keywordEach kws X.env)).any (·.1.isNone)) = false
  steps : eval (.Call (.Attribute o m apos) (e :: es) kws pos) X.env =
    (eval o X.env >>= fun ov => standAt apos.atName >>= fun _ => holding [ov] (getMethod ov m pl) >>= fun g => callWith pos g.1 g.2 (backTo pos (starEach (e :: es) X.env)) (backToKw pos (keywordEach kws X.env)))
def tMethG (C : Addr) (m : Str) (n nk : Nat) (sp : Sp) (gV : List V → List V → List V) (E : XK) (ta : TE) (t tk : TA) : TE := fun σ H Q => ta σ H fun x H1 => ∃ a dx fs, x = .ref a ∧ H1 a = some (.ins C dx fs) ∧ fs.lookup m = none ∧
  t σ H1 fun vs H2 => tk σ H2 fun zs H3 => vs.length + 1 = n ∧ zs.length = nk ∧ sp (gV (x :: vs) zs) H3 Q E
theorem pe_mg (c : MetG X.prog X.w X.K X.mg X.base CX k C m sp n ks gV) (hx : Passes CX X E) (hr : Room j X.A) (hk : k ≤ j) (he : PE X o ta) (ha : PA X (e :: es) t) (hkw : PK X kws tk) (form : KwForm X pl o e es kws m apos pos ks) :
    PE X (.Call (.Attribute o m apos) (e :: es) kws pos) (tMethG C m n ks.length sp gV E ta t tk) := by
  obtain ⟨f, fd, ps, g, cls, me, F, kb⟩ := c.ex
  obtain ⟨named, rfl, first, plain, steps⟩ := form
  constructor
  intro pins s σ H Q I h
  refine PySem.W.methodCall_KW (pl := pl) (thn (he.run pins s σ H _ I h) ?_) steps
  rintro _ s1 ⟨_, H1, I1, obj, a, dx, fs, rfl, here, own, q⟩
  cases (show _ = Value.ref a from obj)
  refine getmeth_ok I1 here cls me own (PySem.W.callWith_KW (first := [.ref a]) (h₀ := X.base) I.ok.mod.kin me.kp named (thn (ha.run pos pins s1 σ H1 _ I1 q) ?_) plain first)
  rintro us s2 ⟨vs, H2, I2, rv, q2⟩
  refine thn (hkw.run pos pins s2 σ H2 _ I2 q2) ?_
  rintro ws s3 ⟨zs, H3, I3, rz, ln, lk, q3⟩
  exact ⟨I3.kIn, run_fnN (us := .ref a :: us) (vs := .ref a :: vs) F (hr.mono hk) kb hx I3 (.cons rfl rv) rz ln lk q3⟩
/-- .. where the method raises nothing -/
theorem pe_mg0 (c : MetG X.prog X.w X.K X.mg X.base CX0 k C m sp n ks gV) (hr : Room j X.A) (hk : k ≤ j) (he : PE X o ta) (ha : PA X (e :: es) t) (hkw : PK X kws tk) (form : KwForm X pl o e es kws m apos pos ks := by exact ⟨rfl, rfl, rfl, rfl, rfl⟩) :
    PE X (.Call (.Attribute o m apos) (e :: es) kws pos) (tMethG C m n ks.length sp gV E0 ta t tk) := pe_mg c pass0 hr hk he ha hkw form
/-- an own method without values, as a builtin finds and runs it -/
theorem own0 (c : Met X.prog X.w X.K X.mg X.base k C m sp) : ∃ f, PySem.W.findIn X.K (.ref C) m = some (some (.ref f)) ∧ PySem.W.isFn X.K (.ref f) = true ∧ FnR X.prog X.w X.K X.mg X.base CX0 k f sp := by
  obtain ⟨f, _, _, _, _, me, F, b, d⟩ := c.ex
  exact ⟨f, me.at_, me.fn, (F.raw b d).imp fun vs _ _ _ h => (List.append_nil vs).symm ▸ h⟩
/-- len(o) by an own __len__ -/
def rLenO (C : Addr) (sp : Sp) : List V → Hp → VK → Prop := fun xs H Q => ∃ a dx fs, xs = [.ref a] ∧ H a = some (.ins C dx fs) ∧ sp [.ref a] H (fun v H' => ∃ i : Int, v = .int i ∧ 0 ≤ i ∧ i < 2 ^ 63 ∧ Q (.int i) H') E0
theorem call_lenO (c : Met X.prog X.w X.K X.mg X.base k C "__len__" sp) (hr : Room j X.A) (hk : k + 1 ≤ j) : CallR X (.builtin "len") (rLenO C sp) := by
  rintro pins s σ H _ us Q I r ⟨a, dx, fs, rfl, here, q⟩
  obtain rfl := Vals.ref1 r
  obtain ⟨f, hs, hf, F⟩ := own0 c
  obtain ⟨_, J0, _⟩ := ins_get I.hok here
  obtain ⟨_, J, _⟩ := J0.look
  obtain ⟨_, hF⟩ := I.fr
  refine PySem.W.len_K hF I.ok.mod.kin J hs hf (thn (wpAny_call (SlX.run_at F (hr.mono hk).in1 I.env0.in1 pass0 I r q)) ?_)
  rintro _ s1 ⟨_, H1, I1, rv, i, rfl, low, high, q1⟩
  obtain ⟨_, rfl⟩ := rv
  exact ⟨⟨low, high⟩, .int i, H1, I1.tok _, ⟨_, rfl⟩, q1⟩
/-- repr(o) by an own __repr__ -/
def rReprO (C : Addr) (sp : Sp) : List V → Hp → VK → Prop := fun xs H Q => ∃ a dx fs, xs = [.ref a] ∧ H a = some (.ins C dx fs) ∧ sp [.ref a] H (fun v H' => ∃ z : Str, v = .str z ∧ Q (.str z) H') E0
theorem call_reprO (c : Met X.prog X.w X.K X.mg X.base k C "__repr__" sp) (hr : Room j X.A) (hk : k + 1 ≤ j) : CallR X (.builtin "repr") (rReprO C sp) := by
  rintro pins s σ H _ us Q I r ⟨a, dx, fs, rfl, here, q⟩
  obtain rfl := Vals.ref1 r
  obtain ⟨f, hs, hf, F⟩ := own0 c
  obtain ⟨_, J0, _⟩ := ins_get I.hok here
  obtain ⟨_, J, _⟩ := J0.look
  obtain ⟨_, hF⟩ := I.fr
  have room : Room k X.A.in1 := (hr.mono hk).in1
  refine PySem.W.repr_K room.units0 hF I.ok.mod.kin J hs hf (thn (wpAny_call (SlX.run_at F room I.env0.in1 pass0 I r q)) ?_)
  rintro _ s1 ⟨_, H1, I1, rv, z, rfl, q1⟩
  obtain ⟨_, rfl⟩ := rv
  exact ⟨.str z, H1, I1, ⟨_, rfl⟩, q1⟩
end
end Tw

set_option maxHeartbeats 4000000
/-! what the program's and the law's data are, and what heaps keep -/
namespace Tw
open PySem PySem.Spec PyProof.Rows L2
theorem bb_len : bootBuiltins "len" = some (.builtin "len") := by decide +kernel
theorem bb_all : bootBuiltins "all" = some (.builtin "all") := by decide +kernel
theorem bb_abs : bootBuiltins "abs" = some (.builtin "abs") := by decide +kernel
theorem bb_repr : bootBuiltins "repr" = some (.builtin "repr") := by decide +kernel
theorem bb_isinstance : bootBuiltins "isinstance" = some (.builtin "isinstance") := by decide +kernel
theorem bb_list : bootBuiltins "list" = some (.type "list") := by decide +kernel
theorem bb_tuple : bootBuiltins "tuple" = some (.type "tuple") := by decide +kernel
theorem bb_str : bootBuiltins "str" = some (.type "str") := by decide +kernel
theorem bb_bool : bootBuiltins "bool" = some (.type "bool") := by decide +kernel
theorem bb_int : bootBuiltins "int" = some (.type "int") := by decide +kernel
theorem bb_dict : bootBuiltins "dict" = some (.type "dict") := by decide +kernel
/-! isinstance with a built-in class -/
def kitT : String → String → Bool
  | "bool", "bool" => true
  | "bool", "int" => true
  | "int", "int" => true
  | "str", "str" => true
  | "list", "list" => true
  | "tuple", "tuple" => true
  | "dict", "dict" => true
  | _, _ => false
def kinds : List String := ["NoneType", "bool", "int", "str", "list", "tuple", "dict"]
theorem kitB_all : (kinds.all fun a => (kinds.drop 1).all fun b => decide (kitB a b = some (kitT a b))) = true := by decide +kernel
theorem kitB_of {a b : String} (ha : a ∈ kinds) (hb : b ∈ kinds.drop 1) : kitB a b = some (kitT a b) :=
  of_decide_eq_true (List.all_eq_true.mp (List.all_eq_true.mp kitB_all a ha) b hb)
/-- isinstance(x, T): the reading asks the kind of x -/
def rIsK (K : PySem.W.Frag) : List V → Hp → VK → Prop := fun xs H Q => ∃ (x : V) (n a : String), xs = [x, .ty n] ∧ TyX K H x (.type a) ∧ a ∈ kinds ∧ n ∈ kinds.drop 1 ∧ Q (.bl (kitT a n)) H
theorem call_isK {X : Cx} : CallR X (.builtin "isinstance") (rIsK X.K) := by
  intro pins s σ H xs us Q I r h
  obtain ⟨x, n, a, rfl, ty, ha, hn, q⟩ := h
  exact call_isi pins s σ H _ us Q I r ⟨x, .ty n, .type a, .type n, kitT a n, rfl, .ty n, ty, kit_ty (kitB_of ha hn), q⟩
/-! the same rules inside a comprehension's block, where the written part is the def's -/
section
variable {X : Cx} {K : PySem.W.Frag}
theorem ix_tupK (h : X.K = K) : IxR X (rIxT K) := h ▸ ix_tup
theorem ix_listK (h : X.K = K) : IxR X (rIxL K) := h ▸ ix_list
theorem ix_seqK (h : X.K = K) : IxR X (rIx K) := h ▸ ix_seq
theorem op_in_seqK (h : X.K = K) : OpR X (compareOp .In) (rIn K false) := h ▸ op_in_seq
theorem op_notIn_seqK (h : X.K = K) : OpR X (compareOp .NotIn) (rIn K true) := h ▸ op_notIn_seq
theorem call_len_seqK (h : X.K = K) : CallR X (.builtin "len") (fun xs H Q => ∃ p ys, xs = [.ref p] ∧ (SqL K H p ys ∨ SqT K H p ys) ∧ Q (.int ys.length) H) := h ▸ call_len_seq
theorem call_isKK (h : X.K = K) : CallR X (.builtin "isinstance") (rIsK K) := h ▸ call_isK
theorem pe_fldK {e : Expr} {f : Str} {ta : TE} {pos : Pos} (h : X.K = K) (ha : PE X e ta) (hb : attributeBase e f X.env (eval e X.env) = eval e X.env) : PE X (.Attribute e f pos) (tFld K ta f) := h ▸ pe_fld ha hb
theorem pg_tupK {es : List Expr} {k : Nat} {t : TGs} {n : Nat} {pos : Pos} (h : X.K = K) (hc : X.calm = true) (hg : PGs X es t) (hn : (assignEach es X.env).length = n := by rfl) (hst : (assignEach es X.env).findIdx? (·.1) = none := by rfl) : PG X (.Tuple es k pos) (gTup K n t) := h ▸ pg_tup hc hg hn hst
end
theorem yes_i {σ : L2.St} {H : Hp} {Q : Bool → Hp → Prop} (h : Q true H) : tYes σ H Q := h
/-! ### heaps -/
theorem same_upd {H : Hp} {p : Addr} {o : HO} (h : H p = none) : Same H (upd H p o) := fun b x e => by
  rw [upd_ne (ne_of_none e h)]
  exact e
/-- all but the place f stays -/
def Sb (f : Addr) (H H' : Hp) : Prop := ∀ b o, H b = some o → b ≠ f → H' b = some o
theorem Sb.refl {f : Addr} {H : Hp} : Sb f H H := fun _ _ h _ => h
theorem Sb.of {f : Addr} {H H' : Hp} (s : Same H H') : Sb f H H' := fun b o h _ => s b o h
theorem Sb.trans {f : Addr} {H H1 H2 : Hp} (a : Sb f H H1) (b : Sb f H1 H2) : Sb f H H2 := fun c o h n => b c o (a c o h n) n
theorem Sb.upd {f : Addr} {H : Hp} {o : HO} : Sb f H (upd H f o) := fun b x e n => by
  rw [upd_ne n]
  exact e
/-- tuples stay -/
def Kt (H H' : Hp) : Prop := ∀ b xs, H b = some (.tup xs) → H' b = some (.tup xs)
theorem Kt.of {H H' : Hp} (s : Same H H') : Kt H H' := fun b _ h => s b _ h
theorem Kt.trans {H H1 H2 : Hp} (a : Kt H H1) (b : Kt H1 H2) : Kt H H2 := fun c o h => b c o (a c o h)
theorem Sb.kt {f : Addr} {H H' : Hp} {xs : List V} (s : Sb f H H') (hf : H f = some (.lst xs)) : Kt H H' := fun b _ h => s b _ h (ne_of h hf (by intro z; cases z))
theorem Kt.upd {H : Hp} {p : Addr} {o : HO} (h : ∀ xs, H p = some (.tup xs) → o = .tup xs) : Kt H (upd H p o) := fun b xs e => by
  by_cases hb : b = p
  · subst hb
    rw [upd_same, h xs e]
  · rw [upd_ne hb]
    exact e
/-! ### the data -/
structure Wd where
  en : Str
  bg : Str
  lo : Int
  hi : Int
  la : Option Int
structure Bd where
  one : Str
  oth : Str
  bot : Option Int
  top : Option Int
/-- a web as the law keeps it -/
structure Md where
  last : Int
  own : List Str
  wd : List Wd
  bd : List Bd
def oV : Option Int → V
  | none => .non
  | some i => .int i
def Wd.row (x : Wd) : List V := [.str x.en, .str x.bg, .int x.lo, .int x.hi, oV x.la]
def Bd.row (x : Bd) : List V := [.str x.one, .str x.oth, oV x.bot, oV x.top]
def Md.pts (m : Md) : List Str := "start" :: (m.own ++ m.wd.map (·.en))
/-- tuples stand at these places -/
def Rows (H : Hp) (xs : List V) (rs : List (List V)) : Prop := Paired (fun x r => ∃ t, x = V.ref t ∧ H t = some (.tup r)) xs rs
theorem Rows.keep {H H' : Hp} (k : Kt H H') {xs : List V} {rs : List (List V)} (h : Rows H xs rs) : Rows H' xs rs := Paired.mono (fun _ _ ⟨t, e, ht⟩ => ⟨t, e, k t _ ht⟩) h
theorem Rows.len {H : Hp} {xs : List V} {rs : List (List V)} (h : Rows H xs rs) : xs.length = rs.length := Paired.length h
theorem Rows.snoc {H : Hp} {xs : List V} {rs : List (List V)} {t : Addr} {r : List V} (h : Rows H xs rs) (e : H t = some (.tup r)) : Rows H (xs ++ [.ref t]) (rs ++ [r]) := Paired.snoc h ⟨t, rfl, e⟩
theorem paired_at {α β : Type} {F : α → β → Prop} : ∀ {l : List α} {m : List β} {i : Nat} {a : α}, Paired F l m → l[i]? = some a → ∃ b, m[i]? = some b ∧ F a b
  | _, _, 0, _, .cons h _, e => by
    cases e
    exact ⟨_, rfl, h⟩
  | _, _, i + 1, a, .cons _ t, e => by
    obtain ⟨b, h1, h2⟩ := paired_at (i := i) t e
    exact ⟨b, h1, h2⟩
theorem Rows.at {H : Hp} {xs : List V} {rs : List (List V)} {i : Nat} {x : V} (h : Rows H xs rs) (e : xs[i]? = some x) : ∃ t r, x = .ref t ∧ rs[i]? = some r ∧ H t = some (.tup r) := by
  obtain ⟨r, h1, t, h2, h3⟩ := paired_at h e
  exact ⟨t, r, h2, h1, h3⟩
/-- a Web's attributes -/
def wf (last : Int) (a b c : Addr) : List (Str × V) := [("by", .int last), ("moment_rows", .ref a), ("span_rows", .ref b), ("tie_rows", .ref c)]
theorem wf_by {l : Int} {a b c : Addr} : (wf l a b c).lookup ("by" : Str) = some (.int l) := by
  unfold wf
  rw [List.lookup_cons_self]
theorem wf_m {l : Int} {a b c : Addr} : (wf l a b c).lookup ("moment_rows" : Str) = some (.ref a) := by
  unfold wf
  rw [List.lookup_cons, show (("moment_rows" : Str) == "by") = false by decide +kernel, List.lookup_cons_self]
theorem wf_s {l : Int} {a b c : Addr} : (wf l a b c).lookup ("span_rows" : Str) = some (.ref b) := by
  unfold wf
  rw [List.lookup_cons, show (("span_rows" : Str) == "by") = false by decide +kernel, List.lookup_cons, show (("span_rows" : Str) == "moment_rows") = false by decide +kernel, List.lookup_cons_self]
theorem wf_t {l : Int} {a b c : Addr} : (wf l a b c).lookup ("tie_rows" : Str) = some (.ref c) := by
  unfold wf
  rw [List.lookup_cons, show (("tie_rows" : Str) == "by") = false by decide +kernel, List.lookup_cons, show (("tie_rows" : Str) == "moment_rows") = false by decide +kernel, List.lookup_cons, show (("tie_rows" : Str) == "span_rows") = false by decide +kernel, List.lookup_cons_self]
def webAttrs : List Str := ["by", "moment_rows", "span_rows", "tie_rows"]
theorem wf_no {l : Int} {a b c : Addr} {m : Str} (h : webAttrs.all (fun x => !(m == x)) = true) : (wf l a b c).lookup m = none := by
  unfold webAttrs at h
  simp only [List.all_cons, List.all_nil, Bool.and_true, Bool.and_eq_true, Bool.not_eq_true'] at h
  obtain ⟨h1, h2, h3, h4⟩ := h
  unfold wf
  rw [List.lookup_cons, h1, List.lookup_cons, h2, List.lookup_cons, h3, List.lookup_cons, h4]
  rfl
/-- a web stands at p -/
structure WebAt (C : Addr) (H : Hp) (p : Addr) (m : Md) : Prop where
  ex : ∃ (dx a b c : Addr) (ws bs : List V), H p = some (.ins C dx (wf m.last a b c)) ∧ H a = some (.tup (m.own.map V.str)) ∧ H b = some (.tup ws) ∧ Rows H ws (m.wd.map Wd.row) ∧ H c = some (.tup bs) ∧ Rows H bs (m.bd.map Bd.row)
  len : m.own.length ≤ 10 ∧ m.wd.length ≤ 4 ∧ m.bd.length ≤ 40
  last : 1 ≤ m.last ∧ m.last ≤ 1000
theorem WebAt.keep {C : Addr} {H H' : Hp} {p : Addr} {m : Md} (h : WebAt C H p m) (hp : ∀ dx fs, H p = some (.ins C dx fs) → H' p = some (.ins C dx fs)) (k : Kt H H') : WebAt C H' p m := by
  obtain ⟨dx, a, b, c, ws, bs, h1, h2, h3, h4, h5, h6⟩ := h.ex
  exact ⟨⟨dx, a, b, c, ws, bs, hp _ _ h1, k _ _ h2, k _ _ h3, h4.keep k, k _ _ h5, h6.keep k⟩, h.len, h.last⟩
theorem WebAt.same {C : Addr} {H H' : Hp} {p : Addr} {m : Md} (h : WebAt C H p m) (s : Same H H') : WebAt C H' p m := h.keep (fun _ _ e => s _ _ e) (Kt.of s)
theorem WebAt.sb {C : Addr} {H H' : Hp} {p f : Addr} {m : Md} {xs : List V} (h : WebAt C H p m) (s : Sb f H H') (hf : H f = some (.lst xs)) : WebAt C H' p m :=
  h.keep (fun _ _ e => s _ _ e (ne_of e hf (by intro z; cases z))) (s.kt hf)
/-- what is a name -/
abbrev letters : Str := "abcdefghijklmnopqrstuvwxyz"
def Nm (z : Str) : Prop := 1 ≤ z.length ∧ z.length ≤ 8 ∧ ∀ c ∈ z.cps.toList, c ∈ letters.cps.toList
end Tw

set_option maxHeartbeats 4000000
/-! a try with several clauses, each of one, two or three classes, each with a name -/
namespace Tw
open PySem PySem.Spec PyProof.Rows L2
/-- the classes that a clause names -/
inductive Cls3 (X : Cx) : Expr → List Value → Prop
  | one {x : Str} {c : Value} {np : Pos} (h : Names X x c) : Cls3 X (.Name x np) [c]
  | two {x y : Str} {c d : Value} {p q r : Pos} {kk : Nat} (h1 : Names X x c) (h2 : Names X y d) : Cls3 X (.Tuple [.Name x p, .Name y q] kk r) [c, d]
  | three {x y z : Str} {c d e : Value} {p q r t : Pos} {kk : Nat} (h1 : Names X x c) (h2 : Names X y d) (h3 : Names X z e) : Cls3 X (.Tuple [.Name x p, .Name y q, .Name z r] kk t) [c, d, e]
theorem exm1 {K : PySem.W.Frag} {cls c : Value} {b : Bool} (h : PySem.W.exmAny K cls [c] = some b) : PySem.W.exmOne K cls c = some b := by
  obtain ⟨b1, d1, h1, h2, e⟩ := PySem.W.exmAny_cons h
  have e2 : d1 = false := (Option.some.inj h2).symm
  rw [e, e2, Bool.or_false]
  exact h1
section
variable {X : Cx} {a : Addr} {pn : List (Addr × Obj)} {σ : L2.St} {H : Hp}
theorem named {s : Shared} {x : Str} {c : Value} {np : Pos} {Q : Value → Shared → Prop} {E : Value → Shared → Prop} (S : Inv (X.suite a pn) [] σ H s) (h : Names X x c) (q : Q c s) : wpAny (model X.prog X.w) (X.A.mark (some (.ref a))) (eval (.Name x np) X.env) Q E s := by
  obtain ⟨hg, hd, hm | ⟨hm, hv, hn⟩⟩ := h
  · exact ld_glob (X := X.suite a pn) S hg hm q hd
  · exact ld_blt (X := X.suite a pn) S hg hm hv q hn hd
/-- whether a clause takes the exception; a tuple of classes is laid -/
theorem cls3_test {s : Shared} {te : Expr} {cs : List Value} {cls : Value} {b : Bool} {Q : Bool → Shared → Prop} {E : Value → Shared → Prop} (T : Cls3 X te cs) (S : Inv (X.suite a pn) [] σ H s) (LT : PySem.W.Looks (model X.prog X.w) s.heap (typeOf (.ref a)) cls) (hb : PySem.W.exmAny X.K cls cs = some b)
    (q : ∀ h', (∀ b o, s.heap.get? b = some o → h'.get? b = some o) → Q b { s with heap := h' }) :
    wpAny (model X.prog X.w) (X.A.mark (some (.ref a))) (eval te X.env) (fun c s₁ => wpAny (model X.prog X.w) (X.A.mark (some (.ref a))) (excMatches (.ref a) c) Q E s₁) E s := by
  have kin : X.K.In s.heap := S.kIn
  cases T with
  | one h => exact named S h ((PySem.W.exm_one kin LT (exm1 hb)).here (q s.heap fun _ _ z => z))
  | @two x y c d p1 p2 p3 kk h1 h2 =>
    have kp : ∀ b o, s.heap.get? b = some o → (s.heap.push { cls := .type "tuple", data := .seq [c, d].toArray }).get? b = some o := fun b o z => Heap.get?_push_of_some _ z
    refine wpAny_Tuple (wpAny_items_cons (named S h1 (wpAny_items_cons (named S h2 (wpAny_items_nil ⟨by show 2 ≤ sizeLine; decide, ?_⟩)))))
    exact (PySem.W.exm_tup2 (kin.keeps kp) (LT.keeps kp) (Heap.get?_push_size s.heap rfl) hb).here (q _ kp)
  | @three x y z c d e p1 p2 p3 p4 kk h1 h2 h3 =>
    have kp : ∀ b o, s.heap.get? b = some o → (s.heap.push { cls := .type "tuple", data := .seq [c, d, e].toArray }).get? b = some o := fun b o z => Heap.get?_push_of_some _ z
    refine wpAny_Tuple (wpAny_items_cons (named S h1 (wpAny_items_cons (named S h2 (wpAny_items_cons (named S h3 (wpAny_items_nil ⟨by show 3 ≤ sizeLine; decide, ?_⟩)))))))
    exact (PySem.W.exm_tup3 (kin.keeps kp) (LT.keeps kp) (Heap.get?_push_size s.heap rfl) hb).here (q _ kp)
end
theorem fly_more {B h h' : Heap} {l : List Env} {e : Addr} {Z : Obj → Prop} (f : HandSPX.FlyingZ B l e Z h) (k : ∀ b o, h.get? b = some o → h'.get? b = some o) : HandSPX.FlyingZ B l e Z h' := by
  obtain ⟨f1, f2, f3, oe, vs, T, oT, ts, t1, t2, t3, t4, t5, t6, t7, t8⟩ := f
  exact ⟨fun b o z => k b o (f1 b o z), f2, f3.of_keeps fun b o z _ => ⟨o, k b o z, rfl⟩, oe, vs, T, oT, ts, k _ _ t1, t2, t3, t4, t5, t6, k _ _ t7, t8⟩
abbrev Hdl := List Value × (Addr → Value → Option Addr → TS)
/-- how a suite with a name in slot i ends -/
def endsAs (i : Nat) (D : Ends) : Ends := { nx := fun σ H => D.nx (σ.set i none) H, rt := D.rt, bk := fun σ H => D.bk (σ.set i none) H, ct := fun σ H => D.ct (σ.set i none) H }
/-- what the clauses wish of an exception, one behind the other -/
def wAsM (K : PySem.W.Frag) (i : Nat) (Wo : WX) (D : Ends) : List Hdl → WX
  | [] => Wo
  | (cs, ts) :: r => fun cls d σ H => ∃ b, PySem.W.exmAny K cls cs = some b ∧ (b = true → ∀ a, H a = none → ts a cls d (endsAs i D) (σ.set i (some (.ref a))) H) ∧ (b = false → wAsM K i Wo D r cls d σ H)
inductive HdAs (X : Cx) (n : Str) : List ExceptHandler → List Hdl → Prop
  | nil : HdAs X n [] []
  | cons {te : Expr} {cs : List Value} {ts : Addr → Value → Option Addr → TS} {st : Stmt} {su : List Stmt} {pos : Pos} {hds : List ExceptHandler} {l : List Hdl} (hc : Cls3 X te cs)
      (hsu : ∀ (a : Addr) (oe : Obj) (cls : Value) (d : Option Addr) (pn : List (Addr × Obj)), Zc cls d oe → (∃ vs, oe.data = .fields vs) → PSs (X.suite a ((a, oe) :: pn)) (st :: su) (ts a cls d)) (r : HdAs X n hds l) :
      HdAs X n (.ExceptHandler (some te) (some n) (st :: su) pos :: hds) ((cs, ts) :: l)
/-- an exception a that has come down at this frame, as the heap h has it; sI: the state without it -/
structure Down (X : Cx) (pins : List (Addr × Obj)) (σ : L2.St) (H : Hp) (sI s' : Shared) (B : Heap) (a : Addr) (cls : Value) (d : Option Addr) (h : Heap) : Prop where
  inv : Inv X pins σ H sI
  ground : ∀ b o, sI.heap.get? b = some o → b ∉ frs X.stack → B.get? b = some o
  fly : HandSPX.FlyingZ B (X.env :: X.outer) a (Zc cls d) h
  up : sI.heap.UpToSlots h
  free : H a = none
  os : s'.os = sI.os
  bare : AllBare s'.gens
/-- what is to be done with an exception of the body -/
def onCatch (X : Cx) (pins : List (Addr × Obj)) (D : Ends) (hds : List ExceptHandler) (e : Value) (s : Shared) : Prop :=
  wpAny (model X.prog X.w) X.A (noteFrame e X.env) (fun _ s1 => wpAny (model X.prog X.w) X.A (setFlight e none) (fun _ s2 => wpAny (model X.prog X.w) X.A (handleBy e X.env hds) (SP X pins D) X.xe s2) X.xe s1) X.xe s
section
variable {X : Cx} {pins : List (Addr × Obj)} {σ : L2.St} {H : Hp} {sI s' : Shared} {B h h' : Heap} {a : Addr} {cls : Value} {d : Option Addr} {i : Nat} {n : Str} {Wo : WX} {D : Ends} {hds : List ExceptHandler} {l : List Hdl}
theorem Down.more (dn : Down X pins σ H sI s' B a cls d h) (k : ∀ b o, h.get? b = some o → h'.get? b = some o) : Down X pins σ H sI s' B a cls d h' := { dn with fly := fly_more dn.fly k, up := dn.up.trans (Heap.UpToSlots.of_keeps k) }
/-- its suite may begin -/
theorem Down.suite (dn : Down X pins σ H sI s' B a cls d h) (hf : X.env.frame = some X.env.locals) : ∃ oe, h.get? a = some oe ∧ Zc cls d oe ∧ (∃ vs, oe.data = .fields vs) ∧ Inv (X.suite a ((a, oe) :: (X.pn ++ pins))) [] σ H { s' with heap := h } := by
  obtain ⟨oe, vs, at_, zc, hd⟩ := dn.fly.there
  have noFrame : ∀ e ∈ X.env :: X.outer, e.frame ≠ some a := fun e he hfr => by
    obtain ⟨_, o, ho, no⟩ := dn.fly.2.2.1.mem (List.mem_filterMap.mpr ⟨e, he, hfr⟩)
    cases ho.symm.trans at_
    exact no _ hd
  refine ⟨oe, at_, zc, ⟨vs, hd⟩, (dn.inv.landed (s' := { s' with heap := h }) dn.ground dn.fly.1 dn.up dn.os dn.bare).suite at_ hd dn.free ?_ ?_⟩
  · rintro rfl
    exact noFrame X.env (.head _) hf
  · intro inFs
    obtain ⟨e, he, hfr⟩ := List.mem_filterMap.mp inFs
    exact noFrame e (.tail _ he) hfr
/-- no clause takes it: it goes on -/
theorem Down.pass (dn : Down X pins σ H sI s' B a cls d h) (hs : X.stack = X.env :: X.outer) (hf : X.env.frame = some X.env.locals) (tk : Takes X Wo) (wish : Wo cls d σ H) : wpAny (model X.prog X.w) X.A (handleBy (.ref a) X.env []) (SP X pins D) X.xe { s' with heap := h } := by
  have goes : ∀ h4, HandSPX.HeldZ B (X.env :: X.outer) a (Zc cls d) X.env.locals h4 → h.UpToSlots h4 → X.xe (.ref a) { s' with heap := h4 } := fun h4 held up4 =>
    tk _ _ ⟨a, B, sI, pins, σ, H, cls, d, rfl, dn.inv, dn.ground, dn.up.trans up4, .inr (.inr (hs ▸ held)), dn.free, dn.os, dn.bare, wish⟩
  obtain ⟨_, _, T, _, _, at_, _, hd, traced, _⟩ := dn.fly.2.2.2
  refine wpAny_handleBy_nil ?_
  unfold PySem.passOn
  rw [hf]
  refine wpAny_bind (wpAny_field at_ hd traced ?_)
  rw [if_neg (by simp)]
  repeat (first | with_reducible refine HandSPX.setFlight_upZ dn.fly fun h4 held up4 => ?_ | with_reducible refine wpAny_throw (goes _ held up4) | wp_step)
/-- behind a suite its name goes -/
theorem suite_ends {q : Addr × Obj} {f : Flow} {s6 : Shared} {pos : Pos} (ok : X.Ok) (hN : X.N.Nodup) (hi : X.N[i]? = some n) (hln : X.env.kindOf n = some .local) (ended : SP (X.suite a (q :: (X.pn ++ pins))) [] (endsAs i D) f s6) :
    wpAny (model X.prog X.w) X.A (do bindName X.env n .none; unbindBehindTheSuite X.env n pos) (fun _ s7 => SP X pins D f s7) X.xe s6 := by
  cases f with
  | ret u =>
    obtain ⟨v, _, H6, S6, r, q6⟩ := ended
    exact gone_ok (S6.unsuite ok) hN hi hln fun s7 J => ⟨v, _, H6, J, r, q6⟩
  | next =>
    obtain ⟨_, H6, S6, q6⟩ := ended
    exact gone_ok (S6.unsuite ok) hN hi hln fun s7 J => ⟨_, H6, J, q6⟩
  | brk =>
    obtain ⟨_, H6, S6, q6⟩ := ended
    exact gone_ok (S6.unsuite ok) hN hi hln fun s7 J => ⟨_, H6, J, q6⟩
  | cont =>
    obtain ⟨_, H6, S6, q6⟩ := ended
    exact gone_ok (S6.unsuite ok) hN hi hln fun s7 J => ⟨_, H6, J, q6⟩
theorem Down.clauses (hs : X.stack = X.env :: X.outer) (hf : X.env.frame = some X.env.locals) (hN : X.N.Nodup) (hi : X.N[i]? = some n) (hln : X.env.kindOf n = some .local) (tk : Takes X Wo) (hh : HdAs X n hds l) :
    ∀ {h : Heap}, Down X pins σ H sI s' B a cls d h → wAsM X.K i Wo D l cls d σ H → wpAny (model X.prog X.w) X.A (handleBy (.ref a) X.env hds) (SP X pins D) X.xe { s' with heap := h } := by
  induction hh with
  | nil => exact fun dn wish => dn.pass hs hf tk wish
  | cons hc hsu _ further =>
    rintro h dn ⟨b, fits, yes, no⟩
    obtain ⟨oe, at_, zc, _, S⟩ := dn.suite hf
    have kind : PySem.W.Looks (model X.prog X.w) h (typeOf (.ref a)) cls := fun _ _ _ _ k q => wpAny_typeOf_ref (k _ _ at_) (by rw [zc.1]; exact q)
    refine wpAny_handleBy_cons (codeAny_handlers_test (cls3_test hc S kind fits fun h6 k6 => ?_)) (fun q => nomatch q)
    cases b with
    | false => exact further (dn.more k6) (no rfl)
    | true =>
      refine codeAny_handlers_suite_as (HandSPX.lands_againZ (dn.more k6).fly fun h4 fl4 up4 => ?_)
      obtain ⟨o4, _, zc4, hd4, S4⟩ := Down.suite { dn.more k6 with fly := fl4, up := (dn.more k6).up.trans up4 } hf
      refine store_ok (X := X.suite a ((a, o4) :: (X.pn ++ pins))) (v := .ref a) S4 hN hi (.inl hln) rfl (fun s5 S5 => ?_) (.inr hln)
      exact wpAny_mono ((hsu a o4 cls d (X.pn ++ pins) zc4 hd4).run [] s5 _ H _ S5 (yes rfl a dn.free)) (fun f s6 ended => suite_ends dn.inv.ok hN hi hln ended) fun _ _ z => z.elim
end
section
variable {X : Cx} {i : Nat} {n : Str} {body : List Stmt} {h₀ : ExceptHandler} {hds : List ExceptHandler} {l : List Hdl} {pos : Pos} {tb : WX → TS} {Wo : WX}
/-- try: body, except (A, B) as n: .., except C as n: .. -/
theorem ps_tryM (hs : X.stack = X.env :: X.outer) (hf : X.env.frame = some X.env.locals) (hN : X.N.Nodup) (hi : X.N[i]? = some n) (hln : X.env.kindOf n = some .local) (tk : Takes X Wo)
    (hb : ∀ (W : WX) (pn : List (Addr × Obj)) (xe : Value → Shared → Prop), Takes (X.tr pn xe) W → PassesOwn (model X.prog X.w) X.A X.env xe → PSs (X.tr pn xe) body (tb W)) (hh : HdAs X n (h₀ :: hds) l) :
    PS X (.Try body (h₀ :: hds) [] [] pos) (fun D σ H => tb (fun cls d σ' H' => σ'.length = X.N.length → wAsM X.K i Wo D l cls d σ' H') D σ H) := by
  constructor
  intro pins s σ H D I h
  have ok := I.ok
  have caught : Takes (X.tr (X.pn ++ pins) (onCatch X pins D (h₀ :: hds))) (fun cls d σ' H' => σ'.length = X.N.length → wAsM X.K i Wo D l cls d σ' H') := by
    rintro _ s1 ⟨a, B, sI, _, σ1, H1, cls, d, rfl, J, ground, up, sky, free, os, bare, wish⟩
    exact Sky.land Zc.steady (ok.frames.trans (congrArg some hs)) hf (hs ▸ sky) fun h3 fly up3 => Down.clauses hs hf hN hi hln tk hh ⟨J.ofTry ok, ground, fly, up.trans up3, free, os, bare⟩ (wish J.len)
  refine wpAny_Try_except (wpAny_mono ((hb _ _ _ caught PassesOwn.looking).run [] s σ H D (I.toTry _) h) (fun f s1 ended => ?_) fun _ _ z => z)
  cases f with
  | ret u =>
    obtain ⟨v, σ1, H1, J, r, q⟩ := ended
    exact ⟨v, σ1, H1, J.ofTry ok, r, q⟩
  | next =>
    obtain ⟨σ1, H1, J, q⟩ := ended
    exact wpAny_execs_nil ⟨σ1, H1, J.ofTry ok, q⟩
  | brk =>
    obtain ⟨σ1, H1, J, q⟩ := ended
    exact ⟨σ1, H1, J.ofTry ok, q⟩
  | cont =>
    obtain ⟨σ1, H1, J, q⟩ := ended
    exact ⟨σ1, H1, J.ofTry ok, q⟩
end
end Tw

set_option maxHeartbeats 4000000
/-! own exceptions: fields read in a suite, __init__ called through its class, defs that raise, the head with tables -/
namespace Tw
open PySem PySem.Spec PyProof.Rows L2
/-! ### a field of the caught exception, whatever its class -/
def tXw (K : PySem.W.Frag) (a : Addr) (cls : Value) (d : Option Addr) (f : Str) (te : TE) : TE := fun σ H Q => te σ H fun x H1 => x = .ref a ∧ ∃ (C dd : Addr) (fs : List (Str × V)) (v : V), cls = .ref C ∧ XfC K C ∧ PySem.W.findIn K (.ref C) f = some none ∧ d = some dd ∧ H1 dd = some (.xd fs) ∧ fs.lookup f = some v ∧ Q v H1
theorem xd_field {P : Program} {w : World} {H : Hp} {h : Heap} {dd : Addr} {fs : List (Str × V)} {n : Str} {v : V} (hok : HOk P w H h) (at_ : H dd = some (.xd fs)) (l : fs.lookup n = some v) : ∃ od z, h.get? dd = some od ∧ PySem.W.lookIn n od = some (some z) ∧ RelV v z := by
  obtain ⟨m, ns, rel⟩ := (show ObjOk P w H h dd (.xd fs) from hok dd _ at_)
  obtain ⟨od, ho, look⟩ := lookIn_ns ns
  obtain ⟨z, hz, rz⟩ := RelO.some_of (v := v) (o := m n) (l ▸ rel n)
  exact ⟨od, z, ho, (look n).trans (congrArg some hz), rz⟩
theorem pe_xw {X : Cx} {a : Addr} {oe : Obj} {cls : Value} {d : Option Addr} {pn : List (Addr × Obj)} {e : Expr} {te : TE} {pos : Pos} {n : Str} (hz : Zc cls d oe) (hf : ∃ vs, oe.data = .fields vs) (he : PE (X.suite a ((a, oe) :: pn)) e te)
    (hb : attributeBase e n X.env (eval e X.env) = eval e X.env := by rfl) : PE (X.suite a ((a, oe) :: pn)) (.Attribute e n pos) (tXw X.K a cls d n te) := by
  constructor
  intro pins s σ H Q I h
  refine attr_of hb (thn (he.run pins s σ H _ I h) ?_)
  rintro _ s1 ⟨_, H1, I1, obj, rfl, C, dd, fs, v, rfl, T, no, rfl, ea, l, q⟩
  cases (show _ = Value.ref a from obj)
  obtain ⟨od, z, ho, look, rz⟩ := xd_field I1.hok ea l
  obtain ⟨vs, hd⟩ := hf
  have caught : s1.heap.get? a = some oe := (I1.pin (a, oe) (by simp)).1
  have whole : PySem.W.InstAt s1.heap a oe C (some od) := ⟨caught, hz.1, by simp [PySem.W.notCls, hd], by simpa [hz.2] using ho⟩
  exact HandSPX.exc_get I1.kIn whole T.ga T.gg T.exC (PySem.W.findObj_own T.hdC no rfl look) (handed_of rz) ⟨v, H1, I1.tok _, rz, q⟩
/-! ### the forms of a text: plain values only -/
/-- x(e, ..) -/
structure Flat (X : Cx) (x : Str) (e : Expr) (es : List Expr) (pos : Pos) : Prop where
  dbg : (x == ("__debug__" : Str)) = false
  first : starEach (e :: es) X.env = (false, eval e X.env) :: starEach es X.env
  plain : (backTo pos (starEach es X.env)).any (·.1) = false
/-- o.m(e, ..) -/
structure MeForm (X : Cx) (pl : Sem Bool) (o e : Expr) (es : List Expr) (m : Str) (apos pos : Pos) : Prop where
  first : starEach (e :: es) X.env = (false, eval e X.env) :: starEach es X.env
  plain : (backTo pos (starEach es X.env)).any (·.1) = false
  steps : eval (.Call (.Attribute o m apos) (e :: es) [] pos) X.env =
    (eval o X.env >>= fun ov => standAt apos.atName >>= fun _ => holding [ov] (getMethod ov m pl) >>= fun g => callWith pos g.1 g.2 (backTo pos (starEach (e :: es) X.env)) (backToKw pos (keywordEach [] X.env)))
/-! ### x.m(..): a def read off a class -/
structure ClsDef (K : PySem.W.Frag) (C f : Addr) (m : Str) : Prop where
  reads : PySem.W.readsIn K C (.type "type") = true
  special : PySem.W.specialIn K (.ref C) "__getattribute__" = some (some (.builtin "type.__getattribute__"))
  find : PySem.W.findCls K (.ref C) (.type "type") m = some (.val (.ref f))
section
variable {X : Cx} {k j : Nat} {f C : Addr} {fd : FuncData} {ps : List Str} {sp : Sp} {x m : Str} {p1 p2 pos : Pos} {e : Expr} {es : List Expr} {t : TA} {pl : Sem Bool}
theorem pe_ci (T : ClsDef X.K C f m) (hg : Gl X x) (hm : X.mg x = some (.ref C)) (hk : PySem.W.keepIn X.K (.ref f) = true) (F : FnOk X.prog X.w X.K X.mg X.base CX0 k f fd ps sp) (hr : Room j X.A) (hj : k ≤ j) (hb : Binds X.K fd ps []) (ha : PA X (e :: es) t)
    (form : MeForm X pl (.Name x p1) e es m p2 pos := by exact ⟨rfl, rfl, rfl⟩) (hdb : (x == ("__debug__" : Str)) = false := by decide) :
    PE X (.Call (.Attribute (.Name x p1) m p2) (e :: es) [] pos) (tCall sp [] E0 t) := by
  constructor
  intro pins s σ H Q I h
  refine PySem.W.methodCall_KW (pl := pl) (ld_glob I hg hm (PySem.W.method_cls I.kIn T.special (PySem.W.cls_value I.kIn T.reads T.find rfl ?_)) hdb) form.steps
  refine PySem.W.callWith_K (first := []) (h₀ := X.base) I.ok.mod.kin hk (thn (ha.run pos pins _ σ H _ (I.tok _) h) ?_) form.first form.plain
  rintro us s2 ⟨vs, H2, I2, r, q2⟩
  exact ⟨I2.kIn, run_fn (us := us) (vs := vs) F (hr.mono hj) hb .nil pass0 I2 r q2⟩
end
/-! ### defs that raise -/
structure CalX (P : Program) (w : World) (K : PySem.W.Frag) (mg : Str → Option Value) (base : Heap) (k : Nat) (x : Str) (sp : Sp) : Prop where
  ex : ∃ (f : Addr) (fd : FuncData) (ps : List Str), FnOk P w K mg base (L2.CX P w) k f fd ps sp ∧ mg x = some (.ref f) ∧ PySem.W.keepIn K (.ref f) = true ∧ Binds K fd ps []
structure MetX (P : Program) (w : World) (K : PySem.W.Frag) (mg : Str → Option Value) (base : Heap) (k : Nat) (C : Addr) (m : Str) (sp : Sp) : Prop where
  ex : ∃ (f : Addr) (fd : FuncData) (ps : List Str), Cls K C ∧ Meth K C m f ∧ FnOk P w K mg base (L2.CX P w) k f fd ps sp ∧ Binds K fd ps []
/-- the body's part, what is raised told -/
abbrev BodyX (P : Program) (w : World) (K : PySem.W.Frag) (mg : Str → Option Value) (base : Heap) (k : Nat) (N : List Str) (qual : Str) (body : List Stmt) (scope : Scope) (f : Addr) (sp : Sp) : Prop :=
  ∀ (cdv : Value) (A : Around) (outer : List Env) (s : Shared) (H : Hp) (vs : List V) (Q : VK) (E : XK), Room k (A.deeper (envOfC qual scope s.heap.objs.size f cdv)) → sp vs H Q E →
    Takes (cxOf (L2.CX P w) P w K mg base N qual scope f cdv A outer s H E) (fun cls d _ H' => E cls d H') → ∃ t, PSs (cxOf (L2.CX P w) P w K mg base N qual scope f cdv A outer s H E) body t ∧ t { nx := fun _ H' => Q .non H', rt := Q } (start N vs) H
section
variable {P : Program} {w : World} {K : PySem.W.Frag} {mg : Str → Option Value} {base : Heap} {x qual : Str} {params : Arguments} {body : List Stmt} {scope : Scope} {f C : Addr} {fd : FuncData} {N ps : List Str} {k : Nat} {sp : Sp} {dvs : List V} {kws : List (Str × V)}
theorem fnx_of (F : FunD K x qual params body scope dvs kws f fd) (S : FnScope N ps scope) (len : ∀ vs H Q E, sp vs H Q E → vs.length = ps.length) (hb : BodyX P w K mg base k N qual body scope f sp) : FnOk P w K mg base (L2.CX P w) (k + 1) f fd ps sp :=
  F.ok S len fun cdv A outer s H vs Q E hr hsp => hb cdv A outer s H vs Q E hr hsp (takes_of rfl rfl rfl rfl)
theorem calx_of (F : FunD K x x params body scope [] [] f fd) (hm : mg x = some (.ref f)) (b : Binds K fd ps []) (S : FnScope N ps scope) (len : ∀ vs H Q E, sp vs H Q E → vs.length = ps.length) (hb : BodyX P w K mg base k N x body scope f sp) : CalX P w K mg base (k + 1) x sp :=
  ⟨f, fd, ps, fnx_of F S len hb, hm, F.kp, b⟩
theorem metx_of (F : FunD K x qual params body scope dvs kws f fd) (c : Cls K C) (me : Meth K C x f) (b : Binds K fd ps []) (S : FnScope N ps scope) (len : ∀ vs H Q E, sp vs H Q E → vs.length = ps.length) (hb : BodyX P w K mg base k N qual body scope f sp) : MetX P w K mg base (k + 1) C x sp :=
  ⟨f, fd, ps, c, me, fnx_of F S len hb, b⟩
end
section
variable {X : Cx} {k j : Nat} {C : Addr} {x m : Str} {sp : Sp} {p pos apos : Pos} {e o : Expr} {es : List Expr} {ta : TE} {t : TA} {W : WX} {E : XK}
theorem pe_cx (c : CalX X.prog X.w X.K X.mg X.base k x sp) (tk : Takes X W) (hW : ∀ cls d σ H, E cls d H → W cls d σ H) (hr : Room j X.A) (hk : k ≤ j) (hg : Gl X x) (ha : PA X (e :: es) t) (form : Flat X x e es pos := by exact ⟨by decide, rfl, rfl⟩) :
    PE X (.Call (.Name x p) (e :: es) [] pos) (tCall sp [] E t) :=
  let ⟨_, _, _, F, at_, kept, b⟩ := c.ex
  pe_call F (hr.mono hk) hg at_ kept b .nil (passes_call tk hW) ha form.dbg form.first form.plain
theorem pe_mx {pl : Sem Bool} (c : MetX X.prog X.w X.K X.mg X.base k C m sp) (tk : Takes X W) (hW : ∀ cls d σ H, E cls d H → W cls d σ H) (hr : Room j X.A) (hk : k ≤ j) (he : PE X o ta) (ha : PA X (e :: es) t) (form : MeForm X pl o e es m apos pos := by exact ⟨rfl, rfl, rfl⟩) :
    PE X (.Call (.Attribute o m apos) (e :: es) [] pos) (tMeth C m sp [] E ta t) :=
  let ⟨_, _, _, cls, me, F, b⟩ := c.ex
  pe_meth (pl := pl) he cls me F (hr.mono hk) b .nil (passes_call tk hW) ha form.first form.plain form.steps
end
/-! ### the head: facts, one more Bool, the tables of some defs -/
def frY (g : Addr → Option Obj) (n : Nat) : PySem.W.Frag := He.frT g (He.asD g n ++ [cStatics])
structure SaysY (fa : List He.Fa) (fn : List He.DefD) (tf : List He.Defn) (ex : PySem.W.Frag → Bool) (h : Heap) (K : PySem.W.Frag) : Prop where
  d : He.SaysD fa fn K
  more : ex K = true
  code : ∀ p ∈ tf, PySem.W.codeHdIn K (He.cT K p).1 (He.cT K p).2 = true
  out : ∀ p ∈ tf, K.lookup (He.cT K p).2 = none
  empty : ∀ p ∈ tf, h.get? (He.cT K p).2 = some { cls := .none, data := .fields #[] }
abbrev AlY : Type := He.AlD × Bool
def obsY (n : Nat) (fa : List He.Fa) (fn : List He.DefD) (tf : List He.Defn) (ex : PySem.W.Frag → Bool) (g : Addr → Option Obj) : AlY := (He.obsD fa fn (frY g n), ex (frY g n) && He.tabsB g tf (frY g n))
theorem saysY_of {n : Nat} {fa : List He.Fa} {fn : List He.DefD} {tf : List He.Defn} {ex : PySem.W.Frag → Bool} {h : Heap} (e : obsY n fa fn tf ex h.get? = (He.valD fn, true)) : SaysY fa fn tf ex h (frY h.get? n) := by
  have e1 : He.obsD fa fn (frY h.get? n) = He.valD fn := congrArg (fun z : AlY => z.1) e
  have e2 : (ex (frY h.get? n) && He.tabsB h.get? tf (frY h.get? n)) = true := congrArg (fun z : AlY => z.2) e
  obtain ⟨h1, h2⟩ := Bool.and_eq_true_iff.mp e2
  have tab : ∀ p ∈ tf, PySem.W.codeHdIn (frY h.get? n) (He.cT (frY h.get? n) p).1 (He.cT (frY h.get? n) p).2 = true ∧ ∃ o, h.get? (He.cT (frY h.get? n) p).2 = some o ∧ He.emptyTab o = true := fun p hp => by
    obtain ⟨h3, h4⟩ := Bool.and_eq_true_iff.mp (List.all_eq_true.mp h2 p hp)
    refine ⟨h3, ?_⟩
    cases q : h.get? (He.cT (frY h.get? n) p).2 with
    | none => rw [q] at h4; cases h4
    | some o => rw [q] at h4; exact ⟨o, rfl, h4⟩
  refine ⟨e1, h1, fun p hp => (tab p hp).1, fun p hp => ?_, fun p hp => ?_⟩
  · obtain ⟨_, o, q, z⟩ := tab p hp
    exact He.frT_none q z
  · obtain ⟨_, o, q, z⟩ := tab p hp
    rw [q]
    exact congrArg some (He.emptyTab_eq z)
def hookY (n : Nat) (fa : List He.Fa) (fn : List He.DefD) (tf : List He.Defn) (ex : PySem.W.Frag → Bool) : PySem.W.Hook where
  α := AlY
  obs := fun s => obsY n fa fn tf ex s.heap.get?
  val := fun _ => (He.valD fn, true)
  says := fun _ h => ∃ K : PySem.W.Frag, K.In h ∧ SaysY fa fn tf ex h K
  of := fun _ _ e => ⟨_, He.frT_in, saysY_of e⟩
  keeps := fun _ _ _ ⟨K, hK, c⟩ k => ⟨K, hK.keeps k, c.d, c.more, c.code, c.out, fun p hp => k _ _ (c.empty p hp)⟩
theorem obsY_eq {n : Nat} {fa : List He.Fa} {fn : List He.DefD} {tf : List He.Defn} {ex : PySem.W.Frag → Bool} {g : Addr → Option Obj} {s : Shared} (h : ∀ a, g a = s.heap.get? a) : obsY n fa fn tf ex g = (hookY n fa fn tf ex).obs s := by
  have e : g = s.heap.get? := funext h
  rw [e]
  rfl
def clsDefB (K : PySem.W.Frag) (C f : Addr) (m : Str) : Bool := PySem.W.readsIn K C (.type "type") && (decide (PySem.W.specialIn K (.ref C) "__getattribute__" = some (some (.builtin "type.__getattribute__"))) && (match PySem.W.findCls K (.ref C) (.type "type") m with
  | some (.val (.ref g)) => decide (g = f)
  | _ => false))
theorem clsDefB_ok {K : PySem.W.Frag} {C f : Addr} {m : Str} (h : clsDefB K C f m = true) : ClsDef K C f m := by
  obtain ⟨h1, h⟩ := Bool.and_eq_true_iff.mp h
  obtain ⟨h2, h3⟩ := Bool.and_eq_true_iff.mp h
  refine ⟨h1, of_decide_eq_true h2, ?_⟩
  split at h3
  · rename_i g e
    rw [e, of_decide_eq_true h3]
  · cases h3
/-- the __init__ of an own class -/
structure InitAt (K : PySem.W.Frag) (C f : Addr) : Prop where
  find : PySem.W.findIn K (.ref C) "__init__" = some (some (.ref f))
  fn : PySem.W.typeIn K (.ref f) = some (.type "function")
def initB (K : PySem.W.Frag) (C : Addr) : Bool := decide (PySem.W.findIn K (.ref C) "__init__" = some (some (.ref (He.ma K C "__init__")))) && decide (PySem.W.typeIn K (.ref (He.ma K C "__init__")) = some (.type "function"))
theorem initB_ok {K : PySem.W.Frag} {C : Addr} (h : initB K C = true) : InitAt K C (He.ma K C "__init__") :=
  let ⟨h1, h2⟩ := Bool.and_eq_true_iff.mp h
  ⟨of_decide_eq_true h1, of_decide_eq_true h2⟩
/-- a def with defaults, all parameters handed in -/
theorem bindsD {K : PySem.W.Frag} {x qual : Str} {params : Arguments} {body : List Stmt} {scope : Scope} {dvs : List V} {kws : List (Str × V)} {f : Addr} {fd : FuncData} {ps : List Str} (F : FunD K x qual params body scope dvs kws f fd)
    (h : ∀ (dV kV doc pm : Value) (an : Option Addr) (cdv ct : Value) (us : List Value), us.length = ps.length → bindArgs (PySem.W.fnOf x qual params body scope dV kV doc pm an cdv ct) ⟨us, []⟩ = pure (ps.zip us)) : Binds K fd ps [] := by
  obtain ⟨_, _, dV, kV, doc, pm, an, cdv, ct, _, rfl, _⟩ := F.ex
  exact .all (h dV kV doc pm an cdv ct)
def viB (K : PySem.W.Frag) (b i : String) : Bool := match PySem.W.findCls K (.type b) (.type "type") "__init__" with
  | some (.val (.builtin j)) => decide (j = i)
  | _ => false
theorem viB_ok {K : PySem.W.Frag} {b i : String} (h : viB K b i = true) : PySem.W.findCls K (.type b) (.type "type") "__init__" = some (.val (.builtin i)) := by
  unfold viB at h
  split at h
  · rename_i j e
    rw [e, of_decide_eq_true h]
  · cases h
end Tw

set_option maxHeartbeats 4000000
/-! own exception classes over any of some built-in ones: made, stored into, raised. The class is read off by the library's excInitIn, excOver, hasDictIn; the store goes by osa_openX. -/
namespace Tw
open PySem PySem.Spec PyProof.Rows L2
/-- a built-in class of exceptions: its name, its makers, the line of its elders -/
structure Bs where
  name : String
  newId : String
  initId : String
  tail : List Value
structure BsOk (b : Bs) : Prop where
  fac : ExcBaseFacts b.name b.newId b.initId b.tail
  sto : StoreFacts b.name b.tail "object.__setattr__" "object"
  typ : typeOf (.type b.name) = pure (.type "type")
  stub : Manifest.isStub b.name = false
abbrev bVE : Bs := ⟨"ValueError", "ValueError.__new__", "ValueError.__init__", [.type "ValueError", .type "Exception", .type "BaseException", .type "object"]⟩
abbrev bLE : Bs := ⟨"LookupError", "LookupError.__new__", "LookupError.__init__", [.type "LookupError", .type "Exception", .type "BaseException", .type "object"]⟩
abbrev bRE : Bs := ⟨"RuntimeError", "RuntimeError.__new__", "RuntimeError.__init__", [.type "RuntimeError", .type "Exception", .type "BaseException", .type "object"]⟩
abbrev bIE : Bs := ⟨"IndexError", "IndexError.__new__", "IndexError.__init__", [.type "IndexError", .type "LookupError", .type "Exception", .type "BaseException", .type "object"]⟩
theorem bb_ValueError : bootBuiltins "ValueError" = some (.type "ValueError") := by decide +kernel
theorem bb_LookupError : bootBuiltins "LookupError" = some (.type "LookupError") := by decide +kernel
theorem bb_RuntimeError : bootBuiltins "RuntimeError" = some (.type "RuntimeError") := by decide +kernel
theorem bb_IndexError : bootBuiltins "IndexError" = some (.type "IndexError") := by decide +kernel
theorem bVE_ok : BsOk bVE := ⟨F.excBase_ValueError, F.store_ValueError, by kernel_rfl, by decide +kernel⟩
theorem bIE_ok : BsOk bIE := ⟨F.excBase_IndexError, F.store_IndexError, by kernel_rfl, by decide +kernel⟩
theorem bLE_ok : BsOk bLE := ⟨F.excBase_LookupError, F.store_LookupError, by kernel_rfl, by decide +kernel⟩
theorem bRE_ok : BsOk bRE := ⟨F.excBase_RuntimeError, F.store_RuntimeError, by kernel_rfl, by decide +kernel⟩
/-- what the written part says of an own class over b -/
structure OxC (b : Bs) (K : PySem.W.Frag) (C : Addr) : Prop where
  ok : BsOk b
  makes : PySem.W.excInitIn K C b.tail b.newId = true
  over : PySem.W.excOver K C b.tail = true
  dict : PySem.W.hasDictIn K C = true
  store : PySem.W.findIn K (.ref C) "__setattr__" = some (some (.builtin "object.__setattr__"))
  exc : PySem.W.subIn K (.ref C) (.type "BaseException") = some true
  typ : PySem.W.typeIn K (.ref C) = some (.type "type")
  keep : PySem.W.keepIn K (.ref C) = true
def oxB (b : Bs) (K : PySem.W.Frag) (C : Addr) : Bool :=
  [PySem.W.excInitIn K C b.tail b.newId, PySem.W.excOver K C b.tail, PySem.W.hasDictIn K C, decide (PySem.W.findIn K (.ref C) "__setattr__" = some (some (.builtin "object.__setattr__"))), decide (PySem.W.subIn K (.ref C) (.type "BaseException") = some true), decide (PySem.W.typeIn K (.ref C) = some (.type "type")), PySem.W.keepIn K (.ref C)].all id
theorem oxB_ok {b : Bs} (okb : BsOk b) {K : PySem.W.Frag} {C : Addr} (h : oxB b K C = true) : OxC b K C := by
  simp only [oxB, List.all_cons, List.all_nil, id, Bool.and_true, Bool.and_eq_true, decide_eq_true_eq] at h
  obtain ⟨q1, q2, q3, q4, q5, q6, q7⟩ := h
  exact ⟨okb, q1, q2, q3, q4, q5, q6, q7⟩
section
variable {b : Bs} {X : Cx} {pins : List (Addr × Obj)} {σ : L2.St} {H : Hp} {s : Shared} {a C dx : Addr} {f : Str} {y : V} {u : Value} {fs : List (Str × V)} {E : Value → Shared → Prop} {A : Around}
theorem taker0 {K : PySem.W.Frag} (no : PySem.W.findIn K (.ref C) f = some none) : PySem.W.takerIn K C f = some none := by
  unfold PySem.W.takerIn
  rw [no]
  rfl
/-- the first field: a dict is laid, then the exception is made to hold it -/
theorem oxs_first {Q : Unit → Shared → Prop} (T : OxC b X.K C) (I : Inv X pins σ H s) (e : H a = some (exo a C none)) (no : PySem.W.findIn X.K (.ref C) f = some none) (ry : RelV y u)
    (h : ∀ dx s', H dx = none → dx ≠ a → Inv X pins σ (upd (upd H dx (exd dx [(f, y)])) a (exo a C (some dx))) s' → Q () s') : wpAny (model X.prog X.w) A (setAttr (.ref a) f u) Q E s := by
  obtain ⟨t1, old⟩ := exo_at I.hok e
  obtain ⟨hp, g, d, t, os⟩ := s
  obtain ⟨cd, hc, hd⟩ := PySem.W.any_some T.dict
  have ne : a ≠ hp.objs.size := Nat.ne_of_lt (Heap.lt_size old)
  refine PySem.W.set_plain (od := none) I.kIn ⟨old, rfl, rfl, trivial⟩ T.store (PySem.W.osa_openX (od := none) T.ok.sto I.kIn ⟨old, rfl, rfl, trivial⟩ T.over (taker0 no) fun _ => ?_)
  refine wpAny_bind (wpAny_pure (wpAny_bind (PySem.W.instanceDict_exc old (PySem.W.looks_clsIn I.kIn hc) hd ?_)))
  have held : ((hp.push (PySem.W.dictOf [] 0)).update a fun o => { o with dict := some hp.objs.size }).get? a = some { cls := .ref C, dict := some hp.objs.size, data := .fields #[.ref t1, .none, .none, .none, .bool false, .none] } := Heap.get?_update_self _ (Heap.get?_push_of_some _ old) rfl
  refine HandSPX.store_in_new ⟨_, #[], _, (Heap.get?_update_ne _ _ _ _ ne.symm).trans (Heap.get?_push_at rfl rfl), rfl, fun e he => absurd he (by simp), fun _ => rfl⟩ fun h' tk' hn hs => ?_
  have atA : h'.get? a = _ := (hs.2 a ne).trans held
  -- the heap between: the dict filled, the exception not yet touched
  have back : (h'.update a fun _ => { cls := .ref C, dict := none, data := .fields #[.ref t1, .none, .none, .none, .bool false, .none] }).get? a = some { cls := .ref C, dict := none, data := .fields #[.ref t1, .none, .none, .none, .bool false, .none] } := Heap.get?_update_self _ atA rfl
  have mid := I.laid (h' := h'.update a fun _ => { cls := .ref C, dict := none, data := .fields #[.ref t1, .none, .none, .none, .bool false, .none] }) (t' := tk') (o := exd hp.objs.size [(f, y)]) (fun c o q => ?_) (Nat.le_refl _)
    (exd_ok (hn.at fun o q => (Heap.get?_update_ne _ _ _ _ ne.symm).trans q) (relO_put (fs := []) ry fun _ => True.intro))
  · refine h hp.objs.size _ (I.hok.fresh (Nat.le_refl _)) ne.symm (mid.write (h' := h') (t' := tk') (x := a) (e := a) (o := exo a C (some hp.objs.size)) (by rw [upd_ne ne, e]; exact True.intro) (.inl rfl) (fun c o hc q => ?_) ⟨_, atA⟩ (exo_ok atA))
    exact (Heap.get?_update_ne _ _ _ _ hc).symm.trans q
  · by_cases hca : c = a
    · subst hca
      rw [back]
      exact old.symm.trans q
    · rw [Heap.get?_update_ne _ _ _ _ hca, hs.2 c (Nat.ne_of_lt (Heap.lt_size q)), Heap.get?_update_ne _ _ _ _ hca]
      exact Heap.get?_push_of_some _ q
/-- a further field -/
theorem oxs_more {Q : Unit → Shared → Prop} (T : OxC b X.K C) (I : Inv X pins σ H s) (e : H a = some (exo a C (some dx))) (ed : H dx = some (exd dx fs)) (hl : fs.length ≤ 900) (no : PySem.W.findIn X.K (.ref C) f = some none) (ry : RelV y u) (h : ∀ s', Inv X pins σ (upd H dx (exd dx ((f, y) :: fs))) s' → Q () s') :
    wpAny (model X.prog X.w) A (setAttr (.ref a) f u) Q E s := by
  obtain ⟨t1, old⟩ := exo_at I.hok e
  obtain ⟨m0, ns, rel⟩ := exd_at I.hok ed
  obtain ⟨hp, g, d, t, os⟩ := s
  obtain ⟨cd, hc, hd⟩ := PySem.W.any_some T.dict
  obtain ⟨od, _, _, atD, _⟩ := ns.count (within_of rel)
  refine PySem.W.set_plain (od := some od) I.kIn ⟨old, rfl, rfl, atD⟩ T.store (PySem.W.osa_openX (od := some od) T.ok.sto I.kIn ⟨old, rfl, rfl, atD⟩ T.over (taker0 no) fun _ => ?_)
  refine wpAny_bind (wpAny_pure (wpAny_bind (wpAny_bind (wpAny_loadPart old (wpAny_bind ((PySem.W.looks_clsIn I.kIn hc).at ?_))))))
  rw [hd]
  refine wpAny_pure (a := some dx) (PySem.OEX.store_in_old ns (within_of rel) (by rw [List.length_map]; omega) fun h' tk' hn hs => ?_)
  obtain ⟨_, _, _, there, _⟩ := id hn
  exact h _ (I.write (t' := tk') (x := dx) (e := dx) (o := exd dx ((f, y) :: fs)) (by rw [ed]; exact True.intro) (.inl rfl) (fun c o hc q => (hs.2 c hc).trans q) ⟨_, there⟩ (exd_ok hn (relO_put ry rel)))
theorem upd_idem {o : HO} (e : H a = some o) : upd H a o = H := funext fun c => by
  by_cases hc : c = a
  · subst hc
    exact upd_same.trans e.symm
  · exact upd_ne hc
/-- B.__init__ of the built-in class: the exception keeps its shape -/
theorem ox_init {us : List Value} {Q : Value → Shared → Prop} (T : OxC b X.K C) (I : Inv X pins σ H s) (e : H a = some (exo a C none)) (hl : us.length ≤ sizeLine) (h : ∀ s', Inv X pins σ H s' → Q .none s') : wpAny (model X.prog X.w) A (call (.builtin b.initId) (.ref a :: us)) Q E s := by
  obtain ⟨_, _, _, _, _, _, _, _, _, _, _, _, _, _, _, _, cls, line⟩ := PySem.W.excInit_of I.kIn T.makes
  obtain ⟨t1, old⟩ := exo_at I.hok e
  obtain ⟨hp, g, d, t, os⟩ := s
  refine wpAny_call (PySem.HandSPX.init_base T.ok.fac line cls old hl fun h' t2 k new => h _ ?_)
  have J := I.write (t' := t) (x := a) (e := a) (o := exo a C none) (by rw [e]; exact True.intro) (.inl rfl) k ⟨_, new⟩ (exo_ok new)
  rwa [upd_idem e] at J
end
/-- B.__init__(self, ..), B the built-in one -/
def tBi (b : Bs) (K : PySem.W.Frag) (ta : TA) : TE := fun σ H Q => ta σ H fun vs H1 => ∃ (a C : Addr) (ws : List V), vs = .ref a :: ws ∧ ws.length ≤ 1000 ∧ OxC b K C ∧ H1 a = some (exo a C none) ∧ Q .non H1
/-- self.f = e -/
def tOx (b : Bs) (K : PySem.W.Frag) (f : Str) (to te : TE) : TS := fun D σ H => te σ H fun y H1 => to σ H1 fun x H2 => ∃ a C : Addr, x = .ref a ∧ OxC b K C ∧ PySem.W.findIn K (.ref C) f = some none ∧
  ((H2 a = some (exo a C none) ∧ ∀ dx, H2 dx = none → dx ≠ a → D.nx σ (upd (upd H2 dx (exd dx [(f, y)])) a (exo a C (some dx)))) ∨ ∃ (dx : Addr) (fs : List (Str × V)), H2 a = some (exo a C (some dx)) ∧ H2 dx = some (exd dx fs) ∧ fs.length ≤ 900 ∧ D.nx σ (upd H2 dx (exd dx ((f, y) :: fs))))
section
variable {b : Bs} {X : Cx} {o e : Expr} {es : List Expr} {to te : TE} {ta : TA} {f x : Str} {p p' p1 p2 pos : Pos} {pl : Sem Bool}
theorem pe_binit (okb : BsOk b) (hv : bootBuiltins x = some (.type b.name)) (hg : Gl X x) (hm : X.mg x = none) (vV : PySem.W.findCls X.K (.type b.name) (.type "type") "__init__" = some (.val (.builtin b.initId))) (hh : PySem.W.handedIn (.builtin b.initId) = true) (ha : PA X (e :: es) ta)
    (form : MeForm X pl (.Name x p1) e es "__init__" p2 pos := by exact ⟨rfl, rfl, rfl⟩) (hn : x ≠ "__name__" := by decide) (hdb : (x == ("__debug__" : Str)) = false := by decide) :
    PE X (.Call (.Attribute (.Name x p1) "__init__" p2) (e :: es) [] pos) (tBi b X.K ta) := by
  constructor
  intro pins s σ H Q I h
  obtain ⟨_, fr⟩ := I.fr
  refine PySem.W.methodCall_KW (pl := pl) (ld_blt I hg hm hv (PySem.W.method_type fr I.ok.mod.kin okb.typ okb.stub vV hh ?_) hn hdb) form.steps
  refine PyProof.Rows.callWith_method1 (thn (ha.run pos pins _ σ H _ (I.tok _) h) ?_) form.first form.plain
  rintro _ s1 ⟨_, H1, I1, rel, a, C, ws, rfl, hl, T, ea, q⟩
  cases rel with
  | cons ra rr =>
    cases (show _ = Value.ref a from ra)
    exact ox_init T I1 ea (Nat.le_trans (Nat.le_of_eq (Paired.length rr).symm) (by rw [sizeLine_eq]; omega)) fun s' J => ⟨.non, H1, J, rfl, q⟩
theorem ps_ox (ho : PE X o to) (he : PE X e te) (hs : swapsWith e (some (.Attribute o f p')) pos.line X.env = pure false := by rfl) : PS X (.Assign [.Attribute o f p'] e pos) (tOx b X.K f to te) := by
  constructor
  intro pins s σ H D I h
  refine plainObj_wpAny_Assign_Attribute (thn (he.run pins s σ H _ I h) ?_) hs
  rintro v s1 ⟨y, H1, I1, ry, q1⟩
  refine thn (ho.run pins s1 σ H1 _ I1 q1) ?_
  rintro _ s2 ⟨_, H2, I2, ro, a, C, rfl, T, no, new | more⟩ <;> cases (show _ = Value.ref a from ro)
  · exact oxs_first T I2 new.1 no ry fun dx s' n ne J => ⟨σ, _, J, new.2 dx n ne⟩
  · obtain ⟨dx, fs, ea, ed, hl, q⟩ := more
    exact oxs_more T I2 ea ed hl no ry fun s' J => ⟨σ, _, J, q⟩
/-- an own exception class over b that is made by its name -/
structure MkB (b : Bs) (P : Program) (w : World) (K : PySem.W.Frag) (mg : Str → Option Value) (base : Heap) (k : Nat) (x : Str) (C : Addr) (sp : Sp) : Prop where
  ex : ∃ (f : Addr) (fd : FuncData) (ps : List Str), OxC b K C ∧ InitAt K C f ∧ FnOk P w K mg base CX0 k f fd ps sp ∧ mg x = some (.ref C) ∧ Binds K fd ps []
theorem pmk_b {k j : Nat} {C : Addr} {sp : Sp} (c : MkB b X.prog X.w X.K X.mg X.base k x C sp) (hr : Room j X.A) (hk : k + 1 ≤ j) (hg : Gl X x) (ha : PA X (e :: es) ta) (form : Flat X x e es pos := by exact ⟨by decide, rfl, rfl⟩) : PMk X (.Call (.Name x p) (e :: es) [] pos) (tMkO C sp [] ta) := by
  intro pins s σ H Q I h
  obtain ⟨init, fd, ps, T, at_, F0, hm, bnd⟩ := c.ex
  have F := F0.raw bnd .nil
  refine wpAny_Call_Name_kw (ld_glob I hg hm (PySem.W.callWith_K (h₀ := X.base) I.ok.mod.kin T.keep (thn (ha.run pos pins s σ H _ I h) ?_) form.first form.plain) form.dbg)
  rintro us ⟨hp, g, d, t, os⟩ ⟨vs, H1, I1, rel, few, q⟩
  refine ⟨I1.kIn, ?_⟩
  obtain ⟨_, _, _, _, _, _, _, _, _, _, _, _, _, _, _, _, cls, line⟩ := PySem.W.excInit_of I1.kIn T.makes
  -- the args' tuple and the exception lie behind one another
  have next : hp.objs.size ≤ hp.objs.size + 1 := Nat.le_succ _
  have kept : ∀ c o, hp.get? c = some o → ((hp.push (PySem.W.kdv_tup us)).push (PySem.HandSPX.excO C hp.objs.size)).get? c = some o := fun c o z => Heap.get?_push_of_some _ (Heap.get?_push_of_some _ z)
  have I2 := I1.laid (h' := (hp.push (PySem.W.kdv_tup us)).push (PySem.HandSPX.excO C hp.objs.size)) (t' := t) (o := exo (hp.objs.size + 1) C none) kept next (exo_ok (t1 := hp.objs.size) (by heap_get))
  have fits : us.length ≤ sizeLine := Nat.le_trans (Nat.le_of_eq (Paired.length rel).symm) (by rw [sizeLine_eq]; omega)
  have ran := F _ X.stack _ _ (.ref (hp.objs.size + 1) :: us) (.ref (hp.objs.size + 1) :: vs) _ E0 ((hr.mono hk).make C us []) (I2.env0.make C us []) (.cons rfl rel) (q _ (I1.hok.fresh next))
  refine wpAny_call (PySem.HandSPX.call_own T.ok.fac line cls (PySem.W.looks_findIn I1.kIn at_.find) (fun self => PySem.W.bind_fn I1.kIn self at_.fn) fits (codeAny_mono ran ?_))
  rintro (_ | (_ | _ | _ | _)) ⟨h2, g2, d2, t2, os2⟩ z <;> first
    | exact False.elim z
    | (obtain ⟨_, H2, os', bare, un, hok, rv, rfl, dd, fs, ea, ed, new, q2⟩ := z
       exact ⟨rv, mk_end (raises_own T.exc T.typ) I1 next kept un hok os' bare ea ed new q2⟩)
end
end Tw

set_option maxHeartbeats 4000000
/-! a head that looks only at the globals that are wanted, and what hangs on them; of some at nothing but themselves -/
namespace Tw
open PySem PySem.Spec PyProof.Rows L2
/-- one step further, but never back into the globals -/
def growZ (g : Addr → Option Obj) (as : List Addr) : List Addr := (as ++ as.flatMap fun a => match g a with
  | some o => (He.refsD o).filter fun b => !(b == mainGlobals)
  | none => []).eraseDups
def asZ (g : Addr → Option Obj) (want : List Str × List Str) : Nat → List Addr
  | 0 => want.1.map (He.ga (He.frT g [mainGlobals]))
  | n + 1 => growZ g (asZ g want n)
def frZ (g : Addr → Option Obj) (want : List Str × List Str) (n : Nat) : PySem.W.Frag := He.frT g (mainGlobals :: (asZ g want n ++ (want.2.map (He.ga (He.frT g [mainGlobals])) ++ [cStatics])))
def obsZ (n : Nat) (want : List Str × List Str) (fa : List He.Fa) (fn : List He.DefD) (tf : List He.Defn) (ex : PySem.W.Frag → Bool) (g : Addr → Option Obj) : AlY := (He.obsD fa fn (frZ g want n), ex (frZ g want n) && He.tabsB g tf (frZ g want n))
theorem saysZ_of {n : Nat} {want : List Str × List Str} {fa : List He.Fa} {fn : List He.DefD} {tf : List He.Defn} {ex : PySem.W.Frag → Bool} {h : Heap} (e : obsZ n want fa fn tf ex h.get? = (He.valD fn, true)) : SaysY fa fn tf ex h (frZ h.get? want n) := by
  have e1 := congrArg (fun z : AlY => z.1) e
  obtain ⟨m1, m2⟩ := Bool.and_eq_true_iff.mp (congrArg (fun z : AlY => z.2) e)
  have at_ : ∀ p ∈ tf, PySem.W.codeHdIn (frZ h.get? want n) (He.cT (frZ h.get? want n) p).1 (He.cT (frZ h.get? want n) p).2 = true ∧ ∃ o, h.get? (He.cT (frZ h.get? want n) p).2 = some o ∧ He.emptyTab o = true := by
    intro p hp
    obtain ⟨c1, c2⟩ := Bool.and_eq_true_iff.mp (List.all_eq_true.mp m2 p hp)
    revert c2
    cases h.get? (He.cT (frZ h.get? want n) p).2 with
    | none => exact fun z => nomatch z
    | some o => exact fun z => ⟨c1, o, rfl, z⟩
  refine ⟨e1, m1, fun p hp => (at_ p hp).1, fun p hp => ?_, fun p hp => ?_⟩
  · obtain ⟨_, o, q, z⟩ := at_ p hp
    exact He.frT_none q z
  · obtain ⟨_, o, q, z⟩ := at_ p hp
    rw [q, He.emptyTab_eq z]
def hookZ (n : Nat) (want : List Str × List Str) (fa : List He.Fa) (fn : List He.DefD) (tf : List He.Defn) (ex : PySem.W.Frag → Bool) : PySem.W.Hook where
  α := AlY
  obs := fun s => obsZ n want fa fn tf ex s.heap.get?
  val := fun _ => (He.valD fn, true)
  says := fun _ h => ∃ K : PySem.W.Frag, K.In h ∧ SaysY fa fn tf ex h K
  of := fun _ _ e => ⟨_, He.frT_in, saysZ_of e⟩
  keeps := fun _ _ _ ⟨K, hK, c⟩ k => ⟨K, hK.keeps k, c.d, c.more, c.code, c.out, fun p hp => k _ _ (c.empty p hp)⟩
theorem obsZ_eq {n : Nat} {want : List Str × List Str} {fa : List He.Fa} {fn : List He.DefD} {tf : List He.Defn} {ex : PySem.W.Frag → Bool} {g : Addr → Option Obj} {s : Shared} (h : ∀ a, g a = s.heap.get? a) : obsZ n want fa fn tf ex g = (hookZ n want fa fn tf ex).obs s := by
  rw [show g = s.heap.get? from funext h]
  rfl
/-! .. with dicts of the top whose keys are texts -/
structure SaysW (fa : List He.Fa) (fn : List He.DefD) (tf : List He.Defn) (ex : PySem.W.Frag → Bool) (tb : List He.Tab) (w : World) (h : Heap) (K : PySem.W.Frag) : Prop where
  y : SaysY fa fn tf ex h K
  tab : ∀ t ∈ tb, ∃ es n, KDict K w (t.1 K) es n
  tabo : ∀ t ∈ tb, He.dicW K (t.1 K) = some (He.keysIn w.params t.2)
abbrev AlW : Type := AlY × List (Option (List (Option (Str × Int))))
def obsW (n : Nat) (want : List Str × List Str) (fa : List He.Fa) (fn : List He.DefD) (tf : List He.Defn) (ex : PySem.W.Frag → Bool) (tb : List He.Tab) (g : Addr → Option Obj) : AlW := (obsZ n want fa fn tf ex g, tb.map fun t => He.dicW (frZ g want n) (t.1 (frZ g want n)))
def valW (fn : List He.DefD) (tb : List He.Tab) (w : World) : AlW := ((He.valD fn, true), tb.map fun t => some (He.keysIn w.params t.2))
theorem saysW_of {n : Nat} {want : List Str × List Str} {fa : List He.Fa} {fn : List He.DefD} {tf : List He.Defn} {ex : PySem.W.Frag → Bool} {tb : List He.Tab} {w : World} {h : Heap} (e : obsW n want fa fn tf ex tb h.get? = valW fn tb w) : SaysW fa fn tf ex tb w h (frZ h.get? want n) := by
  have e2 : (tb.map fun t => He.dicW (frZ h.get? want n) (t.1 (frZ h.get? want n))) = tb.map fun t => some (He.keysIn w.params t.2) := congrArg Prod.snd e
  exact ⟨saysZ_of (congrArg Prod.fst e), fun t ht => He.dicW_ok (ks := t.2) (List.map_inj_left.mp e2 t ht), fun t ht => List.map_inj_left.mp e2 t ht⟩
def hookW (n : Nat) (want : List Str × List Str) (fa : List He.Fa) (fn : List He.DefD) (tf : List He.Defn) (ex : PySem.W.Frag → Bool) (tb : List He.Tab) : PySem.W.Hook where
  α := AlW
  obs := fun s => obsW n want fa fn tf ex tb s.heap.get?
  val := fun w => valW fn tb w
  says := fun w h => ∃ K : PySem.W.Frag, K.In h ∧ SaysW fa fn tf ex tb w h K
  of := fun _ _ e => ⟨_, He.frT_in, saysW_of e⟩
  keeps := fun _ _ _ ⟨K, hK, c⟩ k => ⟨K, hK.keeps k, ⟨c.y.d, c.y.more, c.y.code, c.y.out, fun p hp => k _ _ (c.y.empty p hp)⟩, c.tab, c.tabo⟩
theorem obsW_eq {n : Nat} {want : List Str × List Str} {fa : List He.Fa} {fn : List He.DefD} {tf : List He.Defn} {ex : PySem.W.Frag → Bool} {tb : List He.Tab} {g : Addr → Option Obj} {s : Shared} (h : ∀ a, g a = s.heap.get? a) : obsW n want fa fn tf ex tb g = (hookW n want fa fn tf ex tb).obs s := by
  rw [show g = s.heap.get? from funext h]
  rfl
/-- three looks at one end, taken one by one -/
theorem three_of {α β γ δ : Type} {o : Option α} {f : α → β} {g : α → γ} {h : α → δ} {x : β} {y : γ} {z : δ} (e1 : o.map (fun s => (f s, g s)) = some (x, y)) (e2 : o.map h = some z) : o.map (fun s => (f s, g s, h s)) = some (x, y, z) := by
  cases o with
  | none => cases e1
  | some s =>
    have h1 := Option.some.inj e1
    have h2 : h s = z := Option.some.inj e2
    show some (f s, g s, h s) = some (x, y, z)
    rw [h2, show f s = x from congrArg Prod.fst h1, show g s = y from congrArg Prod.snd h1]
end Tw

set_option maxHeartbeats 4000000
namespace Tw
open PySem PySem.Spec PyProof.Rows L2

def top (i : Nat) : Stmt := PySem.Challenge.pw_tidewaiter_k22_whole_looser_never_harms.main.body.getD i (.Pass ⟨0, 0, 0, 0⟩)
abbrev s_is_number : Stmt := top 19
abbrev s_is_whole : Stmt := top 20
abbrev s_is_one_of : Stmt := top 21
abbrev s_is_name : Stmt := top 22
abbrev s_Web_UinitU : Stmt := inClass (top 33) 0
abbrev s_Web_with_by : Stmt := inClass (top 33) 1
abbrev s_Web_with_moment : Stmt := inClass (top 33) 2
abbrev s_Web_with_span : Stmt := inClass (top 33) 3
abbrev s_Web_with_tie : Stmt := inClass (top 33) 4
abbrev s_Web_without : Stmt := inClass (top 33) 5
abbrev s_Web_without_tie : Stmt := inClass (top 33) 6
abbrev s_Web_moments : Stmt := inClass (top 33) 7
abbrev s_Web_spans : Stmt := inClass (top 33) 8
abbrev s_Web_ties : Stmt := inClass (top 33) 9
abbrev s_Web_points : Stmt := inClass (top 33) 10
abbrev s_Web_UeqU : Stmt := inClass (top 33) 11
abbrev s_Web_UlenU : Stmt := inClass (top 33) 12
abbrev s_Web_UreprU : Stmt := inClass (top 33) 13
abbrev s_woven : Stmt := top 34
abbrev s_is_begin : Stmt := top 35
abbrev s_are_lengths : Stmt := top 36
abbrev s_is_lateness : Stmt := top 37
abbrev s_is_used : Stmt := top 38
abbrev s_are_bounds : Stmt := top 39
abbrev s_need_free_name : Stmt := top 40
abbrev s_need_point : Stmt := top 41
abbrev s_bases : Stmt := top 43
abbrev s_offset : Stmt := top 44
abbrev s_bounds : Stmt := top 45
abbrev s_tie_bounds : Stmt := top 46
abbrev s_heard_spans : Stmt := top 47
abbrev s_heard_begins : Stmt := top 51
abbrev s_late_waits : Stmt := top 52
abbrev s_sure : Stmt := top 53
abbrev s_soon : Stmt := top 54
abbrev s_ahead : Stmt := top 55
abbrev s_Making_UinitU : Stmt := inClass (top 58) 0
abbrev s_Making_offer : Stmt := inClass (top 58) 1
abbrev s_Making_tell : Stmt := inClass (top 58) 2
abbrev s_Making_go_round : Stmt := inClass (top 58) 3
abbrev s_Making_go_along : Stmt := inClass (top 58) 4
abbrev s_Making_go_wait : Stmt := inClass (top 58) 5
abbrev s_Making_go_single : Stmt := inClass (top 58) 6
abbrev s_Table_UinitU : Stmt := inClass (top 60) 0
abbrev s_Table_until : Stmt := inClass (top 60) 2
abbrev s_Table_betweens : Stmt := inClass (top 60) 3
abbrev s_Table_untils : Stmt := inClass (top 60) 4
abbrev s_Table_UeqU : Stmt := inClass (top 60) 5
abbrev s_Table_UlenU : Stmt := inClass (top 60) 6
abbrev s_Table_UreprU : Stmt := inClass (top 60) 7
abbrev s_need_base : Stmt := top 61
abbrev s_settled : Stmt := top 63
abbrev s_steered : Stmt := top 64
abbrev s_make_all : Stmt := top 65
abbrev s_table_of : Stmt := top 66
abbrev s_paper_of : Stmt := top 67
abbrev s_row_places : Stmt := top 68
abbrev s_moved_row : Stmt := top 69
abbrev s__law_flow : Stmt := top 71
abbrev s__law_draw : Stmt := top 72
abbrev s__law_pick : Stmt := top 73
abbrev s__law_names : Stmt := top 74
abbrev s__law_model : Stmt := top 75
abbrev s__law_points : Stmt := top 76
abbrev s__law_web : Stmt := top 77
abbrev s__law_wind : Stmt := top 78
abbrev s__law_bond : Stmt := top 79
abbrev s__law_drawn : Stmt := top 80
abbrev s__law_copy : Stmt := top 81
abbrev s__law_looser : Stmt := top 82
abbrev s_law : Stmt := top 83
abbrev N_is_number : List Str := ["thing"]
theorem sc_is_number : FnScope N_is_number ["thing"] (defScope s_is_number) := ⟨rfl, rfl, rfl, by decide +kernel, rfl, by decide +kernel, by decide +kernel⟩
abbrev N_is_whole : List Str := ["thing", "least", "most"]
theorem sc_is_whole : FnScope N_is_whole ["thing", "least", "most"] (defScope s_is_whole) := ⟨rfl, rfl, rfl, by decide +kernel, rfl, by decide +kernel, by decide +kernel⟩
abbrev N_is_one_of : List Str := ["thing", "names"]
theorem sc_is_one_of : FnScope N_is_one_of ["thing", "names"] (defScope s_is_one_of) := ⟨rfl, rfl, rfl, by decide +kernel, rfl, by decide +kernel, by decide +kernel⟩
abbrev N_is_name : List Str := ["thing", "letter"]
theorem sc_is_name : FnScope N_is_name ["thing"] (defScope s_is_name) := ⟨rfl, rfl, rfl, by decide +kernel, rfl, by decide +kernel, by decide +kernel⟩
abbrev N_Web_UinitU : List Str := ["self", "by"]
theorem sc_Web_UinitU : FnScope N_Web_UinitU ["self", "by"] (defScope s_Web_UinitU) := ⟨rfl, rfl, rfl, by decide +kernel, rfl, by decide +kernel, by decide +kernel⟩
abbrev N_Web_with_by : List Str := ["self", "by"]
theorem sc_Web_with_by : FnScope N_Web_with_by ["self", "by"] (defScope s_Web_with_by) := ⟨rfl, rfl, rfl, by decide +kernel, rfl, by decide +kernel, by decide +kernel⟩
abbrev N_Web_with_moment : List Str := ["self", "name"]
theorem sc_Web_with_moment : FnScope N_Web_with_moment ["self", "name"] (defScope s_Web_with_moment) := ⟨rfl, rfl, rfl, by decide +kernel, rfl, by decide +kernel, by decide +kernel⟩
abbrev N_Web_with_span : List Str := ["self", "end", "begin", "low", "high", "late", "span"]
theorem sc_Web_with_span : FnScope N_Web_with_span ["self", "end", "begin", "low", "high", "late"] (defScope s_Web_with_span) := ⟨rfl, rfl, rfl, by decide +kernel, rfl, by decide +kernel, by decide +kernel⟩
abbrev N_Web_with_tie : List Str := ["self", "one", "other", "least", "most", "tie"]
theorem sc_Web_with_tie : FnScope N_Web_with_tie ["self", "one", "other", "least", "most"] (defScope s_Web_with_tie) := ⟨rfl, rfl, rfl, by decide +kernel, rfl, by decide +kernel, by decide +kernel⟩
abbrev N_Web_without : List Str := ["self", "name", "moments", "spans", "moment", "span"]
theorem sc_Web_without : FnScope N_Web_without ["self", "name"] (defScope s_Web_without) := ⟨rfl, rfl, rfl, by decide +kernel, rfl, by decide +kernel, by decide +kernel⟩
abbrev N_Web_without_tie : List Str := ["self", "at", "ties"]
theorem sc_Web_without_tie : FnScope N_Web_without_tie ["self", "at"] (defScope s_Web_without_tie) := ⟨rfl, rfl, rfl, by decide +kernel, rfl, by decide +kernel, by decide +kernel⟩
abbrev N_Web_moments : List Str := ["self"]
theorem sc_Web_moments : FnScope N_Web_moments ["self"] (defScope s_Web_moments) := ⟨rfl, rfl, rfl, by decide +kernel, rfl, by decide +kernel, by decide +kernel⟩
abbrev N_Web_spans : List Str := ["self"]
theorem sc_Web_spans : FnScope N_Web_spans ["self"] (defScope s_Web_spans) := ⟨rfl, rfl, rfl, by decide +kernel, rfl, by decide +kernel, by decide +kernel⟩
abbrev N_Web_ties : List Str := ["self"]
theorem sc_Web_ties : FnScope N_Web_ties ["self"] (defScope s_Web_ties) := ⟨rfl, rfl, rfl, by decide +kernel, rfl, by decide +kernel, by decide +kernel⟩
abbrev N_Web_points : List Str := ["self", "ends", "span"]
theorem sc_Web_points : FnScope N_Web_points ["self"] (defScope s_Web_points) := ⟨rfl, rfl, rfl, by decide +kernel, rfl, by decide +kernel, by decide +kernel⟩
abbrev N_Web_UeqU : List Str := ["self", "other"]
theorem sc_Web_UeqU : FnScope N_Web_UeqU ["self", "other"] (defScope s_Web_UeqU) := ⟨rfl, rfl, rfl, by decide +kernel, rfl, by decide +kernel, by decide +kernel⟩
abbrev N_Web_UlenU : List Str := ["self"]
theorem sc_Web_UlenU : FnScope N_Web_UlenU ["self"] (defScope s_Web_UlenU) := ⟨rfl, rfl, rfl, by decide +kernel, rfl, by decide +kernel, by decide +kernel⟩
abbrev N_Web_UreprU : List Str := ["self"]
theorem sc_Web_UreprU : FnScope N_Web_UreprU ["self"] (defScope s_Web_UreprU) := ⟨rfl, rfl, rfl, by decide +kernel, rfl, by decide +kernel, by decide +kernel⟩
abbrev N_woven : List Str := ["by", "moments", "spans", "ties", "web"]
theorem sc_woven : FnScope N_woven ["by", "moments", "spans", "ties"] (defScope s_woven) := ⟨rfl, rfl, rfl, by decide +kernel, rfl, by decide +kernel, by decide +kernel⟩
abbrev N_is_begin : List Str := ["web", "name"]
theorem sc_is_begin : FnScope N_is_begin ["web", "name"] (defScope s_is_begin) := ⟨rfl, rfl, rfl, by decide +kernel, rfl, by decide +kernel, by decide +kernel⟩
abbrev N_are_lengths : List Str := ["low", "high"]
theorem sc_are_lengths : FnScope N_are_lengths ["low", "high"] (defScope s_are_lengths) := ⟨rfl, rfl, rfl, by decide +kernel, rfl, by decide +kernel, by decide +kernel⟩
abbrev N_is_lateness : List Str := ["late"]
theorem sc_is_lateness : FnScope N_is_lateness ["late"] (defScope s_is_lateness) := ⟨rfl, rfl, rfl, by decide +kernel, rfl, by decide +kernel, by decide +kernel⟩
abbrev N_is_used : List Str := ["web", "name", "begins", "span", "tie"]
theorem sc_is_used : FnScope N_is_used ["web", "name"] (defScope s_is_used) := ⟨rfl, rfl, rfl, by decide +kernel, rfl, by decide +kernel, by decide +kernel⟩
abbrev N_are_bounds : List Str := ["least", "most", "told", "bound"]
theorem sc_are_bounds : FnScope N_are_bounds ["least", "most"] (defScope s_are_bounds) := ⟨rfl, rfl, rfl, by decide +kernel, rfl, by decide +kernel, by decide +kernel⟩
abbrev N_need_free_name : List Str := ["web", "name"]
theorem sc_need_free_name : FnScope N_need_free_name ["web", "name"] (defScope s_need_free_name) := ⟨rfl, rfl, rfl, by decide +kernel, rfl, by decide +kernel, by decide +kernel⟩
abbrev N_need_point : List Str := ["web", "name"]
theorem sc_need_point : FnScope N_need_point ["web", "name"] (defScope s_need_point) := ⟨rfl, rfl, rfl, by decide +kernel, rfl, by decide +kernel, by decide +kernel⟩
abbrev N_bases : List Str := ["web", "ends", "span"]
theorem sc_bases : FnScope N_bases ["web"] (defScope s_bases) := ⟨rfl, rfl, rfl, by decide +kernel, rfl, by decide +kernel, by decide +kernel⟩
abbrev N_offset : List Str := ["web", "name", "end", "begin", "low", "high", "late"]
theorem sc_offset : FnScope N_offset ["web", "name"] (defScope s_offset) := ⟨rfl, rfl, rfl, by decide +kernel, rfl, by decide +kernel, by decide +kernel⟩
abbrev N_bounds : List Str := ["web", "found", "moment", "end", "begin", "first", "last", "tie"]
theorem sc_bounds : FnScope N_bounds ["web"] (defScope s_bounds) := ⟨rfl, rfl, rfl, by decide +kernel, rfl, by decide +kernel, by decide +kernel⟩
abbrev N_tie_bounds : List Str := ["web", "tie", "one", "other", "least", "most", "one_base", "one_least", "one_most", "other_base", "other_least", "other_most", "found"]
theorem sc_tie_bounds : FnScope N_tie_bounds ["web", "tie"] (defScope s_tie_bounds) := ⟨rfl, rfl, rfl, by decide +kernel, rfl, by decide +kernel, by decide +kernel⟩
abbrev N_heard_spans : List Str := ["web", "end", "begin", "low", "high", "late"]
theorem sc_heard_spans : FnScope N_heard_spans ["web"] (defScope s_heard_spans) := ⟨rfl, rfl, rfl, by decide +kernel, rfl, by decide +kernel, by decide +kernel⟩
abbrev N_heard_begins : List Str := ["web", "end", "begin", "first", "last"]
theorem sc_heard_begins : FnScope N_heard_begins ["web"] (defScope s_heard_begins) := ⟨rfl, rfl, rfl, by decide +kernel, rfl, by decide +kernel, by decide +kernel⟩
abbrev N_late_waits : List Str := ["web", "end", "begin", "first", "last"]
theorem sc_late_waits : FnScope N_late_waits ["web"] (defScope s_late_waits) := ⟨rfl, rfl, rfl, by decide +kernel, rfl, by decide +kernel, by decide +kernel⟩
abbrev N_sure : List Str := ["heard", "one", "begin", "first"]
theorem sc_sure : FnScope N_sure ["heard", "one"] (defScope s_sure) := ⟨rfl, rfl, rfl, by decide +kernel, rfl, by decide +kernel, by decide +kernel⟩
abbrev N_soon : List Str := ["heard", "one", "begin", "first"]
theorem sc_soon : FnScope N_soon ["heard", "one"] (defScope s_soon) := ⟨rfl, rfl, rfl, by decide +kernel, rfl, by decide +kernel, by decide +kernel⟩
abbrev N_ahead : List Str := ["heard", "one", "begin", "first"]
theorem sc_ahead : FnScope N_ahead ["heard", "one"] (defScope s_ahead) := ⟨rfl, rfl, rfl, by decide +kernel, rfl, by decide +kernel, by decide +kernel⟩
abbrev N_Making_UinitU : List Str := ["self", "web", "facts", "span", "fact"]
theorem sc_Making_UinitU : FnScope N_Making_UinitU ["self", "web", "facts"] (defScope s_Making_UinitU) := ⟨rfl, rfl, rfl, by decide +kernel, rfl, by decide +kernel, by decide +kernel⟩
abbrev N_Making_offer : List Str := ["self", "kind", "x", "y", "amount", "row", "held", "place"]
theorem sc_Making_offer : FnScope N_Making_offer ["self", "kind", "x", "y", "amount", "row"] (defScope s_Making_offer) := ⟨rfl, rfl, rfl, by decide +kernel, rfl, by decide +kernel, by decide +kernel⟩
abbrev N_Making_tell : List Str := ["self", "x", "y", "amount", "kind", "end"]
theorem sc_Making_tell : FnScope N_Making_tell ["self"] (defScope s_Making_tell) := ⟨rfl, rfl, rfl, by decide +kernel, rfl, by decide +kernel, by decide +kernel⟩
abbrev N_Making_go_round : List Str := ["self", "y", "x", "end", "word"]
theorem sc_Making_go_round : FnScope N_Making_go_round ["self"] (defScope s_Making_go_round) := ⟨rfl, rfl, rfl, by decide +kernel, rfl, by decide +kernel, by decide +kernel⟩
abbrev N_Making_go_along : List Str := ["self", "x", "y", "one", "z", "other"]
theorem sc_Making_go_along : FnScope N_Making_go_along ["self", "x", "y"] (defScope s_Making_go_along) := ⟨rfl, rfl, rfl, by decide +kernel, rfl, by decide +kernel, by decide +kernel⟩
abbrev N_Making_go_wait : List Str := ["self", "end", "y", "other", "x", "one"]
theorem sc_Making_go_wait : FnScope N_Making_go_wait ["self", "end", "y"] (defScope s_Making_go_wait) := ⟨rfl, rfl, rfl, by decide +kernel, rfl, by decide +kernel, by decide +kernel⟩
abbrev N_Making_go_single : List Str := ["self", "word", "rule", "kind", "x", "y", "amount", "place", "fact"]
theorem sc_Making_go_single : FnScope N_Making_go_single ["self", "word"] (defScope s_Making_go_single) := ⟨rfl, rfl, rfl, by decide +kernel, rfl, by decide +kernel, by decide +kernel⟩
abbrev N_Table_UinitU : List Str := ["self", "betweens", "untils", "names", "pair", "name"]
theorem sc_Table_UinitU : FnScope N_Table_UinitU ["self", "betweens", "untils"] (defScope s_Table_UinitU) := ⟨rfl, rfl, rfl, by decide +kernel, rfl, by decide +kernel, by decide +kernel⟩
abbrev N_Table_until : List Str := ["self", "end", "x"]
theorem sc_Table_until : FnScope N_Table_until ["self", "end", "x"] (defScope s_Table_until) := ⟨rfl, rfl, rfl, by decide +kernel, rfl, by decide +kernel, by decide +kernel⟩
abbrev N_Table_betweens : List Str := ["self", "pair"]
theorem sc_Table_betweens : FnScope N_Table_betweens ["self"] (defScope s_Table_betweens) := ⟨rfl, rfl, rfl, by decide +kernel, rfl, by decide +kernel, by decide +kernel⟩
abbrev N_Table_untils : List Str := ["self", "pair"]
theorem sc_Table_untils : FnScope N_Table_untils ["self"] (defScope s_Table_untils) := ⟨rfl, rfl, rfl, by decide +kernel, rfl, by decide +kernel, by decide +kernel⟩
abbrev N_Table_UeqU : List Str := ["self", "other"]
theorem sc_Table_UeqU : FnScope N_Table_UeqU ["self", "other"] (defScope s_Table_UeqU) := ⟨rfl, rfl, rfl, by decide +kernel, rfl, by decide +kernel, by decide +kernel⟩
abbrev N_Table_UlenU : List Str := ["self"]
theorem sc_Table_UlenU : FnScope N_Table_UlenU ["self"] (defScope s_Table_UlenU) := ⟨rfl, rfl, rfl, by decide +kernel, rfl, by decide +kernel, by decide +kernel⟩
abbrev N_Table_UreprU : List Str := ["self"]
theorem sc_Table_UreprU : FnScope N_Table_UreprU ["self"] (defScope s_Table_UreprU) := ⟨rfl, rfl, rfl, by decide +kernel, rfl, by decide +kernel, by decide +kernel⟩
abbrev N_need_base : List Str := ["table", "name"]
theorem sc_need_base : FnScope N_need_base ["table", "name"] (defScope s_need_base) := ⟨rfl, rfl, rfl, by decide +kernel, rfl, by decide +kernel, by decide +kernel⟩
abbrev N_settled : List Str := ["web", "making", "base"]
theorem sc_settled : FnScope N_settled ["web"] (defScope s_settled) := ⟨rfl, rfl, rfl, by decide +kernel, rfl, by decide +kernel, by decide +kernel⟩
abbrev N_steered : List Str := ["web"]
theorem sc_steered : FnScope N_steered ["web"] (defScope s_steered) := ⟨rfl, rfl, rfl, by decide +kernel, rfl, by decide +kernel, by decide +kernel⟩
abbrev N_make_all : List Str := ["making", "count"]
theorem sc_make_all : FnScope N_make_all ["making"] (defScope s_make_all) := ⟨rfl, rfl, rfl, by decide +kernel, rfl, by decide +kernel, by decide +kernel⟩
abbrev N_table_of : List Str := ["making", "made", "betweens", "untils", "kind", "x", "y", "end"]
theorem sc_table_of : FnScope N_table_of ["making"] (defScope s_table_of) := ⟨rfl, rfl, rfl, by decide +kernel, rfl, by decide +kernel, by decide +kernel⟩
abbrev N_paper_of : List Str := ["rows", "fault", "needed", "at", "place", "kept", "moved"]
theorem sc_paper_of : FnScope N_paper_of ["rows", "fault"] (defScope s_paper_of) := ⟨rfl, rfl, rfl, by decide +kernel, rfl, by decide +kernel, by decide +kernel⟩
abbrev N_row_places : List Str := ["row"]
theorem sc_row_places : FnScope N_row_places ["row"] (defScope s_row_places) := ⟨rfl, rfl, rfl, by decide +kernel, rfl, by decide +kernel, by decide +kernel⟩
abbrev N_moved_row : List Str := ["row", "moved", "places", "place"]
theorem sc_moved_row : FnScope N_moved_row ["row", "moved"] (defScope s_moved_row) := ⟨rfl, rfl, rfl, by decide +kernel, rfl, by decide +kernel, by decide +kernel⟩
abbrev N__law_flow : List Str := ["_law_script"]
theorem sc__law_flow : FnScope N__law_flow ["_law_script"] (defScope s__law_flow) := ⟨rfl, rfl, rfl, by decide +kernel, rfl, by decide +kernel, by decide +kernel⟩
abbrev N__law_draw : List Str := ["_law_flow_here", "_law_size", "_law_found", "_law_cell", "_law_here"]
theorem sc__law_draw : FnScope N__law_draw ["_law_flow_here", "_law_size"] (defScope s__law_draw) := ⟨rfl, rfl, rfl, by decide +kernel, rfl, by decide +kernel, by decide +kernel⟩
abbrev N__law_pick : List Str := ["_law_flow_here", "_law_row"]
theorem sc__law_pick : FnScope N__law_pick ["_law_flow_here", "_law_row"] (defScope s__law_pick) := ⟨rfl, rfl, rfl, by decide +kernel, rfl, by decide +kernel, by decide +kernel⟩
abbrev N__law_names : List Str := ["_law_flow_here", "_law_many", "_law_pool", "_law_found", "_law_k"]
theorem sc__law_names : FnScope N__law_names ["_law_flow_here", "_law_many"] (defScope s__law_names) := ⟨rfl, rfl, rfl, by decide +kernel, rfl, by decide +kernel, by decide +kernel⟩
abbrev N__law_model : List Str := ["_law_last"]
theorem sc__law_model : FnScope N__law_model ["_law_last"] (defScope s__law_model) := ⟨rfl, rfl, rfl, by decide +kernel, rfl, by decide +kernel, by decide +kernel⟩
abbrev N__law_points : List Str := ["_law_m", "_law_wind_here"]
theorem sc__law_points : FnScope N__law_points ["_law_m"] (defScope s__law_points) := ⟨rfl, rfl, rfl, by decide +kernel, rfl, by decide +kernel, by decide +kernel⟩
abbrev N__law_web : List Str := ["_law_m", "_law_web_here", "_law_name", "_law_end", "_law_begin", "_law_low", "_law_high", "_law_hush", "_law_one", "_law_other", "_law_bot", "_law_top"]
theorem sc__law_web : FnScope N__law_web ["_law_m"] (defScope s__law_web) := ⟨rfl, rfl, rfl, by decide +kernel, rfl, by decide +kernel, by decide +kernel⟩
abbrev N__law_wind : List Str := ["_law_flow_here", "_law_end", "_law_own", "_law_far", "_law_low", "_law_high", "_law_hush"]
theorem sc__law_wind : FnScope N__law_wind ["_law_flow_here", "_law_end", "_law_own", "_law_far"] (defScope s__law_wind) := ⟨rfl, rfl, rfl, by decide +kernel, rfl, by decide +kernel, by decide +kernel⟩
abbrev N__law_bond : List Str := ["_law_flow_here", "_law_points_here", "_law_far", "_law_rest", "_law_one", "_law_other", "_law_low", "_law_high", "_law_kind"]
theorem sc__law_bond : FnScope N__law_bond ["_law_flow_here", "_law_points_here", "_law_far"] (defScope s__law_bond) := ⟨rfl, rfl, rfl, by decide +kernel, rfl, by decide +kernel, by decide +kernel⟩
abbrev N__law_drawn : List Str := ["_law_flow_here", "_law_own", "_law_winds", "_law_bonds", "_law_far", "_law_last", "_law_m", "_law_names_here", "_law_end", "_law_k"]
theorem sc__law_drawn : FnScope N__law_drawn ["_law_flow_here", "_law_own", "_law_winds", "_law_bonds", "_law_far", "_law_last"] (defScope s__law_drawn) := ⟨rfl, rfl, rfl, by decide +kernel, rfl, by decide +kernel, by decide +kernel⟩
abbrev N__law_copy : List Str := ["_law_m"]
theorem sc__law_copy : FnScope N__law_copy ["_law_m"] (defScope s__law_copy) := ⟨rfl, rfl, rfl, by decide +kernel, rfl, by decide +kernel, by decide +kernel⟩
abbrev N__law_looser : List Str := ["_law_flow_here", "_law_m", "_law_found", "_law_at", "_law_one", "_law_other", "_law_bot", "_law_top"]
theorem sc__law_looser : FnScope N__law_looser ["_law_flow_here", "_law_m"] (defScope s__law_looser) := ⟨rfl, rfl, rfl, by decide +kernel, rfl, by decide +kernel, by decide +kernel⟩
abbrev N_law : List Str := ["_law_script", "_law_flow_here", "_law_own", "_law_winds", "_law_bonds", "_law_m", "_law_web_here", "_law_at", "_law_bond_here", "_law_n", "_law_end", "_law_begin", "_law_low", "_law_high", "_law_hush", "_law_size"]
theorem sc_law : FnScope N_law ["_law_script"] (defScope s_law) := ⟨rfl, rfl, rfl, by decide +kernel, rfl, by decide +kernel, by decide +kernel⟩
def d_is_number : He.DefD := ⟨("is_number", none), "is_number", "is_number", defArgs s_is_number, defBody s_is_number, defScope s_is_number, [], []⟩
def d_is_whole : He.DefD := ⟨("is_whole", none), "is_whole", "is_whole", defArgs s_is_whole, defBody s_is_whole, defScope s_is_whole, [], []⟩
def d_is_one_of : He.DefD := ⟨("is_one_of", none), "is_one_of", "is_one_of", defArgs s_is_one_of, defBody s_is_one_of, defScope s_is_one_of, [], []⟩
def d_is_name : He.DefD := ⟨("is_name", none), "is_name", "is_name", defArgs s_is_name, defBody s_is_name, defScope s_is_name, [], []⟩
def d_Web_UinitU : He.DefD := ⟨("Web", some "__init__"), "__init__", "Web.__init__", defArgs s_Web_UinitU, defBody s_Web_UinitU, defScope s_Web_UinitU, [.int 100], []⟩
def d_Web_with_by : He.DefD := ⟨("Web", some "with_by"), "with_by", "Web.with_by", defArgs s_Web_with_by, defBody s_Web_with_by, defScope s_Web_with_by, [], []⟩
def d_Web_with_moment : He.DefD := ⟨("Web", some "with_moment"), "with_moment", "Web.with_moment", defArgs s_Web_with_moment, defBody s_Web_with_moment, defScope s_Web_with_moment, [], []⟩
def d_Web_with_span : He.DefD := ⟨("Web", some "with_span"), "with_span", "Web.with_span", defArgs s_Web_with_span, defBody s_Web_with_span, defScope s_Web_with_span, [], [("late", .int 0)]⟩
def d_Web_with_tie : He.DefD := ⟨("Web", some "with_tie"), "with_tie", "Web.with_tie", defArgs s_Web_with_tie, defBody s_Web_with_tie, defScope s_Web_with_tie, [], [("least", .non), ("most", .non)]⟩
def d_Web_without : He.DefD := ⟨("Web", some "without"), "without", "Web.without", defArgs s_Web_without, defBody s_Web_without, defScope s_Web_without, [], []⟩
def d_Web_without_tie : He.DefD := ⟨("Web", some "without_tie"), "without_tie", "Web.without_tie", defArgs s_Web_without_tie, defBody s_Web_without_tie, defScope s_Web_without_tie, [], []⟩
def d_Web_moments : He.DefD := ⟨("Web", some "moments"), "moments", "Web.moments", defArgs s_Web_moments, defBody s_Web_moments, defScope s_Web_moments, [], []⟩
def d_Web_spans : He.DefD := ⟨("Web", some "spans"), "spans", "Web.spans", defArgs s_Web_spans, defBody s_Web_spans, defScope s_Web_spans, [], []⟩
def d_Web_ties : He.DefD := ⟨("Web", some "ties"), "ties", "Web.ties", defArgs s_Web_ties, defBody s_Web_ties, defScope s_Web_ties, [], []⟩
def d_Web_points : He.DefD := ⟨("Web", some "points"), "points", "Web.points", defArgs s_Web_points, defBody s_Web_points, defScope s_Web_points, [], []⟩
def d_Web_UeqU : He.DefD := ⟨("Web", some "__eq__"), "__eq__", "Web.__eq__", defArgs s_Web_UeqU, defBody s_Web_UeqU, defScope s_Web_UeqU, [], []⟩
def d_Web_UlenU : He.DefD := ⟨("Web", some "__len__"), "__len__", "Web.__len__", defArgs s_Web_UlenU, defBody s_Web_UlenU, defScope s_Web_UlenU, [], []⟩
def d_Web_UreprU : He.DefD := ⟨("Web", some "__repr__"), "__repr__", "Web.__repr__", defArgs s_Web_UreprU, defBody s_Web_UreprU, defScope s_Web_UreprU, [], []⟩
def d_woven : He.DefD := ⟨("woven", none), "woven", "woven", defArgs s_woven, defBody s_woven, defScope s_woven, [], []⟩
def d_is_begin : He.DefD := ⟨("is_begin", none), "is_begin", "is_begin", defArgs s_is_begin, defBody s_is_begin, defScope s_is_begin, [], []⟩
def d_are_lengths : He.DefD := ⟨("are_lengths", none), "are_lengths", "are_lengths", defArgs s_are_lengths, defBody s_are_lengths, defScope s_are_lengths, [], []⟩
def d_is_lateness : He.DefD := ⟨("is_lateness", none), "is_lateness", "is_lateness", defArgs s_is_lateness, defBody s_is_lateness, defScope s_is_lateness, [], []⟩
def d_is_used : He.DefD := ⟨("is_used", none), "is_used", "is_used", defArgs s_is_used, defBody s_is_used, defScope s_is_used, [], []⟩
def d_are_bounds : He.DefD := ⟨("are_bounds", none), "are_bounds", "are_bounds", defArgs s_are_bounds, defBody s_are_bounds, defScope s_are_bounds, [], []⟩
def d_need_free_name : He.DefD := ⟨("need_free_name", none), "need_free_name", "need_free_name", defArgs s_need_free_name, defBody s_need_free_name, defScope s_need_free_name, [], []⟩
def d_need_point : He.DefD := ⟨("need_point", none), "need_point", "need_point", defArgs s_need_point, defBody s_need_point, defScope s_need_point, [], []⟩
def d_bases : He.DefD := ⟨("bases", none), "bases", "bases", defArgs s_bases, defBody s_bases, defScope s_bases, [], []⟩
def d_offset : He.DefD := ⟨("offset", none), "offset", "offset", defArgs s_offset, defBody s_offset, defScope s_offset, [], []⟩
def d_bounds : He.DefD := ⟨("bounds", none), "bounds", "bounds", defArgs s_bounds, defBody s_bounds, defScope s_bounds, [], []⟩
def d_tie_bounds : He.DefD := ⟨("tie_bounds", none), "tie_bounds", "tie_bounds", defArgs s_tie_bounds, defBody s_tie_bounds, defScope s_tie_bounds, [], []⟩
def d_heard_spans : He.DefD := ⟨("heard_spans", none), "heard_spans", "heard_spans", defArgs s_heard_spans, defBody s_heard_spans, defScope s_heard_spans, [], []⟩
def d_heard_begins : He.DefD := ⟨("heard_begins", none), "heard_begins", "heard_begins", defArgs s_heard_begins, defBody s_heard_begins, defScope s_heard_begins, [], []⟩
def d_late_waits : He.DefD := ⟨("late_waits", none), "late_waits", "late_waits", defArgs s_late_waits, defBody s_late_waits, defScope s_late_waits, [], []⟩
def d_sure : He.DefD := ⟨("sure", none), "sure", "sure", defArgs s_sure, defBody s_sure, defScope s_sure, [], []⟩
def d_soon : He.DefD := ⟨("soon", none), "soon", "soon", defArgs s_soon, defBody s_soon, defScope s_soon, [], []⟩
def d_ahead : He.DefD := ⟨("ahead", none), "ahead", "ahead", defArgs s_ahead, defBody s_ahead, defScope s_ahead, [], []⟩
def d_Making_UinitU : He.DefD := ⟨("Making", some "__init__"), "__init__", "Making.__init__", defArgs s_Making_UinitU, defBody s_Making_UinitU, defScope s_Making_UinitU, [], []⟩
def d_Making_offer : He.DefD := ⟨("Making", some "offer"), "offer", "Making.offer", defArgs s_Making_offer, defBody s_Making_offer, defScope s_Making_offer, [], []⟩
def d_Making_tell : He.DefD := ⟨("Making", some "tell"), "tell", "Making.tell", defArgs s_Making_tell, defBody s_Making_tell, defScope s_Making_tell, [], []⟩
def d_Making_go_round : He.DefD := ⟨("Making", some "go_round"), "go_round", "Making.go_round", defArgs s_Making_go_round, defBody s_Making_go_round, defScope s_Making_go_round, [], []⟩
def d_Making_go_along : He.DefD := ⟨("Making", some "go_along"), "go_along", "Making.go_along", defArgs s_Making_go_along, defBody s_Making_go_along, defScope s_Making_go_along, [], []⟩
def d_Making_go_wait : He.DefD := ⟨("Making", some "go_wait"), "go_wait", "Making.go_wait", defArgs s_Making_go_wait, defBody s_Making_go_wait, defScope s_Making_go_wait, [], []⟩
def d_Making_go_single : He.DefD := ⟨("Making", some "go_single"), "go_single", "Making.go_single", defArgs s_Making_go_single, defBody s_Making_go_single, defScope s_Making_go_single, [], []⟩
def d_Table_UinitU : He.DefD := ⟨("Table", some "__init__"), "__init__", "Table.__init__", defArgs s_Table_UinitU, defBody s_Table_UinitU, defScope s_Table_UinitU, [], []⟩
def d_Table_until : He.DefD := ⟨("Table", some "until"), "until", "Table.until", defArgs s_Table_until, defBody s_Table_until, defScope s_Table_until, [], []⟩
def d_Table_betweens : He.DefD := ⟨("Table", some "betweens"), "betweens", "Table.betweens", defArgs s_Table_betweens, defBody s_Table_betweens, defScope s_Table_betweens, [], []⟩
def d_Table_untils : He.DefD := ⟨("Table", some "untils"), "untils", "Table.untils", defArgs s_Table_untils, defBody s_Table_untils, defScope s_Table_untils, [], []⟩
def d_Table_UeqU : He.DefD := ⟨("Table", some "__eq__"), "__eq__", "Table.__eq__", defArgs s_Table_UeqU, defBody s_Table_UeqU, defScope s_Table_UeqU, [], []⟩
def d_Table_UlenU : He.DefD := ⟨("Table", some "__len__"), "__len__", "Table.__len__", defArgs s_Table_UlenU, defBody s_Table_UlenU, defScope s_Table_UlenU, [], []⟩
def d_Table_UreprU : He.DefD := ⟨("Table", some "__repr__"), "__repr__", "Table.__repr__", defArgs s_Table_UreprU, defBody s_Table_UreprU, defScope s_Table_UreprU, [], []⟩
def d_need_base : He.DefD := ⟨("need_base", none), "need_base", "need_base", defArgs s_need_base, defBody s_need_base, defScope s_need_base, [], []⟩
def d_settled : He.DefD := ⟨("settled", none), "settled", "settled", defArgs s_settled, defBody s_settled, defScope s_settled, [], []⟩
def d_steered : He.DefD := ⟨("steered", none), "steered", "steered", defArgs s_steered, defBody s_steered, defScope s_steered, [], []⟩
def d_make_all : He.DefD := ⟨("make_all", none), "make_all", "make_all", defArgs s_make_all, defBody s_make_all, defScope s_make_all, [], []⟩
def d_table_of : He.DefD := ⟨("table_of", none), "table_of", "table_of", defArgs s_table_of, defBody s_table_of, defScope s_table_of, [], []⟩
def d_paper_of : He.DefD := ⟨("paper_of", none), "paper_of", "paper_of", defArgs s_paper_of, defBody s_paper_of, defScope s_paper_of, [], []⟩
def d_row_places : He.DefD := ⟨("row_places", none), "row_places", "row_places", defArgs s_row_places, defBody s_row_places, defScope s_row_places, [], []⟩
def d_moved_row : He.DefD := ⟨("moved_row", none), "moved_row", "moved_row", defArgs s_moved_row, defBody s_moved_row, defScope s_moved_row, [], []⟩
def d__law_flow : He.DefD := ⟨("_law_flow", none), "_law_flow", "_law_flow", defArgs s__law_flow, defBody s__law_flow, defScope s__law_flow, [], []⟩
def d__law_draw : He.DefD := ⟨("_law_draw", none), "_law_draw", "_law_draw", defArgs s__law_draw, defBody s__law_draw, defScope s__law_draw, [], []⟩
def d__law_pick : He.DefD := ⟨("_law_pick", none), "_law_pick", "_law_pick", defArgs s__law_pick, defBody s__law_pick, defScope s__law_pick, [], []⟩
def d__law_names : He.DefD := ⟨("_law_names", none), "_law_names", "_law_names", defArgs s__law_names, defBody s__law_names, defScope s__law_names, [], []⟩
def d__law_model : He.DefD := ⟨("_law_model", none), "_law_model", "_law_model", defArgs s__law_model, defBody s__law_model, defScope s__law_model, [], []⟩
def d__law_points : He.DefD := ⟨("_law_points", none), "_law_points", "_law_points", defArgs s__law_points, defBody s__law_points, defScope s__law_points, [], []⟩
def d__law_web : He.DefD := ⟨("_law_web", none), "_law_web", "_law_web", defArgs s__law_web, defBody s__law_web, defScope s__law_web, [], []⟩
def d__law_wind : He.DefD := ⟨("_law_wind", none), "_law_wind", "_law_wind", defArgs s__law_wind, defBody s__law_wind, defScope s__law_wind, [], []⟩
def d__law_bond : He.DefD := ⟨("_law_bond", none), "_law_bond", "_law_bond", defArgs s__law_bond, defBody s__law_bond, defScope s__law_bond, [], []⟩
def d__law_drawn : He.DefD := ⟨("_law_drawn", none), "_law_drawn", "_law_drawn", defArgs s__law_drawn, defBody s__law_drawn, defScope s__law_drawn, [], []⟩
def d__law_copy : He.DefD := ⟨("_law_copy", none), "_law_copy", "_law_copy", defArgs s__law_copy, defBody s__law_copy, defScope s__law_copy, [], []⟩
def d__law_looser : He.DefD := ⟨("_law_looser", none), "_law_looser", "_law_looser", defArgs s__law_looser, defBody s__law_looser, defScope s__law_looser, [], []⟩
def d_law : He.DefD := ⟨("law", none), "law", "law", defArgs s_law, defBody s_law, defScope s_law, [], []⟩
def fn : List He.DefD := [d_is_number, d_is_whole, d_is_one_of, d_is_name, d_Web_UinitU, d_Web_with_by, d_Web_with_moment, d_Web_with_span, d_Web_with_tie, d_Web_without, d_Web_without_tie, d_Web_moments, d_Web_spans, d_Web_ties, d_Web_points, d_Web_UeqU, d_Web_UlenU, d_Web_UreprU, d_woven, d_is_begin, d_are_lengths, d_is_lateness, d_is_used, d_are_bounds, d_need_free_name, d_need_point, d_bases, d_offset, d_bounds, d_tie_bounds, d_heard_spans, d_heard_begins, d_late_waits, d_sure, d_soon, d_ahead, d_Making_UinitU, d_Making_offer, d_Making_tell, d_Making_go_round, d_Making_go_along, d_Making_go_wait, d_Making_go_single, d_Table_UinitU, d_Table_until, d_Table_betweens, d_Table_untils, d_Table_UeqU, d_Table_UlenU, d_Table_UreprU, d_need_base, d_settled, d_steered, d_make_all, d_table_of, d_paper_of, d_row_places, d_moved_row, d__law_flow, d__law_draw, d__law_pick, d__law_names, d__law_model, d__law_points, d__law_web, d__law_wind, d__law_bond, d__law_drawn, d__law_copy, d__law_looser, d_law]
def fa0 : List He.Fa := [.glo "is_number", .glo "is_whole", .glo "is_one_of", .glo "is_name", .glo "woven", .glo "is_begin", .glo "are_lengths", .glo "is_lateness", .glo "is_used", .glo "are_bounds", .glo "need_free_name", .glo "need_point", .glo "bases", .glo "offset", .glo "bounds", .glo "tie_bounds", .glo "heard_spans", .glo "heard_begins", .glo "late_waits", .glo "sure", .glo "soon", .glo "ahead", .glo "need_base", .glo "settled", .glo "steered", .glo "make_all", .glo "table_of", .glo "paper_of", .glo "row_places", .glo "moved_row"]
def fa1 : List He.Fa := [.glo "_law_flow", .glo "_law_draw", .glo "_law_pick", .glo "_law_names", .glo "_law_model", .glo "_law_points", .glo "_law_web", .glo "_law_wind", .glo "_law_bond", .glo "_law_drawn", .glo "_law_copy", .glo "_law_looser", .glo "law", .free "isinstance", .free "int", .free "bool", .free "str", .free "all", .free "len", .free "list", .free "tuple", .free "any", .free "max", .free "reversed", .free "sorted", .free "range", .free "abs", .free "min", .str "LETTERS" "abcdefghijklmnopqrstuvwxyz", .int "LONGEST_NAME" 8]
def fa2 : List He.Fa := [.int "BY" 100, .str "START" "start", .int "MOST_BY" 1000, .int "MOST_MOMENTS" 10, .int "MOST_SPANS" 4, .int "MOST_TIES" 40, .int "MOST_LENGTH" 1000, .int "MOST_LATE" 1000, .int "MOST_BOUND" 1000, .str "MOST" "most", .str "UNTIL" "until", .glo "Web", .cls "Web", .mkr "Web", .noat "Web" "by", .noat "Web" "moment_rows", .noat "Web" "span_rows", .noat "Web" "tie_rows", .noat "Web" "__bool__", .meth "Web" "__init__", .meth "Web" "with_by", .meth "Web" "with_moment", .meth "Web" "with_span", .meth "Web" "with_tie", .meth "Web" "without", .meth "Web" "without_tie", .meth "Web" "moments", .meth "Web" "spans", .meth "Web" "ties", .meth "Web" "points"]
def fa3 : List He.Fa := [.meth "Web" "__eq__", .meth "Web" "__len__", .meth "Web" "__repr__", .glo "Making", .cls "Making", .mkr "Making", .noat "Making" "web", .noat "Making" "names", .noat "Making" "ends", .noat "Making" "heard", .noat "Making" "made", .noat "Making" "rows", .noat "Making" "fault", .meth "Making" "__init__", .meth "Making" "offer", .meth "Making" "tell", .meth "Making" "go_round", .meth "Making" "go_along", .meth "Making" "go_wait", .meth "Making" "go_single", .glo "Table", .cls "Table", .mkr "Table", .noat "Table" "bound_amounts", .noat "Table" "wait_amounts", .noat "Table" "base_names", .noat "Table" "span_names", .meth "Table" "__init__", .meth "Table" "until", .meth "Table" "betweens"]
def fa4 : List He.Fa := [.meth "Table" "untils", .meth "Table" "__eq__", .meth "Table" "__len__", .meth "Table" "__repr__", .glo "SINGLE_RULES"]
def fa : List He.Fa := fa0 ++ fa1 ++ fa2 ++ fa3 ++ fa4
def exl0 (K : PySem.W.Frag) : List Bool := [decide (PySem.W.nsIn K (He.ga K "SINGLE_RULES") "sure" = some (some (.ref (He.ga K "sure")))), decide (PySem.W.nsIn K (He.ga K "SINGLE_RULES") "soon" = some (some (.ref (He.ga K "soon")))), decide (PySem.W.nsIn K (He.ga K "SINGLE_RULES") "ahead" = some (some (.ref (He.ga K "ahead")))), decide (PySem.W.nsIn K (He.ga K "SINGLE_RULES") "told" = some (none)), decide (PySem.W.nsIn K (He.ga K "SINGLE_RULES") "late" = some (none)), decide (PySem.W.nsIn K (He.ga K "SINGLE_RULES") "along" = some (none)), decide (PySem.W.nsIn K (He.ga K "SINGLE_RULES") "wait" = some (none))]
def exl (K : PySem.W.Frag) : List Bool := exl0 K
def ex (K : PySem.W.Frag) : Bool := (exl K).all id
theorem exAt {K : PySem.W.Frag} (h : ex K = true) (i : Nat) {b : Bool} (e : (exl K)[i]? = some b) : b = true := List.all_eq_true.mp h b (List.mem_of_getElem? e)
/-- what the top has written -/
structure Tp (K : PySem.W.Frag) (mg : Str → Option Value) : Prop where
  c : He.SaysD fa fn K
  m : ex K = true
  glo : ∀ (i : Nat) (x : Str), fa[i]? = some (.glo x) → mg x = some (.ref (He.ga K x))
  free : ∀ (i : Nat) (x : Str), fa[i]? = some (.free x) → mg x = none
  int : ∀ (i : Nat) (x : Str) (n : Int), fa[i]? = some (.int x n) → ∃ u, mg x = some u ∧ RelV (.int n) u
  str : ∀ (i : Nat) (x z : Str), fa[i]? = some (.str x z) → ∃ u, mg x = some u ∧ RelV (.str z) u
theorem tp_mk {K : PySem.W.Frag} {h : Heap} {mg : Str → Option Value} (X : K.In h) (G : h.Ns mainGlobals mg) (c : He.SaysD fa fn K) (m : ex K = true) : Tp K mg :=
  ⟨c, m, fun i x e => He.glo_ok X G (c.fact i e), fun i x e => He.free_ok X G (c.fact i e), fun i x n e => let ⟨t, h⟩ := He.int_ok X G (c.fact i e); ⟨_, h, t, rfl⟩, fun i x z e => let ⟨t, h⟩ := He.str_ok X G (c.fact i e); ⟨_, h, t, rfl⟩⟩
section
variable {K : PySem.W.Frag} {mg : Str → Option Value}
theorem g_is_number (T : Tp K mg) : mg "is_number" = some (.ref (He.ga K "is_number")) := T.glo 0 _ rfl
theorem g_is_whole (T : Tp K mg) : mg "is_whole" = some (.ref (He.ga K "is_whole")) := T.glo 1 _ rfl
theorem g_is_one_of (T : Tp K mg) : mg "is_one_of" = some (.ref (He.ga K "is_one_of")) := T.glo 2 _ rfl
theorem g_is_name (T : Tp K mg) : mg "is_name" = some (.ref (He.ga K "is_name")) := T.glo 3 _ rfl
theorem g_woven (T : Tp K mg) : mg "woven" = some (.ref (He.ga K "woven")) := T.glo 4 _ rfl
theorem g_is_begin (T : Tp K mg) : mg "is_begin" = some (.ref (He.ga K "is_begin")) := T.glo 5 _ rfl
theorem g_are_lengths (T : Tp K mg) : mg "are_lengths" = some (.ref (He.ga K "are_lengths")) := T.glo 6 _ rfl
theorem g_is_lateness (T : Tp K mg) : mg "is_lateness" = some (.ref (He.ga K "is_lateness")) := T.glo 7 _ rfl
theorem g_is_used (T : Tp K mg) : mg "is_used" = some (.ref (He.ga K "is_used")) := T.glo 8 _ rfl
theorem g_are_bounds (T : Tp K mg) : mg "are_bounds" = some (.ref (He.ga K "are_bounds")) := T.glo 9 _ rfl
theorem g_need_free_name (T : Tp K mg) : mg "need_free_name" = some (.ref (He.ga K "need_free_name")) := T.glo 10 _ rfl
theorem g_need_point (T : Tp K mg) : mg "need_point" = some (.ref (He.ga K "need_point")) := T.glo 11 _ rfl
theorem g_bases (T : Tp K mg) : mg "bases" = some (.ref (He.ga K "bases")) := T.glo 12 _ rfl
theorem g_offset (T : Tp K mg) : mg "offset" = some (.ref (He.ga K "offset")) := T.glo 13 _ rfl
theorem g_bounds (T : Tp K mg) : mg "bounds" = some (.ref (He.ga K "bounds")) := T.glo 14 _ rfl
theorem g_tie_bounds (T : Tp K mg) : mg "tie_bounds" = some (.ref (He.ga K "tie_bounds")) := T.glo 15 _ rfl
theorem g_heard_spans (T : Tp K mg) : mg "heard_spans" = some (.ref (He.ga K "heard_spans")) := T.glo 16 _ rfl
theorem g_heard_begins (T : Tp K mg) : mg "heard_begins" = some (.ref (He.ga K "heard_begins")) := T.glo 17 _ rfl
theorem g_late_waits (T : Tp K mg) : mg "late_waits" = some (.ref (He.ga K "late_waits")) := T.glo 18 _ rfl
theorem g_sure (T : Tp K mg) : mg "sure" = some (.ref (He.ga K "sure")) := T.glo 19 _ rfl
theorem g_soon (T : Tp K mg) : mg "soon" = some (.ref (He.ga K "soon")) := T.glo 20 _ rfl
theorem g_ahead (T : Tp K mg) : mg "ahead" = some (.ref (He.ga K "ahead")) := T.glo 21 _ rfl
theorem g_need_base (T : Tp K mg) : mg "need_base" = some (.ref (He.ga K "need_base")) := T.glo 22 _ rfl
theorem g_settled (T : Tp K mg) : mg "settled" = some (.ref (He.ga K "settled")) := T.glo 23 _ rfl
theorem g_steered (T : Tp K mg) : mg "steered" = some (.ref (He.ga K "steered")) := T.glo 24 _ rfl
theorem g_make_all (T : Tp K mg) : mg "make_all" = some (.ref (He.ga K "make_all")) := T.glo 25 _ rfl
theorem g_table_of (T : Tp K mg) : mg "table_of" = some (.ref (He.ga K "table_of")) := T.glo 26 _ rfl
theorem g_paper_of (T : Tp K mg) : mg "paper_of" = some (.ref (He.ga K "paper_of")) := T.glo 27 _ rfl
theorem g_row_places (T : Tp K mg) : mg "row_places" = some (.ref (He.ga K "row_places")) := T.glo 28 _ rfl
theorem g_moved_row (T : Tp K mg) : mg "moved_row" = some (.ref (He.ga K "moved_row")) := T.glo 29 _ rfl
theorem g__law_flow (T : Tp K mg) : mg "_law_flow" = some (.ref (He.ga K "_law_flow")) := T.glo 30 _ rfl
theorem g__law_draw (T : Tp K mg) : mg "_law_draw" = some (.ref (He.ga K "_law_draw")) := T.glo 31 _ rfl
theorem g__law_pick (T : Tp K mg) : mg "_law_pick" = some (.ref (He.ga K "_law_pick")) := T.glo 32 _ rfl
theorem g__law_names (T : Tp K mg) : mg "_law_names" = some (.ref (He.ga K "_law_names")) := T.glo 33 _ rfl
theorem g__law_model (T : Tp K mg) : mg "_law_model" = some (.ref (He.ga K "_law_model")) := T.glo 34 _ rfl
theorem g__law_points (T : Tp K mg) : mg "_law_points" = some (.ref (He.ga K "_law_points")) := T.glo 35 _ rfl
theorem g__law_web (T : Tp K mg) : mg "_law_web" = some (.ref (He.ga K "_law_web")) := T.glo 36 _ rfl
theorem g__law_wind (T : Tp K mg) : mg "_law_wind" = some (.ref (He.ga K "_law_wind")) := T.glo 37 _ rfl
theorem g__law_bond (T : Tp K mg) : mg "_law_bond" = some (.ref (He.ga K "_law_bond")) := T.glo 38 _ rfl
theorem g__law_drawn (T : Tp K mg) : mg "_law_drawn" = some (.ref (He.ga K "_law_drawn")) := T.glo 39 _ rfl
theorem g__law_copy (T : Tp K mg) : mg "_law_copy" = some (.ref (He.ga K "_law_copy")) := T.glo 40 _ rfl
theorem g__law_looser (T : Tp K mg) : mg "_law_looser" = some (.ref (He.ga K "_law_looser")) := T.glo 41 _ rfl
theorem g_law (T : Tp K mg) : mg "law" = some (.ref (He.ga K "law")) := T.glo 42 _ rfl
theorem z_isinstance (T : Tp K mg) : mg "isinstance" = none := T.free 43 _ rfl
theorem z_int (T : Tp K mg) : mg "int" = none := T.free 44 _ rfl
theorem z_bool (T : Tp K mg) : mg "bool" = none := T.free 45 _ rfl
theorem z_str (T : Tp K mg) : mg "str" = none := T.free 46 _ rfl
theorem z_all (T : Tp K mg) : mg "all" = none := T.free 47 _ rfl
theorem z_len (T : Tp K mg) : mg "len" = none := T.free 48 _ rfl
theorem z_list (T : Tp K mg) : mg "list" = none := T.free 49 _ rfl
theorem z_tuple (T : Tp K mg) : mg "tuple" = none := T.free 50 _ rfl
theorem z_any (T : Tp K mg) : mg "any" = none := T.free 51 _ rfl
theorem z_max (T : Tp K mg) : mg "max" = none := T.free 52 _ rfl
theorem z_reversed (T : Tp K mg) : mg "reversed" = none := T.free 53 _ rfl
theorem z_sorted (T : Tp K mg) : mg "sorted" = none := T.free 54 _ rfl
theorem z_range (T : Tp K mg) : mg "range" = none := T.free 55 _ rfl
theorem z_abs (T : Tp K mg) : mg "abs" = none := T.free 56 _ rfl
theorem z_min (T : Tp K mg) : mg "min" = none := T.free 57 _ rfl
theorem c_LETTERS (T : Tp K mg) : ∃ u, mg "LETTERS" = some u ∧ RelV (.str "abcdefghijklmnopqrstuvwxyz") u := T.str 58 _ _ rfl
theorem c_LONGEST_NAME (T : Tp K mg) : ∃ u, mg "LONGEST_NAME" = some u ∧ RelV (.int 8) u := T.int 59 _ _ rfl
theorem c_BY (T : Tp K mg) : ∃ u, mg "BY" = some u ∧ RelV (.int 100) u := T.int 60 _ _ rfl
theorem c_START (T : Tp K mg) : ∃ u, mg "START" = some u ∧ RelV (.str "start") u := T.str 61 _ _ rfl
theorem c_MOST_BY (T : Tp K mg) : ∃ u, mg "MOST_BY" = some u ∧ RelV (.int 1000) u := T.int 62 _ _ rfl
theorem c_MOST_MOMENTS (T : Tp K mg) : ∃ u, mg "MOST_MOMENTS" = some u ∧ RelV (.int 10) u := T.int 63 _ _ rfl
theorem c_MOST_SPANS (T : Tp K mg) : ∃ u, mg "MOST_SPANS" = some u ∧ RelV (.int 4) u := T.int 64 _ _ rfl
theorem c_MOST_TIES (T : Tp K mg) : ∃ u, mg "MOST_TIES" = some u ∧ RelV (.int 40) u := T.int 65 _ _ rfl
theorem c_MOST_LENGTH (T : Tp K mg) : ∃ u, mg "MOST_LENGTH" = some u ∧ RelV (.int 1000) u := T.int 66 _ _ rfl
theorem c_MOST_LATE (T : Tp K mg) : ∃ u, mg "MOST_LATE" = some u ∧ RelV (.int 1000) u := T.int 67 _ _ rfl
theorem c_MOST_BOUND (T : Tp K mg) : ∃ u, mg "MOST_BOUND" = some u ∧ RelV (.int 1000) u := T.int 68 _ _ rfl
theorem c_MOST (T : Tp K mg) : ∃ u, mg "MOST" = some u ∧ RelV (.str "most") u := T.str 69 _ _ rfl
theorem c_UNTIL (T : Tp K mg) : ∃ u, mg "UNTIL" = some u ∧ RelV (.str "until") u := T.str 70 _ _ rfl
theorem g_Web (T : Tp K mg) : mg "Web" = some (.ref (He.ga K "Web")) := T.glo 71 _ rfl
theorem cl_Web (T : Tp K mg) : Cls K (He.ga K "Web") := He.cls_ok (T.c.fact 72 (f := .cls "Web") rfl)
theorem mk_Web (T : Tp K mg) : Mk K (He.ga K "Web") (He.ma K (He.ga K "Web") "__init__") := He.mkr_ok (T.c.fact 73 (f := .mkr "Web") rfl)
theorem na_by (T : Tp K mg) : NoAttr K (He.ga K "Web") "by" := He.noat_ok (T.c.fact 74 (f := .noat "Web" "by") rfl)
theorem na_moment_rows (T : Tp K mg) : NoAttr K (He.ga K "Web") "moment_rows" := He.noat_ok (T.c.fact 75 (f := .noat "Web" "moment_rows") rfl)
theorem na_span_rows (T : Tp K mg) : NoAttr K (He.ga K "Web") "span_rows" := He.noat_ok (T.c.fact 76 (f := .noat "Web" "span_rows") rfl)
theorem na_tie_rows (T : Tp K mg) : NoAttr K (He.ga K "Web") "tie_rows" := He.noat_ok (T.c.fact 77 (f := .noat "Web" "tie_rows") rfl)
theorem na_bool (T : Tp K mg) : NoAttr K (He.ga K "Web") "__bool__" := He.noat_ok (T.c.fact 78 (f := .noat "Web" "__bool__") rfl)
theorem me_Web_UinitU (T : Tp K mg) : Meth K (He.ga K "Web") "__init__" (He.ma K (He.ga K "Web") "__init__") := He.meth_ok (T.c.fact 79 (f := .meth "Web" "__init__") rfl)
theorem me_Web_with_by (T : Tp K mg) : Meth K (He.ga K "Web") "with_by" (He.ma K (He.ga K "Web") "with_by") := He.meth_ok (T.c.fact 80 (f := .meth "Web" "with_by") rfl)
theorem me_Web_with_moment (T : Tp K mg) : Meth K (He.ga K "Web") "with_moment" (He.ma K (He.ga K "Web") "with_moment") := He.meth_ok (T.c.fact 81 (f := .meth "Web" "with_moment") rfl)
theorem me_Web_with_span (T : Tp K mg) : Meth K (He.ga K "Web") "with_span" (He.ma K (He.ga K "Web") "with_span") := He.meth_ok (T.c.fact 82 (f := .meth "Web" "with_span") rfl)
theorem me_Web_with_tie (T : Tp K mg) : Meth K (He.ga K "Web") "with_tie" (He.ma K (He.ga K "Web") "with_tie") := He.meth_ok (T.c.fact 83 (f := .meth "Web" "with_tie") rfl)
theorem me_Web_without (T : Tp K mg) : Meth K (He.ga K "Web") "without" (He.ma K (He.ga K "Web") "without") := He.meth_ok (T.c.fact 84 (f := .meth "Web" "without") rfl)
theorem me_Web_without_tie (T : Tp K mg) : Meth K (He.ga K "Web") "without_tie" (He.ma K (He.ga K "Web") "without_tie") := He.meth_ok (T.c.fact 85 (f := .meth "Web" "without_tie") rfl)
theorem me_Web_moments (T : Tp K mg) : Meth K (He.ga K "Web") "moments" (He.ma K (He.ga K "Web") "moments") := He.meth_ok (T.c.fact 86 (f := .meth "Web" "moments") rfl)
theorem me_Web_spans (T : Tp K mg) : Meth K (He.ga K "Web") "spans" (He.ma K (He.ga K "Web") "spans") := He.meth_ok (T.c.fact 87 (f := .meth "Web" "spans") rfl)
theorem me_Web_ties (T : Tp K mg) : Meth K (He.ga K "Web") "ties" (He.ma K (He.ga K "Web") "ties") := He.meth_ok (T.c.fact 88 (f := .meth "Web" "ties") rfl)
theorem me_Web_points (T : Tp K mg) : Meth K (He.ga K "Web") "points" (He.ma K (He.ga K "Web") "points") := He.meth_ok (T.c.fact 89 (f := .meth "Web" "points") rfl)
theorem me_Web_UeqU (T : Tp K mg) : Meth K (He.ga K "Web") "__eq__" (He.ma K (He.ga K "Web") "__eq__") := He.meth_ok (T.c.fact 90 (f := .meth "Web" "__eq__") rfl)
theorem me_Web_UlenU (T : Tp K mg) : Meth K (He.ga K "Web") "__len__" (He.ma K (He.ga K "Web") "__len__") := He.meth_ok (T.c.fact 91 (f := .meth "Web" "__len__") rfl)
theorem me_Web_UreprU (T : Tp K mg) : Meth K (He.ga K "Web") "__repr__" (He.ma K (He.ga K "Web") "__repr__") := He.meth_ok (T.c.fact 92 (f := .meth "Web" "__repr__") rfl)
theorem g_Making (T : Tp K mg) : mg "Making" = some (.ref (He.ga K "Making")) := T.glo 93 _ rfl
theorem cl_Making (T : Tp K mg) : Cls K (He.ga K "Making") := He.cls_ok (T.c.fact 94 (f := .cls "Making") rfl)
theorem mk_Making (T : Tp K mg) : Mk K (He.ga K "Making") (He.ma K (He.ga K "Making") "__init__") := He.mkr_ok (T.c.fact 95 (f := .mkr "Making") rfl)
theorem na_Making_web (T : Tp K mg) : NoAttr K (He.ga K "Making") "web" := He.noat_ok (T.c.fact 96 (f := .noat "Making" "web") rfl)
theorem na_Making_names (T : Tp K mg) : NoAttr K (He.ga K "Making") "names" := He.noat_ok (T.c.fact 97 (f := .noat "Making" "names") rfl)
theorem na_Making_ends (T : Tp K mg) : NoAttr K (He.ga K "Making") "ends" := He.noat_ok (T.c.fact 98 (f := .noat "Making" "ends") rfl)
theorem na_Making_heard (T : Tp K mg) : NoAttr K (He.ga K "Making") "heard" := He.noat_ok (T.c.fact 99 (f := .noat "Making" "heard") rfl)
theorem na_Making_made (T : Tp K mg) : NoAttr K (He.ga K "Making") "made" := He.noat_ok (T.c.fact 100 (f := .noat "Making" "made") rfl)
theorem na_Making_rows (T : Tp K mg) : NoAttr K (He.ga K "Making") "rows" := He.noat_ok (T.c.fact 101 (f := .noat "Making" "rows") rfl)
theorem na_Making_fault (T : Tp K mg) : NoAttr K (He.ga K "Making") "fault" := He.noat_ok (T.c.fact 102 (f := .noat "Making" "fault") rfl)
theorem me_Making_UinitU (T : Tp K mg) : Meth K (He.ga K "Making") "__init__" (He.ma K (He.ga K "Making") "__init__") := He.meth_ok (T.c.fact 103 (f := .meth "Making" "__init__") rfl)
theorem me_Making_offer (T : Tp K mg) : Meth K (He.ga K "Making") "offer" (He.ma K (He.ga K "Making") "offer") := He.meth_ok (T.c.fact 104 (f := .meth "Making" "offer") rfl)
theorem me_Making_tell (T : Tp K mg) : Meth K (He.ga K "Making") "tell" (He.ma K (He.ga K "Making") "tell") := He.meth_ok (T.c.fact 105 (f := .meth "Making" "tell") rfl)
theorem me_Making_go_round (T : Tp K mg) : Meth K (He.ga K "Making") "go_round" (He.ma K (He.ga K "Making") "go_round") := He.meth_ok (T.c.fact 106 (f := .meth "Making" "go_round") rfl)
theorem me_Making_go_along (T : Tp K mg) : Meth K (He.ga K "Making") "go_along" (He.ma K (He.ga K "Making") "go_along") := He.meth_ok (T.c.fact 107 (f := .meth "Making" "go_along") rfl)
theorem me_Making_go_wait (T : Tp K mg) : Meth K (He.ga K "Making") "go_wait" (He.ma K (He.ga K "Making") "go_wait") := He.meth_ok (T.c.fact 108 (f := .meth "Making" "go_wait") rfl)
theorem me_Making_go_single (T : Tp K mg) : Meth K (He.ga K "Making") "go_single" (He.ma K (He.ga K "Making") "go_single") := He.meth_ok (T.c.fact 109 (f := .meth "Making" "go_single") rfl)
theorem g_Table (T : Tp K mg) : mg "Table" = some (.ref (He.ga K "Table")) := T.glo 110 _ rfl
theorem cl_Table (T : Tp K mg) : Cls K (He.ga K "Table") := He.cls_ok (T.c.fact 111 (f := .cls "Table") rfl)
theorem mk_Table (T : Tp K mg) : Mk K (He.ga K "Table") (He.ma K (He.ga K "Table") "__init__") := He.mkr_ok (T.c.fact 112 (f := .mkr "Table") rfl)
theorem na_Table_bound_amounts (T : Tp K mg) : NoAttr K (He.ga K "Table") "bound_amounts" := He.noat_ok (T.c.fact 113 (f := .noat "Table" "bound_amounts") rfl)
theorem na_Table_wait_amounts (T : Tp K mg) : NoAttr K (He.ga K "Table") "wait_amounts" := He.noat_ok (T.c.fact 114 (f := .noat "Table" "wait_amounts") rfl)
theorem na_Table_base_names (T : Tp K mg) : NoAttr K (He.ga K "Table") "base_names" := He.noat_ok (T.c.fact 115 (f := .noat "Table" "base_names") rfl)
theorem na_Table_span_names (T : Tp K mg) : NoAttr K (He.ga K "Table") "span_names" := He.noat_ok (T.c.fact 116 (f := .noat "Table" "span_names") rfl)
theorem me_Table_UinitU (T : Tp K mg) : Meth K (He.ga K "Table") "__init__" (He.ma K (He.ga K "Table") "__init__") := He.meth_ok (T.c.fact 117 (f := .meth "Table" "__init__") rfl)
theorem me_Table_until (T : Tp K mg) : Meth K (He.ga K "Table") "until" (He.ma K (He.ga K "Table") "until") := He.meth_ok (T.c.fact 118 (f := .meth "Table" "until") rfl)
theorem me_Table_betweens (T : Tp K mg) : Meth K (He.ga K "Table") "betweens" (He.ma K (He.ga K "Table") "betweens") := He.meth_ok (T.c.fact 119 (f := .meth "Table" "betweens") rfl)
theorem me_Table_untils (T : Tp K mg) : Meth K (He.ga K "Table") "untils" (He.ma K (He.ga K "Table") "untils") := He.meth_ok (T.c.fact 120 (f := .meth "Table" "untils") rfl)
theorem me_Table_UeqU (T : Tp K mg) : Meth K (He.ga K "Table") "__eq__" (He.ma K (He.ga K "Table") "__eq__") := He.meth_ok (T.c.fact 121 (f := .meth "Table" "__eq__") rfl)
theorem me_Table_UlenU (T : Tp K mg) : Meth K (He.ga K "Table") "__len__" (He.ma K (He.ga K "Table") "__len__") := He.meth_ok (T.c.fact 122 (f := .meth "Table" "__len__") rfl)
theorem me_Table_UreprU (T : Tp K mg) : Meth K (He.ga K "Table") "__repr__" (He.ma K (He.ga K "Table") "__repr__") := He.meth_ok (T.c.fact 123 (f := .meth "Table" "__repr__") rfl)
theorem g_SINGLE_RULES (T : Tp K mg) : mg "SINGLE_RULES" = some (.ref (He.ga K "SINGLE_RULES")) := T.glo 124 _ rfl
theorem nt_SINGLE_RULES_sure (T : Tp K mg) : PySem.W.nsIn K (He.ga K "SINGLE_RULES") "sure" = some (some (.ref (He.ga K "sure"))) := of_decide_eq_true (exAt T.m 0 rfl)
theorem nt_SINGLE_RULES_soon (T : Tp K mg) : PySem.W.nsIn K (He.ga K "SINGLE_RULES") "soon" = some (some (.ref (He.ga K "soon"))) := of_decide_eq_true (exAt T.m 1 rfl)
theorem nt_SINGLE_RULES_ahead (T : Tp K mg) : PySem.W.nsIn K (He.ga K "SINGLE_RULES") "ahead" = some (some (.ref (He.ga K "ahead"))) := of_decide_eq_true (exAt T.m 2 rfl)
theorem nt_SINGLE_RULES_told (T : Tp K mg) : PySem.W.nsIn K (He.ga K "SINGLE_RULES") "told" = some (none) := of_decide_eq_true (exAt T.m 3 rfl)
theorem nt_SINGLE_RULES_late (T : Tp K mg) : PySem.W.nsIn K (He.ga K "SINGLE_RULES") "late" = some (none) := of_decide_eq_true (exAt T.m 4 rfl)
theorem nt_SINGLE_RULES_along (T : Tp K mg) : PySem.W.nsIn K (He.ga K "SINGLE_RULES") "along" = some (none) := of_decide_eq_true (exAt T.m 5 rfl)
theorem nt_SINGLE_RULES_wait (T : Tp K mg) : PySem.W.nsIn K (He.ga K "SINGLE_RULES") "wait" = some (none) := of_decide_eq_true (exAt T.m 6 rfl)
theorem f_is_number (T : Tp K mg) : ∃ fd, FunD K "is_number" "is_number" (defArgs s_is_number) (defBody s_is_number) (defScope s_is_number) [] [] (He.ga K "is_number") fd := T.c.def_ 0 (d := d_is_number) rfl
theorem b_is_number {f : Addr} {fd : FuncData} (F : FunD K "is_number" "is_number" (defArgs s_is_number) (defBody s_is_number) (defScope s_is_number) [] [] f fd) : Binds K fd ["thing"] [] := F.bindsN fun _ _ _ _ _ _ us hl => match us, hl with | [_], _ => rfl
theorem f_is_whole (T : Tp K mg) : ∃ fd, FunD K "is_whole" "is_whole" (defArgs s_is_whole) (defBody s_is_whole) (defScope s_is_whole) [] [] (He.ga K "is_whole") fd := T.c.def_ 1 (d := d_is_whole) rfl
theorem b_is_whole {f : Addr} {fd : FuncData} (F : FunD K "is_whole" "is_whole" (defArgs s_is_whole) (defBody s_is_whole) (defScope s_is_whole) [] [] f fd) : Binds K fd ["thing", "least", "most"] [] := F.bindsN fun _ _ _ _ _ _ us hl => match us, hl with | [_, _, _], _ => rfl
theorem f_is_one_of (T : Tp K mg) : ∃ fd, FunD K "is_one_of" "is_one_of" (defArgs s_is_one_of) (defBody s_is_one_of) (defScope s_is_one_of) [] [] (He.ga K "is_one_of") fd := T.c.def_ 2 (d := d_is_one_of) rfl
theorem b_is_one_of {f : Addr} {fd : FuncData} (F : FunD K "is_one_of" "is_one_of" (defArgs s_is_one_of) (defBody s_is_one_of) (defScope s_is_one_of) [] [] f fd) : Binds K fd ["thing", "names"] [] := F.bindsN fun _ _ _ _ _ _ us hl => match us, hl with | [_, _], _ => rfl
theorem f_is_name (T : Tp K mg) : ∃ fd, FunD K "is_name" "is_name" (defArgs s_is_name) (defBody s_is_name) (defScope s_is_name) [] [] (He.ga K "is_name") fd := T.c.def_ 3 (d := d_is_name) rfl
theorem b_is_name {f : Addr} {fd : FuncData} (F : FunD K "is_name" "is_name" (defArgs s_is_name) (defBody s_is_name) (defScope s_is_name) [] [] f fd) : Binds K fd ["thing"] [] := F.bindsN fun _ _ _ _ _ _ us hl => match us, hl with | [_], _ => rfl
theorem f_Web_UinitU (T : Tp K mg) : ∃ fd, FunD K "__init__" "Web.__init__" (defArgs s_Web_UinitU) (defBody s_Web_UinitU) (defScope s_Web_UinitU) [(V.int 100 : V)] [] (He.ma K (He.ga K "Web") "__init__") fd := T.c.def_ 4 (d := d_Web_UinitU) rfl
theorem f_Web_with_by (T : Tp K mg) : ∃ fd, FunD K "with_by" "Web.with_by" (defArgs s_Web_with_by) (defBody s_Web_with_by) (defScope s_Web_with_by) [] [] (He.ma K (He.ga K "Web") "with_by") fd := T.c.def_ 5 (d := d_Web_with_by) rfl
theorem b_Web_with_by {f : Addr} {fd : FuncData} (F : FunD K "with_by" "Web.with_by" (defArgs s_Web_with_by) (defBody s_Web_with_by) (defScope s_Web_with_by) [] [] f fd) : Binds K fd ["self", "by"] [] := F.bindsN fun _ _ _ _ _ _ us hl => match us, hl with | [_, _], _ => rfl
theorem f_Web_with_moment (T : Tp K mg) : ∃ fd, FunD K "with_moment" "Web.with_moment" (defArgs s_Web_with_moment) (defBody s_Web_with_moment) (defScope s_Web_with_moment) [] [] (He.ma K (He.ga K "Web") "with_moment") fd := T.c.def_ 6 (d := d_Web_with_moment) rfl
theorem b_Web_with_moment {f : Addr} {fd : FuncData} (F : FunD K "with_moment" "Web.with_moment" (defArgs s_Web_with_moment) (defBody s_Web_with_moment) (defScope s_Web_with_moment) [] [] f fd) : Binds K fd ["self", "name"] [] := F.bindsN fun _ _ _ _ _ _ us hl => match us, hl with | [_, _], _ => rfl
theorem f_Web_with_span (T : Tp K mg) : ∃ fd, FunD K "with_span" "Web.with_span" (defArgs s_Web_with_span) (defBody s_Web_with_span) (defScope s_Web_with_span) [] [("late", V.int 0)] (He.ma K (He.ga K "Web") "with_span") fd := T.c.def_ 7 (d := d_Web_with_span) rfl
theorem f_Web_with_tie (T : Tp K mg) : ∃ fd, FunD K "with_tie" "Web.with_tie" (defArgs s_Web_with_tie) (defBody s_Web_with_tie) (defScope s_Web_with_tie) [] [("least", V.non), ("most", V.non)] (He.ma K (He.ga K "Web") "with_tie") fd := T.c.def_ 8 (d := d_Web_with_tie) rfl
theorem f_Web_without (T : Tp K mg) : ∃ fd, FunD K "without" "Web.without" (defArgs s_Web_without) (defBody s_Web_without) (defScope s_Web_without) [] [] (He.ma K (He.ga K "Web") "without") fd := T.c.def_ 9 (d := d_Web_without) rfl
theorem b_Web_without {f : Addr} {fd : FuncData} (F : FunD K "without" "Web.without" (defArgs s_Web_without) (defBody s_Web_without) (defScope s_Web_without) [] [] f fd) : Binds K fd ["self", "name"] [] := F.bindsN fun _ _ _ _ _ _ us hl => match us, hl with | [_, _], _ => rfl
theorem f_Web_without_tie (T : Tp K mg) : ∃ fd, FunD K "without_tie" "Web.without_tie" (defArgs s_Web_without_tie) (defBody s_Web_without_tie) (defScope s_Web_without_tie) [] [] (He.ma K (He.ga K "Web") "without_tie") fd := T.c.def_ 10 (d := d_Web_without_tie) rfl
theorem b_Web_without_tie {f : Addr} {fd : FuncData} (F : FunD K "without_tie" "Web.without_tie" (defArgs s_Web_without_tie) (defBody s_Web_without_tie) (defScope s_Web_without_tie) [] [] f fd) : Binds K fd ["self", "at"] [] := F.bindsN fun _ _ _ _ _ _ us hl => match us, hl with | [_, _], _ => rfl
theorem f_Web_moments (T : Tp K mg) : ∃ fd, FunD K "moments" "Web.moments" (defArgs s_Web_moments) (defBody s_Web_moments) (defScope s_Web_moments) [] [] (He.ma K (He.ga K "Web") "moments") fd := T.c.def_ 11 (d := d_Web_moments) rfl
theorem b_Web_moments {f : Addr} {fd : FuncData} (F : FunD K "moments" "Web.moments" (defArgs s_Web_moments) (defBody s_Web_moments) (defScope s_Web_moments) [] [] f fd) : Binds K fd ["self"] [] := F.bindsN fun _ _ _ _ _ _ us hl => match us, hl with | [_], _ => rfl
theorem f_Web_spans (T : Tp K mg) : ∃ fd, FunD K "spans" "Web.spans" (defArgs s_Web_spans) (defBody s_Web_spans) (defScope s_Web_spans) [] [] (He.ma K (He.ga K "Web") "spans") fd := T.c.def_ 12 (d := d_Web_spans) rfl
theorem b_Web_spans {f : Addr} {fd : FuncData} (F : FunD K "spans" "Web.spans" (defArgs s_Web_spans) (defBody s_Web_spans) (defScope s_Web_spans) [] [] f fd) : Binds K fd ["self"] [] := F.bindsN fun _ _ _ _ _ _ us hl => match us, hl with | [_], _ => rfl
theorem f_Web_ties (T : Tp K mg) : ∃ fd, FunD K "ties" "Web.ties" (defArgs s_Web_ties) (defBody s_Web_ties) (defScope s_Web_ties) [] [] (He.ma K (He.ga K "Web") "ties") fd := T.c.def_ 13 (d := d_Web_ties) rfl
theorem b_Web_ties {f : Addr} {fd : FuncData} (F : FunD K "ties" "Web.ties" (defArgs s_Web_ties) (defBody s_Web_ties) (defScope s_Web_ties) [] [] f fd) : Binds K fd ["self"] [] := F.bindsN fun _ _ _ _ _ _ us hl => match us, hl with | [_], _ => rfl
theorem f_Web_points (T : Tp K mg) : ∃ fd, FunD K "points" "Web.points" (defArgs s_Web_points) (defBody s_Web_points) (defScope s_Web_points) [] [] (He.ma K (He.ga K "Web") "points") fd := T.c.def_ 14 (d := d_Web_points) rfl
theorem b_Web_points {f : Addr} {fd : FuncData} (F : FunD K "points" "Web.points" (defArgs s_Web_points) (defBody s_Web_points) (defScope s_Web_points) [] [] f fd) : Binds K fd ["self"] [] := F.bindsN fun _ _ _ _ _ _ us hl => match us, hl with | [_], _ => rfl
theorem f_Web_UeqU (T : Tp K mg) : ∃ fd, FunD K "__eq__" "Web.__eq__" (defArgs s_Web_UeqU) (defBody s_Web_UeqU) (defScope s_Web_UeqU) [] [] (He.ma K (He.ga K "Web") "__eq__") fd := T.c.def_ 15 (d := d_Web_UeqU) rfl
theorem b_Web_UeqU {f : Addr} {fd : FuncData} (F : FunD K "__eq__" "Web.__eq__" (defArgs s_Web_UeqU) (defBody s_Web_UeqU) (defScope s_Web_UeqU) [] [] f fd) : Binds K fd ["self", "other"] [] := F.bindsN fun _ _ _ _ _ _ us hl => match us, hl with | [_, _], _ => rfl
theorem f_Web_UlenU (T : Tp K mg) : ∃ fd, FunD K "__len__" "Web.__len__" (defArgs s_Web_UlenU) (defBody s_Web_UlenU) (defScope s_Web_UlenU) [] [] (He.ma K (He.ga K "Web") "__len__") fd := T.c.def_ 16 (d := d_Web_UlenU) rfl
theorem b_Web_UlenU {f : Addr} {fd : FuncData} (F : FunD K "__len__" "Web.__len__" (defArgs s_Web_UlenU) (defBody s_Web_UlenU) (defScope s_Web_UlenU) [] [] f fd) : Binds K fd ["self"] [] := F.bindsN fun _ _ _ _ _ _ us hl => match us, hl with | [_], _ => rfl
theorem f_Web_UreprU (T : Tp K mg) : ∃ fd, FunD K "__repr__" "Web.__repr__" (defArgs s_Web_UreprU) (defBody s_Web_UreprU) (defScope s_Web_UreprU) [] [] (He.ma K (He.ga K "Web") "__repr__") fd := T.c.def_ 17 (d := d_Web_UreprU) rfl
theorem b_Web_UreprU {f : Addr} {fd : FuncData} (F : FunD K "__repr__" "Web.__repr__" (defArgs s_Web_UreprU) (defBody s_Web_UreprU) (defScope s_Web_UreprU) [] [] f fd) : Binds K fd ["self"] [] := F.bindsN fun _ _ _ _ _ _ us hl => match us, hl with | [_], _ => rfl
theorem f_woven (T : Tp K mg) : ∃ fd, FunD K "woven" "woven" (defArgs s_woven) (defBody s_woven) (defScope s_woven) [] [] (He.ga K "woven") fd := T.c.def_ 18 (d := d_woven) rfl
theorem b_woven {f : Addr} {fd : FuncData} (F : FunD K "woven" "woven" (defArgs s_woven) (defBody s_woven) (defScope s_woven) [] [] f fd) : Binds K fd ["by", "moments", "spans", "ties"] [] := F.bindsN fun _ _ _ _ _ _ us hl => match us, hl with | [_, _, _, _], _ => rfl
theorem f_is_begin (T : Tp K mg) : ∃ fd, FunD K "is_begin" "is_begin" (defArgs s_is_begin) (defBody s_is_begin) (defScope s_is_begin) [] [] (He.ga K "is_begin") fd := T.c.def_ 19 (d := d_is_begin) rfl
theorem b_is_begin {f : Addr} {fd : FuncData} (F : FunD K "is_begin" "is_begin" (defArgs s_is_begin) (defBody s_is_begin) (defScope s_is_begin) [] [] f fd) : Binds K fd ["web", "name"] [] := F.bindsN fun _ _ _ _ _ _ us hl => match us, hl with | [_, _], _ => rfl
theorem f_are_lengths (T : Tp K mg) : ∃ fd, FunD K "are_lengths" "are_lengths" (defArgs s_are_lengths) (defBody s_are_lengths) (defScope s_are_lengths) [] [] (He.ga K "are_lengths") fd := T.c.def_ 20 (d := d_are_lengths) rfl
theorem b_are_lengths {f : Addr} {fd : FuncData} (F : FunD K "are_lengths" "are_lengths" (defArgs s_are_lengths) (defBody s_are_lengths) (defScope s_are_lengths) [] [] f fd) : Binds K fd ["low", "high"] [] := F.bindsN fun _ _ _ _ _ _ us hl => match us, hl with | [_, _], _ => rfl
theorem f_is_lateness (T : Tp K mg) : ∃ fd, FunD K "is_lateness" "is_lateness" (defArgs s_is_lateness) (defBody s_is_lateness) (defScope s_is_lateness) [] [] (He.ga K "is_lateness") fd := T.c.def_ 21 (d := d_is_lateness) rfl
theorem b_is_lateness {f : Addr} {fd : FuncData} (F : FunD K "is_lateness" "is_lateness" (defArgs s_is_lateness) (defBody s_is_lateness) (defScope s_is_lateness) [] [] f fd) : Binds K fd ["late"] [] := F.bindsN fun _ _ _ _ _ _ us hl => match us, hl with | [_], _ => rfl
theorem f_is_used (T : Tp K mg) : ∃ fd, FunD K "is_used" "is_used" (defArgs s_is_used) (defBody s_is_used) (defScope s_is_used) [] [] (He.ga K "is_used") fd := T.c.def_ 22 (d := d_is_used) rfl
theorem b_is_used {f : Addr} {fd : FuncData} (F : FunD K "is_used" "is_used" (defArgs s_is_used) (defBody s_is_used) (defScope s_is_used) [] [] f fd) : Binds K fd ["web", "name"] [] := F.bindsN fun _ _ _ _ _ _ us hl => match us, hl with | [_, _], _ => rfl
theorem f_are_bounds (T : Tp K mg) : ∃ fd, FunD K "are_bounds" "are_bounds" (defArgs s_are_bounds) (defBody s_are_bounds) (defScope s_are_bounds) [] [] (He.ga K "are_bounds") fd := T.c.def_ 23 (d := d_are_bounds) rfl
theorem b_are_bounds {f : Addr} {fd : FuncData} (F : FunD K "are_bounds" "are_bounds" (defArgs s_are_bounds) (defBody s_are_bounds) (defScope s_are_bounds) [] [] f fd) : Binds K fd ["least", "most"] [] := F.bindsN fun _ _ _ _ _ _ us hl => match us, hl with | [_, _], _ => rfl
theorem f_need_free_name (T : Tp K mg) : ∃ fd, FunD K "need_free_name" "need_free_name" (defArgs s_need_free_name) (defBody s_need_free_name) (defScope s_need_free_name) [] [] (He.ga K "need_free_name") fd := T.c.def_ 24 (d := d_need_free_name) rfl
theorem b_need_free_name {f : Addr} {fd : FuncData} (F : FunD K "need_free_name" "need_free_name" (defArgs s_need_free_name) (defBody s_need_free_name) (defScope s_need_free_name) [] [] f fd) : Binds K fd ["web", "name"] [] := F.bindsN fun _ _ _ _ _ _ us hl => match us, hl with | [_, _], _ => rfl
theorem f_need_point (T : Tp K mg) : ∃ fd, FunD K "need_point" "need_point" (defArgs s_need_point) (defBody s_need_point) (defScope s_need_point) [] [] (He.ga K "need_point") fd := T.c.def_ 25 (d := d_need_point) rfl
theorem b_need_point {f : Addr} {fd : FuncData} (F : FunD K "need_point" "need_point" (defArgs s_need_point) (defBody s_need_point) (defScope s_need_point) [] [] f fd) : Binds K fd ["web", "name"] [] := F.bindsN fun _ _ _ _ _ _ us hl => match us, hl with | [_, _], _ => rfl
theorem f_bases (T : Tp K mg) : ∃ fd, FunD K "bases" "bases" (defArgs s_bases) (defBody s_bases) (defScope s_bases) [] [] (He.ga K "bases") fd := T.c.def_ 26 (d := d_bases) rfl
theorem b_bases {f : Addr} {fd : FuncData} (F : FunD K "bases" "bases" (defArgs s_bases) (defBody s_bases) (defScope s_bases) [] [] f fd) : Binds K fd ["web"] [] := F.bindsN fun _ _ _ _ _ _ us hl => match us, hl with | [_], _ => rfl
theorem f_offset (T : Tp K mg) : ∃ fd, FunD K "offset" "offset" (defArgs s_offset) (defBody s_offset) (defScope s_offset) [] [] (He.ga K "offset") fd := T.c.def_ 27 (d := d_offset) rfl
theorem b_offset {f : Addr} {fd : FuncData} (F : FunD K "offset" "offset" (defArgs s_offset) (defBody s_offset) (defScope s_offset) [] [] f fd) : Binds K fd ["web", "name"] [] := F.bindsN fun _ _ _ _ _ _ us hl => match us, hl with | [_, _], _ => rfl
theorem f_bounds (T : Tp K mg) : ∃ fd, FunD K "bounds" "bounds" (defArgs s_bounds) (defBody s_bounds) (defScope s_bounds) [] [] (He.ga K "bounds") fd := T.c.def_ 28 (d := d_bounds) rfl
theorem b_bounds {f : Addr} {fd : FuncData} (F : FunD K "bounds" "bounds" (defArgs s_bounds) (defBody s_bounds) (defScope s_bounds) [] [] f fd) : Binds K fd ["web"] [] := F.bindsN fun _ _ _ _ _ _ us hl => match us, hl with | [_], _ => rfl
theorem f_tie_bounds (T : Tp K mg) : ∃ fd, FunD K "tie_bounds" "tie_bounds" (defArgs s_tie_bounds) (defBody s_tie_bounds) (defScope s_tie_bounds) [] [] (He.ga K "tie_bounds") fd := T.c.def_ 29 (d := d_tie_bounds) rfl
theorem b_tie_bounds {f : Addr} {fd : FuncData} (F : FunD K "tie_bounds" "tie_bounds" (defArgs s_tie_bounds) (defBody s_tie_bounds) (defScope s_tie_bounds) [] [] f fd) : Binds K fd ["web", "tie"] [] := F.bindsN fun _ _ _ _ _ _ us hl => match us, hl with | [_, _], _ => rfl
theorem f_heard_spans (T : Tp K mg) : ∃ fd, FunD K "heard_spans" "heard_spans" (defArgs s_heard_spans) (defBody s_heard_spans) (defScope s_heard_spans) [] [] (He.ga K "heard_spans") fd := T.c.def_ 30 (d := d_heard_spans) rfl
theorem b_heard_spans {f : Addr} {fd : FuncData} (F : FunD K "heard_spans" "heard_spans" (defArgs s_heard_spans) (defBody s_heard_spans) (defScope s_heard_spans) [] [] f fd) : Binds K fd ["web"] [] := F.bindsN fun _ _ _ _ _ _ us hl => match us, hl with | [_], _ => rfl
theorem f_heard_begins (T : Tp K mg) : ∃ fd, FunD K "heard_begins" "heard_begins" (defArgs s_heard_begins) (defBody s_heard_begins) (defScope s_heard_begins) [] [] (He.ga K "heard_begins") fd := T.c.def_ 31 (d := d_heard_begins) rfl
theorem b_heard_begins {f : Addr} {fd : FuncData} (F : FunD K "heard_begins" "heard_begins" (defArgs s_heard_begins) (defBody s_heard_begins) (defScope s_heard_begins) [] [] f fd) : Binds K fd ["web"] [] := F.bindsN fun _ _ _ _ _ _ us hl => match us, hl with | [_], _ => rfl
theorem f_late_waits (T : Tp K mg) : ∃ fd, FunD K "late_waits" "late_waits" (defArgs s_late_waits) (defBody s_late_waits) (defScope s_late_waits) [] [] (He.ga K "late_waits") fd := T.c.def_ 32 (d := d_late_waits) rfl
theorem b_late_waits {f : Addr} {fd : FuncData} (F : FunD K "late_waits" "late_waits" (defArgs s_late_waits) (defBody s_late_waits) (defScope s_late_waits) [] [] f fd) : Binds K fd ["web"] [] := F.bindsN fun _ _ _ _ _ _ us hl => match us, hl with | [_], _ => rfl
theorem f_sure (T : Tp K mg) : ∃ fd, FunD K "sure" "sure" (defArgs s_sure) (defBody s_sure) (defScope s_sure) [] [] (He.ga K "sure") fd := T.c.def_ 33 (d := d_sure) rfl
theorem b_sure {f : Addr} {fd : FuncData} (F : FunD K "sure" "sure" (defArgs s_sure) (defBody s_sure) (defScope s_sure) [] [] f fd) : Binds K fd ["heard", "one"] [] := F.bindsN fun _ _ _ _ _ _ us hl => match us, hl with | [_, _], _ => rfl
theorem f_soon (T : Tp K mg) : ∃ fd, FunD K "soon" "soon" (defArgs s_soon) (defBody s_soon) (defScope s_soon) [] [] (He.ga K "soon") fd := T.c.def_ 34 (d := d_soon) rfl
theorem b_soon {f : Addr} {fd : FuncData} (F : FunD K "soon" "soon" (defArgs s_soon) (defBody s_soon) (defScope s_soon) [] [] f fd) : Binds K fd ["heard", "one"] [] := F.bindsN fun _ _ _ _ _ _ us hl => match us, hl with | [_, _], _ => rfl
theorem f_ahead (T : Tp K mg) : ∃ fd, FunD K "ahead" "ahead" (defArgs s_ahead) (defBody s_ahead) (defScope s_ahead) [] [] (He.ga K "ahead") fd := T.c.def_ 35 (d := d_ahead) rfl
theorem b_ahead {f : Addr} {fd : FuncData} (F : FunD K "ahead" "ahead" (defArgs s_ahead) (defBody s_ahead) (defScope s_ahead) [] [] f fd) : Binds K fd ["heard", "one"] [] := F.bindsN fun _ _ _ _ _ _ us hl => match us, hl with | [_, _], _ => rfl
theorem f_Making_UinitU (T : Tp K mg) : ∃ fd, FunD K "__init__" "Making.__init__" (defArgs s_Making_UinitU) (defBody s_Making_UinitU) (defScope s_Making_UinitU) [] [] (He.ma K (He.ga K "Making") "__init__") fd := T.c.def_ 36 (d := d_Making_UinitU) rfl
theorem b_Making_UinitU {f : Addr} {fd : FuncData} (F : FunD K "__init__" "Making.__init__" (defArgs s_Making_UinitU) (defBody s_Making_UinitU) (defScope s_Making_UinitU) [] [] f fd) : Binds K fd ["self", "web", "facts"] [] := F.bindsN fun _ _ _ _ _ _ us hl => match us, hl with | [_, _, _], _ => rfl
theorem f_Making_offer (T : Tp K mg) : ∃ fd, FunD K "offer" "Making.offer" (defArgs s_Making_offer) (defBody s_Making_offer) (defScope s_Making_offer) [] [] (He.ma K (He.ga K "Making") "offer") fd := T.c.def_ 37 (d := d_Making_offer) rfl
theorem b_Making_offer {f : Addr} {fd : FuncData} (F : FunD K "offer" "Making.offer" (defArgs s_Making_offer) (defBody s_Making_offer) (defScope s_Making_offer) [] [] f fd) : Binds K fd ["self", "kind", "x", "y", "amount", "row"] [] := F.bindsN fun _ _ _ _ _ _ us hl => match us, hl with | [_, _, _, _, _, _], _ => rfl
theorem f_Making_tell (T : Tp K mg) : ∃ fd, FunD K "tell" "Making.tell" (defArgs s_Making_tell) (defBody s_Making_tell) (defScope s_Making_tell) [] [] (He.ma K (He.ga K "Making") "tell") fd := T.c.def_ 38 (d := d_Making_tell) rfl
theorem b_Making_tell {f : Addr} {fd : FuncData} (F : FunD K "tell" "Making.tell" (defArgs s_Making_tell) (defBody s_Making_tell) (defScope s_Making_tell) [] [] f fd) : Binds K fd ["self"] [] := F.bindsN fun _ _ _ _ _ _ us hl => match us, hl with | [_], _ => rfl
theorem f_Making_go_round (T : Tp K mg) : ∃ fd, FunD K "go_round" "Making.go_round" (defArgs s_Making_go_round) (defBody s_Making_go_round) (defScope s_Making_go_round) [] [] (He.ma K (He.ga K "Making") "go_round") fd := T.c.def_ 39 (d := d_Making_go_round) rfl
theorem b_Making_go_round {f : Addr} {fd : FuncData} (F : FunD K "go_round" "Making.go_round" (defArgs s_Making_go_round) (defBody s_Making_go_round) (defScope s_Making_go_round) [] [] f fd) : Binds K fd ["self"] [] := F.bindsN fun _ _ _ _ _ _ us hl => match us, hl with | [_], _ => rfl
theorem f_Making_go_along (T : Tp K mg) : ∃ fd, FunD K "go_along" "Making.go_along" (defArgs s_Making_go_along) (defBody s_Making_go_along) (defScope s_Making_go_along) [] [] (He.ma K (He.ga K "Making") "go_along") fd := T.c.def_ 40 (d := d_Making_go_along) rfl
theorem b_Making_go_along {f : Addr} {fd : FuncData} (F : FunD K "go_along" "Making.go_along" (defArgs s_Making_go_along) (defBody s_Making_go_along) (defScope s_Making_go_along) [] [] f fd) : Binds K fd ["self", "x", "y"] [] := F.bindsN fun _ _ _ _ _ _ us hl => match us, hl with | [_, _, _], _ => rfl
theorem f_Making_go_wait (T : Tp K mg) : ∃ fd, FunD K "go_wait" "Making.go_wait" (defArgs s_Making_go_wait) (defBody s_Making_go_wait) (defScope s_Making_go_wait) [] [] (He.ma K (He.ga K "Making") "go_wait") fd := T.c.def_ 41 (d := d_Making_go_wait) rfl
theorem b_Making_go_wait {f : Addr} {fd : FuncData} (F : FunD K "go_wait" "Making.go_wait" (defArgs s_Making_go_wait) (defBody s_Making_go_wait) (defScope s_Making_go_wait) [] [] f fd) : Binds K fd ["self", "end", "y"] [] := F.bindsN fun _ _ _ _ _ _ us hl => match us, hl with | [_, _, _], _ => rfl
theorem f_Making_go_single (T : Tp K mg) : ∃ fd, FunD K "go_single" "Making.go_single" (defArgs s_Making_go_single) (defBody s_Making_go_single) (defScope s_Making_go_single) [] [] (He.ma K (He.ga K "Making") "go_single") fd := T.c.def_ 42 (d := d_Making_go_single) rfl
theorem b_Making_go_single {f : Addr} {fd : FuncData} (F : FunD K "go_single" "Making.go_single" (defArgs s_Making_go_single) (defBody s_Making_go_single) (defScope s_Making_go_single) [] [] f fd) : Binds K fd ["self", "word"] [] := F.bindsN fun _ _ _ _ _ _ us hl => match us, hl with | [_, _], _ => rfl
theorem f_Table_UinitU (T : Tp K mg) : ∃ fd, FunD K "__init__" "Table.__init__" (defArgs s_Table_UinitU) (defBody s_Table_UinitU) (defScope s_Table_UinitU) [] [] (He.ma K (He.ga K "Table") "__init__") fd := T.c.def_ 43 (d := d_Table_UinitU) rfl
theorem b_Table_UinitU {f : Addr} {fd : FuncData} (F : FunD K "__init__" "Table.__init__" (defArgs s_Table_UinitU) (defBody s_Table_UinitU) (defScope s_Table_UinitU) [] [] f fd) : Binds K fd ["self", "betweens", "untils"] [] := F.bindsN fun _ _ _ _ _ _ us hl => match us, hl with | [_, _, _], _ => rfl
theorem f_Table_until (T : Tp K mg) : ∃ fd, FunD K "until" "Table.until" (defArgs s_Table_until) (defBody s_Table_until) (defScope s_Table_until) [] [] (He.ma K (He.ga K "Table") "until") fd := T.c.def_ 44 (d := d_Table_until) rfl
theorem b_Table_until {f : Addr} {fd : FuncData} (F : FunD K "until" "Table.until" (defArgs s_Table_until) (defBody s_Table_until) (defScope s_Table_until) [] [] f fd) : Binds K fd ["self", "end", "x"] [] := F.bindsN fun _ _ _ _ _ _ us hl => match us, hl with | [_, _, _], _ => rfl
theorem f_Table_betweens (T : Tp K mg) : ∃ fd, FunD K "betweens" "Table.betweens" (defArgs s_Table_betweens) (defBody s_Table_betweens) (defScope s_Table_betweens) [] [] (He.ma K (He.ga K "Table") "betweens") fd := T.c.def_ 45 (d := d_Table_betweens) rfl
theorem b_Table_betweens {f : Addr} {fd : FuncData} (F : FunD K "betweens" "Table.betweens" (defArgs s_Table_betweens) (defBody s_Table_betweens) (defScope s_Table_betweens) [] [] f fd) : Binds K fd ["self"] [] := F.bindsN fun _ _ _ _ _ _ us hl => match us, hl with | [_], _ => rfl
theorem f_Table_untils (T : Tp K mg) : ∃ fd, FunD K "untils" "Table.untils" (defArgs s_Table_untils) (defBody s_Table_untils) (defScope s_Table_untils) [] [] (He.ma K (He.ga K "Table") "untils") fd := T.c.def_ 46 (d := d_Table_untils) rfl
theorem b_Table_untils {f : Addr} {fd : FuncData} (F : FunD K "untils" "Table.untils" (defArgs s_Table_untils) (defBody s_Table_untils) (defScope s_Table_untils) [] [] f fd) : Binds K fd ["self"] [] := F.bindsN fun _ _ _ _ _ _ us hl => match us, hl with | [_], _ => rfl
theorem f_Table_UeqU (T : Tp K mg) : ∃ fd, FunD K "__eq__" "Table.__eq__" (defArgs s_Table_UeqU) (defBody s_Table_UeqU) (defScope s_Table_UeqU) [] [] (He.ma K (He.ga K "Table") "__eq__") fd := T.c.def_ 47 (d := d_Table_UeqU) rfl
theorem b_Table_UeqU {f : Addr} {fd : FuncData} (F : FunD K "__eq__" "Table.__eq__" (defArgs s_Table_UeqU) (defBody s_Table_UeqU) (defScope s_Table_UeqU) [] [] f fd) : Binds K fd ["self", "other"] [] := F.bindsN fun _ _ _ _ _ _ us hl => match us, hl with | [_, _], _ => rfl
theorem f_Table_UlenU (T : Tp K mg) : ∃ fd, FunD K "__len__" "Table.__len__" (defArgs s_Table_UlenU) (defBody s_Table_UlenU) (defScope s_Table_UlenU) [] [] (He.ma K (He.ga K "Table") "__len__") fd := T.c.def_ 48 (d := d_Table_UlenU) rfl
theorem b_Table_UlenU {f : Addr} {fd : FuncData} (F : FunD K "__len__" "Table.__len__" (defArgs s_Table_UlenU) (defBody s_Table_UlenU) (defScope s_Table_UlenU) [] [] f fd) : Binds K fd ["self"] [] := F.bindsN fun _ _ _ _ _ _ us hl => match us, hl with | [_], _ => rfl
theorem f_Table_UreprU (T : Tp K mg) : ∃ fd, FunD K "__repr__" "Table.__repr__" (defArgs s_Table_UreprU) (defBody s_Table_UreprU) (defScope s_Table_UreprU) [] [] (He.ma K (He.ga K "Table") "__repr__") fd := T.c.def_ 49 (d := d_Table_UreprU) rfl
theorem b_Table_UreprU {f : Addr} {fd : FuncData} (F : FunD K "__repr__" "Table.__repr__" (defArgs s_Table_UreprU) (defBody s_Table_UreprU) (defScope s_Table_UreprU) [] [] f fd) : Binds K fd ["self"] [] := F.bindsN fun _ _ _ _ _ _ us hl => match us, hl with | [_], _ => rfl
theorem f_need_base (T : Tp K mg) : ∃ fd, FunD K "need_base" "need_base" (defArgs s_need_base) (defBody s_need_base) (defScope s_need_base) [] [] (He.ga K "need_base") fd := T.c.def_ 50 (d := d_need_base) rfl
theorem b_need_base {f : Addr} {fd : FuncData} (F : FunD K "need_base" "need_base" (defArgs s_need_base) (defBody s_need_base) (defScope s_need_base) [] [] f fd) : Binds K fd ["table", "name"] [] := F.bindsN fun _ _ _ _ _ _ us hl => match us, hl with | [_, _], _ => rfl
theorem f_settled (T : Tp K mg) : ∃ fd, FunD K "settled" "settled" (defArgs s_settled) (defBody s_settled) (defScope s_settled) [] [] (He.ga K "settled") fd := T.c.def_ 51 (d := d_settled) rfl
theorem b_settled {f : Addr} {fd : FuncData} (F : FunD K "settled" "settled" (defArgs s_settled) (defBody s_settled) (defScope s_settled) [] [] f fd) : Binds K fd ["web"] [] := F.bindsN fun _ _ _ _ _ _ us hl => match us, hl with | [_], _ => rfl
theorem f_steered (T : Tp K mg) : ∃ fd, FunD K "steered" "steered" (defArgs s_steered) (defBody s_steered) (defScope s_steered) [] [] (He.ga K "steered") fd := T.c.def_ 52 (d := d_steered) rfl
theorem b_steered {f : Addr} {fd : FuncData} (F : FunD K "steered" "steered" (defArgs s_steered) (defBody s_steered) (defScope s_steered) [] [] f fd) : Binds K fd ["web"] [] := F.bindsN fun _ _ _ _ _ _ us hl => match us, hl with | [_], _ => rfl
theorem f_make_all (T : Tp K mg) : ∃ fd, FunD K "make_all" "make_all" (defArgs s_make_all) (defBody s_make_all) (defScope s_make_all) [] [] (He.ga K "make_all") fd := T.c.def_ 53 (d := d_make_all) rfl
theorem b_make_all {f : Addr} {fd : FuncData} (F : FunD K "make_all" "make_all" (defArgs s_make_all) (defBody s_make_all) (defScope s_make_all) [] [] f fd) : Binds K fd ["making"] [] := F.bindsN fun _ _ _ _ _ _ us hl => match us, hl with | [_], _ => rfl
theorem f_table_of (T : Tp K mg) : ∃ fd, FunD K "table_of" "table_of" (defArgs s_table_of) (defBody s_table_of) (defScope s_table_of) [] [] (He.ga K "table_of") fd := T.c.def_ 54 (d := d_table_of) rfl
theorem b_table_of {f : Addr} {fd : FuncData} (F : FunD K "table_of" "table_of" (defArgs s_table_of) (defBody s_table_of) (defScope s_table_of) [] [] f fd) : Binds K fd ["making"] [] := F.bindsN fun _ _ _ _ _ _ us hl => match us, hl with | [_], _ => rfl
theorem f_paper_of (T : Tp K mg) : ∃ fd, FunD K "paper_of" "paper_of" (defArgs s_paper_of) (defBody s_paper_of) (defScope s_paper_of) [] [] (He.ga K "paper_of") fd := T.c.def_ 55 (d := d_paper_of) rfl
theorem b_paper_of {f : Addr} {fd : FuncData} (F : FunD K "paper_of" "paper_of" (defArgs s_paper_of) (defBody s_paper_of) (defScope s_paper_of) [] [] f fd) : Binds K fd ["rows", "fault"] [] := F.bindsN fun _ _ _ _ _ _ us hl => match us, hl with | [_, _], _ => rfl
theorem f_row_places (T : Tp K mg) : ∃ fd, FunD K "row_places" "row_places" (defArgs s_row_places) (defBody s_row_places) (defScope s_row_places) [] [] (He.ga K "row_places") fd := T.c.def_ 56 (d := d_row_places) rfl
theorem b_row_places {f : Addr} {fd : FuncData} (F : FunD K "row_places" "row_places" (defArgs s_row_places) (defBody s_row_places) (defScope s_row_places) [] [] f fd) : Binds K fd ["row"] [] := F.bindsN fun _ _ _ _ _ _ us hl => match us, hl with | [_], _ => rfl
theorem f_moved_row (T : Tp K mg) : ∃ fd, FunD K "moved_row" "moved_row" (defArgs s_moved_row) (defBody s_moved_row) (defScope s_moved_row) [] [] (He.ga K "moved_row") fd := T.c.def_ 57 (d := d_moved_row) rfl
theorem b_moved_row {f : Addr} {fd : FuncData} (F : FunD K "moved_row" "moved_row" (defArgs s_moved_row) (defBody s_moved_row) (defScope s_moved_row) [] [] f fd) : Binds K fd ["row", "moved"] [] := F.bindsN fun _ _ _ _ _ _ us hl => match us, hl with | [_, _], _ => rfl
theorem f__law_flow (T : Tp K mg) : ∃ fd, FunD K "_law_flow" "_law_flow" (defArgs s__law_flow) (defBody s__law_flow) (defScope s__law_flow) [] [] (He.ga K "_law_flow") fd := T.c.def_ 58 (d := d__law_flow) rfl
theorem b__law_flow {f : Addr} {fd : FuncData} (F : FunD K "_law_flow" "_law_flow" (defArgs s__law_flow) (defBody s__law_flow) (defScope s__law_flow) [] [] f fd) : Binds K fd ["_law_script"] [] := F.bindsN fun _ _ _ _ _ _ us hl => match us, hl with | [_], _ => rfl
theorem f__law_draw (T : Tp K mg) : ∃ fd, FunD K "_law_draw" "_law_draw" (defArgs s__law_draw) (defBody s__law_draw) (defScope s__law_draw) [] [] (He.ga K "_law_draw") fd := T.c.def_ 59 (d := d__law_draw) rfl
theorem b__law_draw {f : Addr} {fd : FuncData} (F : FunD K "_law_draw" "_law_draw" (defArgs s__law_draw) (defBody s__law_draw) (defScope s__law_draw) [] [] f fd) : Binds K fd ["_law_flow_here", "_law_size"] [] := F.bindsN fun _ _ _ _ _ _ us hl => match us, hl with | [_, _], _ => rfl
theorem f__law_pick (T : Tp K mg) : ∃ fd, FunD K "_law_pick" "_law_pick" (defArgs s__law_pick) (defBody s__law_pick) (defScope s__law_pick) [] [] (He.ga K "_law_pick") fd := T.c.def_ 60 (d := d__law_pick) rfl
theorem b__law_pick {f : Addr} {fd : FuncData} (F : FunD K "_law_pick" "_law_pick" (defArgs s__law_pick) (defBody s__law_pick) (defScope s__law_pick) [] [] f fd) : Binds K fd ["_law_flow_here", "_law_row"] [] := F.bindsN fun _ _ _ _ _ _ us hl => match us, hl with | [_, _], _ => rfl
theorem f__law_names (T : Tp K mg) : ∃ fd, FunD K "_law_names" "_law_names" (defArgs s__law_names) (defBody s__law_names) (defScope s__law_names) [] [] (He.ga K "_law_names") fd := T.c.def_ 61 (d := d__law_names) rfl
theorem b__law_names {f : Addr} {fd : FuncData} (F : FunD K "_law_names" "_law_names" (defArgs s__law_names) (defBody s__law_names) (defScope s__law_names) [] [] f fd) : Binds K fd ["_law_flow_here", "_law_many"] [] := F.bindsN fun _ _ _ _ _ _ us hl => match us, hl with | [_, _], _ => rfl
theorem f__law_model (T : Tp K mg) : ∃ fd, FunD K "_law_model" "_law_model" (defArgs s__law_model) (defBody s__law_model) (defScope s__law_model) [] [] (He.ga K "_law_model") fd := T.c.def_ 62 (d := d__law_model) rfl
theorem b__law_model {f : Addr} {fd : FuncData} (F : FunD K "_law_model" "_law_model" (defArgs s__law_model) (defBody s__law_model) (defScope s__law_model) [] [] f fd) : Binds K fd ["_law_last"] [] := F.bindsN fun _ _ _ _ _ _ us hl => match us, hl with | [_], _ => rfl
theorem f__law_points (T : Tp K mg) : ∃ fd, FunD K "_law_points" "_law_points" (defArgs s__law_points) (defBody s__law_points) (defScope s__law_points) [] [] (He.ga K "_law_points") fd := T.c.def_ 63 (d := d__law_points) rfl
theorem b__law_points {f : Addr} {fd : FuncData} (F : FunD K "_law_points" "_law_points" (defArgs s__law_points) (defBody s__law_points) (defScope s__law_points) [] [] f fd) : Binds K fd ["_law_m"] [] := F.bindsN fun _ _ _ _ _ _ us hl => match us, hl with | [_], _ => rfl
theorem f__law_web (T : Tp K mg) : ∃ fd, FunD K "_law_web" "_law_web" (defArgs s__law_web) (defBody s__law_web) (defScope s__law_web) [] [] (He.ga K "_law_web") fd := T.c.def_ 64 (d := d__law_web) rfl
theorem b__law_web {f : Addr} {fd : FuncData} (F : FunD K "_law_web" "_law_web" (defArgs s__law_web) (defBody s__law_web) (defScope s__law_web) [] [] f fd) : Binds K fd ["_law_m"] [] := F.bindsN fun _ _ _ _ _ _ us hl => match us, hl with | [_], _ => rfl
theorem f__law_wind (T : Tp K mg) : ∃ fd, FunD K "_law_wind" "_law_wind" (defArgs s__law_wind) (defBody s__law_wind) (defScope s__law_wind) [] [] (He.ga K "_law_wind") fd := T.c.def_ 65 (d := d__law_wind) rfl
theorem b__law_wind {f : Addr} {fd : FuncData} (F : FunD K "_law_wind" "_law_wind" (defArgs s__law_wind) (defBody s__law_wind) (defScope s__law_wind) [] [] f fd) : Binds K fd ["_law_flow_here", "_law_end", "_law_own", "_law_far"] [] := F.bindsN fun _ _ _ _ _ _ us hl => match us, hl with | [_, _, _, _], _ => rfl
theorem f__law_bond (T : Tp K mg) : ∃ fd, FunD K "_law_bond" "_law_bond" (defArgs s__law_bond) (defBody s__law_bond) (defScope s__law_bond) [] [] (He.ga K "_law_bond") fd := T.c.def_ 66 (d := d__law_bond) rfl
theorem b__law_bond {f : Addr} {fd : FuncData} (F : FunD K "_law_bond" "_law_bond" (defArgs s__law_bond) (defBody s__law_bond) (defScope s__law_bond) [] [] f fd) : Binds K fd ["_law_flow_here", "_law_points_here", "_law_far"] [] := F.bindsN fun _ _ _ _ _ _ us hl => match us, hl with | [_, _, _], _ => rfl
theorem f__law_drawn (T : Tp K mg) : ∃ fd, FunD K "_law_drawn" "_law_drawn" (defArgs s__law_drawn) (defBody s__law_drawn) (defScope s__law_drawn) [] [] (He.ga K "_law_drawn") fd := T.c.def_ 67 (d := d__law_drawn) rfl
theorem b__law_drawn {f : Addr} {fd : FuncData} (F : FunD K "_law_drawn" "_law_drawn" (defArgs s__law_drawn) (defBody s__law_drawn) (defScope s__law_drawn) [] [] f fd) : Binds K fd ["_law_flow_here", "_law_own", "_law_winds", "_law_bonds", "_law_far", "_law_last"] [] := F.bindsN fun _ _ _ _ _ _ us hl => match us, hl with | [_, _, _, _, _, _], _ => rfl
theorem f__law_copy (T : Tp K mg) : ∃ fd, FunD K "_law_copy" "_law_copy" (defArgs s__law_copy) (defBody s__law_copy) (defScope s__law_copy) [] [] (He.ga K "_law_copy") fd := T.c.def_ 68 (d := d__law_copy) rfl
theorem b__law_copy {f : Addr} {fd : FuncData} (F : FunD K "_law_copy" "_law_copy" (defArgs s__law_copy) (defBody s__law_copy) (defScope s__law_copy) [] [] f fd) : Binds K fd ["_law_m"] [] := F.bindsN fun _ _ _ _ _ _ us hl => match us, hl with | [_], _ => rfl
theorem f__law_looser (T : Tp K mg) : ∃ fd, FunD K "_law_looser" "_law_looser" (defArgs s__law_looser) (defBody s__law_looser) (defScope s__law_looser) [] [] (He.ga K "_law_looser") fd := T.c.def_ 69 (d := d__law_looser) rfl
theorem b__law_looser {f : Addr} {fd : FuncData} (F : FunD K "_law_looser" "_law_looser" (defArgs s__law_looser) (defBody s__law_looser) (defScope s__law_looser) [] [] f fd) : Binds K fd ["_law_flow_here", "_law_m"] [] := F.bindsN fun _ _ _ _ _ _ us hl => match us, hl with | [_, _], _ => rfl
theorem f_law (T : Tp K mg) : ∃ fd, FunD K "law" "law" (defArgs s_law) (defBody s_law) (defScope s_law) [] [] (He.ga K "law") fd := T.c.def_ 70 (d := d_law) rfl
theorem b_law {f : Addr} {fd : FuncData} (F : FunD K "law" "law" (defArgs s_law) (defBody s_law) (defScope s_law) [] [] f fd) : Binds K fd ["_law_script"] [] := F.bindsN fun _ _ _ _ _ _ us hl => match us, hl with | [_], _ => rfl
end
/-! the head -/
def loose0 : List PySem.Str := ["_wall", "__name__", "TideError", "BadBy", "BadName", "Taken", "Full", "BadLength", "BadLate", "BadTie", "Used", "Missing", "NoMoment", "NoPoint", "NoSpan", "NoTie", "LETTERS", "LONGEST_NAME", "is_number", "is_whole", "is_one_of", "is_name", "BY", "START", "MOST_BY", "MOST_MOMENTS", "MOST_SPANS", "MOST_TIES", "MOST_LENGTH", "MOST_LATE"]
def loose1 : List PySem.Str := ["MOST_BOUND", "Web", "woven", "is_begin", "are_lengths", "is_lateness", "is_used", "are_bounds", "need_free_name", "need_point", "bases", "offset", "bounds", "tie_bounds", "heard_spans", "MOST", "UNTIL", "heard_begins", "late_waits", "sure", "soon", "ahead", "SINGLE_RULES", "Making", "Table", "need_base", "settled", "steered", "make_all", "table_of"]
def loose2 : List PySem.Str := ["paper_of", "row_places", "moved_row", "_law_flow", "_law_draw", "_law_pick", "_law_names", "_law_model", "_law_points", "_law_web", "_law_wind", "_law_bond", "_law_drawn", "_law_copy", "_law_looser"]
def loose : List PySem.Str := loose0 ++ loose1 ++ loose2
abbrev R : PySem.W.OpenRow := PySem.W.OpenLaw.row PySem.Challenge.rw_tidewaiter_k22_whole_looser_never_harms
def tf : List He.Defn := [("law", none)]
def want0 : List PySem.Str := ["Web", "Making", "Table", "SINGLE_RULES", "is_number", "is_whole", "is_one_of", "is_name", "woven", "is_begin", "are_lengths", "is_lateness", "is_used", "are_bounds", "need_free_name", "need_point", "bases", "offset", "bounds", "tie_bounds", "heard_spans", "heard_begins", "late_waits", "sure", "soon", "ahead", "need_base", "settled", "steered", "make_all"]
def want1 : List PySem.Str := ["table_of", "paper_of", "row_places", "moved_row", "_law_flow", "_law_draw", "_law_pick", "_law_names", "_law_model", "_law_points", "_law_web", "_law_wind", "_law_bond", "_law_drawn", "_law_copy", "_law_looser", "law"]
def want2 : List PySem.Str := []
def want : List PySem.Str × List PySem.Str := (want0 ++ (want1 ++ want2), [])
def tb : List He.Tab := [((fun K => He.ga K "SINGLE_RULES"), ["sure", "soon", "ahead"])]
abbrev hk : PySem.W.Hook := hookW 3 want fa fn tf ex tb
def ob (s : PySem.W.SharedT) : AlW := obsW 3 want fa fn tf ex tb (HandSHeadRun.getT s)
theorem ob_eq (s : PySem.W.SharedT) : ob s = hk.obs s.abs := obsW_eq (HandSHeadRun.getT_eq s)
abbrev lawAt : Nat := 83
end Tw

set_option maxHeartbeats 0
namespace Tw
open PySem PySem.Spec PyProof.Rows L2
/-! a top that fills a dict asks the world one question: both answers, each in two parts -/
abbrev Rn (w : World) : Prop := HandSHeadRun.RunEq R (PySem.W.view R.prog [lawAt]) hk ob 30000 loose w
abbrev wB (w : World) (b : Bool) : World := w.withFollow "special-get-raises" b
noncomputable abbrev en (w : World) (os : OsState) : Option PySem.W.SharedT := HandSHeadRun.endF (HandSHeadRun.stepQ (HandSHeadRun.denQ HandSHeadRun.tabQ) R.prog w) 30000 R.prog w os
abbrev L1 (w : World) (os : OsState) : Prop := (en w os).map (fun s => (HandSHeadRun.looksF R.prog (PySem.W.boot_heap w.params) s.abs, HandSHeadRun.seenQ (PySem.W.view R.prog [lawAt]) loose (importedModules R.prog.main.body) (fun s => PySem.W.xlAt (PySem.W.view R.prog [lawAt]) [] s && PySem.W.recOk R.records s) s.abs)) = some (true, PySem.W.openGood (PySem.W.view R.prog [lawAt]) loose)
abbrev L2' (w : World) (os : OsState) : Prop := (en w os).map ob = some (hk.val w)
theorem no1 (w : World) (os : OsState) : L1 (wB w false) os := by kernel_rfl
theorem no2 (w : World) (os : OsState) : L2' (wB w false) os := by kernel_rfl
theorem yes1 (w : World) (os : OsState) : L1 (wB w true) os := by kernel_rfl
theorem yes2 (w : World) (os : OsState) : L2' (wB w true) os := by kernel_rfl
theorem run (w : World) : Rn w := PySem.W.byRow2 "special-get-raises" (P := Rn) (fun w os => three_of (no1 w os) (no2 w os)) (fun w os => three_of (yes1 w os) (yes2 w os)) w
end Tw

set_option maxHeartbeats 4000000
/-! comprehensions whose block changes nothing -/
namespace Tw
open PySem PySem.Spec PyProof.Rows L2
section
variable {α β : Type} {J : It} {G : Hp → Prop} {Y : Nat → Hp → V → Hp → Prop} {g : TG} {tt : TT} {te : TE} {vs : List Nat} {σ : L2.St} {H0 : Hp} {D : Addr} {Qd : Hp → Prop}
/-- [elt for target in source if test]: as the source's items as data, f the item's own (none: left out), S what a told item is -/
theorem lc_pure (as : List α) (w : Walk J as.length G Y) (f : α → Option β) (S : Hp → V → β → Prop) (Sk : ∀ {H H' v b}, Kt H H' → S H v b → S H' v b) (nD : H0 D = none) (hn : as.length ≤ 1000) (hG : ∀ H, Same H0 H → G H)
    (hs : ∀ i a x H H', as[i]? = some a → Same H0 H → Y i H x H' → ∀ (Good : V → Hp → Prop) (Bad : Hp → Prop), (∀ y c H4, f a = some c → Same H H4 → S H4 y c → Good y H4) → (f a = none → ∀ H3, Same H H3 → Bad H3) →
      g x (wipe σ vs) H' fun σ2 H2 => wipe σ2 vs = wipe σ vs ∧ tt σ2 H2 fun b H3 => if b = true then te σ2 H3 Good else Bad H3)
    (hd : ∀ H acc, Same H0 H → H D = some (.lst acc) → Paired (S H) acc (as.filterMap f) → Qd H) :
    ∃ W : Nat → Nat → Hp → Prop, (∃ m, W 0 m (upd H0 D (.lst []))) ∧ ∀ i m H, W i m H →
      (J.stop i H ∧ Qd H) ∨ (J.go i H ∧ ∃ Nx : Hp → Prop, (∀ H', Nx H' → ∃ m', m' < m ∧ W (i + 1) m' H') ∧ ∀ x H', J.yld i H x H' → g x (wipe σ vs) H' fun σ2 H2 => wipe σ2 vs = wipe σ vs ∧ tt σ2 H2 fun b H3 =>
        if b = true then te σ2 H3 fun y H4 => ∃ acc, H4 D = some (.lst acc) ∧ acc.length < sizeLine ∧ Nx (upd H4 D (.lst (acc ++ [y]))) else Nx H3) := by
  refine lc_it w (fun i H => Same H0 H ∧ ∃ acc, H D = some (.lst acc) ∧ Paired (S H) acc ((as.take i).filterMap f)) ⟨same_upd nD, [], upd_same, .nil⟩ (fun _ H _ h => hG H h.1) ?_ ?_
  · rintro i x H H' hi ⟨s1, acc, d1, p1⟩ y
    obtain ⟨a, ea⟩ : ∃ a, as[i]? = some a := ⟨as[i], by simp [hi]⟩
    have e2 : (as.take (i + 1)).filterMap f = (as.take i).filterMap f ++ (f a).toList := by
      rw [List.take_add_one, ea, List.filterMap_append]
      cases h : f a <;> simp [List.filterMap, h]
    refine hs i a x H H' ea s1 y _ _ (fun z c H4 ec s4 hz => ⟨acc, s4 _ _ d1, ?_, ?_, acc ++ [z], upd_same, ?_⟩) (fun en H3 s3 => ⟨s1.trans s3, acc, s3 _ _ d1, ?_⟩)
    · have hl := Paired.length p1
      have h2 : ((as.take i).filterMap f).length ≤ as.length := Nat.le_trans (List.length_filterMap_le _ _) (by rw [List.length_take]; omega)
      exact small1000 (by omega)
    · intro b o e
      rw [upd_ne (ne_of_none e nD)]
      exact s4 _ _ (s1 b o e)
    · rw [e2, ec]
      have kk : Kt H4 (upd H4 D (.lst (acc ++ [z]))) := Kt.upd fun xs e => by
        rw [s4 _ _ d1] at e
        cases e
      exact Paired.snoc (Paired.mono (fun v b h => Sk kk (Sk (Kt.of s4) h)) p1) (Sk kk hz)
    · rw [e2, en]
      show Paired _ _ (_ ++ [])
      rw [List.append_nil]
      exact Paired.mono (fun v b h => Sk (Kt.of s3) h) p1
  · rintro H ⟨s1, acc, d1, p1⟩
    rw [List.take_of_length_le (Nat.le_refl _)] at p1
    exact hd H acc s1 d1 p1
end
theorem walk_listN {K : PySem.W.Frag} {a : Addr} {xs : List V} {n : Nat} (h : xs.length = n) : Walk (Itl K a) n (fun H => SqL K H a xs) (YAt xs) := h ▸ walk_list
theorem walk_tupN {K : PySem.W.Frag} {a : Addr} {xs : List V} {n : Nat} (h : xs.length = n) : Walk (Itt K a) n (fun H => SqT K H a xs) (YAt xs) := h ▸ walk_tup
theorem sl_tupK {X : Cx} {K : PySem.W.Frag} (h : X.K = K) : SlR X (rSlT K) := h ▸ sl_tup
theorem sl_listK {X : Cx} {K : PySem.W.Frag} (h : X.K = K) : SlR X (rSlL K) := h ▸ sl_list
theorem flat_bls (l : List Bool) : (l.map V.bl).all flatV = true := by
  rw [List.all_map]
  exact List.all_eq_true.mpr fun _ _ => rfl
/-- a told item that is plain -/
def SV {β : Type} (enc : β → V) : Hp → V → β → Prop := fun _ v b => v = enc b
theorem paired_enc {β : Type} {enc : β → V} {H : Hp} : ∀ {acc : List V} {bs : List β}, Paired (SV enc H) acc bs → acc = bs.map enc
  | _, _, .nil => rfl
  | _, _, .cons h t => by
    rw [List.map_cons, ← paired_enc t, ← show _ = _ from h]
/-- a told item that is a tuple -/
def SR {β : Type} (row : β → List V) : Hp → V → β → Prop := fun H v b => ∃ t, v = .ref t ∧ H t = some (.tup (row b))
theorem sr_k {β : Type} {row : β → List V} {H H' : Hp} {v : V} {b : β} (k : Kt H H') (h : SR row H v b) : SR row H' v b := by
  obtain ⟨t, e, ht⟩ := h
  exact ⟨t, e, k _ _ ht⟩
theorem paired_rows {β : Type} {row : β → List V} {H : Hp} : ∀ {acc : List V} {bs : List β}, Paired (SR row H) acc bs → Rows H acc (bs.map row)
  | _, _, .nil => .nil
  | _, _, .cons h t => .cons h (paired_rows t)
theorem rows_at {β : Type} {row : β → List V} {H : Hp} {xs : List V} {bs : List β} {i : Nat} {x : V} {b : β} (h : Rows H xs (bs.map row)) (e : xs[i]? = some x) (eb : bs[i]? = some b) : ∃ t, x = .ref t ∧ H t = some (.tup (row b)) := by
  obtain ⟨t, r, h1, h2, h3⟩ := h.at e
  rw [List.getElem?_map, eb] at h2
  cases h2
  exact ⟨t, h1, h3⟩
end Tw

set_option maxHeartbeats 4000000
/-! `x = {key: value for target in walk}`: a dict comprehension kept by a name -/
namespace Tw
open PySem PySem.Spec PyProof.Rows L2
section
variable {X : Cx}
/-- what the parts of a dict comprehension promise -/
structure DcB (X : Cx) (kx vx tg iter : Expr) (ifs : List Expr) (sc : Scope) (own : List (Str × Nat)) (wi : TI) (g : TG) (tt : TT) (tk tv : TE) : Prop where
  calm : X.calm = true
  nod : X.N.Nodup
  walk : PI X tg iter wi
  blk : BlkOk X.N X.env.scope sc own
  tgt : ∀ s H C cl fp, PG (X.blk s H sc (compEnvC sc cl C X.env) fp) tg g
  tst : ∀ s H C cl fp, PTs (X.blk s H sc (compEnvC sc cl C X.env) fp) ifs tt
  key : ∀ s H C cl fp, PE (X.blk s H sc (compEnvC sc cl C X.env) fp) kx tk
  val : ∀ s H C cl fp, PE (X.blk s H sc (compEnvC sc cl C X.env) fp) vx tv
  raw : ∀ x, foldedSetIterable iter X.env x = pure x := by intro _; rfl
/-- the name takes it, where it is a local of a def, on the comprehension's row, and none of its own -/
structure DcY (X : Cx) (i : Nat) (y : Str) (sc : Scope) (py pos : Pos) : Prop where
  at_ : X.N[i]? = some y
  loc : X.env.scope.names.lookup y = some .local
  fn : X.env.scope.kind = .function
  row : (py.line == pos.line) = true
  own : (sc.names.any fun (n, k) => n == y && (k == .local || k == .cell)) = false
theorem ps_dcs {i : Nat} {y : Str} {py pos spos : Pos} {kx vx tg iter : Expr} {ifs : List Expr} {sc : Scope} {own : List (Str × Nat)} {wi : TI} {g : TG} {tt : TT} {tk tv : TE} (Y : DcY X i y sc py pos) (B : DcB X kx vx tg iter ifs sc own wi g tt tk tv) :
    PS X (.Assign [.Name y py] (.DictComp kx vx [⟨tg, iter, ifs, 0⟩] sc pos) spos) (tAsg (tDc wi g tt tk tv (own.map (·.2))) (gName i)) := by
  have sw : swapsWith (.DictComp kx vx [⟨tg, iter, ifs, 0⟩] sc pos) (some (.Name y py)) spos.line X.env = pure true := by
    have e1 : (X.env.kindOf y == some .local) = true := by
      rw [show X.env.kindOf y = some .local from Y.loc]
      rfl
    have e2 : (X.env.blockKind == .function) = true := by
      unfold Env.blockKind
      rw [Y.fn]
      rfl
    show (pure (X.env.blockKind == .function && X.env.kindOf y == some .local && py.line == pos.line && !(sc.names.any fun (n, k) => n == y && (k == .local || k == .cell))) : Sem Bool) = pure true
    rw [e1, e2, Y.row, Y.own]
    rfl
  constructor
  intro pins s σ H D I h
  rw [exec_Assign_Name_used _ _ _ _ sw]
  apply wpAny_bind
  apply wpAny_standAt
  apply wpAny_bind
  refine wpAny_bind (wpAny_mono (dc_core (use := some (assign (.Name y py) X.env)) (Qf := fun _ s' => SP X pins D .next s') B.calm B.nod I B.walk B.blk B.tgt B.tst B.key B.val B.raw h ?_) (fun _ s' hq => wpAny_pure (wpAny_pure hq)) (fun _ _ hx => hx))
  intro d C s' n H' I' q ns fp
  have hm : FpOk X pins H' C := fp
  obtain ⟨m0, m1, _, m3, m4, m5⟩ := fp
  refine wpAny_assign_Name (store_ok2 (v := V.ref d) I' B.nod Y.at_ (.inl Y.loc) rfl (fun s2 I2 kept => ?_) (.inr Y.loc))
  obtain ⟨a, sb, ha⟩ := kept
  have nC : C ≠ a := by
    intro e
    rcases ha with z | z
    · exact m1 (e.trans z)
    · exact m4 y a z e.symm
  exact ⟨n, ns.sameBut sb nC, fun h3 sb3 => ⟨_, H', I2.turned (t' := s2.toks) (fun b o hb e => (sb3.2 b hb).trans e) m0 m1 m3 m4 m5, q⟩⟩
/-- a dict comprehension over any walk: what stands at D turn by turn -/
theorem dc_walk {J : It} {n : Nat} {G : Hp → Prop} {Y : Nat → Hp → V → Hp → Prop} (w : Walk J n G Y) {g : TG} {tt : TT} {tk tv : TE} {vs : List Nat} {σ : L2.St} {H1 : Hp} {D : Addr} {Qd : Hp → Prop} (Pv : Nat → Hp → Prop)
    (h0 : Pv 0 (upd H1 D (.dK []))) (hG : ∀ i H, i ≤ n → Pv i H → G H)
    (hs : ∀ i x H H', i < n → Pv i H → Y i H x H' → g x (wipe σ vs) H' fun σ2 H2 => wipe σ2 vs = wipe σ vs ∧ tt σ2 H2 fun c H3 => if c = true then tk σ2 H3 fun y H4 => tv σ2 H4 fun z H5 => ∃ kvs k, y = kV k ∧ H5 D = some (.dK kvs) ∧ kvs.length < sizeLine ∧ Pv (i + 1) (upd H5 D (.dK (putK kvs k z))) else Pv (i + 1) H3)
    (hd : ∀ H, Pv n H → Qd H) :
    ∃ W : Nat → Nat → Hp → Prop, (∃ m, W 0 m (upd H1 D (.dK []))) ∧ ∀ i m H, W i m H → (J.stop i H ∧ Qd H) ∨ (J.go i H ∧ ∃ Nx : Hp → Prop, (∀ H', Nx H' → ∃ m', m' < m ∧ W (i + 1) m' H') ∧
      ∀ x H', J.yld i H x H' → g x (wipe σ vs) H' fun σ2 H2 => wipe σ2 vs = wipe σ vs ∧ tt σ2 H2 fun c H3 => if c = true then tk σ2 H3 fun y H4 => tv σ2 H4 fun z H5 => ∃ kvs k, y = kV k ∧ H5 D = some (.dK kvs) ∧ kvs.length < sizeLine ∧ Nx (upd H5 D (.dK (putK kvs k z))) else Nx H3) := by
  refine ⟨fun i m H => i + m = n ∧ Pv i H, ⟨n, Nat.zero_add n, h0⟩, fun i m H hW => ?_⟩
  obtain ⟨e, p⟩ := hW
  cases m with
  | zero =>
    have e : i = n := e
    subst e
    exact .inl ⟨w.stops H (hG i H (Nat.le_refl i) p), hd H p⟩
  | succ m =>
    have hi : i < n := by omega
    exact .inr ⟨w.goes i H hi (hG i H (Nat.le_of_lt hi) p), Pv (i + 1), fun H' p' => ⟨m, Nat.lt_succ_self m, by omega, p'⟩, fun x H' y => hs i x H H' hi p (w.yields i H x H' hi (hG i H (Nat.le_of_lt hi) p) y)⟩
end
end Tw

set_option maxHeartbeats 4000000
namespace Tw
open PySem PySem.Spec PyProof.Rows L2
/-! tuples joined and cut: what stands at the told place -/
def rCatU : R2 := fun x y H Q => ∃ a b xs ys, x = .ref a ∧ y = .ref b ∧ H a = some (.tup xs) ∧ H b = some (.tup ys) ∧ xs.length + ys.length ≤ sizeLine ∧ ∀ p H', Same H H' → H' p = some (.tup (xs ++ ys)) → Q (.ref p) H'
theorem op_catU {X : Cx} : OpR X (binaryOp .Add) rCatU := by
  intro pins s σ H x y v u Q I rx ry h
  obtain ⟨a, b, xs, ys, rfl, rfl, ha, hb, hl, q⟩ := h
  refine op_catA pins s σ H _ _ v u Q I rx ry ⟨a, b, xs, ys, rfl, rfl, .inl (.inl ha), .inl (.inl hb), hl, fun e => ?_, fun _ e => ?_, fun _ _ p np => q p _ (same_upd np) upd_same⟩
  · exact q b H (Same.refl H) (by rw [hb, e]; rfl)
  · exact q a H (Same.refl H) (by rw [ha, e, List.append_nil])
def rSlU : V → Option Int → Option Int → Hp → VK → Prop := fun x lo hi H Q => ∃ a xs, x = .ref a ∧ H a = some (.tup xs) ∧ ∀ p H', Same H H' → H' p = some (.tup (cutV xs lo hi)) → Q (.ref p) H'
theorem sl_tupU {X : Cx} : SlR X rSlU := by
  intro pins s σ H x v vl vu lo hi sl Q I rx hs pl pu h
  obtain ⟨a, xs, rfl, ha, q⟩ := h
  refine sl_tupA pins s σ H _ v vl vu lo hi sl Q I rx hs pl pu ⟨a, xs, rfl, .inl (.inl ha), fun e => ?_, fun _ p np => q p _ (same_upd np) upd_same⟩
  refine q a H (Same.refl H) ?_
  rw [ha]
  unfold cutV
  rw [e.1, e.2, List.drop_zero, Nat.sub_zero, List.take_length]
end Tw

set_option maxHeartbeats 4000000
namespace Tw
open PySem PySem.Spec PyProof.Rows L2
theorem flat_strs (l : List Str) : (l.map V.str).all flatV = true := by
  rw [List.all_map]
  exact List.all_eq_true.mpr fun _ _ => rfl
theorem in_strs (z : Str) (l : List Str) : inV (.str z) (l.map V.str) = decide (z ∈ l) := by
  unfold inV
  rw [List.any_map]
  induction l with
  | nil => rfl
  | cons a r ih =>
    rw [List.any_cons, ih]
    have e : ((fun y => eqV y (.str z)) ∘ V.str) a = decide (z = a) := by
      show (a == z) = decide (z = a)
      by_cases h : z = a
      · subst h
        simp
      · rw [decide_eq_false h]
        exact beq_eq_false_iff_ne.mpr fun q => h q.symm
    rw [e]
    simp only [List.mem_cons]
    by_cases h : z = a <;> simp [h]
section
variable {P : Program} {w : World} {K : PySem.W.Frag} {mg : Str → Option Value} {base : Heap}
/-! ### is_number, is_whole, is_one_of -/
/-- None, a truth, an int or a text: its kind -/
def plK : V → Option String
  | .non => some "NoneType"
  | .bl _ => some "bool"
  | .int _ => some "int"
  | .str _ => some "str"
  | _ => none
theorem plK_ty {H : Hp} {v : V} {a : String} (h : plK v = some a) : TyX K H v (.type a) ∧ a ∈ kinds := by
  cases v with
  | non => cases h; exact ⟨.base .non, by decide⟩
  | bl b => cases h; exact ⟨.base (.bl _), by decide⟩
  | int i => cases h; exact ⟨.base (.int _), by decide⟩
  | str z => cases h; exact ⟨.base (.str _), by decide⟩
  | byt b => cases h
  | flt b => cases h
  | ref b => cases h
  | ty b => cases h
def numB (a : String) : Bool := kitT a "int" && !kitT a "bool"
def sp_is_number : Sp := fun vs H Q _ => ∃ (v : V) (a : String), vs = [v] ∧ plK v = some a ∧ Q (.bl (numB a)) H
theorem cal_is_number (T : Tp K mg) : Cal P w K mg base 1 "is_number" sp_is_number := by
  obtain ⟨fd, F⟩ := f_is_number T
  refine cal_of F (g_is_number T) (b_is_number F) sc_is_number (fun vs H Q E h => ?_) (fun cdv A outer s H vs Q E hr h => ?_)
  · obtain ⟨v, a, rfl, _⟩ := h
    rfl
  · obtain ⟨v, a, rfl, hk, q⟩ := h
    obtain ⟨ty, ha⟩ := plK_ty (K := K) (H := H) hk
    refine ⟨_, (pss_one (ps_ret (pe_and (pe_callB call_isK (by rfl) (z_isinstance T) bb_isinstance (pa_cons (pv 0) (pa_cons (pe_bltn (v := .ty "int") (by rfl) (z_int T) bb_int rfl) pa_nil))) (pe_one (pe_not (pe_callB call_isK (by rfl) (z_isinstance T) bb_isinstance (pa_cons (pv 0) (pa_cons (pe_bltn (v := .ty "bool") (by rfl) (z_bool T) bb_bool rfl) pa_nil)))))))), ?_⟩
    refine ⟨_, rfl, _, "int", a, rfl, ty, ha, by decide, _, rfl, ?_⟩
    unfold numB at q
    cases e : kitT a "int" with
    | true =>
      rw [e] at q
      exact iteT ⟨_, rfl, _, "bool", a, rfl, ty, ha, by decide, _, rfl, q⟩
    | false =>
      rw [e] at q
      exact iteF q
def sp_is_whole : Sp := fun vs H Q _ => ∃ (i lo hi : Int), vs = [.int i, .int lo, .int hi] ∧ Q (.bl (decide (lo ≤ i ∧ i ≤ hi))) H
theorem cal_is_whole (T : Tp K mg) : Cal P w K mg base 2 "is_whole" sp_is_whole := by
  obtain ⟨fd, F⟩ := f_is_whole T
  refine cal_of F (g_is_whole T) (b_is_whole F) sc_is_whole (fun vs H Q E h => ?_) (fun cdv A outer s H vs Q E hr h => ?_)
  · obtain ⟨i, lo, hi, rfl, _⟩ := h
    rfl
  · obtain ⟨i, lo, hi, rfl, q⟩ := h
    refine ⟨_, (pss_one (ps_ret (pe_and (C8.pe_c (cal_is_number T) hr (by decide) rfl (pa_cons (pv 0) pa_nil)) (pe_one (pe_chain op_le op_le (pv 1) (pv 0) (pv 2)))))), ?_⟩
    refine ⟨_, rfl, .int i, "int", rfl, rfl, _, rfl, ?_⟩
    refine iteT ⟨_, rfl, _, rfl, _, _, rfl, rfl, _, rfl, ite2 (fun e => ?_) (fun e => ?_)⟩
    · have e1 : lo ≤ i := of_decide_eq_true e
      refine ⟨_, rfl, _, _, rfl, rfl, ?_⟩
      have e2 : decide (lo ≤ i ∧ i ≤ hi) = decide (i ≤ hi) := by simp [e1]
      rw [e2] at q
      exact q
    · have e1 : ¬ lo ≤ i := fun z => e (decide_eq_true z)
      have e2 : decide (lo ≤ i ∧ i ≤ hi) = false := by simp [e1]
      rw [e2] at q
      exact q
/-- is_whole of any plain value -/
def whB (lo hi : Int) : V → Bool
  | .int i => decide (lo ≤ i ∧ i ≤ hi)
  | _ => false
def sp_iswh : Sp := fun vs H Q _ => ∃ (v : V) (lo hi : Int), vs = [v, .int lo, .int hi] ∧ (plK v).isSome = true ∧ Q (.bl (whB lo hi v)) H
theorem cal_iswh (T : Tp K mg) : Cal P w K mg base 2 "is_whole" sp_iswh := by
  obtain ⟨fd, F⟩ := f_is_whole T
  refine cal_of F (g_is_whole T) (b_is_whole F) sc_is_whole (fun vs H Q E h => ?_) (fun cdv A outer s H vs Q E hr h => ?_)
  · obtain ⟨v, lo, hi, rfl, _⟩ := h
    rfl
  · obtain ⟨v, lo, hi, rfl, hk, q⟩ := h
    refine ⟨_, (pss_one (ps_ret (pe_and (C8.pe_c (cal_is_number T) hr (by decide) rfl (pa_cons (pv 0) pa_nil)) (pe_one (pe_chain op_le op_le (pv 1) (pv 0) (pv 2)))))), ?_⟩
    cases v with
    | non => exact ⟨_, rfl, .non, "NoneType", rfl, rfl, _, rfl, iteF q⟩
    | bl b => exact ⟨_, rfl, .bl b, "bool", rfl, rfl, _, rfl, iteF q⟩
    | str z => exact ⟨_, rfl, .str z, "str", rfl, rfl, _, rfl, iteF q⟩
    | byt b => cases hk
    | flt b => cases hk
    | ref b => cases hk
    | ty b => cases hk
    | int i =>
      refine ⟨_, rfl, .int i, "int", rfl, rfl, _, rfl, ?_⟩
      refine iteT ⟨_, rfl, _, rfl, _, _, rfl, rfl, _, rfl, ite2 (fun e => ?_) (fun e => ?_)⟩
      · have e1 : lo ≤ i := of_decide_eq_true e
        refine ⟨_, rfl, _, _, rfl, rfl, ?_⟩
        have e2 : decide (lo ≤ i ∧ i ≤ hi) = decide (i ≤ hi) := by simp [e1]
        have q : Q (.bl (decide (lo ≤ i ∧ i ≤ hi))) H := q
        rw [e2] at q
        exact q
      · have e1 : ¬ lo ≤ i := fun z => e (decide_eq_true z)
        have e2 : decide (lo ≤ i ∧ i ≤ hi) = false := by simp [e1]
        have q : Q (.bl (decide (lo ≤ i ∧ i ≤ hi))) H := q
        rw [e2] at q
        exact q
def sp_is_one_of : Sp := fun vs H Q _ => ∃ (z : Str) (p : Addr) (l : List Str), vs = [.str z, .ref p] ∧ H p = some (.lst (l.map V.str)) ∧ Q (.bl (decide (z ∈ l))) H
theorem cal_is_one_of (T : Tp K mg) : Cal P w K mg base 1 "is_one_of" sp_is_one_of := by
  obtain ⟨fd, F⟩ := f_is_one_of T
  refine cal_of F (g_is_one_of T) (b_is_one_of F) sc_is_one_of (fun vs H Q E h => ?_) (fun cdv A outer s H vs Q E hr h => ?_)
  · obtain ⟨z, p, l, rfl, _⟩ := h
    rfl
  · obtain ⟨z, p, l, rfl, hp, q⟩ := h
    refine ⟨_, (pss_one (ps_ret (pe_and (pe_callB call_isK (by rfl) (z_isinstance T) bb_isinstance (pa_cons (pv 0) (pa_cons (pe_bltn (v := .ty "str") (by rfl) (z_str T) bb_str rfl) pa_nil))) (pe_one (pe_cmpR op_in_seq (pv 0) (pv 1) (by rfl)))))), ?_⟩
    refine ⟨_, rfl, _, "str", "str", rfl, .base (.str _), by decide, by decide, _, rfl, iteT ⟨_, rfl, _, rfl, p, _, rfl, .inl (.inl (.inl hp)), rfl, flat_strs _, ?_⟩⟩
    show Q (.bl (inV (.str z) (l.map V.str))) _
    rw [in_strs]
    exact q
/-! ### is_name -/
def sp_is_name : Sp := fun vs H Q _ => ∃ z : Str, vs = [.str z] ∧ Nm z ∧ ∀ H', Same H H' → Q (.bl true) H'
theorem cal_is_name (T : Tp K mg) : Cal P w K mg base 2 "is_name" sp_is_name := by
  obtain ⟨fd, F⟩ := f_is_name T
  refine cal_of F (g_is_name T) (b_is_name F) sc_is_name (fun vs H Q E h => ?_) (fun cdv A outer s H vs Q E hr h => ?_)
  · obtain ⟨z, rfl, _⟩ := h
    rfl
  · obtain ⟨z, rfl, ⟨n1, n2, n3⟩, q⟩ := h
    refine ⟨_, (pss_cons (ps_if (PW.pt (pw_or (pt_not (pt_val (pe_callB call_isK (by rfl) (z_isinstance T) bb_isinstance (pa_cons (pv 0) (pa_cons (pe_bltn (v := .ty "str") (by rfl) (z_str T) bb_str rfl) pa_nil))))) (pw_or1 (pt_not (pt_chain op_le op_le pe_int (pe_callB call_len_str (by rfl) (z_len T) bb_len (pa_cons (pv 0) pa_nil)) (C8.pe_gc (by rfl) (c_LONGEST_NAME T))))))) (pss_one (ps_ret pe_bl)) pss_nil)
      (pss_one (ps_ret (pe_callB (cr_all rfl) (by rfl) (z_all T) bb_all (pa_cons (pe_lc (own := [("letter", 1)]) (g := gName 1) (tt := tYes) rfl sc_is_name.nd (pi_str (pv 0)) (blkOk_by (N := N_is_name) (sc := defScope s_is_name) (by decide +kernel)) (fun _ _ _ _ _ => (pg_name (i := 1) sc_is_name.nd rfl (.inl rfl))) (fun _ _ _ _ _ => pts_nil) (fun _ _ _ _ _ => (pe_cmpR op_in_sign (pv 1) (C8.pe_gc (by rfl) (c_LETTERS T)) (by rfl)))) pa_nil))))), ?_⟩
    refine ⟨_, rfl, _, "str", "str", rfl, .base (.str _), by decide, by decide, _, rfl, ?_⟩
    refine iteF ⟨_, rfl, _, rfl, Nat.le_trans n2 (by decide), _, _, rfl, rfl, _, rfl, ?_⟩
    have e1 : decide ((1 : Int) ≤ (z.length : Int)) = true := decide_eq_true (by omega)
    rw [e1]
    refine iteT ⟨_, _, rfl, rfl, _, rfl, ?_⟩
    have e2 : decide ((z.length : Int) ≤ 8) = true := decide_eq_true (by omega)
    rw [e2]
    refine iteF ?_
    refine ⟨_, rfl, _, rfl, fun D nD => ?_⟩
    refine lc_it walk_str (fun i H1 => Same H H1 ∧ H1 D = some (.lst ((List.replicate i true).map V.bl))) ⟨same_upd nD, upd_same⟩ (fun _ _ _ _ => trivial) ?_ ?_
    · rintro i x H1 H2 hi ⟨s1, d1⟩ ⟨rfl, c, hc, rfl⟩
      refine ⟨rfl, yes_i (iteT ⟨_, rfl, c, letters, rfl, rfl, ?_⟩)⟩
      have hcm : c ∈ z.cps.toList := by
        obtain ⟨hi', hc'⟩ := Array.getElem?_eq_some_iff.mp hc
        rw [← hc']
        exact Array.mem_toList_iff.mpr (Array.getElem_mem hi')
      refine ⟨_, d1, ?_, ?_, ?_⟩
      · rw [List.length_map, List.length_replicate]
        have : z.cps.size = z.length := rfl
        exact small1000 (by omega)
      · exact fun b o e => by
          rw [upd_ne (ne_of_none e nD)]
          exact s1 b o e
      · rw [upd_same, decide_eq_true (n3 c hcm), List.replicate_succ', List.map_append]
        rfl
    · rintro H1 ⟨s1, d1⟩
      refine ⟨D, List.replicate z.cps.size true, rfl, .inl (.inl d1), ?_⟩
      rw [show (List.replicate z.cps.size true).all id = true by simp]
      exact q H1 s1
end
end Tw

set_option maxHeartbeats 4000000
namespace Tw
open PySem PySem.Spec PyProof.Rows L2
/-! ### attributes stored -/
theorem ne_mb : ¬ (("by" : Str) = "moment_rows") := by decide +kernel
theorem ne_sb : ¬ (("by" : Str) = "span_rows") := by decide +kernel
theorem ne_tb : ¬ (("by" : Str) = "tie_rows") := by decide +kernel
theorem ne_sm : ¬ (("moment_rows" : Str) = "span_rows") := by decide +kernel
theorem ne_tm : ¬ (("moment_rows" : Str) = "tie_rows") := by decide +kernel
theorem ne_ts : ¬ (("span_rows" : Str) = "tie_rows") := by decide +kernel
theorem pf0 {v : V} : putF "by" v ([] : List (Str × V)) = ([("by", v)] : List (Str × V)) := rfl
theorem pf1 {v x : V} : putF "moment_rows" v ([("by", x)] : List (Str × V)) = ([("by", x), ("moment_rows", v)] : List (Str × V)) := by
  simp only [putF, if_neg ne_mb]
theorem pf2 {v x y : V} : putF "span_rows" v ([("by", x), ("moment_rows", y)] : List (Str × V)) = ([("by", x), ("moment_rows", y), ("span_rows", v)] : List (Str × V)) := by
  simp only [putF, if_neg ne_sb, if_neg ne_sm]
theorem pf3 {v x y z : V} : putF "tie_rows" v ([("by", x), ("moment_rows", y), ("span_rows", z)] : List (Str × V)) = ([("by", x), ("moment_rows", y), ("span_rows", z), ("tie_rows", v)] : List (Str × V)) := by
  simp only [putF, if_neg ne_tb, if_neg ne_tm, if_neg ne_ts]
theorem wf_pm {l : Int} {a b c d : Addr} : putF "moment_rows" (.ref d) (wf l a b c) = wf l d b c := by
  unfold wf
  simp only [putF, if_neg ne_mb, if_true]
theorem wf_ps {l : Int} {a b c d : Addr} : putF "span_rows" (.ref d) (wf l a b c) = wf l a d c := by
  unfold wf
  simp only [putF, if_neg ne_sb, if_neg ne_sm, if_true]
theorem wf_pt {l : Int} {a b c d : Addr} : putF "tie_rows" (.ref d) (wf l a b c) = wf l a b d := by
  unfold wf
  simp only [putF, if_neg ne_tb, if_neg ne_tm, if_neg ne_ts, if_true]
theorem up_eq {H : Hp} {p : Addr} {o u : HO} (h : o = u) : (upd H p o) p = some u := by
  rw [upd_same, h]
section
variable {P : Program} {w : World} {K : PySem.W.Frag} {mg : Str → Option Value} {base : Heap}
abbrev CW (K : PySem.W.Frag) : Addr := He.ga K "Web"
/-! ### Web.__init__ -/
def sp_init (K : PySem.W.Frag) : Sp := fun vs H Q _ => ∃ (p dx : Addr) (l : Int), vs = [.ref p, .int l] ∧ H p = some (.ins (CW K) dx []) ∧ 1 ≤ l ∧ l ≤ 1000 ∧
  ∀ (a b c : Addr) (H' : Hp), (∀ x o, H x = some o → x ≠ p → H' x = some o) → H' p = some (.ins (CW K) dx (wf l a b c)) → H' a = some (.tup []) → H' b = some (.tup []) → H' c = some (.tup []) → Q .non H'
theorem fn_init (T : Tp K mg) {fd : FuncData} (F : FunD K "__init__" "Web.__init__" (defArgs s_Web_UinitU) (defBody s_Web_UinitU) (defScope s_Web_UinitU) [(V.int 100 : V)] [] (He.ma K (He.ga K "Web") "__init__") fd) :
    FnOk P w K mg base CX0 3 (He.ma K (He.ga K "Web") "__init__") fd ["self", "by"] (sp_init K) := by
  refine fnok_of F sc_Web_UinitU (fun vs H Q E h => ?_) (fun cdv A outer s H vs Q E hr h => ?_)
  · obtain ⟨p, dx, l, rfl, _⟩ := h
    rfl
  · obtain ⟨p, dx, l, rfl, hp, l1, l2, q⟩ := h
    refine ⟨_, (pss_cons (ps_if (pt_not (pt_val (C8.pe_c (cal_is_whole T) hr (by decide) rfl (pa_cons (pv 1) (pa_cons pe_int (pa_cons (C8.pe_gc (by rfl) (c_MOST_BY T)) pa_nil)))))) (pss_one ps_never) pss_nil)
      (pss_cons (ps_fld (pv 0) (pv 1) rfl)
      (pss_cons (ps_fld (pv 0) (pe_tup pa_nil) rfl)
      (pss_cons (ps_fld (pv 0) (pe_tup pa_nil) rfl)
      (pss_one (ps_fld (pv 0) (pe_tup pa_nil) rfl)))))), ?_⟩
    refine ⟨_, rfl, l, 1, 1000, rfl, _, rfl, ?_⟩
    rw [decide_eq_true (show (1 : Int) ≤ l ∧ l ≤ 1000 from ⟨l1, l2⟩)]
    refine iteF ?_
    -- self.by = by
    refine ⟨_, rfl, _, rfl, p, CW K, dx, [], rfl, hp, cl_Web T, na_by T, (by show 0 < 1000; decide), ?_⟩
    -- the three rows
    refine ⟨Nat.zero_le _, fun a na => ?_⟩
    have npa : p ≠ a := fun e => by
      rw [← e, upd_same] at na
      cases na
    refine ⟨_, rfl, p, CW K, dx, _, rfl, (by rw [upd_ne npa]; exact up_eq rfl), cl_Web T, na_moment_rows T, (by show 1 < 1000; decide), ?_⟩
    refine ⟨Nat.zero_le _, fun b nb => ?_⟩
    have npb : p ≠ b := fun e => by
      rw [← e, upd_same] at nb
      cases nb
    have nab : a ≠ b := fun e => by
      rw [← e, upd_ne npa.symm, upd_same] at nb
      cases nb
    refine ⟨_, rfl, p, CW K, dx, _, rfl, (by rw [upd_ne npb]; exact up_eq rfl), cl_Web T, na_span_rows T, (by rw [pf0, pf1]; show 2 < 1000; decide), ?_⟩
    refine ⟨Nat.zero_le _, fun c nc => ?_⟩
    have npc : p ≠ c := fun e => by
      rw [← e, upd_same] at nc
      cases nc
    have nbc : b ≠ c := fun e => by
      rw [← e, upd_ne npb.symm, upd_same] at nc
      cases nc
    have nac : a ≠ c := fun e => by
      rw [← e, upd_ne npa.symm, upd_ne nab, upd_ne npa.symm, upd_same] at nc
      cases nc
    refine ⟨_, rfl, p, CW K, dx, _, rfl, (by rw [upd_ne npc]; exact up_eq rfl), cl_Web T, na_tie_rows T, (by rw [pf0, pf1, pf2]; show 3 < 1000; decide), ?_⟩
    refine q a b c _ (fun x o e hx => ?_) (up_eq (by rw [pf0, pf1, pf2, pf3]; rfl)) ?_ ?_ ?_
    · have ea : (upd H p (.ins (CW K) dx (putF "by" (.int l) []))) x = some o := by
        rw [upd_ne hx]
        exact e
      have nxa : x ≠ a := ne_of_none ea na
      have eb : (upd (upd (upd H p (.ins (CW K) dx (putF "by" (.int l) []))) a (.tup [])) p (.ins (CW K) dx (putF "moment_rows" (.ref a) (putF "by" (.int l) [])))) x = some o := by
        rw [upd_ne hx, upd_ne nxa]
        exact ea
      have nxb : x ≠ b := ne_of_none eb nb
      have nxc : x ≠ c := ne_of_none (by rw [upd_ne hx, upd_ne nxb]; exact eb) nc
      rw [upd_ne hx, upd_ne nxc, upd_ne hx, upd_ne nxb]
      exact eb
    · rw [upd_ne npa.symm, upd_ne nac, upd_ne npa.symm, upd_ne nab, upd_ne npa.symm, upd_same]
    · rw [upd_ne npb.symm, upd_ne nbc, upd_ne npb.symm, upd_same]
    · rw [upd_ne npc.symm, upd_same]
theorem mak_Web (T : Tp K mg) : Mak P w K mg base 3 "Web" (CW K) (sp_init K) [] := by
  obtain ⟨fd, F⟩ := f_Web_UinitU T
  obtain ⟨ds, hv, hb⟩ := F.binds1 (ps := ["self", "by"]) 2 1 (by simp) rfl fun T kV doc pm an cdv ct us its h1 h2 => match us, its, h1, h2 with
    | [_, _], [_], _, _ => ⟨_, rfl, rfl⟩
  exact ⟨_, fd, ["self", "by"], ds, mk_Web T, fn_init T F, g_Web T, hb, hv⟩
theorem mak0_Web (T : Tp K mg) : Mak P w K mg base 3 "Web" (CW K) (sp_init K) [.int 100] := by
  obtain ⟨fd, F⟩ := f_Web_UinitU T
  obtain ⟨ds, hv, hb⟩ := F.binds1 (ps := ["self", "by"]) 1 0 (by simp) rfl fun T kV doc pm an cdv ct us its h1 h2 => match us, its, h1, h2 with
    | [_], [_], _, _ => ⟨_, rfl, rfl⟩
  exact ⟨_, fd, ["self", "by"], ds, mk_Web T, fn_init T F, g_Web T, hb, hv⟩
end
end Tw

set_option maxHeartbeats 4000000
namespace Tw
open PySem PySem.Spec PyProof.Rows L2
theorem Same.upd' {H H1 : Hp} {p : Addr} {o : HO} (s : Same H H1) (h : H1 p = none) : Same H (upd H1 p o) := s.trans (same_upd h)
/-- a new list is written again: what was ahead of it stays -/
theorem same_put {H H1 : Hp} {D : Addr} {o : HO} (s : Same H H1) (nD : H D = none) : Same H (upd H1 D o) := fun b x e => by
  rw [upd_ne (ne_of_none e nD)]
  exact s b x e
section
variable {P : Program} {w : World} {K : PySem.W.Frag} {mg : Str → Option Value} {base : Heap}
/-! ### woven -/
def sp_woven (K : PySem.W.Frag) : Sp := fun vs H Q _ => ∃ (m : Md) (a b c : Addr) (ws bs : List V), vs = [.int m.last, .ref a, .ref b, .ref c] ∧ H a = some (.tup (m.own.map V.str)) ∧ H b = some (.tup ws) ∧ Rows H ws (m.wd.map Wd.row) ∧ H c = some (.tup bs) ∧ Rows H bs (m.bd.map Bd.row) ∧
  (m.own.length ≤ 10 ∧ m.wd.length ≤ 4 ∧ m.bd.length ≤ 40) ∧ (1 ≤ m.last ∧ m.last ≤ 1000) ∧ ∀ (p : Addr) (H' : Hp), Same H H' → H p = none → WebAt (CW K) H' p m → Q (.ref p) H'
theorem cal_woven (T : Tp K mg) : Cal P w K mg base 5 "woven" (sp_woven K) := by
  obtain ⟨fd, F⟩ := f_woven T
  refine cal_of F (g_woven T) (b_woven F) sc_woven (fun vs H Q E h => ?_) (fun cdv A outer s H vs Q E hr h => ?_)
  · obtain ⟨m, a, b, c, ws, bs, rfl, _⟩ := h
    rfl
  · obtain ⟨m, a, b, c, ws, bs, rfl, ha, hb, rb, hc, rc, hl, hla, q⟩ := h
    refine ⟨_, (pss_cons (ps_set (i := 4) sc_woven.nd rfl (.inl rfl) (C8.pe_mk (mak_Web T) hr (by decide) rfl (pa_cons (pv 0) pa_nil)))
      (pss_cons (ps_fld (pv 4) (pe_callTy call_tuple_of (by rfl) (z_tuple T) bb_tuple (pa_cons (pv 1) pa_nil)) rfl)
      (pss_cons (ps_fld (pv 4) (pe_callTy call_tuple_of (by rfl) (z_tuple T) bb_tuple (pa_cons (pv 2) pa_nil)) rfl)
      (pss_cons (ps_fld (pv 4) (pe_callTy call_tuple_of (by rfl) (z_tuple T) bb_tuple (pa_cons (pv 3) pa_nil)) rfl)
      (pss_one (ps_ret (pv 4))))))), ?_⟩
    refine ⟨_, rfl, fun x dx nx ndx ne => ⟨x, dx, m.last, rfl, upd_same, hla.1, hla.2, fun a0 b0 c0 H1 kp hp ha0 hb0 hc0 => ⟨rfl, ?_⟩⟩⟩
    have s1 : Same H H1 := Same.made nx ndx kp
    have nax : a ≠ x := ne_of_none ha nx
    have nbx : b ≠ x := ne_of_none hb nx
    have ncx : c ≠ x := ne_of_none hc nx
    refine ⟨_, rfl, a, _, rfl, .inr ⟨.inl (.inl (s1 _ _ ha)), _, rfl, x, CW K, dx, _, rfl, hp, cl_Web T, na_moment_rows T, (by show 4 < 1000; decide), ?_⟩⟩
    refine ⟨_, rfl, b, _, rfl, .inr ⟨.inl (.inl (by rw [upd_ne nbx]; exact s1 _ _ hb)), _, rfl, x, CW K, dx, _, rfl, up_eq (by rw [wf_pm]), cl_Web T, na_span_rows T, (by show 4 < 1000; decide), ?_⟩⟩
    refine ⟨_, rfl, c, _, rfl, .inr ⟨.inl (.inl (by rw [upd_ne ncx, upd_ne ncx]; exact s1 _ _ hc)), _, rfl, x, CW K, dx, _, rfl, up_eq (by rw [wf_ps]), cl_Web T, na_tie_rows T, (by show 4 < 1000; decide), ?_⟩⟩
    have s2 : Same H (upd (upd (upd H1 x (.ins (CW K) dx (putF "moment_rows" (.ref a) (wf m.last a0 b0 c0)))) x (.ins (CW K) dx (putF "span_rows" (.ref b) (wf m.last a b0 c0)))) x (.ins (CW K) dx (putF "tie_rows" (.ref c) (wf m.last a b c0)))) := fun y o e => by
      have ny : y ≠ x := ne_of_none e nx
      rw [upd_ne ny, upd_ne ny, upd_ne ny]
      exact s1 _ _ e
    refine ⟨_, rfl, q x _ s2 nx ⟨⟨dx, a, b, c, ws, bs, up_eq (by rw [wf_pt]), s2 _ _ ha, s2 _ _ hb, rb.keep (Kt.of s2), s2 _ _ hc, rc.keep (Kt.of s2)⟩, hl, hla⟩⟩
/-! ### moments, spans, ties -/
def sp_moments (K : PySem.W.Frag) : Sp := fun vs H Q _ => ∃ (p : Addr) (m : Md), vs = [.ref p] ∧ WebAt (CW K) H p m ∧ ∀ q, H q = none → Q (.ref q) (upd H q (.lst (m.own.map V.str)))
theorem met_Web_moments (T : Tp K mg) : Met P w K mg base 2 (CW K) "moments" (sp_moments K) := by
  obtain ⟨fd, F⟩ := f_Web_moments T
  refine met_of F (cl_Web T) (me_Web_moments T) (b_Web_moments F) sc_Web_moments (fun vs H Q E h => ?_) (fun cdv A outer s H vs Q E hr h => ?_)
  · obtain ⟨p, m, rfl, _⟩ := h
    rfl
  · obtain ⟨p, m, rfl, W, q⟩ := h
    obtain ⟨dx, a, b, c, ws, bs, h1, h2, h3, h4, h5, h6⟩ := W.ex
    refine ⟨_, (pss_one (ps_ret (pe_callTy call_list_of (by rfl) (z_list T) bb_list (pa_cons (pe_fld (pv 0) rfl) pa_nil)))), ?_⟩
    exact ⟨_, rfl, p, CW K, dx, _, _, rfl, h1, cl_Web T, na_moment_rows T, wf_m, a, _, rfl, .inr (.inl (.inl h2)), q⟩
def sp_spans (K : PySem.W.Frag) : Sp := fun vs H Q _ => ∃ (p : Addr) (m : Md), vs = [.ref p] ∧ WebAt (CW K) H p m ∧ ∀ ws q, Rows H ws (m.wd.map Wd.row) → H q = none → Q (.ref q) (upd H q (.lst ws))
theorem met_Web_spans (T : Tp K mg) : Met P w K mg base 2 (CW K) "spans" (sp_spans K) := by
  obtain ⟨fd, F⟩ := f_Web_spans T
  refine met_of F (cl_Web T) (me_Web_spans T) (b_Web_spans F) sc_Web_spans (fun vs H Q E h => ?_) (fun cdv A outer s H vs Q E hr h => ?_)
  · obtain ⟨p, m, rfl, _⟩ := h
    rfl
  · obtain ⟨p, m, rfl, W, q⟩ := h
    obtain ⟨dx, a, b, c, ws, bs, h1, h2, h3, h4, h5, h6⟩ := W.ex
    refine ⟨_, (pss_one (ps_ret (pe_callTy call_list_of (by rfl) (z_list T) bb_list (pa_cons (pe_fld (pv 0) rfl) pa_nil)))), ?_⟩
    exact ⟨_, rfl, p, CW K, dx, _, _, rfl, h1, cl_Web T, na_span_rows T, wf_s, b, _, rfl, .inr (.inl (.inl h3)), fun l => q ws l h4⟩
def sp_ties (K : PySem.W.Frag) : Sp := fun vs H Q _ => ∃ (p : Addr) (m : Md), vs = [.ref p] ∧ WebAt (CW K) H p m ∧ ∀ bs q, Rows H bs (m.bd.map Bd.row) → H q = none → Q (.ref q) (upd H q (.lst bs))
theorem met_Web_ties (T : Tp K mg) : Met P w K mg base 2 (CW K) "ties" (sp_ties K) := by
  obtain ⟨fd, F⟩ := f_Web_ties T
  refine met_of F (cl_Web T) (me_Web_ties T) (b_Web_ties F) sc_Web_ties (fun vs H Q E h => ?_) (fun cdv A outer s H vs Q E hr h => ?_)
  · obtain ⟨p, m, rfl, _⟩ := h
    rfl
  · obtain ⟨p, m, rfl, W, q⟩ := h
    obtain ⟨dx, a, b, c, ws, bs, h1, h2, h3, h4, h5, h6⟩ := W.ex
    refine ⟨_, (pss_one (ps_ret (pe_callTy call_list_of (by rfl) (z_list T) bb_list (pa_cons (pe_fld (pv 0) rfl) pa_nil)))), ?_⟩
    exact ⟨_, rfl, p, CW K, dx, _, _, rfl, h1, cl_Web T, na_tie_rows T, wf_t, c, _, rfl, .inr (.inl (.inl h5)), fun l => q bs l h6⟩
/-! ### points -/
def sp_points (K : PySem.W.Frag) : Sp := fun vs H Q _ => ∃ (p : Addr) (m : Md), vs = [.ref p] ∧ WebAt (CW K) H p m ∧ ∀ q H', Same H H' → H q = none → H' q = some (.lst (m.pts.map V.str)) → Q (.ref q) H'
theorem met_Web_points (T : Tp K mg) : Met P w K mg base 3 (CW K) "points" (sp_points K) := by
  obtain ⟨fd, F⟩ := f_Web_points T
  refine met_of F (cl_Web T) (me_Web_points T) (b_Web_points F) sc_Web_points (fun vs H Q E h => ?_) (fun cdv A outer s H vs Q E hr h => ?_)
  · obtain ⟨p, m, rfl, _⟩ := h
    rfl
  · obtain ⟨p, m, rfl, W, q⟩ := h
    obtain ⟨dx, a, b, c, ws, bs, h1, h2, h3, h4, h5, h6⟩ := W.ex
    have hl := W.len
    have hw : ws.length = m.wd.length := by
      rw [h4.len, List.length_map]
    refine ⟨_, (pss_cons (ps_setLc (i := 1) (own := [("span", 2)]) (g := gName 2) (tt := tYes) rfl sc_Web_points.nd rfl rfl (sw_true rfl rfl rfl (by decide +kernel)) (pi_tup (pe_fld (pv 0) rfl)) (blkOk_by (N := N_Web_points) (sc := defScope s_Web_points) (by decide +kernel)) (fun _ _ _ _ _ => (pg_name (i := 2) sc_Web_points.nd rfl (.inl rfl))) (fun _ _ _ _ _ => pts_nil) (fun _ _ _ _ _ => (pe_ix (ix_tupK (K := K) rfl) (pv 2) pe_int (fun _ _ => rfl))))
      (pss_one (ps_ret (pe_op op_cat (pe_op op_cat (pe_lst (pa_cons (C8.pe_gc (by rfl) (c_START T)) pa_nil)) (C8.pe_mt0 (met_Web_moments T) hr (by decide) (pv 0))) (pv 1))))), ?_⟩
    refine ⟨_, rfl, p, CW K, dx, _, _, rfl, h1, cl_Web T, na_span_rows T, wf_s, b, rfl, ⟨_, .inl (.inl h3)⟩, fun D nD => ?_⟩
    refine lc_tup (K := K) (a := b) (xs := ws) (fun i H1 => Same H H1 ∧ H1 D = some (.lst (((m.wd.map (·.en)).take i).map V.str))) ⟨same_upd nD, upd_same⟩ (fun i H1 _ ⟨s1, _⟩ => .inl (.inl (s1 _ _ h3))) ?_ ?_
    · rintro i x H1 hx ⟨s1, d1⟩
      obtain ⟨t, r, rfl, hr', ht⟩ := h4.at hx
      rw [List.getElem?_map] at hr'
      cases e : m.wd[i]? with
      | none =>
        rw [e] at hr'
        cases hr'
      | some y =>
        rw [e] at hr'
        cases hr'
        have hi : i < m.wd.length := (List.getElem?_eq_some_iff.mp e).1
        refine ⟨rfl, yes_i (iteT ⟨_, rfl, t, _, 0, _, rfl, rfl, .inl (.inl (s1 _ _ ht)), atI_nat (j := 0) rfl, _, d1, ?_, ?_, ?_⟩)⟩
        · rw [List.length_map, List.length_take]
          exact small1000 (by omega)
        · exact same_put s1 nD
        · rw [upd_same, List.take_add_one, List.getElem?_map, e, List.map_append]
          rfl
    · rintro H1 ⟨s1, d1⟩
      have en : (m.wd.map (·.en)).take ws.length = m.wd.map (·.en) := List.take_of_length_le (by rw [List.length_map]; omega)
      rw [en] at d1
      -- [START] + self.moments() + ends
      refine ⟨by show 1 ≤ sizeLine; decide, fun l nl => ?_⟩
      have s2 : Same H1 (upd H1 l (.lst [.str "start"])) := same_upd nl
      have W2 := (W.same s1).same s2
      obtain ⟨dx2, _, _, _, _, _, g1, _⟩ := W2.ex
      refine ⟨_, rfl, p, _, _, rfl, g1, wf_no (by decide +kernel), p, m, rfl, W2, fun k nk => ?_⟩
      have nlk : l ≠ k := fun z => by
        rw [← z, upd_same] at nk
        cases nk
      have s3 := same_upd (o := .lst (m.own.map V.str)) nk
      refine ⟨l, k, _, _, rfl, rfl, (by rw [upd_ne nlk]; exact upd_same), upd_same, ?_, fun r nr => ?_⟩
      · rw [List.length_map]
        exact Nat.le_of_lt (small1000 (by show 1 + _ ≤ 1000; omega))
      · have s4 := same_upd (o := .lst ([.str "start"] ++ m.own.map V.str)) nr
        have nDr : D ≠ r := ne_of_none (s3 _ _ (s2 _ _ d1)) nr
        refine ⟨_, rfl, r, D, _, _, rfl, rfl, upd_same, (s4 _ _ (s3 _ _ (s2 _ _ d1))), ?_, fun u nu => ?_⟩
        · rw [List.length_append, List.length_map, List.length_map, List.length_map]
          exact Nat.le_of_lt (small1000 (by show 1 + _ + _ ≤ 1000; omega))
        · have s5 := same_upd (o := .lst ([.str "start"] ++ m.own.map V.str ++ (m.wd.map (·.en)).map V.str)) nu
          have sa := ((s1.trans s2).trans s3).trans s4
          refine q u _ (sa.trans s5) (sa.free nu) ?_
          rw [upd_same]
          unfold Md.pts
          rw [List.map_cons, List.map_append]
          rfl
end
end Tw

set_option maxHeartbeats 4000000
namespace Tw
open PySem PySem.Spec PyProof.Rows L2
/-- the two bounds of a tie, good -/
structure BOk (bo to : Option Int) : Prop where
  one : ¬ (bo = none ∧ to = none)
  lo : ∀ x, bo = some x → -1000 ≤ x ∧ x ≤ 1000
  hi : ∀ x, to = some x → -1000 ≤ x ∧ x ≤ 1000
  le : ∀ x y, bo = some x → to = some y → x ≤ y
def tls (bo to : Option Int) : List Int := bo.toList ++ to.toList
theorem BOk.sh {bo to : Option Int} (h : BOk bo to) : (∀ x ∈ tls bo to, -1000 ≤ x ∧ x ≤ 1000) ∧ ((∃ u, tls bo to = [u]) ∨ ∃ u v, tls bo to = [u, v] ∧ u ≤ v) := by
  cases bo with
  | none =>
    cases to with
    | none => exact absurd ⟨rfl, rfl⟩ h.one
    | some y =>
      refine ⟨fun x hx => ?_, .inl ⟨y, rfl⟩⟩
      have e : x = y := by simpa [tls] using hx
      rw [e]
      exact h.hi y rfl
  | some x0 =>
    cases to with
    | none =>
      refine ⟨fun x hx => ?_, .inl ⟨x0, rfl⟩⟩
      have e : x = x0 := by simpa [tls] using hx
      rw [e]
      exact h.lo x0 rfl
    | some y =>
      refine ⟨fun x hx => ?_, .inr ⟨x0, y, rfl, h.le x0 y rfl rfl⟩⟩
      have e : x = x0 ∨ x = y := by simpa [tls] using hx
      rcases e with e | e
      · rw [e]
        exact h.lo x0 rfl
      · rw [e]
        exact h.hi y rfl
theorem oV_non {o : Option Int} : decide (oV o = V.non) = o.isNone := by
  cases o <;> simp [oV]
section
variable {P : Program} {w : World} {K : PySem.W.Frag} {mg : Str → Option Value} {base : Heap}
/-! ### are_bounds -/
def sp_are_bounds : Sp := fun vs H Q _ => ∃ bo to : Option Int, vs = [oV bo, oV to] ∧ BOk bo to ∧ ∀ H', Same H H' → Q (.bl true) H'
theorem cal_are_bounds (T : Tp K mg) : Cal P w K mg base 3 "are_bounds" sp_are_bounds := by
  obtain ⟨fd, F⟩ := f_are_bounds T
  refine cal_of F (g_are_bounds T) (b_are_bounds F) sc_are_bounds (fun vs H Q E h => ?_) (fun cdv A outer s H vs Q E hr h => ?_)
  · obtain ⟨bo, to, rfl, _⟩ := h
    rfl
  · obtain ⟨bo, to, rfl, B, q⟩ := h
    obtain ⟨hin, hsh⟩ := B.sh
    refine ⟨_, (pss_cons (ps_setLc (i := 2) (own := [("bound", 3)]) (g := gName 3) rfl sc_are_bounds.nd rfl rfl (sw_true rfl rfl rfl (by decide +kernel)) (pi_tup (pe_tup (pa_cons (pv 0) (pa_cons (pv 1) pa_nil)))) (blkOk_by (N := N_are_bounds) (sc := defScope s_are_bounds) (by decide +kernel)) (fun _ _ _ _ _ => (pg_name (i := 3) sc_are_bounds.nd rfl (.inl rfl))) (fun _ _ _ _ _ => (pts_one (pt_cmpR op_notN (pv 3) pe_non (nomark _)))) (fun _ _ _ _ _ => (pv 3)))
      (pss_cons (ps_if (pt_not (pt_val (pe_callB (cr_all rfl) (by rfl) (z_all T) bb_all (pa_cons (pe_lc (own := [("bound", 3)]) (g := gName 3) (tt := tYes) rfl sc_are_bounds.nd (pi_list (pv 2)) (blkOk_by (N := N_are_bounds) (sc := defScope s_are_bounds) (by decide +kernel)) (fun _ _ _ _ _ => (pg_name (i := 3) sc_are_bounds.nd rfl (.inl rfl))) (fun _ _ _ _ _ => pts_nil) (fun _ _ _ _ _ => (C8.pe_c (cal_is_whole T) hr (by decide) rfl (pa_cons (pv 3) (pa_cons (pe_un un_neg (C8.pe_gc (by rfl) (c_MOST_BOUND T))) (pa_cons (C8.pe_gc (by rfl) (c_MOST_BOUND T)) pa_nil)))))) pa_nil)))) (pss_one (ps_ret pe_bl)) pss_nil)
      (pss_one (ps_ret (pe_and (pe_cmpR op_gt (pe_callB call_len_seq (by rfl) (z_len T) bb_len (pa_cons (pv 2) pa_nil)) pe_int (nomark _)) (pe_one (pe_cmpR op_le (pe_ix ix_list (pv 2) pe_int (fun _ _ => rfl)) (pe_ix ix_list (pv 2) (pe_un un_neg pe_int) (fun _ _ => rfl)) (nomark _)))))))), ?_⟩
    refine ⟨_, rfl, _, rfl, (by show 2 ≤ sizeLine; decide), fun t nt => ?_⟩
    have s1 : Same H (upd H t (.tup [oV bo, oV to])) := same_upd nt
    refine ⟨t, rfl, ⟨_, .inl (.inl upd_same)⟩, fun D nD => ?_⟩
    have nDH : H D = none := s1.free nD
    refine lc_tup (K := K) (a := t) (xs := [oV bo, oV to]) (fun i H1 => Same (upd H t (.tup [oV bo, oV to])) H1 ∧ H1 D = some (.lst ((((([bo, to] : List (Option Int)).take i).filterMap id)).map V.int)))
      ⟨same_upd nD, upd_same⟩ (fun i H1 _ ⟨s2, _⟩ => .inl (.inl (s2 _ _ upd_same))) ?_ ?_
    · rintro i x H1 hx ⟨s2, d1⟩
      obtain ⟨o, eo, ex⟩ : ∃ o : Option Int, ([bo, to] : List (Option Int))[i]? = some o ∧ x = oV o := by
        match i, hx with
        | 0, hx => exact ⟨bo, rfl, (Option.some.inj hx).symm⟩
        | 1, hx => exact ⟨to, rfl, (Option.some.inj hx).symm⟩
      subst ex
      have hi : i < 2 := (List.getElem?_eq_some_iff.mp eo).1
      have e2 : (([bo, to] : List (Option Int)).take (i + 1)).filterMap id = (([bo, to] : List (Option Int)).take i).filterMap id ++ o.toList := by
        rw [List.take_add_one, eo, List.filterMap_append]
        cases o <;> rfl
      refine ⟨rfl, _, rfl, rfl, _, rfl, ?_⟩
      rw [oV_non]
      cases o with
      | none =>
        refine iteF ⟨s2, ?_⟩
        rw [e2, d1]
        show _ = some (HO.lst (List.map V.int (_ ++ [])))
        rw [List.append_nil]
      | some z =>
        refine iteT ⟨_, rfl, _, d1, ?_, ?_, ?_⟩
        · rw [List.length_map]
          refine Nat.lt_of_le_of_lt (List.length_filterMap_le _ _) ?_
          rw [List.length_take]
          exact small1000 (by show min i 2 ≤ 1000; omega)
        · exact same_put s2 nD
        · rw [upd_same, e2, List.map_append]
          rfl
    · rintro H1 ⟨s2, d1⟩
      have d2 : H1 D = some (.lst ((tls bo to).map V.int)) := by
        rw [d1]
        cases bo <;> cases to <;> rfl
      have s3 : Same H H1 := s1.trans s2
      have hlen : (tls bo to).length ≤ 2 := by
        rcases hsh with ⟨u, e⟩ | ⟨u, v, e, _⟩ <;> rw [e] <;> simp
      -- all([is_whole(..) for bound in told])
      refine ⟨_, rfl, D, rfl, ⟨_, .inl (.inl d2)⟩, fun L nL => ?_⟩
      have nLH : H L = none := s3.free nL
      have nDL : D ≠ L := ne_of_none d2 nL
      refine lc_list (K := K) (a := D) (xs := (tls bo to).map V.int) (fun i H2 => Same H H2 ∧ H2 D = some (.lst ((tls bo to).map V.int)) ∧ H2 L = some (.lst ((List.replicate i true).map V.bl)))
        ⟨s3.trans (same_upd nL), by rw [upd_ne nDL]; exact d2, upd_same⟩ (fun i H2 _ ⟨_, d, _⟩ => .inl (.inl d)) ?_ ?_
      · rintro i x H2 hx ⟨s4, d4, l4⟩
        rw [List.getElem?_map] at hx
        cases e : (tls bo to)[i]? with
        | none =>
          rw [e] at hx
          cases hx
        | some z =>
          rw [e] at hx
          cases hx
          have hi : i < (tls bo to).length := (List.getElem?_eq_some_iff.mp e).1
          have hz := hin z (List.mem_of_getElem? e)
          refine ⟨rfl, yes_i (iteT ⟨_, rfl, 1000, rfl, z, -1000, 1000, rfl, _, l4, ?_, ?_, ?_, ?_⟩)⟩
          · rw [List.length_map, List.length_replicate]
            exact small1000 (by omega)
          · exact same_put s4 nLH
          · rw [upd_ne nDL]
            exact d4
          · rw [upd_same, decide_eq_true hz, List.replicate_succ', List.map_append]
            rfl
      · rintro H2 ⟨s4, d4, l4⟩
        refine ⟨L, _, rfl, .inl (.inl l4), _, rfl, ?_⟩
        rw [show (List.replicate ((tls bo to).map V.int).length true).all id = true by simp]
        refine iteF ?_
        -- len(told) > 0 and told[0] <= told[-1]
        refine ⟨_, rfl, D, _, rfl, .inl (.inl (.inl d4)), _, 0, rfl, rfl, _, rfl, ?_⟩
        have fin : ∀ (u v : Int) (pre : List Int), (tls bo to)[0]? = some u → tls bo to = pre ++ [v] → u ≤ v → (if decide ((0 : Int) < ((tls bo to).map V.int).length) = true then
            tOp (rI0 fun i j => .bl (decide (i ≤ j))) (tOp (rIxL K) (tVar 2) (tC (.int 0))) (tOp (rIxL K) (tVar 2) (tUn (rU fun i => .int (-i)) (tC (.int 1)))) [some (oV bo), some (oV to), some (.ref D), none] H2 Q else Q (.bl false) H2) := by
          intro u v pre hu hv huv
          have h0 : 0 < (tls bo to).length := by
            rw [hv, List.length_append]
            exact Nat.succ_pos _
          rw [decide_eq_true (by rw [List.length_map]; omega)]
          have hz : (tls bo to).map V.int = pre.map V.int ++ [.int v] := by
            rw [hv, List.map_append]
            rfl
          refine iteT ⟨_, rfl, D, _, 0, .int u, rfl, rfl, .inl (.inl d4), atI_nat (j := 0) (by rw [List.getElem?_map, hu]; rfl), _, rfl, _, rfl, D, _, _, .int v, rfl, rfl, .inl (.inl d4), ?_, u, v, rfl, rfl, ?_⟩
          · rw [hz]
            exact atI_last _ _
          · show Q (.bl (decide (u ≤ v))) H2
            rw [decide_eq_true huv]
            exact q H2 s4
        rcases hsh with ⟨u, e⟩ | ⟨u, v, e, huv⟩
        · exact fin u u [] (by rw [e]; rfl) (by rw [e]; rfl) (Int.le_refl _)
        · exact fin u v [u] (by rw [e]; rfl) (by rw [e]; rfl) huv
/-! ### is_begin, need_free_name, need_point -/
def sp_is_begin (K : PySem.W.Frag) : Sp := fun vs H Q _ => ∃ (p : Addr) (m : Md) (z : Str), vs = [.ref p, .str z] ∧ WebAt (CW K) H p m ∧ (z = "start" ∨ z ∈ m.own) ∧ ∀ H', Same H H' → Q (.bl true) H'
theorem cal_is_begin (T : Tp K mg) : Cal P w K mg base 3 "is_begin" (sp_is_begin K) := by
  obtain ⟨fd, F⟩ := f_is_begin T
  refine cal_of F (g_is_begin T) (b_is_begin F) sc_is_begin (fun vs H Q E h => ?_) (fun cdv A outer s H vs Q E hr h => ?_)
  · obtain ⟨p, m, z, rfl, _⟩ := h
    rfl
  · obtain ⟨p, m, z, rfl, W, hz, q⟩ := h
    obtain ⟨dx, a, b, c, ws, bs, h1, _⟩ := W.ex
    refine ⟨_, (pss_one (ps_ret (C8.pe_c (cal_is_one_of T) hr (by decide) rfl (pa_cons (pv 1) (pa_cons (pe_op op_cat (pe_lst (pa_cons (C8.pe_gc (by rfl) (c_START T)) pa_nil)) (C8.pe_mt0 (met_Web_moments T) hr (by decide) (pv 0))) pa_nil))))), ?_⟩
    refine ⟨_, rfl, by show 1 ≤ sizeLine; decide, fun l nl => ?_⟩
    have s1 : Same H (upd H l (.lst [.str "start"])) := same_upd nl
    refine ⟨_, rfl, p, dx, _, rfl, s1 _ _ h1, wf_no (by decide +kernel), p, m, rfl, W.same s1, fun k nk => ?_⟩
    have nlk : l ≠ k := fun e => by
      rw [← e, upd_same] at nk
      cases nk
    have s2 := same_upd (o := .lst (m.own.map V.str)) nk
    refine ⟨l, k, _, _, rfl, rfl, (by rw [upd_ne nlk]; exact upd_same), upd_same, ?_, fun r nr => ?_⟩
    · rw [List.length_map]
      have hl := W.len
      exact Nat.le_of_lt (small1000 (by show 1 + _ ≤ 1000; omega))
    · have s3 := same_upd (o := .lst ([.str "start"] ++ m.own.map V.str)) nr
      refine ⟨z, r, "start" :: m.own, rfl, upd_same, ?_⟩
      rw [decide_eq_true (List.mem_cons.mpr hz)]
      exact q _ ((s1.trans s2).trans s3)
def sp_need_free_name (K : PySem.W.Frag) : Sp := fun vs H Q _ => ∃ (p : Addr) (m : Md) (z : Str), vs = [.ref p, .str z] ∧ WebAt (CW K) H p m ∧ Nm z ∧ ¬ z ∈ m.pts ∧ ∀ H', Same H H' → Q .non H'
theorem cal_need_free_name (T : Tp K mg) : Cal P w K mg base 4 "need_free_name" (sp_need_free_name K) := by
  obtain ⟨fd, F⟩ := f_need_free_name T
  refine cal_of F (g_need_free_name T) (b_need_free_name F) sc_need_free_name (fun vs H Q E h => ?_) (fun cdv A outer s H vs Q E hr h => ?_)
  · obtain ⟨p, m, z, rfl, _⟩ := h
    rfl
  · obtain ⟨p, m, z, rfl, W, hn, hz, q⟩ := h
    refine ⟨_, (pss_cons (ps_if (pt_not (pt_val (C8.pe_c (cal_is_name T) hr (by decide) rfl (pa_cons (pv 1) pa_nil)))) (pss_one ps_never) pss_nil)
      (pss_one (ps_if (pt_cmpR op_in_seq (pv 1) (C8.pe_mt0 (met_Web_points T) hr (by decide) (pv 0)) (by rfl)) (pss_one ps_never) pss_nil))), ?_⟩
    refine ⟨_, rfl, z, rfl, hn, fun H1 s1 => ⟨_, rfl, iteF ?_⟩⟩
    have W1 := W.same s1
    obtain ⟨dx, a, b, c, ws, bs, h1, _⟩ := W1.ex
    refine ⟨_, rfl, _, rfl, p, dx, _, rfl, h1, wf_no (by decide +kernel), p, m, rfl, W1, fun k H2 s2 nk ek => ?_⟩
    refine ⟨k, _, rfl, .inl (.inl (.inl ek)), rfl, flat_strs _, _, rfl, ?_⟩
    show if inV (.str z) (m.pts.map V.str) = true then _ else _
    rw [in_strs, decide_eq_false hz]
    exact iteF (q H2 (s1.trans s2))
def sp_need_point (K : PySem.W.Frag) : Sp := fun vs H Q _ => ∃ (p : Addr) (m : Md) (z : Str), vs = [.ref p, .str z] ∧ WebAt (CW K) H p m ∧ z ∈ m.pts ∧ ∀ H', Same H H' → Q .non H'
theorem cal_need_point (T : Tp K mg) : Cal P w K mg base 4 "need_point" (sp_need_point K) := by
  obtain ⟨fd, F⟩ := f_need_point T
  refine cal_of F (g_need_point T) (b_need_point F) sc_need_point (fun vs H Q E h => ?_) (fun cdv A outer s H vs Q E hr h => ?_)
  · obtain ⟨p, m, z, rfl, _⟩ := h
    rfl
  · obtain ⟨p, m, z, rfl, W, hz, q⟩ := h
    obtain ⟨dx, a, b, c, ws, bs, h1, _⟩ := W.ex
    refine ⟨_, (pss_one (ps_if (pt_not (pt_val (C8.pe_c (cal_is_one_of T) hr (by decide) rfl (pa_cons (pv 1) (pa_cons (C8.pe_mt0 (met_Web_points T) hr (by decide) (pv 0)) pa_nil))))) (pss_one ps_never) pss_nil)), ?_⟩
    refine ⟨_, rfl, _, rfl, p, dx, _, rfl, h1, wf_no (by decide +kernel), p, m, rfl, W, fun k H2 s2 nk ek => ?_⟩
    refine ⟨z, k, _, rfl, ek, _, rfl, ?_⟩
    rw [decide_eq_true hz]
    exact iteF (q H2 s2)
/-! ### __len__ -/
def sp_len (K : PySem.W.Frag) : Sp := fun vs H Q _ => ∃ (p : Addr) (m : Md), vs = [.ref p] ∧ WebAt (CW K) H p m ∧ ∀ H', Same H H' → Q (.int (m.pts.length : Nat)) H'
theorem met_Web_UlenU (T : Tp K mg) : Met P w K mg base 4 (CW K) "__len__" (sp_len K) := by
  obtain ⟨fd, F⟩ := f_Web_UlenU T
  refine met_of F (cl_Web T) (me_Web_UlenU T) (b_Web_UlenU F) sc_Web_UlenU (fun vs H Q E h => ?_) (fun cdv A outer s H vs Q E hr h => ?_)
  · obtain ⟨p, m, rfl, _⟩ := h
    rfl
  · obtain ⟨p, m, rfl, W, q⟩ := h
    obtain ⟨dx, a, b, c, ws, bs, h1, _⟩ := W.ex
    refine ⟨_, (pss_one (ps_ret (pe_callB call_len_seq (by rfl) (z_len T) bb_len (pa_cons (C8.pe_mt0 (met_Web_points T) hr (by decide) (pv 0)) pa_nil)))), ?_⟩
    refine ⟨_, rfl, p, dx, _, rfl, h1, wf_no (by decide +kernel), p, m, rfl, W, fun k H2 s2 nk ek => ⟨k, _, rfl, .inl (.inl (.inl ek)), ?_⟩⟩
    rw [List.length_map]
    exact q H2 s2
theorem pts_len {C : Addr} {H : Hp} {p : Addr} {m : Md} (W : WebAt C H p m) : m.pts.length ≤ 15 := by
  have h := W.len
  unfold Md.pts
  rw [List.length_cons, List.length_append, List.length_map]
  omega
/-! ### __repr__ -/
def num (i : Int) : Str := (toString i : String)
theorem num_len : ∀ n : Fin 1001, (num ((n : Nat) : Int)).length ≤ 4 := by decide +kernel
theorem num_le {i : Int} (h0 : 0 ≤ i) (h1 : i ≤ 1000) : (num i).length ≤ 4 := by
  have h := num_len ⟨i.toNat, by omega⟩
  rw [show (((⟨i.toNat, by omega⟩ : Fin 1001) : Nat) : Int) = i from Int.toNat_of_nonneg h0] at h
  exact h
theorem num_log {i : Int} (h0 : 0 ≤ i) (h1 : i ≤ 1000) : i.natAbs.log2 < 1920 := by
  have h : i.natAbs < 2 ^ 1920 := Nat.lt_of_lt_of_le (show i.natAbs < 1024 by omega) (by decide +kernel)
  by_cases hz : i.natAbs = 0
  · rw [hz]
    decide
  · exact (Nat.log2_lt hz).mpr h
def webText (m : Md) : Str := ((((((Str.empty ++ ("Web(" : Str)) ++ num (m.pts.length : Nat)) ++ (" points, " : Str)) ++ num (m.bd.length : Nat)) ++ (" ties, by " : Str)) ++ num m.last) ++ (")" : Str)
theorem short {z : Str} {n : Nat} (h : z.length ≤ n) (hn : n ≤ 1000) : z.length ≤ sizeLine := Nat.le_of_lt (small1000 (Nat.le_trans h hn))
theorem app_le {a b : Str} {m n : Nat} (ha : a.length ≤ m) (hb : b.length ≤ n) : (a ++ b).length ≤ m + n := by
  rw [Str.length_append]
  omega
def sp_repr (K : PySem.W.Frag) : Sp := fun vs H Q _ => ∃ (p : Addr) (m : Md), vs = [.ref p] ∧ WebAt (CW K) H p m ∧ ∀ H', Same H H' → Q (.str (webText m)) H'
theorem met_Web_UreprU (T : Tp K mg) : Met P w K mg base 6 (CW K) "__repr__" (sp_repr K) := by
  obtain ⟨fd, F⟩ := f_Web_UreprU T
  refine met_of F (cl_Web T) (me_Web_UreprU T) (b_Web_UreprU F) sc_Web_UreprU (fun vs H Q E h => ?_) (fun cdv A outer s H vs Q E hr h => ?_)
  · obtain ⟨p, m, rfl, _⟩ := h
    rfl
  · obtain ⟨p, m, rfl, W, q⟩ := h
    obtain ⟨dx, a, b, c, ws, bs, h1, _⟩ := W.ex
    have hp := pts_len W
    have hl := W.len
    have hla := W.last
    refine ⟨_, (pss_one (ps_ret (pe_joined (.cons pe_str (.cons (pe_fmt (pe_callB (call_lenO (met_Web_UlenU T) hr (by decide)) (by rfl) (z_len T) bb_len (pa_cons (pv 0) pa_nil))) (.cons pe_str (.cons (pe_fmt (pe_callB call_len_seq (by rfl) (z_len T) bb_len (pa_cons (pe_fld (pv 0) rfl) pa_nil))) (.cons pe_str (.cons (pe_fmt (pe_fld (pv 0) rfl)) (.cons pe_str .nil)))))))))), ?_⟩
    have l0 : (Str.empty ++ ("Web(" : Str)).length ≤ 4 := by decide +kernel
    have l1 := app_le l0 (num_le (i := (m.pts.length : Nat)) (by omega) (by omega))
    have l2 := app_le l1 (show (" points, " : Str).length ≤ 9 by decide +kernel)
    have l3 := app_le l2 (num_le (i := (m.bd.length : Nat)) (by omega) (by omega))
    have l4 := app_le l3 (show (" ties, by " : Str).length ≤ 10 by decide +kernel)
    have l5 := app_le l4 (num_le (i := m.last) (by omega) (by omega))
    have l6 := app_le l5 (show (")" : Str).length ≤ 1 by decide +kernel)
    refine ⟨("Web(" : Str), rfl, short l0 (by decide), _, rfl, p, dx, _, rfl, h1, p, m, rfl, W, fun H2 s2 => ⟨_, rfl, by omega, by omega, .inr ⟨_, rfl, num_log (by omega) (by omega), _, rfl, short l1 (by decide), ?_⟩⟩⟩
    have W2 := W.same s2
    obtain ⟨dx2, a2, b2, c2, ws2, bs2, g1, g2, g3, g4, g5, g6⟩ := W2.ex
    have hb2 : bs2.length = m.bd.length := by rw [g6.len, List.length_map]
    refine ⟨_, rfl, short l2 (by decide), _, rfl, p, CW K, dx2, _, _, rfl, g1, cl_Web T, na_tie_rows T, wf_t, c2, _, rfl, .inr (.inl (.inl g5)), .inr ⟨_, rfl, num_log (by omega) (by omega), _, rfl, ?_, ?_⟩⟩
    · rw [hb2]
      exact short l3 (by decide)
    · rw [hb2]
      refine ⟨_, rfl, short l4 (by decide), _, rfl, p, CW K, dx2, _, _, rfl, g1, cl_Web T, na_by T, wf_by, .inr ⟨_, rfl, num_log (by omega) (by omega), _, rfl, short l5 (by decide), _, rfl, short l6 (by decide), ?_⟩⟩
      exact q H2 s2
end
end Tw

set_option maxHeartbeats 4000000
namespace Tw
open PySem PySem.Spec PyProof.Rows L2
theorem wh_int {lo hi : Int} {v : V} (h : whB lo hi v = true) : ∃ i : Int, v = .int i ∧ lo ≤ i ∧ i ≤ hi := by
  cases v with
  | int j =>
    have hj := of_decide_eq_true (show decide (lo ≤ j ∧ j ≤ hi) = true from h)
    exact ⟨j, rfl, hj.1, hj.2⟩
  | non => cases h
  | bl b => cases h
  | str z => cases h
  | byt b => cases h
  | flt b => cases h
  | ref b => cases h
  | ty b => cases h
/-- the two lengths are good -/
def lenB (a b : V) : Bool := whB 1 1000 a && match a with
  | .int i => whB i 1000 b
  | _ => false
def lateB (h : V) : Bool := decide (h = .non) || whB 0 1000 h
theorem len_ok {a b : V} (h : lenB a b = true) : ∃ i j : Int, a = .int i ∧ b = .int j ∧ 1 ≤ i ∧ i ≤ j ∧ j ≤ 1000 := by
  obtain ⟨h1, h2⟩ := Bool.and_eq_true_iff.mp h
  obtain ⟨i, rfl, i1, _⟩ := wh_int h1
  obtain ⟨j, rfl, j1, j2⟩ := wh_int (show whB i 1000 b = true from h2)
  exact ⟨i, j, rfl, rfl, i1, j1, j2⟩
theorem late_ok {h : V} (e : lateB h = true) : ∃ o : Option Int, h = oV o ∧ ∀ i, o = some i → 0 ≤ i ∧ i ≤ 1000 := by
  by_cases hn : h = .non
  · exact ⟨none, hn, fun i z => by cases z⟩
  · unfold lateB at e
    rw [decide_eq_false hn, Bool.false_or] at e
    obtain ⟨i, rfl, h1, h2⟩ := wh_int e
    exact ⟨some i, rfl, fun j z => by cases z; exact ⟨h1, h2⟩⟩
section
variable {P : Program} {w : World} {K : PySem.W.Frag} {mg : Str → Option Value} {base : Heap}
/-! ### are_lengths, is_lateness -/
def sp_are_lengths : Sp := fun vs H Q _ => ∃ a b : V, vs = [a, b] ∧ (plK a).isSome = true ∧ (plK b).isSome = true ∧ Q (.bl (lenB a b)) H
theorem cal_are_lengths (T : Tp K mg) : Cal P w K mg base 3 "are_lengths" sp_are_lengths := by
  obtain ⟨fd, F⟩ := f_are_lengths T
  refine cal_of F (g_are_lengths T) (b_are_lengths F) sc_are_lengths (fun vs H Q E h => ?_) (fun cdv A outer s H vs Q E hr h => ?_)
  · obtain ⟨a, b, rfl, _⟩ := h
    rfl
  · obtain ⟨a, b, rfl, pa, pb, q⟩ := h
    refine ⟨_, (pss_one (ps_ret (pe_and (C8.pe_c (cal_iswh T) hr (by decide) rfl (pa_cons (pv 0) (pa_cons pe_int (pa_cons (C8.pe_gc (by rfl) (c_MOST_LENGTH T)) pa_nil)))) (pe_one (C8.pe_c (cal_iswh T) hr (by decide) rfl (pa_cons (pv 1) (pa_cons (pv 0) (pa_cons (C8.pe_gc (by rfl) (c_MOST_LENGTH T)) pa_nil)))))))), ?_⟩
    refine ⟨_, rfl, a, 1, 1000, rfl, pa, _, rfl, ?_⟩
    cases ha : whB 1 1000 a with
    | false =>
      refine iteF ?_
      have e : lenB a b = false := by
        unfold lenB
        rw [ha, Bool.false_and]
      rw [e] at q
      exact q
    | true =>
      obtain ⟨i, rfl, i1, i2⟩ := wh_int ha
      refine iteT ⟨_, rfl, _, rfl, b, i, 1000, rfl, pb, ?_⟩
      have e : lenB (.int i) b = whB i 1000 b := by
        show (whB 1 1000 (.int i) && whB i 1000 b) = _
        rw [ha, Bool.true_and]
      rw [e] at q
      exact q
def sp_is_lateness : Sp := fun vs H Q _ => ∃ h : V, vs = [h] ∧ (plK h).isSome = true ∧ Q (.bl (lateB h)) H
theorem cal_is_lateness (T : Tp K mg) : Cal P w K mg base 3 "is_lateness" sp_is_lateness := by
  obtain ⟨fd, F⟩ := f_is_lateness T
  refine cal_of F (g_is_lateness T) (b_is_lateness F) sc_is_lateness (fun vs H Q E h => ?_) (fun cdv A outer s H vs Q E hr h => ?_)
  · obtain ⟨h, rfl, _⟩ := h
    rfl
  · obtain ⟨h, rfl, ph, q⟩ := h
    refine ⟨_, (pss_one (ps_ret (pe_or (pe_cmpR op_isN (pv 0) pe_non (nomark _)) (pe_one (C8.pe_c (cal_iswh T) hr (by decide) rfl (pa_cons (pv 0) (pa_cons pe_int (pa_cons (C8.pe_gc (by rfl) (c_MOST_LATE T)) pa_nil)))))))), ?_⟩
    refine ⟨_, rfl, rfl, _, rfl, ?_⟩
    unfold lateB at q
    by_cases hn : h = .non
    · rw [decide_eq_true hn] at q ⊢
      exact iteT q
    · rw [decide_eq_false hn, Bool.false_or] at q
      rw [decide_eq_false hn]
      exact iteF ⟨_, rfl, h, 0, 1000, rfl, ph, q⟩
end
section
variable {P : Program} {w : World} {K : PySem.W.Frag} {mg : Str → Option Value} {base : Heap}
/-! ### with_moment -/
def Md.addM (m : Md) (z : Str) : Md := { m with own := m.own ++ [z] }
def Md.addS (m : Md) (x : Wd) : Md := { m with wd := m.wd ++ [x] }
def Md.addT (m : Md) (x : Bd) : Md := { m with bd := m.bd ++ [x] }
def sp_with_moment (K : PySem.W.Frag) : Sp := fun vs H Q _ => ∃ (p : Addr) (m : Md) (z : Str), vs = [.ref p, .str z] ∧ WebAt (CW K) H p m ∧ Nm z ∧ ¬ z ∈ m.pts ∧ m.own.length < 10 ∧ ∀ (q : Addr) (H' : Hp), Same H H' → H q = none → WebAt (CW K) H' q (m.addM z) → Q (.ref q) H'
theorem met_Web_with_moment (T : Tp K mg) : Met P w K mg base 6 (CW K) "with_moment" (sp_with_moment K) := by
  obtain ⟨fd, F⟩ := f_Web_with_moment T
  refine met_of F (cl_Web T) (me_Web_with_moment T) (b_Web_with_moment F) sc_Web_with_moment (fun vs H Q E h => ?_) (fun cdv A outer s H vs Q E hr h => ?_)
  · obtain ⟨p, m, z, rfl, _⟩ := h
    rfl
  · obtain ⟨p, m, z, rfl, W, hn, hz, hl, q⟩ := h
    refine ⟨_, (pss_cons (ps_expr (C8.pe_c (cal_need_free_name T) hr (by decide) rfl (pa_cons (pv 0) (pa_cons (pv 1) pa_nil))))
      (pss_cons (ps_if (pt_cmpR op_ge (pe_callB call_len_seq (by rfl) (z_len T) bb_len (pa_cons (pe_fld (pv 0) rfl) pa_nil)) (C8.pe_gc (by rfl) (c_MOST_MOMENTS T)) (nomark _)) (pss_one ps_never) pss_nil)
      (pss_one (ps_ret (C8.pe_c (cal_woven T) hr (by decide) rfl (pa_cons (pe_fld (pv 0) rfl) (pa_cons (pe_tup (StX.pa_star (pe_fld (pv 0) rfl) (pa_cons (pv 1) pa_nil))) (pa_cons (pe_fld (pv 0) rfl) (pa_cons (pe_fld (pv 0) rfl) pa_nil))))))))), ?_⟩
    refine ⟨_, rfl, _, rfl, p, m, z, rfl, W, hn, hz, fun H1 s1 => ?_⟩
    have W1 := W.same s1
    obtain ⟨dx, a, b, c, ws, bs, h1, h2, h3, h4, h5, h6⟩ := W1.ex
    have hlen := W.len
    refine ⟨_, rfl, p, CW K, dx, _, _, rfl, h1, cl_Web T, na_moment_rows T, wf_m, a, _, rfl, .inr (.inl (.inl h2)), _, _, rfl, rfl, _, rfl, ?_⟩
    rw [decide_eq_false (by rw [List.length_map]; omega)]
    refine iteF ?_
    refine ⟨_, rfl, p, CW K, dx, _, _, rfl, h1, cl_Web T, na_by T, wf_by, _, rfl, p, CW K, dx, _, _, rfl, h1, cl_Web T, na_moment_rows T, wf_m, a, _, rfl, .inl (.inl (.inl h2)), _, rfl, ?_, fun t nt => ?_⟩
    · rw [List.length_append, List.length_map]
      exact Nat.le_of_lt (small1000 (by show _ + 1 ≤ 1000; omega))
    · have s2 := same_upd (o := .tup (m.own.map V.str ++ [.str z])) nt
      refine ⟨_, rfl, p, CW K, dx, _, _, rfl, s2 _ _ h1, cl_Web T, na_span_rows T, wf_s, _, rfl, p, CW K, dx, _, _, rfl, s2 _ _ h1, cl_Web T, na_tie_rows T, wf_t, ?_⟩
      refine ⟨m.addM z, t, b, c, ws, bs, rfl, ?_, s2 _ _ h3, h4.keep (Kt.of s2), s2 _ _ h5, h6.keep (Kt.of s2), ⟨?_, hlen.2.1, hlen.2.2⟩, W.last, fun x H2 s3 nx W3 => q x H2 ((s1.trans s2).trans s3) ((s1.trans s2).free nx) W3⟩
      · rw [upd_same]
        show _ = some (HO.tup ((m.own ++ [z]).map V.str))
        rw [List.map_append]
        rfl
      · show (m.own ++ [z]).length ≤ 10
        rw [List.length_append]
        show _ + 1 ≤ 10
        omega
/-! ### with_span -/
structure SpOk (m : Md) (x : Wd) : Prop where
  nm : Nm x.en
  fresh : ¬ x.en ∈ m.pts
  bg : x.bg = "start" ∨ x.bg ∈ m.own
  lo : 1 ≤ x.lo
  hi : x.lo ≤ x.hi
  top : x.hi ≤ 1000
  la : ∀ i, x.la = some i → 0 ≤ i ∧ i ≤ 1000
  few : m.wd.length < 4
def sp_with_span (K : PySem.W.Frag) : Sp := fun vs H Q _ => ∃ (p : Addr) (m : Md) (x : Wd), vs = [.ref p, .str x.en, .str x.bg, .int x.lo, .int x.hi, oV x.la] ∧ WebAt (CW K) H p m ∧ SpOk m x ∧ ∀ (q : Addr) (H' : Hp), Same H H' → H q = none → WebAt (CW K) H' q (m.addS x) → Q (.ref q) H'
theorem met_Web_with_span (T : Tp K mg) : MetN P w K mg base 6 (CW K) "with_span" (sp_with_span K) 5 ["late"] := by
  obtain ⟨fd, F⟩ := f_Web_with_span T
  refine ⟨_, fd, ["self", "end", "begin", "low", "high", "late"], _, cl_Web T, me_Web_with_span T, fnok_of (k := 5) F sc_Web_with_span (fun vs H Q E h => ?_) (fun cdv A outer s H vs Q E hr h => ?_), kbn_of F fun kV doc pm an cdv ct us ws h1 h2 => match us, ws, h1, h2 with
    | [_, _, _, _, _], [_], _, _ => rfl⟩
  · obtain ⟨p, m, x, rfl, _⟩ := h
    rfl
  · obtain ⟨p, m, x, rfl, W, S, q⟩ := h
    refine ⟨_, (pss_cons (ps_expr (C8.pe_c (cal_need_free_name T) hr (by decide) rfl (pa_cons (pv 0) (pa_cons (pv 1) pa_nil))))
      (pss_cons (ps_if (pt_not (pt_val (C8.pe_c (cal_is_begin T) hr (by decide) rfl (pa_cons (pv 0) (pa_cons (pv 2) pa_nil))))) (pss_one ps_never) pss_nil)
      (pss_cons (ps_if (pt_not (pt_val (C8.pe_c (cal_are_lengths T) hr (by decide) rfl (pa_cons (pv 3) (pa_cons (pv 4) pa_nil))))) (pss_one ps_never) pss_nil)
      (pss_cons (ps_if (pt_not (pt_val (C8.pe_c (cal_is_lateness T) hr (by decide) rfl (pa_cons (pv 5) pa_nil)))) (pss_one ps_never) pss_nil)
      (pss_cons (ps_if (pt_cmpR op_ge (pe_callB call_len_seq (by rfl) (z_len T) bb_len (pa_cons (pe_fld (pv 0) rfl) pa_nil)) (C8.pe_gc (by rfl) (c_MOST_SPANS T)) (nomark _)) (pss_one ps_never) pss_nil)
      (pss_cons (ps_set (i := 6) sc_Web_with_span.nd rfl (.inl rfl) (pe_tup (pa_cons (pv 1) (pa_cons (pv 2) (pa_cons (pv 3) (pa_cons (pv 4) (pa_cons (pv 5) pa_nil)))))))
      (pss_one (ps_ret (C8.pe_c (cal_woven T) hr (by decide) rfl (pa_cons (pe_fld (pv 0) rfl) (pa_cons (pe_fld (pv 0) rfl) (pa_cons (pe_tup (StX.pa_star (pe_fld (pv 0) rfl) (pa_cons (pv 6) pa_nil))) (pa_cons (pe_fld (pv 0) rfl) pa_nil))))))))))))), ?_⟩
    have hlen := W.len
    have few := S.few
    refine ⟨_, rfl, _, rfl, p, m, x.en, rfl, W, S.nm, S.fresh, fun H1 s1 => ?_⟩
    refine ⟨_, rfl, _, rfl, p, m, x.bg, rfl, W.same s1, S.bg, fun H2 s2 => ⟨_, rfl, iteF ?_⟩⟩
    have W2 := (W.same s1).same s2
    refine ⟨_, rfl, _, rfl, .int x.lo, .int x.hi, rfl, rfl, rfl, _, rfl, ?_⟩
    have eL : lenB (.int x.lo) (.int x.hi) = true := by
      show (decide (1 ≤ x.lo ∧ x.lo ≤ 1000) && decide (x.lo ≤ x.hi ∧ x.hi ≤ 1000)) = true
      rw [decide_eq_true ⟨S.lo, Int.le_trans S.hi S.top⟩, decide_eq_true ⟨S.hi, S.top⟩]
      rfl
    have eH : (plK (oV x.la)).isSome = true ∧ lateB (oV x.la) = true := by
      cases e : x.la with
      | none => exact ⟨rfl, rfl⟩
      | some i =>
        refine ⟨rfl, ?_⟩
        show (decide (V.int i = V.non) || decide (0 ≤ i ∧ i ≤ 1000)) = true
        rw [decide_eq_true (S.la i e), Bool.or_true]
    rw [eL]
    refine iteF ⟨_, rfl, oV x.la, rfl, eH.1, _, rfl, ?_⟩
    rw [eH.2]
    refine iteF ?_
    obtain ⟨dx, a, b, c, ws, bs, h1, h2, h3, h4, h5, h6⟩ := W2.ex
    have hw : ws.length = m.wd.length := by rw [h4.len, List.length_map]
    refine ⟨_, rfl, p, CW K, dx, _, _, rfl, h1, cl_Web T, na_span_rows T, wf_s, b, _, rfl, .inr (.inl (.inl h3)), _, _, rfl, rfl, _, rfl, ?_⟩
    rw [decide_eq_false (by rw [hw]; omega)]
    refine iteF ?_
    refine ⟨_, rfl, _, rfl, _, rfl, _, rfl, _, rfl, (by show 5 ≤ sizeLine; decide), fun t nt => ?_⟩
    have s3 := same_upd (o := .tup x.row) nt
    refine ⟨_, rfl, p, CW K, dx, _, _, rfl, s3 _ _ h1, cl_Web T, na_by T, wf_by, _, rfl, p, CW K, dx, _, _, rfl, s3 _ _ h1, cl_Web T, na_moment_rows T, wf_m, _, rfl, p, CW K, dx, _, _, rfl, s3 _ _ h1, cl_Web T, na_span_rows T, wf_s, b, _, rfl, .inl (.inl (.inl (s3 _ _ h3))), .ref t, rfl, ?_, fun u nu => ?_⟩
    · rw [List.length_append]
      exact Nat.le_of_lt (small1000 (by show _ + 1 ≤ 1000; omega))
    · have s4 := same_upd (o := .tup (ws ++ [.ref t])) nu
      have s5 := s3.trans s4
      refine ⟨_, rfl, p, CW K, dx, _, _, rfl, s5 _ _ h1, cl_Web T, na_tie_rows T, wf_t, ?_⟩
      have rw' : Rows (upd (upd H2 t (.tup x.row)) u (.tup (ws ++ [.ref t]))) (ws ++ [.ref t]) ((m.addS x).wd.map Wd.row) := by
        show Rows _ _ ((m.wd ++ [x]).map Wd.row)
        rw [List.map_append]
        exact (h4.keep (Kt.of s5)).snoc (s4 _ _ upd_same)
      refine ⟨m.addS x, a, u, c, ws ++ [V.ref t], bs, rfl, s5 _ _ h2, upd_same, rw', s5 _ _ h5, h6.keep (Kt.of s5), ⟨hlen.1, ?_, hlen.2.2⟩, W.last, fun y H5 s6 ny W5 => q y H5 (((s1.trans s2).trans s5).trans s6) (((s1.trans s2).trans s5).free ny) W5⟩
      show (m.wd ++ [x]).length ≤ 4
      rw [List.length_append]
      show _ + 1 ≤ 4
      omega
/-! ### with_tie -/
structure TiOk (m : Md) (x : Bd) : Prop where
  one : x.one ∈ m.pts
  oth : x.oth ∈ m.pts
  ne : ¬ x.one = x.oth
  b : BOk x.bot x.top
  few : m.bd.length < 40
def sp_with_tie (K : PySem.W.Frag) : Sp := fun vs H Q _ => ∃ (p : Addr) (m : Md) (x : Bd), vs = [.ref p, .str x.one, .str x.oth, oV x.bot, oV x.top] ∧ WebAt (CW K) H p m ∧ TiOk m x ∧ ∀ (q : Addr) (H' : Hp), Same H H' → H q = none → WebAt (CW K) H' q (m.addT x) → Q (.ref q) H'
theorem met_Web_with_tie (T : Tp K mg) : MetN P w K mg base 6 (CW K) "with_tie" (sp_with_tie K) 3 ["least", "most"] := by
  obtain ⟨fd, F⟩ := f_Web_with_tie T
  refine ⟨_, fd, ["self", "one", "other", "least", "most"], _, cl_Web T, me_Web_with_tie T, fnok_of (k := 5) F sc_Web_with_tie (fun vs H Q E h => ?_) (fun cdv A outer s H vs Q E hr h => ?_), kbn_of F fun kV doc pm an cdv ct us ws h1 h2 => match us, ws, h1, h2 with
    | [_, _, _], [_, _], _, _ => rfl⟩
  · obtain ⟨p, m, x, rfl, _⟩ := h
    rfl
  · obtain ⟨p, m, x, rfl, W, S, q⟩ := h
    refine ⟨_, (pss_cons (ps_expr (C8.pe_c (cal_need_point T) hr (by decide) rfl (pa_cons (pv 0) (pa_cons (pv 1) pa_nil))))
      (pss_cons (ps_expr (C8.pe_c (cal_need_point T) hr (by decide) rfl (pa_cons (pv 0) (pa_cons (pv 2) pa_nil))))
      (pss_cons (ps_if (PW.pt (pw_or (pt_cmpR op_eq (pv 1) (pv 2) (nomark _)) (pw_or1 (pt_not (pt_val (C8.pe_c (cal_are_bounds T) hr (by decide) rfl (pa_cons (pv 3) (pa_cons (pv 4) pa_nil)))))))) (pss_one ps_never) pss_nil)
      (pss_cons (ps_if (pt_cmpR op_ge (pe_callB call_len_seq (by rfl) (z_len T) bb_len (pa_cons (pe_fld (pv 0) rfl) pa_nil)) (C8.pe_gc (by rfl) (c_MOST_TIES T)) (nomark _)) (pss_one ps_never) pss_nil)
      (pss_cons (ps_set (i := 5) sc_Web_with_tie.nd rfl (.inl rfl) (pe_tup (pa_cons (pv 1) (pa_cons (pv 2) (pa_cons (pv 3) (pa_cons (pv 4) pa_nil))))))
      (pss_one (ps_ret (C8.pe_c (cal_woven T) hr (by decide) rfl (pa_cons (pe_fld (pv 0) rfl) (pa_cons (pe_fld (pv 0) rfl) (pa_cons (pe_fld (pv 0) rfl) (pa_cons (pe_tup (StX.pa_star (pe_fld (pv 0) rfl) (pa_cons (pv 5) pa_nil))) pa_nil)))))))))))), ?_⟩
    have hlen := W.len
    have few := S.few
    refine ⟨_, rfl, _, rfl, p, m, x.one, rfl, W, S.one, fun H1 s1 => ?_⟩
    refine ⟨_, rfl, _, rfl, p, m, x.oth, rfl, W.same s1, S.oth, fun H2 s2 => ?_⟩
    have W2 := (W.same s1).same s2
    refine ⟨_, rfl, _, rfl, rfl, _, rfl, ?_⟩
    rw [decide_eq_false (show ¬ V.str x.one = V.str x.oth from fun e => S.ne (V.str.inj e))]
    refine iteF ⟨_, rfl, _, rfl, x.bot, x.top, rfl, S.b, fun H3 s3 => ⟨_, rfl, iteF ?_⟩⟩
    have W3 := W2.same s3
    obtain ⟨dx, a, b, c, ws, bs, h1, h2, h3, h4, h5, h6⟩ := W3.ex
    have hb : bs.length = m.bd.length := by rw [h6.len, List.length_map]
    refine ⟨_, rfl, p, CW K, dx, _, _, rfl, h1, cl_Web T, na_tie_rows T, wf_t, c, _, rfl, .inr (.inl (.inl h5)), _, _, rfl, rfl, _, rfl, ?_⟩
    rw [decide_eq_false (by rw [hb]; omega)]
    refine iteF ?_
    refine ⟨_, rfl, _, rfl, _, rfl, _, rfl, (by show 4 ≤ sizeLine; decide), fun t nt => ?_⟩
    have s4 := same_upd (o := .tup x.row) nt
    refine ⟨_, rfl, p, CW K, dx, _, _, rfl, s4 _ _ h1, cl_Web T, na_by T, wf_by, _, rfl, p, CW K, dx, _, _, rfl, s4 _ _ h1, cl_Web T, na_moment_rows T, wf_m, _, rfl, p, CW K, dx, _, _, rfl, s4 _ _ h1, cl_Web T, na_span_rows T, wf_s, _, rfl, p, CW K, dx, _, _, rfl, s4 _ _ h1, cl_Web T, na_tie_rows T, wf_t, c, _, rfl, .inl (.inl (.inl (s4 _ _ h5))), .ref t, rfl, ?_, fun u nu => ?_⟩
    · rw [List.length_append]
      exact Nat.le_of_lt (small1000 (by show _ + 1 ≤ 1000; omega))
    · have s5 := same_upd (o := .tup (bs ++ [.ref t])) nu
      have s6 := s4.trans s5
      have rb' : Rows (upd (upd H3 t (.tup x.row)) u (.tup (bs ++ [.ref t]))) (bs ++ [.ref t]) ((m.addT x).bd.map Bd.row) := by
        show Rows _ _ ((m.bd ++ [x]).map Bd.row)
        rw [List.map_append]
        exact (h6.keep (Kt.of s6)).snoc (s5 _ _ upd_same)
      have sa := ((s1.trans s2).trans s3).trans s6
      refine ⟨m.addT x, a, b, u, ws, bs ++ [V.ref t], rfl, s6 _ _ h2, s6 _ _ h3, h4.keep (Kt.of s6), upd_same, rb', ⟨hlen.1, hlen.2.1, ?_⟩, W.last, fun y H5 s7 ny W5 => q y H5 (sa.trans s7) (sa.free ny) W5⟩
      show (m.bd ++ [x]).length ≤ 40
      rw [List.length_append]
      show _ + 1 ≤ 40
      omega
end
end Tw

set_option maxHeartbeats 4000000
namespace Tw
open PySem PySem.Spec PyProof.Rows L2
/-! ### the law's flow of numbers -/
structure Flow (H : Hp) (f c : Addr) : Prop where
  ex : ∃ (ns : List Int) (i r st : Int), H f = some (.lst [.ref c, .int i, .int r, .int st]) ∧ H c = some (.lst (ns.map V.int)) ∧ 0 ≤ i ∧ 0 ≤ r ∧ 0 ≤ st ∧ st < 2147483647
theorem Flow.lst {H : Hp} {f c : Addr} (h : Flow H f c) : ∃ xs, H f = some (.lst xs) := let ⟨_, _, _, _, e, _⟩ := h.ex; ⟨_, e⟩
theorem Flow.cells {H : Hp} {f c : Addr} (h : Flow H f c) : ∃ xs, H c = some (.lst xs) := let ⟨_, _, _, _, _, e, _⟩ := h.ex; ⟨_, e⟩
theorem Flow.keep {H H' : Hp} {f c : Addr} (h : Flow H f c) (h1 : ∀ o, H f = some o → H' f = some o) (h2 : ∀ o, H c = some o → H' c = some o) : Flow H' f c := by
  obtain ⟨ns, i, r, st, e1, e2, e3⟩ := h.ex
  exact ⟨ns, i, r, st, h1 _ e1, h2 _ e2, e3⟩
theorem Flow.same {H H' : Hp} {f c : Addr} (h : Flow H f c) (s : Same H H') : Flow H' f c := h.keep (fun _ e => s _ _ e) (fun _ e => s _ _ e)
theorem Flow.upd {H : Hp} {f c p : Addr} {o : HO} (h : Flow H f c) (n1 : f ≠ p) (n2 : c ≠ p) : Flow (upd H p o) f c := h.keep (fun _ e => by rw [upd_ne n1]; exact e) (fun _ e => by rw [upd_ne n2]; exact e)
theorem flow_ne {H : Hp} {f c : Addr} {i r st : Int} {ns : List Int} (h1 : H f = some (.lst [.ref c, .int i, .int r, .int st])) (h2 : H c = some (.lst (ns.map V.int))) : c ≠ f := by
  refine ne_of h2 h1 fun e => ?_
  have e := HO.lst.inj e
  cases ns with
  | nil => cases e
  | cons x l =>
    have e1 := (List.cons.inj e).1
    cases e1
theorem Flow.put {H : Hp} {f c : Addr} {i r st : Int} {ns : List Int} (h1 : H f = some (.lst [.ref c, .int i, .int r, .int st])) (h2 : H c = some (.lst (ns.map V.int))) {i' r' st' : Int} (a : 0 ≤ i') (b : 0 ≤ r') (d : 0 ≤ st') (e : st' < 2147483647) :
    Flow (L2.upd H f (.lst [.ref c, .int i', .int r', .int st'])) f c := ⟨ns, i', r', st', upd_same, by rw [upd_ne (flow_ne h1 h2)]; exact h2, a, b, d, e⟩
theorem cut_ints (ns : List Int) (lo hi : Option Int) : ∃ ms : List Int, cutV (ns.map V.int) lo hi = ms.map V.int := by
  unfold cutV
  refine ⟨(ns.drop (HT.sIx (ns.map V.int).length 0 lo)).take (HT.sIx (ns.map V.int).length (ns.map V.int).length hi - HT.sIx (ns.map V.int).length 0 lo), ?_⟩
  rw [List.map_take, List.map_drop]
theorem fm_lo (x : Int) {n : Int} (h : 0 < n) : 0 ≤ x.fmod n := by
  rw [Int.fmod_eq_emod_of_nonneg _ (Int.le_of_lt h)]
  exact Int.emod_nonneg _ (Int.ne_of_gt h)
theorem fm_hi (x : Int) {n : Int} (h : 0 < n) : x.fmod n < n := by
  rw [Int.fmod_eq_emod_of_nonneg _ (Int.le_of_lt h)]
  exact Int.emod_lt_of_pos _ h
theorem fd_lo {x n : Int} (hx : 0 ≤ x) (h : 0 < n) : 0 ≤ x.fdiv n := by
  rw [Int.fdiv_eq_ediv_of_nonneg _ (Int.le_of_lt h)]
  exact Int.ediv_nonneg hx (Int.le_of_lt h)
theorem abs_lo (x : Int) : (0 : Int) ≤ if x < 0 then -x else x := by
  split <;> omega
section
variable {P : Program} {w : World} {K : PySem.W.Frag} {mg : Str → Option Value} {base : Heap}
def CDivX (_ j : Int) : Prop := j ≠ 0 ∧ j.natAbs.log2 < 9000
theorem op_fdivX {X : Cx} : OpR X (binaryOp .FloorDiv) (rI CDivX fun i j => .int (i.fdiv j)) := opI fun _ _ _ _ _ _ _ hc q => floordiv_int hc.1 q (.inl (PyProof.noPylong_of_log2 hc.2))
theorem big_log {n : Int} (h1 : n < 1606938044258990275541962092341162602522202993782792835301376) (h0 : 0 < n) : n.natAbs.log2 < 9000 := by
  have h : n.natAbs < 2 ^ 200 := by
    have e : (2 : Nat) ^ 200 = 1606938044258990275541962092341162602522202993782792835301376 := by decide +kernel
    rw [e]
    omega
  exact Nat.lt_trans ((Nat.log2_lt (by omega)).mpr h) (by decide)
def sp_flow (K : PySem.W.Frag) : Sp := fun vs H Q _ => ∃ (a : Addr) (ns : List Int), vs = [.ref a] ∧ SqL K H a (ns.map V.int) ∧ ∀ (f c : Addr) (H' : Hp), Same H H' → H f = none → H c = none → Flow H' f c → Q (.ref f) H'
theorem cal__law_flow (T : Tp K mg) : Cal P w K mg base 2 "_law_flow" (sp_flow K) := by
  obtain ⟨fd, F⟩ := f__law_flow T
  refine cal_of F (g__law_flow T) (b__law_flow F) sc__law_flow (fun vs H Q E h => ?_) (fun cdv A outer s H vs Q E hr h => ?_)
  · obtain ⟨a, ns, rfl, _⟩ := h
    rfl
  · obtain ⟨a, ns, rfl, hS, q⟩ := h
    refine ⟨_, (pss_one (ps_ret (pe_lst (pa_cons (pe_callTy call_list_of (by rfl) (z_list T) bb_list (pa_cons (pe_slice sl_list (pv 0) po_none (po_some pe_int)) pa_nil)) (pa_cons pe_int (pa_cons pe_int (pa_cons pe_int pa_nil))))))), ?_⟩
    refine ⟨_, rfl, 63, rfl, a, _, rfl, hS, fun p np => ?_⟩
    obtain ⟨ms, e⟩ := cut_ints ns none (some 63)
    rw [e]
    have s1 := same_upd (o := .lst (ms.map V.int)) np
    refine ⟨p, _, rfl, .inl (.inl (.inl upd_same)), fun l nl => ?_⟩
    have s2 := same_upd (o := .lst (ms.map V.int)) nl
    refine ⟨by show 4 ≤ sizeLine; decide, fun f nf => ?_⟩
    have s3 := same_upd (o := .lst [.ref l, .int 0, .int 0, .int 11]) nf
    have sa := s1.trans s2
    exact q f l _ (sa.trans s3) (sa.free nf) (s1.free nl) ⟨ms, 0, 0, 11, upd_same, s3 _ _ upd_same, by decide, by decide, by decide, by decide⟩
/-! ### _law_draw -/
def sp_draw : Sp := fun vs H Q _ => ∃ (f c : Addr) (n : Int), vs = [.ref f, .int n] ∧ Flow H f c ∧ 0 < n ∧ n < 1606938044258990275541962092341162602522202993782792835301376 ∧ ∀ (v : Int) (H' : Hp), 0 ≤ v → v < n → Sb f H H' → Flow H' f c → Q (.int v) H'
theorem cal__law_draw (T : Tp K mg) : Cal P w K mg base 2 "_law_draw" sp_draw := by
  obtain ⟨fd, F⟩ := f__law_draw T
  refine cal_of F (g__law_draw T) (b__law_draw F) sc__law_draw (fun vs H Q E h => ?_) (fun cdv A outer s H vs Q E hr h => ?_)
  · obtain ⟨f, c, n, rfl, _⟩ := h
    rfl
  · obtain ⟨f, c, n, rfl, FL, n0, n1, q⟩ := h
    obtain ⟨ns, i, r, st, hf, hc, i0, r0, st0, st1⟩ := FL.ex
    have hn : n ≠ 0 := by omega
    have hdiv : CDivX r n := ⟨hn, big_log n1 n0⟩
    have ncf := flow_ne hf hc
    refine ⟨_, (pss_cons (ps_if (pt_cmpR op_gt (pe_ix ix_list (pv 0) pe_int (fun _ _ => rfl)) pe_int (nomark _)) (pss_cons (ps_set (i := 2) sc__law_draw.nd rfl (.inl rfl) (pe_op op_modN (pe_ix ix_list (pv 0) pe_int (fun _ _ => rfl)) (pv 1)))
        (pss_cons (ps_asg (pe_op op_fdivX (pe_ix ix_list (pv 0) pe_int (fun _ _ => rfl)) (pv 1)) (pg_sub (pv 0) pe_int set_list))
        (pss_one (ps_ret (pv 2))))) pss_nil)
      (pss_cons (ps_set (i := 3) sc__law_draw.nd rfl (.inl rfl) pe_int)
      (C8.pss_cut (ps_if (pt_cmpR op_lt (pe_ix ix_list (pv 0) pe_int (fun _ _ => rfl)) (pe_callB call_len_seq (by rfl) (z_len T) bb_len (pa_cons (pe_ix ix_list (pv 0) pe_int (fun _ _ => rfl)) pa_nil)) (nomark _)) (pss_one (ps_set (i := 3) sc__law_draw.nd rfl (.inl rfl) (pe_ix ix_list (pe_ix ix_list (pv 0) pe_int (fun _ _ => rfl)) (pe_ix ix_list (pv 0) pe_int (fun _ _ => rfl)) (fun _ _ => rfl)))) pss_nil)
      (pss_cons (ps_asg (pe_op op_add (pe_ix ix_list (pv 0) pe_int (fun _ _ => rfl)) pe_int) (pg_sub (pv 0) pe_int set_list))
      (pss_cons (ps_if (pt_cmpR op_ge (pe_callB call_abs (by rfl) (z_abs T) bb_abs (pa_cons (pv 3) pa_nil)) (pe_op op_pow pe_int pe_int) (nomark _)) (pss_cons (ps_asg (pe_op op_fdivX (pe_callB call_abs (by rfl) (z_abs T) bb_abs (pa_cons (pv 3) pa_nil)) (pv 1)) (pg_sub (pv 0) pe_int set_list))
        (pss_one (ps_ret (pe_op op_modN (pe_callB call_abs (by rfl) (z_abs T) bb_abs (pa_cons (pv 3) pa_nil)) (pv 1))))) pss_nil)
      (pss_cons (ps_set (i := 4) sc__law_draw.nd rfl (.inl rfl) (pe_op op_add (pe_op op_add (pe_op op_pow (pe_ix ix_list (pv 0) pe_int (fun _ _ => rfl)) pe_int) (pe_op op_mul (pe_ix ix_list (pv 0) pe_int (fun _ _ => rfl)) pe_int)) (pe_op op_mul (pe_ix ix_list (pv 0) pe_int (fun _ _ => rfl)) pe_int)))
      (pss_cons (ps_set (i := 4) sc__law_draw.nd rfl (.inl rfl) (pe_op op_modN (pe_op op_add (pv 4) (pe_op op_mul (pe_op op_modN (pv 3) pe_int) pe_int)) pe_int))
      (pss_cons (ps_asg (pv 4) (pg_sub (pv 0) pe_int set_list))
      (pss_one (ps_ret (pe_op op_modN (pe_op op_add (pe_op op_fdivN (pv 4) pe_int) (pe_op op_mul (pe_op op_modN (pv 4) pe_int) pe_int)) (pv 1)))))))))))), ?_⟩
    refine ⟨_, rfl, f, _, 2, _, rfl, rfl, .inl (.inl hf), atI_nat (j := 2) rfl, _, _, rfl, rfl, _, rfl, ite2 (fun e => ?_) (fun e => ?_)⟩
    · -- numbers are left of a great one
      refine ⟨_, rfl, f, _, 2, _, rfl, rfl, .inl (.inl hf), atI_nat (j := 2) rfl, _, rfl, _, _, rfl, rfl, hn, ?_⟩
      refine ⟨_, rfl, f, _, 2, _, rfl, rfl, .inl (.inl hf), atI_nat (j := 2) rfl, _, rfl, _, _, rfl, rfl, hdiv, _, rfl, f, _, 2, 2, rfl, rfl, hf, rfl, ?_⟩
      exact ⟨_, rfl, q _ _ (fm_lo _ n0) (fm_hi _ n0) Sb.upd (Flow.put hf hc i0 (fd_lo r0 n0) st0 st1)⟩
    · -- the next cell
      refine ⟨fun σ' H' => H' = H ∧ ∃ x : Int, σ' = [some (.ref f), some (.int n), none, some (.int x), none], ?_, ?_⟩
      · refine ⟨_, rfl, f, _, 1, _, rfl, rfl, .inl (.inl hf), atI_nat (j := 1) rfl, _, rfl, f, _, 0, _, rfl, rfl, .inl (.inl hf), atI_nat (j := 0) rfl, c, _, rfl, .inl (.inl (.inl hc)), _, _, rfl, rfl, _, rfl, ite2 (fun e => ?_) (fun e => ?_)⟩
        · have hi : i < ((ns.map V.int).length : Int) := of_decide_eq_true e
          rw [List.length_map] at hi
          have hj : i.toNat < ns.length := by omega
          refine ⟨_, rfl, f, _, 0, _, rfl, rfl, .inl (.inl hf), atI_nat (j := 0) rfl, _, rfl, f, _, 1, _, rfl, rfl, .inl (.inl hf), atI_nat (j := 1) rfl, c, _, i, .int ns[i.toNat], rfl, rfl, .inl (.inl hc), ?_, rfl, ns[i.toNat], rfl⟩
          refine at_of (j := i.toNat) (by omega) ?_
          rw [List.getElem?_map, List.getElem?_eq_getElem hj]
          rfl
        · exact ⟨rfl, 0, rfl⟩
      · rintro σ' H' ⟨rfl, x, rfl⟩
        -- flow[1] = flow[1] + 1
        refine ⟨_, rfl, f, _, 1, _, rfl, rfl, .inl (.inl hf), atI_nat (j := 1) rfl, _, _, rfl, rfl, _, rfl, f, _, 1, 1, rfl, rfl, hf, rfl, ?_⟩
        have hf1 : (upd H' f (.lst [.ref c, .int (i + 1), .int r, .int st])) f = some (.lst [.ref c, .int (i + 1), .int r, .int st]) := upd_same
        have hc1 : (upd H' f (.lst [.ref c, .int (i + 1), .int r, .int st])) c = some (.lst (ns.map V.int)) := by
          rw [upd_ne ncf]
          exact hc
        have sb1 : Sb f H' (upd H' f (.lst [.ref c, .int (i + 1), .int r, .int st])) := Sb.upd
        have a0 := abs_lo x
        refine ⟨_, rfl, _, rfl, 10, 18, rfl, rfl, ⟨by decide, by decide, by decide⟩, _, _, rfl, rfl, _, rfl, ite2 (fun e => ?_) (fun e => ?_)⟩
        · refine ⟨_, rfl, _, rfl, _, rfl, _, _, rfl, rfl, ⟨hn, big_log n1 n0⟩, _, rfl, f, _, 2, 2, rfl, rfl, hf1, rfl, ?_⟩
          exact ⟨_, rfl, _, rfl, _, rfl, _, _, rfl, rfl, hn, q _ _ (fm_lo _ n0) (fm_hi _ n0) (sb1.trans Sb.upd) (Flow.put hf1 hc1 (by omega) (fd_lo a0 n0) st0 st1)⟩
        · refine ⟨_, rfl, f, _, 3, _, rfl, rfl, .inl (.inl hf1), atI_nat (j := 3) rfl, st, 3, rfl, rfl, ⟨by decide, by decide, by omega⟩, ?_⟩
          refine ⟨_, rfl, f, _, 3, _, rfl, rfl, .inl (.inl hf1), atI_nat (j := 3) rfl, st, 31, rfl, rfl, .inr ⟨by decide, by decide⟩, _, _, rfl, rfl, ?_⟩
          refine ⟨_, rfl, f, _, 1, _, rfl, rfl, .inl (.inl hf1), atI_nat (j := 1) rfl, i + 1, 69621, rfl, rfl, .inr ⟨by decide, by decide⟩, _, _, rfl, rfl, ?_⟩
          refine ⟨_, rfl, _, rfl, x, 2147483629, rfl, rfl, (show (2147483629 : Int) ≠ 0 by decide), _, 48271, rfl, rfl, .inr ⟨by decide, by decide⟩, _, _, rfl, rfl, _, 2147483647, rfl, rfl, (show (2147483647 : Int) ≠ 0 by decide), ?_⟩
          have b0 := fm_lo (st ^ (3 : Int).toNat + st * 31 + (i + 1) * 69621 + x.fmod 2147483629 * 48271) (n := 2147483647) (by decide)
          have b1 := fm_hi (st ^ (3 : Int).toNat + st * 31 + (i + 1) * 69621 + x.fmod 2147483629 * 48271) (n := 2147483647) (by decide)
          refine ⟨_, rfl, _, rfl, f, _, 3, 3, rfl, rfl, hf1, rfl, ?_⟩
          refine ⟨_, rfl, _, 8192, rfl, rfl, ⟨by decide, by decide⟩, _, rfl, _, 8191, rfl, rfl, (show (8191 : Int) ≠ 0 by decide), _, 40503, rfl, rfl, .inr ⟨by decide, by decide⟩, _, _, rfl, rfl, _, rfl, _, n, rfl, rfl, hn, ?_⟩
          exact q _ _ (fm_lo _ n0) (fm_hi _ n0) (sb1.trans Sb.upd) (Flow.put hf1 hc1 (by omega) r0 b0 b1)
/-! ### _law_pick -/
def sp_pick : Sp := fun vs H Q _ => ∃ (f c l : Addr) (xs : List V), vs = [.ref f, .ref l] ∧ Flow H f c ∧ H l = some (.lst xs) ∧ l ≠ f ∧ 0 < xs.length ∧ xs.length ≤ 1000 ∧ ∀ (v : V) (H' : Hp), v ∈ xs → Sb f H H' → Flow H' f c → Q v H'
theorem cal__law_pick (T : Tp K mg) : Cal P w K mg base 3 "_law_pick" sp_pick := by
  obtain ⟨fd, F⟩ := f__law_pick T
  refine cal_of F (g__law_pick T) (b__law_pick F) sc__law_pick (fun vs H Q E h => ?_) (fun cdv A outer s H vs Q E hr h => ?_)
  · obtain ⟨f, c, l, xs, rfl, _⟩ := h
    rfl
  · obtain ⟨f, c, l, xs, rfl, FL, hl, nlf, h0, h1, q⟩ := h
    refine ⟨_, (pss_one (ps_ret (pe_ix ix_list (pv 1) (C8.pe_c (cal__law_draw T) hr (by decide) rfl (pa_cons (pv 0) (pa_cons (pe_callB call_len_seq (by rfl) (z_len T) bb_len (pa_cons (pv 1) pa_nil)) pa_nil))) (fun _ _ => rfl)))), ?_⟩
    refine ⟨_, rfl, _, rfl, _, rfl, l, _, rfl, .inl (.inl (.inl hl)), f, c, _, rfl, FL, by omega, by omega, fun v H1 v0 v1 sb F1 => ?_⟩
    have hv : v.toNat < xs.length := by omega
    exact ⟨l, xs, v, xs[v.toNat], rfl, rfl, .inl (.inl (sb _ _ hl nlf)), at_of (j := v.toNat) (by omega) (List.getElem?_eq_getElem hv), q _ H1 (List.getElem_mem hv) sb F1⟩
end
end Tw

set_option maxHeartbeats 4000000
namespace Tw
open PySem PySem.Spec PyProof.Rows L2
/-! ### the law's own picture of a web: a dict -/
abbrev kBy : Key := .inr "by"
abbrev kOwn : Key := .inr "own"
abbrev kWd : Key := .inr "winds"
abbrev kBd : Key := .inr "bonds"
theorem k1 : ¬ kBy = kOwn := by decide +kernel
theorem k2 : ¬ kBy = kWd := by decide +kernel
theorem k3 : ¬ kBy = kBd := by decide +kernel
theorem k4 : ¬ kOwn = kWd := by decide +kernel
theorem k5 : ¬ kOwn = kBd := by decide +kernel
theorem k6 : ¬ kWd = kBd := by decide +kernel
def mk (l : Int) (o w b : Addr) : List (Key × V) := [(kBy, .int l), (kOwn, .ref o), (kWd, .ref w), (kBd, .ref b)]
section
variable {l : Int} {o w b o2 : Addr} {H : Hp} {d : Addr}
theorem mk_by (h : H d = some (.dK (mk l o w b))) : DGet H d (.str "by") (some (.int l)) := .inl ⟨_, kBy, .inl h, rfl, by
  unfold mk
  rw [valV_pos rfl]⟩
theorem mk_own (h : H d = some (.dK (mk l o w b))) : DGet H d (.str "own") (some (.ref o)) := .inl ⟨_, kOwn, .inl h, rfl, by
  unfold mk
  rw [valV_neg k1, valV_pos rfl]⟩
theorem mk_wd (h : H d = some (.dK (mk l o w b))) : DGet H d (.str "winds") (some (.ref w)) := .inl ⟨_, kWd, .inl h, rfl, by
  unfold mk
  rw [valV_neg k2, valV_neg k4, valV_pos rfl]⟩
theorem mk_bd (h : H d = some (.dK (mk l o w b))) : DGet H d (.str "bonds") (some (.ref b)) := .inl ⟨_, kBd, .inl h, rfl, by
  unfold mk
  rw [valV_neg k3, valV_neg k5, valV_neg k6, valV_pos rfl]⟩
theorem mk_putOwn : putK (mk l o w b) kOwn (.ref o2) = mk l o2 w b := by
  have n4 : ¬ kWd = kOwn := fun e => k4 e.symm
  have n5 : ¬ kBd = kOwn := fun e => k5 e.symm
  unfold putK mk
  rw [if_pos (by rw [List.any_cons, List.any_cons, decide_eq_true (rfl : kOwn = kOwn)]; simp)]
  simp only [List.map_cons, List.map_nil, if_neg k1, if_neg n4, if_neg n5, if_true]
end
theorem mk_merge (l : Int) (o w b : Addr) : mergeK [] [(kBy, .int l), (kOwn, .ref o), (kWd, .ref w), (kBd, .ref b)] = mk l o w b := by
  show putK (putK (putK (putK [] kBy (.int l)) kOwn (.ref o)) kWd (.ref w)) kBd (.ref b) = mk l o w b
  rw [putK_new (kvs := []) _ valV_nil, List.nil_append]
  rw [putK_new (kvs := [(kBy, V.int l)]) _ (by rw [valV_neg k1]; rfl), List.singleton_append]
  rw [putK_new (kvs := [(kBy, V.int l), (kOwn, V.ref o)]) _ (by rw [valV_neg k2, valV_neg k4]; rfl), List.cons_append, List.singleton_append]
  rw [putK_new (kvs := [(kBy, V.int l), (kOwn, V.ref o), (kWd, V.ref w)]) _ (by rw [valV_neg k3, valV_neg k5, valV_neg k6]; rfl)]
  rfl
/-- the picture m stands at d -/
structure MdAt (H : Hp) (d : Addr) (m : Md) : Prop where
  ex : ∃ (o w b : Addr) (ws bs : List V), H d = some (.dK (mk m.last o w b)) ∧ H o = some (.lst (m.own.map V.str)) ∧ H w = some (.lst ws) ∧ Rows H ws (m.wd.map Wd.row) ∧ H b = some (.lst bs) ∧ Rows H bs (m.bd.map Bd.row) ∧ o ≠ w ∧ o ≠ b ∧ w ≠ b
/-- .. with its three lists at o, w, b -/
structure MdX (H : Hp) (d o w b : Addr) (m : Md) : Prop where
  dk : H d = some (.dK (mk m.last o w b))
  own : H o = some (.lst (m.own.map V.str))
  wd : ∃ ws, H w = some (.lst ws) ∧ Rows H ws (m.wd.map Wd.row)
  bd : ∃ bs, H b = some (.lst bs) ∧ Rows H bs (m.bd.map Bd.row)
  now : o ≠ w
  nob : o ≠ b
  nwb : w ≠ b
theorem MdX.at {H : Hp} {d o w b : Addr} {m : Md} (M : MdX H d o w b m) : MdAt H d m := by
  obtain ⟨ws, h1, h2⟩ := M.wd
  obtain ⟨bs, h3, h4⟩ := M.bd
  exact ⟨o, w, b, ws, bs, M.dk, M.own, h1, h2, h3, h4, M.now, M.nob, M.nwb⟩
theorem strs_flow {H : Hp} {f c a : Addr} {l : List Str} (F : Flow H f c) (h : H a = some (.lst (l.map V.str))) : a ≠ f := by
  obtain ⟨ns, i, r, st, h1, _⟩ := F.ex
  refine ne_of h h1 fun e => ?_
  have e := HO.lst.inj e
  cases l with
  | nil => cases e
  | cons x t =>
    have e1 := (List.cons.inj e).1
    cases e1
theorem rows_flow {H : Hp} {f c a : Addr} {xs : List V} {rs : List (List V)} (F : Flow H f c) (h : H a = some (.lst xs)) (R : Rows H xs rs) : a ≠ f := by
  obtain ⟨ns, i, r, st, h1, _⟩ := F.ex
  refine ne_of h h1 fun e => ?_
  have e := HO.lst.inj e
  subst e
  obtain ⟨t, r', e1, _⟩ := R.at (i := 1) (x := .int i) rfl
  cases e1
theorem MdAt.same {H H' : Hp} {d : Addr} {m : Md} (M : MdAt H d m) (s : Same H H') : MdAt H' d m := by
  obtain ⟨o, w, b, ws, bs, h1, h2, h3, h4, h5, h6, h7⟩ := M.ex
  exact ⟨o, w, b, ws, bs, s _ _ h1, s _ _ h2, s _ _ h3, h4.keep (Kt.of s), s _ _ h5, h6.keep (Kt.of s), h7⟩
theorem MdAt.sb {H H' : Hp} {f c d : Addr} {m : Md} (M : MdAt H d m) (F : Flow H f c) (s : Sb f H H') : MdAt H' d m := by
  obtain ⟨o, w, b, ws, bs, h1, h2, h3, h4, h5, h6, h7⟩ := M.ex
  obtain ⟨xs, hf⟩ := F.lst
  have k := s.kt hf
  exact ⟨o, w, b, ws, bs, s _ _ h1 (ne_of h1 hf (by intro z; cases z)), s _ _ h2 (strs_flow F h2), s _ _ h3 (rows_flow F h3 h4), h4.keep k, s _ _ h5 (rows_flow F h5 h6), h6.keep k, h7⟩
theorem MdX.same {H H' : Hp} {d o w b : Addr} {m : Md} (M : MdX H d o w b m) (s : Same H H') : MdX H' d o w b m := by
  obtain ⟨ws, h1, h2⟩ := M.wd
  obtain ⟨bs, h3, h4⟩ := M.bd
  exact ⟨s _ _ M.dk, s _ _ M.own, ⟨ws, s _ _ h1, h2.keep (Kt.of s)⟩, ⟨bs, s _ _ h3, h4.keep (Kt.of s)⟩, M.now, M.nob, M.nwb⟩
theorem MdX.sb {H H' : Hp} {f c d o w b : Addr} {m : Md} (M : MdX H d o w b m) (F : Flow H f c) (s : Sb f H H') : MdX H' d o w b m := by
  obtain ⟨ws, h1, h2⟩ := M.wd
  obtain ⟨bs, h3, h4⟩ := M.bd
  obtain ⟨xs, hf⟩ := F.lst
  have k := s.kt hf
  exact ⟨s _ _ M.dk (ne_of M.dk hf (by intro z; cases z)), s _ _ M.own (strs_flow F M.own), ⟨ws, s _ _ h1 (rows_flow F h1 h2), h2.keep k⟩, ⟨bs, s _ _ h3 (rows_flow F h3 h4), h4.keep k⟩, M.now, M.nob, M.nwb⟩
/-- a span more -/
theorem MdX.addW {H : Hp} {d o w b t : Addr} {m : Md} {x : Wd} {ws : List V} (M : MdX H d o w b m) (e : H w = some (.lst ws)) (R : Rows H ws (m.wd.map Wd.row)) (ht : H t = some (.tup x.row)) : MdX (upd H w (.lst (ws ++ [.ref t]))) d o w b (m.addS x) := by
  obtain ⟨bs, h3, h4⟩ := M.bd
  have k : Kt H (upd H w (.lst (ws ++ [.ref t]))) := Kt.upd fun xs z => by
    rw [e] at z
    cases z
  refine ⟨?_, ?_, ⟨_, upd_same, ?_⟩, ⟨bs, ?_, h4.keep k⟩, M.now, M.nob, M.nwb⟩
  · rw [upd_ne (ne_of M.dk e (by intro z; cases z))]
    exact M.dk
  · rw [upd_ne M.now]
    exact M.own
  · show Rows _ _ ((m.wd ++ [x]).map Wd.row)
    rw [List.map_append]
    exact (R.keep k).snoc (k _ _ ht)
  · rw [upd_ne M.nwb.symm]
    exact h3
/-- a tie more -/
theorem MdX.addB {H : Hp} {d o w b t : Addr} {m : Md} {x : Bd} {bs : List V} (M : MdX H d o w b m) (e : H b = some (.lst bs)) (R : Rows H bs (m.bd.map Bd.row)) (ht : H t = some (.tup x.row)) : MdX (upd H b (.lst (bs ++ [.ref t]))) d o w b (m.addT x) := by
  obtain ⟨ws, h3, h4⟩ := M.wd
  have k : Kt H (upd H b (.lst (bs ++ [.ref t]))) := Kt.upd fun xs z => by
    rw [e] at z
    cases z
  refine ⟨?_, ?_, ⟨ws, ?_, h4.keep k⟩, ⟨_, upd_same, ?_⟩, M.now, M.nob, M.nwb⟩
  · rw [upd_ne (ne_of M.dk e (by intro z; cases z))]
    exact M.dk
  · rw [upd_ne M.nob]
    exact M.own
  · rw [upd_ne M.nwb]
    exact h3
  · show Rows _ _ ((m.bd ++ [x]).map Bd.row)
    rw [List.map_append]
    exact (R.keep k).snoc (k _ _ ht)
/-- the names that are drawn -/
def pool : List Str := ["a", "bb", "c", "zzzzzzzz", "ab", "x", "late", "by", "q", "tie", "ends", "waits", "k", "ba"]
theorem pool_nd : pool.Nodup := by decide +kernel
theorem pool_ok : (pool.all fun z => decide (1 ≤ z.length) && decide (z.length ≤ 8) && (z.cps.toList.all fun c => decide (c ∈ letters.cps.toList)) && !decide (z = "start")) = true := by decide +kernel
theorem pool_nm {z : Str} (h : z ∈ pool) : Nm z ∧ ¬ z = "start" := by
  have e := List.all_eq_true.mp pool_ok z h
  simp only [Bool.and_eq_true, decide_eq_true_eq, List.all_eq_true, Bool.not_eq_true', decide_eq_false_iff_not] at e
  exact ⟨⟨e.1.1.1, e.1.1.2, e.1.2⟩, e.2⟩
theorem pull_perm {α : Type} : ∀ (r : List α) (v : Nat) (h : v < r.length), (r[v] :: r.eraseIdx v).Perm r
  | [], v, h => absurd h (Nat.not_lt_zero _)
  | a :: r, 0, h => List.Perm.refl _
  | a :: r, v + 1, h => by
    have ih := pull_perm r v (Nat.lt_of_succ_lt_succ h)
    exact (List.Perm.swap a (r[v]'(Nat.lt_of_succ_lt_succ h)) (r.eraseIdx v)).trans (ih.cons a)
theorem erase_map {α β : Type} (g : α → β) : ∀ (r : List α) (v : Nat), (r.map g).eraseIdx v = (r.eraseIdx v).map g
  | [], _ => rfl
  | a :: r, 0 => rfl
  | a :: r, v + 1 => congrArg (g a :: ·) (erase_map g r v)
theorem nd_pull {l r : List Str} {v : Nat} (h : v < r.length) (nd : (l ++ r).Nodup) : ((l ++ [r[v]]) ++ r.eraseIdx v).Nodup := by
  have p : (r[v] :: r.eraseIdx v).Perm r := pull_perm r v h
  rw [List.append_assoc, List.singleton_append]
  exact (p.append_left l).nodup_iff.mpr nd
theorem mem_pull {r : List Str} {v : Nat} {z : Str} (h : v < r.length) : z ∈ r[v] :: r.eraseIdx v ↔ z ∈ r := (pull_perm r v h).mem_iff
section
variable {P : Program} {w : World} {K : PySem.W.Frag} {mg : Str → Option Value} {base : Heap}
/-! ### _law_names -/
def sp_names : Sp := fun vs H Q _ => ∃ (f c : Addr) (n : Int), vs = [.ref f, .int n] ∧ Flow H f c ∧ 0 ≤ n ∧ n ≤ 14 ∧ ∀ (q : Addr) (ns : List Str) (H' : Hp), Sb f H H' → Flow H' f c → H q = none → H' q = some (.lst (ns.map V.str)) → ns.length = n.toNat → ns.Nodup → (∀ z ∈ ns, z ∈ pool) → Q (.ref q) H'
theorem cal__law_names (T : Tp K mg) : Cal P w K mg base 3 "_law_names" sp_names := by
  obtain ⟨fd, F⟩ := f__law_names T
  refine cal_of F (g__law_names T) (b__law_names F) sc__law_names (fun vs H Q E h => ?_) (fun cdv A outer s H vs Q E hr h => ?_)
  · obtain ⟨f, c, n, rfl, _⟩ := h
    rfl
  · obtain ⟨f, c, n, rfl, FL, n0, n1, q⟩ := h
    refine ⟨_, (pss_cons (ps_set (i := 2) sc__law_names.nd rfl (.inl rfl) (pe_lst (pa_cons pe_str (pa_cons pe_str (pa_cons pe_str (pa_cons pe_str (pa_cons pe_str (pa_cons pe_str (pa_cons pe_str (pa_cons pe_str (pa_cons pe_str (pa_cons pe_str (pa_cons pe_str (pa_cons pe_str (pa_cons pe_str (pa_cons pe_str pa_nil))))))))))))))))
      (pss_cons (ps_set (i := 3) sc__law_names.nd rfl (.inl rfl) (pe_lst pa_nil))
      (pss_cons (ps_for PassesOwn.never rfl (pi_range1 rfl (z_range T) (pa_cons (pv 1) pa_nil)) (pg_name (i := 4) sc__law_names.nd rfl (.inl rfl))
        (pss_one (ps_expr (pe_bm PySem.F.plainAttrs_list PySem.F.slot_list_append PySem.F.type_list_append mt_append (pv 3) (pa_cons (pe_bm PySem.F.plainAttrs_list PySem.F.slot_list_pop PySem.F.type_list_pop mt_popAt (pv 2) (pa_cons (C8.pe_c (cal__law_draw T) hr (by decide) rfl (pa_cons (pv 0) (pa_cons (pe_callB call_len_seq (by rfl) (z_len T) bb_len (pa_cons (pv 2) pa_nil)) pa_nil))) pa_nil)) pa_nil)))))
      (pss_one (ps_ret (pv 3)))))), ?_⟩
    refine ⟨by show 14 ≤ sizeLine; decide, fun l nl => ?_⟩
    have s1 := same_upd (o := .lst (pool.map V.str)) nl
    refine ⟨Nat.zero_le _, fun k nk => ?_⟩
    have s2 := same_upd (o := .lst []) nk
    have sa := s1.trans s2
    have nkH : H k = none := s1.free nk
    have nlk : l ≠ k := fun z => by
      rw [← z, upd_same] at nk
      cases nk
    obtain ⟨xs, hf⟩ := FL.lst
    have nlf : l ≠ f := (ne_of_none hf nl).symm
    have nkf : k ≠ f := (ne_of_none hf nkH).symm
    obtain ⟨ys, hc⟩ := FL.cells
    have ncl : c ≠ l := ne_of_none hc nl
    have nck : c ≠ k := ne_of_none hc nkH
    refine ⟨_, rfl, n, rfl, by omega, by omega, ?_⟩
    refine for_range (lo := 0) (n := n.toNat) (fun i σ H1 => ∃ (y : Option V) (ns rest : List Str), σ = [some (.ref f), some (.int n), some (.ref l), some (.ref k), y] ∧ Sb f H H1 ∧ Flow H1 f c ∧ H1 l = some (.lst (rest.map V.str)) ∧ H1 k = some (.lst (ns.map V.str)) ∧
      ns.length = i ∧ rest.length + i = 14 ∧ (ns ++ rest).Nodup ∧ ∀ z ∈ ns ++ rest, z ∈ pool) ?_ ?_ ?_
    · exact ⟨none, [], pool, rfl, Sb.of sa, FL.same sa, s2 _ _ upd_same, upd_same, rfl, rfl, pool_nd, fun z h => h⟩
    · rintro i σ H1 hi ⟨y, ns, rest, rfl, sb, F1, hl1, hk1, el, er, nd, hp⟩
      have hlen : (rest.map V.str).length = 14 - i := by
        rw [List.length_map]
        omega
      refine ⟨_, rfl, .inl ⟨rfl, _, .inl (.inl hk1)⟩, _, rfl, .inl ⟨rfl, _, .inl (.inl hl1)⟩, _, rfl, _, rfl, l, _, rfl, .inl (.inl (.inl hl1)), f, c, _, rfl, F1, by omega, by omega, fun v H2 v0 v1 sb2 F2 => ?_⟩
      have hv : v.toNat < rest.length := by
        rw [hlen] at v1
        omega
      have hl2 := sb2 _ _ hl1 nlf
      have hk2 := sb2 _ _ hk1 nkf
      refine ⟨l, _, v, v.toNat, .str rest[v.toNat], rfl, rfl, hl2, by omega, by omega, ?_, ?_, k, _, _, rfl, rfl, (by rw [upd_ne nlk.symm]; exact hk2), ?_, ?_⟩
      · unfold seqIndex?
        rw [if_neg (show ¬ v < 0 by omega), if_pos (by simp only [Bool.and_eq_true, decide_eq_true_eq]; omega)]
      · rw [List.getElem?_map, List.getElem?_eq_getElem hv]
        rfl
      · rw [List.length_map]
        exact small1000 (by omega)
      · refine ⟨_, ns ++ [rest[v.toNat]], rest.eraseIdx v.toNat, rfl, ?_, ?_, ?_, ?_, ?_, ?_, nd_pull hv nd, ?_⟩
        · refine fun b o e nb => ?_
          have e1 := sb2 _ _ (sb _ _ e nb) nb
          rw [upd_ne (ne_of_none e nkH), upd_ne (ne_of_none e nl)]
          exact e1
        · exact (F2.upd nlf.symm ncl).upd nkf.symm nck
        · rw [upd_ne nlk, upd_same, erase_map]
        · rw [upd_same, List.map_append]
          rfl
        · rw [List.length_append, el]
          rfl
        · rw [List.length_eraseIdx_of_lt hv]
          omega
        · intro z hz
          refine hp z ?_
          rw [List.append_assoc, List.singleton_append] at hz
          rcases List.mem_append.mp hz with h | h
          · exact List.mem_append.mpr (.inl h)
          · exact List.mem_append.mpr (.inr ((mem_pull hv).mp h))
    · rintro σ H1 ⟨y, ns, rest, rfl, sb, F1, hl1, hk1, el, er, nd, hp⟩
      exact ⟨_, rfl, q k ns H1 sb F1 nkH hk1 el (List.nodup_append.mp nd).1 fun z hz => hp z (List.mem_append.mpr (.inl hz))⟩
end
end Tw

set_option maxHeartbeats 4000000
namespace Tw
open PySem PySem.Spec PyProof.Rows L2
section
variable {P : Program} {w : World} {K : PySem.W.Frag} {mg : Str → Option Value} {base : Heap}
/-! ### _law_model -/
def sp_model : Sp := fun vs H Q _ => ∃ l : Int, vs = [.int l] ∧ ∀ (d o u b : Addr) (H' : Hp), Same H H' → H d = none → H o = none → H u = none → H b = none → MdX H' d o u b ⟨l, [], [], []⟩ → Q (.ref d) H'
theorem cal__law_model (T : Tp K mg) : Cal P w K mg base 2 "_law_model" sp_model := by
  obtain ⟨fd, F⟩ := f__law_model T
  refine cal_of F (g__law_model T) (b__law_model F) sc__law_model (fun vs H Q E h => ?_) (fun cdv A outer s H vs Q E hr h => ?_)
  · obtain ⟨l, rfl, _⟩ := h
    rfl
  · obtain ⟨l, rfl, q⟩ := h
    refine ⟨_, (pss_one (ps_ret (pe_disp (pps_cons pe_str (pv 0) (pps_cons pe_str (pe_lst pa_nil) (pps_cons pe_str (pe_lst pa_nil) (pps_cons pe_str (pe_lst pa_nil) pps_nil)))) (by rfl) (by rfl) (fun z => by cases z) (by decide)))), ?_⟩
    refine fun d nd => ⟨_, rfl, Nat.zero_le _, fun o no => ⟨Nat.zero_le _, fun u nu => ⟨Nat.zero_le _, fun b nb => ?_⟩⟩⟩
    have s0 := same_upd (o := .dK []) nd
    have s1 := same_upd (o := .lst []) no
    have s2 := same_upd (o := .lst []) nu
    have s3 := same_upd (o := .lst []) nb
    have ed := s3 _ _ (s2 _ _ (s1 _ _ (upd_same (H := H) (a := d) (o := .dK []))))
    have eo := s3 _ _ (s2 _ _ (upd_same (H := upd H d (.dK [])) (a := o) (o := .lst [])))
    have eu := s3 _ _ (upd_same (H := upd (upd H d (.dK [])) o (.lst [])) (a := u) (o := .lst []))
    have eb := upd_same (H := upd (upd (upd H d (.dK [])) o (.lst [])) u (.lst [])) (a := b) (o := .lst [])
    have nod : o ≠ d := (ne_of ed eo (by intro z; cases z)).symm
    have nud : u ≠ d := (ne_of ed eu (by intro z; cases z)).symm
    have nbd : b ≠ d := (ne_of ed eb (by intro z; cases z)).symm
    have nou : o ≠ u := ne_of_none (s1 _ _ upd_same |> fun _ => upd_same) nu
    have nob : o ≠ b := ne_of_none (s2 _ _ upd_same) nb
    have nub : u ≠ b := ne_of_none upd_same nb
    refine ⟨ed, [(kBy, .int l), (kOwn, .ref o), (kWd, .ref u), (kBd, .ref b)], rfl, (by show 4 ≤ 15; decide), ?_⟩
    rw [mk_merge]
    refine q d o u b _ (fun x y e => ?_) nd (s0.free no) ((s0.trans s1).free nu) (((s0.trans s1).trans s2).free nb) ⟨upd_same, by rw [upd_ne nod]; exact eo, ⟨[], by rw [upd_ne nud]; exact eu, .nil⟩, ⟨[], by rw [upd_ne nbd]; exact eb, .nil⟩, nou, nob, nub⟩
    rw [upd_ne (ne_of_none e nd)]
    exact s3 _ _ (s2 _ _ (s1 _ _ (s0 _ _ e)))
/-! ### _law_points -/
def sp_lpoints : Sp := fun vs H Q _ => ∃ (d : Addr) (m : Md), vs = [.ref d] ∧ MdAt H d m ∧ m.own.length ≤ 14 ∧ m.wd.length ≤ 14 ∧ ∀ (q : Addr) (H' : Hp), Same H H' → H q = none → H' q = some (.lst (m.pts.map V.str)) → Q (.ref q) H'
theorem cal__law_points (T : Tp K mg) : Cal P w K mg base 2 "_law_points" sp_lpoints := by
  obtain ⟨fd, F⟩ := f__law_points T
  refine cal_of F (g__law_points T) (b__law_points F) sc__law_points (fun vs H Q E h => ?_) (fun cdv A outer s H vs Q E hr h => ?_)
  · obtain ⟨d, m, rfl, _⟩ := h
    rfl
  · obtain ⟨d, m, rfl, M, l1, l2, q⟩ := h
    have hu := hu_of hr
    obtain ⟨o, u, b, ws, bs, h1, h2, h3, h4, h5, h6, h7⟩ := M.ex
    have hw : ws.length = m.wd.length := by rw [h4.len, List.length_map]
    refine ⟨_, (pss_one (ps_ret (pe_op op_cat (pe_op op_cat (pe_lst (pa_cons pe_str pa_nil)) (pe_dget hu (pv 0) pe_str (fun _ _ => rfl))) (pe_lc (own := [("_law_wind_here", 1)]) (g := gName 1) (tt := tYes) rfl sc__law_points.nd (pi_list (pe_dget hu (pv 0) pe_str (fun _ _ => rfl))) (blkOk_by (N := N__law_points) (sc := defScope s__law_points) (by decide +kernel)) (fun _ _ _ _ _ => (pg_name (i := 1) sc__law_points.nd rfl (.inl rfl))) (fun _ _ _ _ _ => pts_nil) (fun _ _ _ _ _ => (pe_ix (ix_tupK (K := K) rfl) (pv 1) pe_int (fun _ _ => rfl))))))), ?_⟩
    refine ⟨by show 1 ≤ sizeLine; decide, fun l nl => ?_⟩
    have s1 := same_upd (o := .lst [.str "start"]) nl
    refine ⟨_, rfl, d, _, rfl, mk_own (s1 _ _ h1), l, o, _, _, rfl, rfl, upd_same, s1 _ _ h2, ?_, fun r nr => ?_⟩
    · rw [List.length_map]
      exact Nat.le_of_lt (small1000 (by show 1 + _ ≤ 1000; omega))
    · have s2 := same_upd (o := .lst ([.str "start"] ++ m.own.map V.str)) nr
      have sa := s1.trans s2
      refine ⟨_, rfl, d, _, rfl, mk_wd (sa _ _ h1), u, rfl, ⟨_, .inl (.inl (sa _ _ h3))⟩, fun D nD => ?_⟩
      have nDH : H D = none := sa.free nD
      refine lc_list (K := K) (a := u) (xs := ws) (fun i H1 => Same (upd (upd H l (.lst [.str "start"])) r (.lst ([.str "start"] ++ m.own.map V.str))) H1 ∧ H1 D = some (.lst (((m.wd.map (·.en)).take i).map V.str)))
        ⟨same_upd nD, upd_same⟩ (fun i H1 _ ⟨s3, _⟩ => .inl (.inl (s3 _ _ (sa _ _ h3)))) ?_ ?_
      · rintro i x H1 hx ⟨s3, d1⟩
        obtain ⟨t, r', rfl, hr', ht⟩ := h4.at hx
        rw [List.getElem?_map] at hr'
        cases e : m.wd[i]? with
        | none =>
          rw [e] at hr'
          cases hr'
        | some y =>
          rw [e] at hr'
          cases hr'
          have hi : i < m.wd.length := (List.getElem?_eq_some_iff.mp e).1
          refine ⟨rfl, yes_i (iteT ⟨_, rfl, t, _, 0, _, rfl, rfl, .inl (.inl (s3 _ _ (sa _ _ ht))), atI_nat (j := 0) rfl, _, d1, ?_, ?_, ?_⟩)⟩
          · rw [List.length_map, List.length_take]
            exact small1000 (by omega)
          · exact same_put s3 nD
          · rw [upd_same, List.take_add_one, List.getElem?_map, e, List.map_append]
            rfl
      · rintro H1 ⟨s3, d1⟩
        have en : (m.wd.map (·.en)).take ws.length = m.wd.map (·.en) := List.take_of_length_le (by rw [List.length_map]; omega)
        rw [en] at d1
        refine ⟨r, D, _, _, rfl, rfl, s3 _ _ upd_same, d1, ?_, fun x nx => ?_⟩
        · rw [List.length_append, List.length_map, List.length_map, List.length_map]
          exact Nat.le_of_lt (small1000 (by show 1 + _ + _ ≤ 1000; omega))
        · have s4 := same_upd (o := .lst ([.str "start"] ++ m.own.map V.str ++ (m.wd.map (·.en)).map V.str)) nx
          have sb := sa.trans s3
          refine q x _ (sb.trans s4) (sb.free nx) ?_
          rw [upd_same]
          unfold Md.pts
          rw [List.map_cons, List.map_append]
          rfl
/-! ### _law_wind -/
structure WdOk (own : List Str) (x : Wd) : Prop where
  bg : x.bg = "start" ∨ x.bg ∈ own
  lo : 1 ≤ x.lo
  hi : x.lo ≤ x.hi
  top : x.hi ≤ 1000
  la : ∀ i, x.la = some i → 0 ≤ i ∧ i ≤ 1000
def sp_wind : Sp := fun vs H Q _ => ∃ (f c o : Addr) (z : Str) (own : List Str) (far : Int), vs = [.ref f, .str z, .ref o, .int far] ∧ Flow H f c ∧ H o = some (.lst (own.map V.str)) ∧ own.length ≤ 14 ∧ 1 ≤ far ∧ far ≤ 500 ∧
  ∀ (t : Addr) (x : Wd) (H' : Hp), Sb f H H' → Flow H' f c → H t = none → H' t = some (.tup x.row) → x.en = z → WdOk own x → (x.lo ≤ far ∧ x.hi < 2 * far ∧ ∀ i, x.la = some i → i ≤ far) → Q (.ref t) H'
theorem cal__law_wind (T : Tp K mg) : Cal P w K mg base 4 "_law_wind" sp_wind := by
  obtain ⟨fd, F⟩ := f__law_wind T
  refine cal_of F (g__law_wind T) (b__law_wind F) sc__law_wind (fun vs H Q E h => ?_) (fun cdv A outer s H vs Q E hr h => ?_)
  · obtain ⟨f, c, o, z, own, far, rfl, _⟩ := h
    rfl
  · obtain ⟨f, c, o, z, own, far, rfl, FL, ho, hl, f0, f1, q⟩ := h
    refine ⟨_, (pss_cons (ps_set (i := 4) sc__law_wind.nd rfl (.inl rfl) (pe_op op_add pe_int (C8.pe_c (cal__law_draw T) hr (by decide) rfl (pa_cons (pv 0) (pa_cons (pv 3) pa_nil)))))
      (pss_cons (ps_set (i := 5) sc__law_wind.nd rfl (.inl rfl) (pe_op op_add (pv 4) (C8.pe_c (cal__law_draw T) hr (by decide) rfl (pa_cons (pv 0) (pa_cons (pv 3) pa_nil)))))
      (pss_cons (ps_set (i := 6) sc__law_wind.nd rfl (.inl rfl) (pe_ix ix_list (pe_lst (pa_cons pe_int (pa_cons pe_int (pa_cons pe_int (pa_cons (pe_op op_add pe_int (C8.pe_c (cal__law_draw T) hr (by decide) rfl (pa_cons (pv 0) (pa_cons (pv 3) pa_nil)))) (pa_cons pe_non pa_nil)))))) (C8.pe_c (cal__law_draw T) hr (by decide) rfl (pa_cons (pv 0) (pa_cons pe_int pa_nil))) (fun _ _ => rfl)))
      (pss_one (ps_ret (pe_tup (pa_cons (pv 1) (pa_cons (C8.pe_c (cal__law_pick T) hr (by decide) rfl (pa_cons (pv 0) (pa_cons (pe_op op_cat (pe_lst (pa_cons pe_str pa_nil)) (pv 2)) pa_nil))) (pa_cons (pv 4) (pa_cons (pv 5) (pa_cons (pv 6) pa_nil))))))))))), ?_⟩
    have nof := strs_flow FL ho
    obtain ⟨zs, hf⟩ := FL.lst
    obtain ⟨ys, hc⟩ := FL.cells
    refine ⟨_, rfl, _, rfl, f, c, far, rfl, FL, by omega, by omega, fun v1 H1 a1 b1 sb1 F1 => ⟨1, v1, rfl, rfl, ?_⟩⟩
    refine ⟨_, rfl, _, rfl, _, rfl, f, c, far, rfl, F1, by omega, by omega, fun v2 H2 a2 b2 sb2 F2 => ⟨_, _, rfl, rfl, ?_⟩⟩
    refine ⟨_, rfl, _, rfl, f, c, far, rfl, F2, by omega, by omega, fun v3 H3 a3 b3 sb3 F3 => ⟨1, v3, rfl, rfl, (by show 5 ≤ sizeLine; decide), fun l nl => ?_⟩⟩
    obtain ⟨zs3, hf3⟩ := F3.lst
    obtain ⟨ys3, hc3⟩ := F3.cells
    have sl := same_upd (o := .lst [.int 0, .int 0, .int 0, .int (1 + v3), .non]) nl
    have nlf : l ≠ f := (ne_of_none hf3 nl).symm
    refine ⟨_, rfl, f, c, 5, rfl, F3.same sl, by decide, by decide, fun v4 H4 a4 b4 sb4 F4 => ?_⟩
    have sb : Sb f H H4 := ((sb1.trans sb2).trans (sb3.trans (Sb.of sl))).trans sb4
    have hl4 := sb4 _ _ (upd_same (H := H3) (a := l) (o := .lst [.int 0, .int 0, .int 0, .int (1 + v3), .non])) nlf
    obtain ⟨la, ela, hla⟩ : ∃ la : Option Int, ([.int 0, .int 0, .int 0, .int (1 + v3), .non] : List V)[v4.toNat]? = some (oV la) ∧ ∀ i, la = some i → 0 ≤ i ∧ i ≤ far := by
      have hv : v4.toNat < 5 := by omega
      match v4.toNat, hv with
      | 0, _ => exact ⟨some 0, rfl, fun i e => by cases e; omega⟩
      | 1, _ => exact ⟨some 0, rfl, fun i e => by cases e; omega⟩
      | 2, _ => exact ⟨some 0, rfl, fun i e => by cases e; omega⟩
      | 3, _ => exact ⟨some (1 + v3), rfl, fun i e => by cases e; omega⟩
      | 4, _ => exact ⟨none, rfl, fun i e => by cases e⟩
    refine ⟨l, _, v4, oV la, rfl, rfl, .inl (.inl hl4), at_of (j := v4.toNat) (by omega) ela, ?_⟩
    -- the tuple
    have ho4 := sb _ _ ho nof
    refine ⟨_, rfl, _, rfl, (by show 1 ≤ sizeLine; decide), fun p np => ?_⟩
    have sp1 := same_upd (o := .lst [.str "start"]) np
    refine ⟨_, rfl, p, o, _, _, rfl, rfl, upd_same, sp1 _ _ ho4, ?_, fun r nr => ?_⟩
    · rw [List.length_map]
      exact Nat.le_of_lt (small1000 (by show 1 + _ ≤ 1000; omega))
    · have sp2 := same_upd (o := .lst ([.str "start"] ++ own.map V.str)) nr
      have F5 := (F4.same sp1).same sp2
      have er : (upd (upd H4 p (.lst [.str "start"])) r (.lst ([.str "start"] ++ own.map V.str))) r = some (.lst ((("start" : Str) :: own).map V.str)) := upd_same
      refine ⟨f, c, r, _, rfl, F5, er, strs_flow F5 er, by rw [List.length_map]; exact Nat.succ_pos _, by rw [List.length_map]; show own.length + 1 ≤ 1000; omega, fun v H6 hv sb6 F6 => ?_⟩
      obtain ⟨g, hg, rfl⟩ := List.mem_map.mp hv
      refine ⟨_, rfl, _, rfl, _, rfl, (by show 5 ≤ sizeLine; decide), fun t nt => ?_⟩
      have sbA : Sb f H H6 := (sb.trans (Sb.of (sp1.trans sp2))).trans sb6
      have st := same_upd (o := .tup (Wd.row ⟨z, g, 1 + v1, 1 + v1 + v2, la⟩)) nt
      have ntH : H t = none := by
        cases e : H t with
        | none => rfl
        | some y =>
          have ntf : t ≠ f := fun z => by
            obtain ⟨zs6, hf6⟩ := F6.lst
            rw [z, hf6] at nt
            cases nt
          rw [sbA _ _ e ntf] at nt
          cases nt
      exact q t ⟨z, g, 1 + v1, 1 + v1 + v2, la⟩ _ (sbA.trans (Sb.of st)) (F6.same st) ntH upd_same rfl ⟨by
        rcases List.mem_cons.mp hg with e | e
        · exact .inl e
        · exact .inr e, by show 1 ≤ 1 + v1; omega, by show 1 + v1 ≤ 1 + v1 + v2; omega, by show 1 + v1 + v2 ≤ 1000; omega, fun i e => by
          have := hla i e
          omega⟩ ⟨by show 1 + v1 ≤ far; omega, by show 1 + v1 + v2 < 2 * far; omega, fun i e => (hla i e).2⟩
/-! ### _law_bond -/
structure BdOk (pts : List Str) (x : Bd) : Prop where
  one : x.one ∈ pts
  oth : x.oth ∈ pts
  ne : ¬ x.one = x.oth
  b : BOk x.bot x.top
def sp_bond : Sp := fun vs H Q _ => ∃ (f c o : Addr) (pts : List Str) (far : Int), vs = [.ref f, .ref o, .int far] ∧ Flow H f c ∧ H o = some (.lst (pts.map V.str)) ∧ 2 ≤ pts.length ∧ pts.length ≤ 100 ∧ pts.Nodup ∧ 1 ≤ far ∧ far ≤ 250 ∧
  ∀ (t : Addr) (x : Bd) (H' : Hp), Sb f H H' → Flow H' f c → H t = none → H' t = some (.tup x.row) → BdOk pts x → Q (.ref t) H'
theorem bok_lo {a : Int} (h1 : -1000 ≤ a) (h2 : a ≤ 1000) : BOk (some a) none := by
  refine ⟨fun z => (nomatch z.1), fun x e => ?_, fun x e => (nomatch e), fun x y _ e => (nomatch e)⟩
  cases e
  exact ⟨h1, h2⟩
theorem bok_hi {a : Int} (h1 : -1000 ≤ a) (h2 : a ≤ 1000) : BOk none (some a) := by
  refine ⟨fun z => (nomatch z.2), fun x e => (nomatch e), fun x e => ?_, fun x y e _ => (nomatch e)⟩
  cases e
  exact ⟨h1, h2⟩
theorem bok_two {a b : Int} (h1 : -1000 ≤ a) (h2 : a ≤ 1000) (h3 : -1000 ≤ b) (h4 : b ≤ 1000) (h5 : a ≤ b) : BOk (some a) (some b) := by
  refine ⟨fun z => (nomatch z.1), fun x e => ?_, fun x e => ?_, fun x y e e2 => ?_⟩
  · cases e
    exact ⟨h1, h2⟩
  · cases e
    exact ⟨h3, h4⟩
  · cases e
    cases e2
    exact h5
theorem sb_free {f c t : Addr} {H H' : Hp} (sb : Sb f H H') (F : Flow H' f c) (nt : H' t = none) : H t = none := by
  cases e : H t with
  | none => rfl
  | some y =>
    have ntf : t ≠ f := fun z => by
      obtain ⟨zs, hf⟩ := F.lst
      rw [z, hf] at nt
      cases nt
    rw [sb _ _ e ntf] at nt
    cases nt
theorem cal__law_bond (T : Tp K mg) : Cal P w K mg base 4 "_law_bond" sp_bond := by
  obtain ⟨fd, F⟩ := f__law_bond T
  refine cal_of F (g__law_bond T) (b__law_bond F) sc__law_bond (fun vs H Q E h => ?_) (fun cdv A outer s H vs Q E hr h => ?_)
  · obtain ⟨f, c, o, pts, far, rfl, _⟩ := h
    rfl
  · obtain ⟨f, c, o, pts, far, rfl, FL, ho, p2, p3, nd, f0, f1, q⟩ := h
    refine ⟨_, (pss_cons (ps_set (i := 3) sc__law_bond.nd rfl (.inl rfl) (pe_callTy call_list_of (by rfl) (z_list T) bb_list (pa_cons (pv 1) pa_nil)))
      (pss_cons (ps_set (i := 4) sc__law_bond.nd rfl (.inl rfl) (pe_bm PySem.F.plainAttrs_list PySem.F.slot_list_pop PySem.F.type_list_pop mt_popAt (pv 3) (pa_cons (C8.pe_c (cal__law_draw T) hr (by decide) rfl (pa_cons (pv 0) (pa_cons (pe_callB call_len_seq (by rfl) (z_len T) bb_len (pa_cons (pv 3) pa_nil)) pa_nil))) pa_nil)))
      (pss_cons (ps_set (i := 5) sc__law_bond.nd rfl (.inl rfl) (C8.pe_c (cal__law_pick T) hr (by decide) rfl (pa_cons (pv 0) (pa_cons (pv 3) pa_nil))))
      (pss_cons (ps_set (i := 6) sc__law_bond.nd rfl (.inl rfl) (pe_op op_sub (C8.pe_c (cal__law_draw T) hr (by decide) rfl (pa_cons (pv 0) (pa_cons (pe_op op_add (pe_op op_mul pe_int (pv 2)) pe_int) pa_nil))) (pv 2)))
      (pss_cons (ps_set (i := 7) sc__law_bond.nd rfl (.inl rfl) (pe_op op_add (pv 6) (C8.pe_c (cal__law_draw T) hr (by decide) rfl (pa_cons (pv 0) (pa_cons (pe_op op_add (pe_op op_mul pe_int (pv 2)) pe_int) pa_nil)))))
      (pss_cons (ps_set (i := 8) sc__law_bond.nd rfl (.inl rfl) (C8.pe_c (cal__law_draw T) hr (by decide) rfl (pa_cons (pv 0) (pa_cons pe_int pa_nil))))
      (pss_cons (ps_if (pt_cmpR op_eq (pv 8) pe_int (nomark _)) (pss_one (ps_ret (pe_tup (pa_cons (pv 4) (pa_cons (pv 5) (pa_cons (pv 6) (pa_cons pe_non pa_nil))))))) pss_nil)
      (pss_cons (ps_if (pt_cmpR op_eq (pv 8) pe_int (nomark _)) (pss_one (ps_ret (pe_tup (pa_cons (pv 4) (pa_cons (pv 5) (pa_cons pe_non (pa_cons (pv 7) pa_nil))))))) pss_nil)
      (pss_one (ps_ret (pe_tup (pa_cons (pv 4) (pa_cons (pv 5) (pa_cons (pv 6) (pa_cons (pv 7) pa_nil))))))))))))))), ?_⟩
    refine ⟨_, rfl, o, _, rfl, .inl (.inl (.inl ho)), fun l nl => ?_⟩
    have s1 := same_upd (o := .lst (pts.map V.str)) nl
    have F1 := FL.same s1
    obtain ⟨zs, hf⟩ := FL.lst
    obtain ⟨ys, hc⟩ := FL.cells
    have nlf : l ≠ f := (ne_of_none hf nl).symm
    have ncl : c ≠ l := ne_of_none hc nl
    refine ⟨_, rfl, .inl ⟨rfl, _, .inl (.inl upd_same)⟩, _, rfl, _, rfl, l, _, rfl, .inl (.inl (.inl upd_same)), f, c, _, rfl, F1, by rw [List.length_map]; omega, by rw [List.length_map]; omega, fun v H2 v0 v1 sb2 F2 => ?_⟩
    rw [List.length_map] at v1
    have hv : v.toNat < pts.length := by omega
    have hl2 := sb2 _ _ (upd_same (H := H) (a := l) (o := .lst (pts.map V.str))) nlf
    refine ⟨l, _, v, v.toNat, .str pts[v.toNat], rfl, rfl, hl2, by omega, by omega, ?_, ?_, ?_⟩
    · unfold seqIndex?
      rw [if_neg (show ¬ v < 0 by omega), if_pos (by simp only [Bool.and_eq_true, decide_eq_true_eq, List.length_map]; omega)]
    · rw [List.getElem?_map, List.getElem?_eq_getElem hv]
      rfl
    · have F3 : Flow (upd H2 l (.lst ((pts.map V.str).eraseIdx v.toNat))) f c := F2.upd nlf.symm ncl
      have hl3 : (upd H2 l (.lst ((pts.map V.str).eraseIdx v.toNat))) l = some (.lst ((pts.eraseIdx v.toNat).map V.str)) := by rw [upd_same, erase_map]
      have hlen : ((pts.eraseIdx v.toNat).map V.str).length = pts.length - 1 := by rw [List.length_map, List.length_eraseIdx_of_lt hv]
      have sb3 : Sb f H (upd H2 l (.lst ((pts.map V.str).eraseIdx v.toNat))) := fun b x e nb => by
        rw [upd_ne (ne_of_none e nl)]
        exact sb2 _ _ (s1 _ _ e) nb
      refine ⟨_, rfl, _, rfl, f, c, l, _, rfl, F3, hl3, nlf, by omega, by omega, fun y H4 hy sb4 F4 => ?_⟩
      obtain ⟨g, hg, rfl⟩ := List.mem_map.mp hy
      have nd2 : (pts[v.toNat] :: pts.eraseIdx v.toNat).Nodup := (pull_perm pts v.toNat hv).nodup_iff.mpr nd
      have hgp : g ∈ pts := (pull_perm pts v.toNat hv).mem_iff.mp (List.mem_cons_of_mem _ hg)
      have hne : ¬ pts[v.toNat] = g := fun e => (List.nodup_cons.mp nd2).1 (e ▸ hg)
      have sbA := sb3.trans sb4
      refine ⟨_, rfl, _, rfl, 3, far, rfl, rfl, .inl ⟨by decide, by decide⟩, _, 1, rfl, rfl, f, c, _, rfl, F4, by omega, by omega, fun v5 H5 a5 b5 sb5 F5 => ⟨_, rfl, _, _, rfl, rfl, ?_⟩⟩
      refine ⟨_, rfl, _, rfl, _, rfl, 2, far, rfl, rfl, .inl ⟨by decide, by decide⟩, _, 1, rfl, rfl, f, c, _, rfl, F5, by omega, by omega, fun v6 H6 a6 b6 sb6 F6 => ⟨_, _, rfl, rfl, ?_⟩⟩
      refine ⟨_, rfl, f, c, 5, rfl, F6, by decide, by decide, fun v7 H7 a7 b7 sb7 F7 => ?_⟩
      have sbB := ((sbA.trans sb5).trans sb6).trans sb7
      have hp : pts[v.toNat] ∈ pts := List.getElem_mem hv
      have done : ∀ (t : Addr) (bo to : Option Int), BOk bo to → H7 t = none → Q (.ref t) (upd H7 t (.tup [.str pts[v.toNat], .str g, oV bo, oV to])) := fun t bo to hb nt =>
        q t ⟨pts[v.toNat], g, bo, to⟩ _ (sbB.trans (Sb.of (same_upd nt))) (F7.same (same_upd nt)) (sb_free sbB F7 nt) upd_same ⟨hp, hgp, hne, hb⟩
      refine ⟨_, rfl, rfl, _, rfl, ite2 (fun e => ?_) (fun e => ?_)⟩
      · refine ⟨_, rfl, _, rfl, _, rfl, (by show 4 ≤ sizeLine; decide), fun t nt => done t (some (v5 - far)) none (bok_lo (by omega) (by omega)) nt⟩
      · refine ⟨_, rfl, rfl, _, rfl, ite2 (fun e => ?_) (fun e => ?_)⟩
        · refine ⟨_, rfl, _, rfl, _, rfl, (by show 4 ≤ sizeLine; decide), fun t nt => done t none (some (v5 - far + v6)) (bok_hi (by omega) (by omega)) nt⟩
        · refine ⟨_, rfl, _, rfl, _, rfl, _, rfl, (by show 4 ≤ sizeLine; decide), fun t nt => done t (some (v5 - far)) (some (v5 - far + v6)) (bok_two (by omega) (by omega) (by omega) (by omega) (by omega)) nt⟩
end
end Tw

set_option maxHeartbeats 4000000
namespace Tw
open PySem PySem.Spec PyProof.Rows L2
theorem cut_pre (ns : List Str) {a : Int} (h : 0 ≤ a) : cutV (ns.map V.str) none (some a) = (ns.take a.toNat).map V.str := by
  obtain ⟨k, rfl⟩ : ∃ k : Nat, a = k := ⟨a.toNat, by omega⟩
  unfold cutV
  rw [HT.sIx_none, HT.sIx_nat, List.drop_zero, Nat.sub_zero, Int.toNat_natCast, List.map_take]
  by_cases hk : k ≤ (ns.map V.str).length
  · rw [Nat.min_eq_left hk]
  · have past := Nat.le_of_lt (Nat.not_le.mp hk)
    rw [Nat.min_eq_right past, List.take_length]
    exact (List.take_of_length_le past).symm
theorem cut_suf (ns : List Str) {a : Int} (h : 0 ≤ a) : cutV (ns.map V.str) (some a) none = (ns.drop a.toNat).map V.str := by
  obtain ⟨k, rfl⟩ : ∃ k : Nat, a = k := ⟨a.toNat, by omega⟩
  unfold cutV
  rw [HT.sIx_none, HT.sIx_nat, Int.toNat_natCast, List.map_drop]
  by_cases hk : k ≤ (ns.map V.str).length
  · rw [Nat.min_eq_left hk]
    exact List.take_of_length_le (by rw [List.length_drop]; exact Nat.le_refl _)
  · have past := Nat.le_of_lt (Nat.not_le.mp hk)
    rw [Nat.min_eq_right past, List.drop_length, List.take_nil]
    exact (List.drop_of_length_le past).symm
/-- what a drawn picture keeps -/
structure MdOk (m : Md) : Prop where
  last : 1 ≤ m.last ∧ m.last ≤ 1000
  nd : (m.own ++ m.wd.map (·.en)).Nodup
  pool : ∀ z ∈ m.own ++ m.wd.map (·.en), z ∈ pool
  wd : ∀ x ∈ m.wd, WdOk m.own x
  bd : ∀ x ∈ m.bd, BdOk m.pts x
  len : m.own.length ≤ 10 ∧ m.wd.length ≤ 4 ∧ m.bd.length ≤ 40
def Near (far : Int) (x : Wd) : Prop := x.lo ≤ far ∧ x.hi < 2 * far ∧ ∀ i, x.la = some i → i ≤ far
theorem pts_nd {own : List Str} {ends : List Str} (nd : (own ++ ends).Nodup) (hp : ∀ z ∈ own ++ ends, z ∈ pool) : (("start" : Str) :: (own ++ ends)).Nodup :=
  List.nodup_cons.mpr ⟨fun h => (pool_nm (hp _ h)).2 rfl, nd⟩
section
variable {P : Program} {w : World} {K : PySem.W.Frag} {mg : Str → Option Value} {base : Heap}
def sp_drawn : Sp := fun vs H Q _ => ∃ (f c : Addr) (a b e far last : Int), vs = [.ref f, .int a, .int b, .int e, .int far, .int last] ∧ Flow H f c ∧ 1 ≤ a ∧ a ≤ 10 ∧ 0 ≤ b ∧ b ≤ 4 ∧ 0 ≤ e ∧ e ≤ 40 ∧ 1 ≤ far ∧ far ≤ 500 ∧ (e = 0 ∨ far ≤ 250) ∧ 1 ≤ last ∧ last ≤ 1000 ∧
  ∀ (d : Addr) (m : Md) (H' : Hp), Sb f H H' → Flow H' f c → H d = none → MdAt H' d m → MdOk m → m.last = last → m.own.length = a.toNat → m.wd.length = b.toNat → m.bd.length = e.toNat → (∀ x ∈ m.wd, Near far x) → Q (.ref d) H'
def sp_drawnX : Sp := fun vs H Q _ => ∃ (f c : Addr) (a b e far last : Int), vs = [.ref f, .int a, .int b, .int e, .int far, .int last] ∧ Flow H f c ∧ 1 ≤ a ∧ a ≤ 10 ∧ 0 ≤ b ∧ b ≤ 4 ∧ 0 ≤ e ∧ e ≤ 40 ∧ 1 ≤ far ∧ far ≤ 500 ∧ (e = 0 ∨ far ≤ 250) ∧ 1 ≤ last ∧ last ≤ 1000 ∧
  ∀ (d o u b' : Addr) (m : Md) (H' : Hp), Sb f H H' → Flow H' f c → H d = none → H b' = none → MdX H' d o u b' m → MdOk m → m.last = last → m.own.length = a.toNat → m.wd.length = b.toNat → m.bd.length = e.toNat → (∀ x ∈ m.wd, Near far x) → Q (.ref d) H'
theorem cal_drawnX (T : Tp K mg) : Cal P w K mg base 5 "_law_drawn" sp_drawnX := by
  obtain ⟨fd, F⟩ := f__law_drawn T
  refine cal_of F (g__law_drawn T) (b__law_drawn F) sc__law_drawn (fun vs H Q E h => ?_) (fun cdv A outer s H vs Q E hr h => ?_)
  · obtain ⟨f, c, a, b, e, far, last, rfl, _⟩ := h
    rfl
  · obtain ⟨f, c, a, b, e, far, last, rfl, FL, a1, a2, b1, b2, e1, e2, far1, far2, far3, last1, last2, q⟩ := h
    have hu := hu_of hr
    obtain ⟨zs, hf⟩ := FL.lst
    obtain ⟨ys, hc⟩ := FL.cells
    refine ⟨_, (pss_cons (ps_set (i := 6) sc__law_drawn.nd rfl (.inl rfl) (C8.pe_c (cal__law_model T) hr (by decide) rfl (pa_cons (pv 5) pa_nil)))
      (pss_cons (ps_set (i := 7) sc__law_drawn.nd rfl (.inl rfl) (C8.pe_c (cal__law_names T) hr (by decide) rfl (pa_cons (pv 0) (pa_cons (pe_op op_add (pv 1) (pv 2)) pa_nil))))
      (pss_cons (ps_dput hu (pv 6) pe_str (pe_slice sl_list (pv 7) po_none (po_some (pv 1))) rfl)
      (pss_cons (ps_for PassesOwn.never rfl (pi_list (pe_slice sl_list (pv 7) (po_some (pv 1)) po_none)) (pg_name (i := 8) sc__law_drawn.nd rfl (.inl rfl))
        (pss_one (ps_expr (pe_bm PySem.F.plainAttrs_list PySem.F.slot_list_append PySem.F.type_list_append mt_append (pe_dget hu (pv 6) pe_str (fun _ _ => rfl)) (pa_cons (C8.pe_c (cal__law_wind T) hr (by decide) rfl (pa_cons (pv 0) (pa_cons (pv 8) (pa_cons (pe_dget hu (pv 6) pe_str (fun _ _ => rfl)) (pa_cons (pv 4) pa_nil))))) pa_nil)))))
      (pss_cons (ps_for PassesOwn.never rfl (pi_range1 rfl (z_range T) (pa_cons (pv 3) pa_nil)) (pg_name (i := 9) sc__law_drawn.nd rfl (.inl rfl))
        (pss_one (ps_expr (pe_bm PySem.F.plainAttrs_list PySem.F.slot_list_append PySem.F.type_list_append mt_append (pe_dget hu (pv 6) pe_str (fun _ _ => rfl)) (pa_cons (C8.pe_c (cal__law_bond T) hr (by decide) rfl (pa_cons (pv 0) (pa_cons (C8.pe_c (cal__law_points T) hr (by decide) rfl (pa_cons (pv 6) pa_nil)) (pa_cons (pv 4) pa_nil)))) pa_nil)))))
      (pss_one (ps_ret (pv 6)))))))), ?_⟩
    refine ⟨_, rfl, last, rfl, fun d o0 u b' H1 s1 nd no0 nu nb' M1 => ?_⟩
    have F1 := FL.same s1
    refine ⟨_, rfl, _, rfl, _, rfl, _, _, rfl, rfl, f, c, a + b, rfl, F1, by omega, by omega, fun g ns H2 sb2 F2 ng hg len nns hp => ?_⟩
    have sbH2 : Sb f H H2 := (Sb.of s1).trans sb2
    have M2 := M1.sb F1 sb2
    -- m['own'] = names[:own]
    refine ⟨_, rfl, _, rfl, a, rfl, g, _, rfl, .inl (.inl hg), fun o no => ?_⟩
    rw [cut_pre ns (by omega)]
    have s3 := same_upd (o := .lst ((ns.take a.toNat).map V.str)) no
    have M3 := M2.same s3
    have F3 := F2.same s3
    have noH : H o = none := sb_free sbH2 F2 no
    refine ⟨_, rfl, d, _, rfl, DPut.k (k := kOwn) M3.dk (by show 4 < sizeLine; decide), ?_⟩
    rw [mk_putOwn]
    have hdo : ∀ x y, (upd H2 o (.lst ((ns.take a.toNat).map V.str))) x = some y → x ≠ d → (upd (upd H2 o (.lst ((ns.take a.toNat).map V.str))) d (.dK (mk last o u b'))) x = some y := fun x y ex nx => by
      rw [upd_ne nx]
      exact ex
    obtain ⟨ws3, hw3, _⟩ := M2.wd
    obtain ⟨bs3, hb3, _⟩ := M2.bd
    have nod : o ≠ d := (ne_of_none M2.dk no).symm
    have nou : o ≠ u := (ne_of_none hw3 no).symm
    have nob : o ≠ b' := (ne_of_none hb3 no).symm
    have nfd : f ≠ d := ne_of_none hf nd
    have ncd : c ≠ d := ne_of_none hc nd
    have nfu : f ≠ u := ne_of_none hf nu
    have ncu : c ≠ u := ne_of_none hc nu
    have nfb : f ≠ b' := ne_of_none hf nb'
    have ncb : c ≠ b' := ne_of_none hc nb'
    have M4 : MdX (upd (upd H2 o (.lst ((ns.take a.toNat).map V.str))) d (.dK (mk last o u b'))) d o u b' ⟨last, ns.take a.toNat, [], []⟩ := by
      have dd := M3.dk
      refine ⟨upd_same, hdo _ _ upd_same nod, ⟨ws3, hdo _ _ (s3 _ _ hw3) (ne_of (s3 _ _ hw3) dd (by intro z; cases z)), ?_⟩, ⟨bs3, hdo _ _ (s3 _ _ hb3) (ne_of (s3 _ _ hb3) dd (by intro z; cases z)), ?_⟩, nou, nob, M3.nwb⟩
      · obtain ⟨ws, h1, h2⟩ := M2.wd
        rw [hw3] at h1
        cases h1
        have e0 := h2.len
        have e1 : ws3 = [] := List.length_eq_zero_iff.mp e0
        rw [e1]
        exact .nil
      · obtain ⟨ws, h1, h2⟩ := M2.bd
        rw [hb3] at h1
        cases h1
        have e0 := h2.len
        have e1 : bs3 = [] := List.length_eq_zero_iff.mp e0
        rw [e1]
        exact .nil
    have F4 : Flow (upd (upd H2 o (.lst ((ns.take a.toNat).map V.str))) d (.dK (mk last o u b'))) f c := F3.upd nfd ncd
    have sbH4 : Sb f H (upd (upd H2 o (.lst ((ns.take a.toNat).map V.str))) d (.dK (mk last o u b'))) := fun x y ex nx => hdo _ _ (s3 _ _ (sbH2 _ _ ex nx)) (ne_of_none ex nd)
    have hg4 : (upd (upd H2 o (.lst ((ns.take a.toNat).map V.str))) d (.dK (mk last o u b'))) g = some (.lst (ns.map V.str)) := hdo _ _ (s3 _ _ hg) (ne_of (s3 _ _ hg) M3.dk (by intro z; cases z))
    -- for end in names[own:]
    refine ⟨_, rfl, _, rfl, a, rfl, g, _, rfl, .inl (.inl hg4), fun r nr => ?_⟩
    rw [cut_suf ns (by omega)]
    have s5 := same_upd (o := .lst ((ns.drop a.toNat).map V.str)) nr
    have M5 := M4.same s5
    have F5 := F4.same s5
    obtain ⟨ws4, hw4, _⟩ := M4.wd
    have nru : r ≠ u := (ne_of_none hw4 nr).symm
    have elen : (ns.take a.toNat).length = a.toNat := by
      rw [List.length_take]
      omega
    have blen : (ns.drop a.toNat).length = b.toNat := by
      rw [List.length_drop]
      omega
    have sbH5 := sbH4.trans (Sb.of s5)
    have spl : ns.take a.toNat ++ ns.drop a.toNat = ns := List.take_append_drop _ _
    refine ⟨r, rfl, ⟨_, .inl (.inl upd_same)⟩, for_list (K := K) (a := r) (xs := (ns.drop a.toNat).map V.str) (fun i σ H6 => ∃ (y : Option V) (ds : List Wd), σ = [some (.ref f), some (.int a), some (.int b), some (.int e), some (.int far), some (.int last), some (.ref d), some (.ref g), y, none] ∧
        Sb f H H6 ∧ Flow H6 f c ∧ MdX H6 d o u b' ⟨last, ns.take a.toNat, ds, []⟩ ∧ H6 r = some (.lst ((ns.drop a.toNat).map V.str)) ∧ ds.map (·.en) = (ns.drop a.toNat).take i ∧ ∀ x ∈ ds, WdOk (ns.take a.toNat) x ∧ Near far x)
      ⟨none, [], rfl, sbH5, F5, M5, upd_same, rfl, fun x hx => nomatch hx⟩ (fun i σ H6 _ ⟨_, _, _, _, _, _, h, _⟩ => .inl (.inl h)) ?_ ?_⟩
    · rintro i x σ H6 hx ⟨y, ds, rfl, sb6, F6, M6, hr6, eds, hds⟩
      rw [List.getElem?_map] at hx
      cases ez : (ns.drop a.toNat)[i]? with
      | none =>
        rw [ez] at hx
        cases hx
      | some z =>
        rw [ez] at hx
        cases hx
        obtain ⟨ws6, hw6, rw6⟩ := M6.wd
        refine ⟨_, rfl, d, _, rfl, mk_wd M6.dk, .inl ⟨rfl, _, .inl (.inl hw6)⟩, _, rfl, _, rfl, _, rfl, d, _, rfl, mk_own M6.dk, _, rfl, f, c, o, z, _, far, rfl, F6, M6.own, by show (ns.take a.toNat).length ≤ 14; omega, far1, far2, fun t x H7 sb7 F7 nt ht ex ok near => ?_⟩
        have M7 := M6.sb F6 sb7
        obtain ⟨ws7, hw7, rw7⟩ := M7.wd
        refine ⟨u, ws7, _, rfl, rfl, hw7, ?_, ?_⟩
        · rw [rw7.len, List.length_map]
          have hl : ds.length = i := by
            have := congrArg List.length eds
            rw [List.length_map, List.length_take] at this
            have hi : i < (ns.drop a.toNat).length := (List.getElem?_eq_some_iff.mp ez).1
            omega
          have hi : i < (ns.drop a.toNat).length := (List.getElem?_eq_some_iff.mp ez).1
          show ds.length < sizeLine
          exact small1000 (by omega)
        · refine ⟨_, ds ++ [x], rfl, ?_, F7.upd nfu ncu, M7.addW hw7 rw7 ht, ?_, ?_, ?_⟩
          · exact fun p v ep np => by
              rw [upd_ne (ne_of_none ep nu)]
              exact sb7 _ _ (sb6 _ _ ep np) np
          · rw [upd_ne nru]
            exact sb7 _ _ hr6 (strs_flow F6 hr6)
          · rw [List.map_append, eds, List.take_add_one, ez]
            show _ ++ [x.en] = _ ++ [z]
            rw [ex]
          · intro v hv
            rcases List.mem_append.mp hv with h | h
            · exact hds v h
            · have e : v = x := List.mem_singleton.mp h
              rw [e]
              exact ⟨ok, near⟩
    · rintro σ H6 ⟨y, ds, rfl, sb6, F6, M6, hr6, eds, hds⟩
      have eds : ds.map (·.en) = ns.drop a.toNat := by
        rw [eds]
        exact List.take_of_length_le (by rw [List.length_map]; exact Nat.le_refl _)
      have dlen : ds.length = b.toNat := by
        have := congrArg List.length eds
        rw [List.length_map] at this
        omega
      have pnd : (("start" : Str) :: (ns.take a.toNat ++ ds.map (·.en))).Nodup := pts_nd (by rw [eds, spl]; exact nns) (by rw [eds, spl]; exact hp)
      -- the ties
      refine ⟨_, rfl, e, rfl, by omega, by omega, ?_⟩
      refine for_range (lo := 0) (n := e.toNat) (fun i σ H7 => ∃ (y9 : Option V) (es : List Bd), σ = [some (.ref f), some (.int a), some (.int b), some (.int e), some (.int far), some (.int last), some (.ref d), some (.ref g), y, y9] ∧
        Sb f H H7 ∧ Flow H7 f c ∧ MdX H7 d o u b' ⟨last, ns.take a.toNat, ds, es⟩ ∧ es.length = i ∧ ∀ x ∈ es, BdOk (("start" : Str) :: (ns.take a.toNat ++ ds.map (·.en))) x) ⟨none, [], rfl, sb6, F6, M6, rfl, fun x hx => nomatch hx⟩ ?_ ?_
      · rintro i σ H7 hi ⟨y9, es, rfl, sb7, F7, M7, el, hes⟩
        obtain ⟨bs7, hb7, rb7⟩ := M7.bd
        refine ⟨_, rfl, d, _, rfl, mk_bd M7.dk, .inl ⟨rfl, _, .inl (.inl hb7)⟩, _, rfl, _, rfl, d, _, rfl, M7.at, by show (ns.take a.toNat).length ≤ 14; omega, by show ds.length ≤ 14; omega, fun pl H8 s8 npl hpl => ?_⟩
        have F8 := F7.same s8
        refine ⟨_, rfl, f, c, pl, _, far, rfl, F8, hpl, ?_, ?_, pnd, far1, by omega, fun t x H9 sb9 F9 nt ht ok => ?_⟩
        · show 2 ≤ (("start" : Str) :: (ns.take a.toNat ++ ds.map (·.en))).length
          rw [List.length_cons, List.length_append, elen]
          omega
        · show (("start" : Str) :: (ns.take a.toNat ++ ds.map (·.en))).length ≤ 100
          rw [List.length_cons, List.length_append, elen, List.length_map]
          omega
        · have M9 := (M7.same s8).sb F8 sb9
          obtain ⟨bs9, hb9, rb9⟩ := M9.bd
          refine ⟨b', bs9, _, rfl, rfl, hb9, ?_, _, es ++ [x], rfl, ?_, F9.upd nfb ncb, M9.addB hb9 rb9 ht, by rw [List.length_append, el]; rfl, ?_⟩
          · rw [rb9.len, List.length_map]
            show es.length < sizeLine
            exact small1000 (by omega)
          · exact fun p v ep np => by
              rw [upd_ne (ne_of_none ep nb')]
              exact sb9 _ _ (s8 _ _ (sb7 _ _ ep np)) np
          · intro v hv
            rcases List.mem_append.mp hv with h | h
            · exact hes v h
            · have e : v = x := List.mem_singleton.mp h
              rw [e]
              exact ok
      · rintro σ H7 ⟨y9, es, rfl, sb7, F7, M7, el, hes⟩
        refine ⟨_, rfl, q d o u b' ⟨last, ns.take a.toNat, ds, es⟩ H7 sb7 F7 nd nb' M7 ⟨⟨last1, last2⟩, ?_, ?_, fun x hx => (hds x hx).1, hes, ?_⟩ rfl elen dlen el fun x hx => (hds x hx).2⟩
        · show (ns.take a.toNat ++ ds.map (·.en)).Nodup
          rw [eds, spl]
          exact nns
        · show ∀ z ∈ ns.take a.toNat ++ ds.map (·.en), z ∈ pool
          rw [eds, spl]
          exact hp
        · show (ns.take a.toNat).length ≤ 10 ∧ ds.length ≤ 4 ∧ es.length ≤ 40
          omega
theorem cal_imp {k : Nat} {x : Str} {sp sp' : Sp} {dvs : List V} (c : C8.Cal P w K mg base k x sp dvs) (h : ∀ vs H Q E, sp' vs H Q E → sp vs H Q E) : C8.Cal P w K mg base k x sp' dvs :=
  let ⟨f, fd, ps, ds, F, a, b, c, d⟩ := c.ex
  ⟨f, fd, ps, ds, F.imp h, a, b, c, d⟩
theorem cal__law_drawn (T : Tp K mg) : Cal P w K mg base 5 "_law_drawn" sp_drawn := cal_imp (cal_drawnX T) fun vs H Q E h => by
  obtain ⟨f, c, a, b, e, far, last, e0, FL, h1, h2, h3, h4, h5, h6, h7, h8, h9, h10, h11, q⟩ := h
  exact ⟨f, c, a, b, e, far, last, e0, FL, h1, h2, h3, h4, h5, h6, h7, h8, h9, h10, h11, fun d o u b' m H' sb F' nd _ M => q d m H' sb F' nd M.at⟩
end
end Tw

set_option maxHeartbeats 4000000
namespace Tw
open PySem PySem.Spec PyProof.Rows L2
theorem nd_take {α : Type} {l : List α} {i : Nat} {z : α} (nd : l.Nodup) (e : l[i]? = some z) : ¬ z ∈ l.take i := by
  have h : (l.take (i + 1)).Nodup := List.Sublist.nodup (List.take_sublist _ _) nd
  rw [List.take_add_one, e] at h
  intro m
  exact (List.nodup_append.mp h).2.2 z m z (List.mem_singleton.mpr rfl) rfl
theorem row_of {xs : List V} {H : Hp} {α : Type} {f : α → List V} {l : List α} {i : Nat} {x : V} (R : Rows H xs (l.map f)) (hx : xs[i]? = some x) : ∃ t y, x = .ref t ∧ l[i]? = some y ∧ H t = some (.tup (f y)) := by
  obtain ⟨t, r, e, hr, ht⟩ := R.at hx
  rw [List.getElem?_map] at hr
  cases ey : l[i]? with
  | none =>
    rw [ey] at hr
    cases hr
  | some y =>
    rw [ey] at hr
    cases hr
    exact ⟨t, y, e, rfl, ht⟩
section
variable {P : Program} {w : World} {K : PySem.W.Frag} {mg : Str → Option Value} {base : Heap}
def sp_web (K : PySem.W.Frag) : Sp := fun vs H Q _ => ∃ (d : Addr) (m : Md), vs = [.ref d] ∧ MdAt H d m ∧ MdOk m ∧ ∀ (p : Addr) (H' : Hp), Same H H' → H p = none → WebAt (CW K) H' p m → Q (.ref p) H'
theorem cal__law_web (T : Tp K mg) : Cal P w K mg base 7 "_law_web" (sp_web K) := by
  obtain ⟨fd, F⟩ := f__law_web T
  refine cal_of F (g__law_web T) (b__law_web F) sc__law_web (fun vs H Q E h => ?_) (fun cdv A outer s H vs Q E hr h => ?_)
  · obtain ⟨d, m, rfl, _⟩ := h
    rfl
  · obtain ⟨d, m, rfl, M, ok, q⟩ := h
    have hu := hu_of hr
    obtain ⟨o, u, b, ws, bs, h1, h2, h3, h4, h5, h6, h7⟩ := M.ex
    have hlen := ok.len
    have ndo : m.own.Nodup := (List.nodup_append.mp ok.nd).1
    have nde : (m.wd.map (·.en)).Nodup := (List.nodup_append.mp ok.nd).2.1
    refine ⟨_, (pss_cons (ps_set (i := 1) sc__law_web.nd rfl (.inl rfl) (C8.pe_mk (mak_Web T) hr (by decide) rfl (pa_cons (pe_dget hu (pv 0) pe_str (fun _ _ => rfl)) pa_nil)))
      (pss_cons (ps_for PassesOwn.never rfl (pi_list (pe_dget hu (pv 0) pe_str (fun _ _ => rfl))) (pg_name (i := 2) sc__law_web.nd rfl (.inl rfl))
        (pss_one (ps_set (i := 1) sc__law_web.nd rfl (.inl rfl) (C8.pe_mt (met_Web_with_moment T) hr (by decide) (pv 1) (pa_cons (pv 2) pa_nil)))))
      (pss_cons (ps_for PassesOwn.never rfl (pi_list (pe_dget hu (pv 0) pe_str (fun _ _ => rfl))) (pg_tup rfl (pgs_cons (pg_name (i := 3) sc__law_web.nd rfl (.inl rfl)) (pgs_cons (pg_name (i := 4) sc__law_web.nd rfl (.inl rfl)) (pgs_cons (pg_name (i := 5) sc__law_web.nd rfl (.inl rfl)) (pgs_cons (pg_name (i := 6) sc__law_web.nd rfl (.inl rfl)) (pgs_cons (pg_name (i := 7) sc__law_web.nd rfl (.inl rfl)) pgs_nil))))))
        (pss_one (ps_set (i := 1) sc__law_web.nd rfl (.inl rfl) (pe_mg0 (met_Web_with_span T) hr (by decide) (pv 1) (pa_cons (pv 3) (pa_cons (pv 4) (pa_cons (pv 5) (pa_cons (pv 6) pa_nil)))) (pk_cons (pv 7) pk_nil)))))
      (pss_cons (ps_for PassesOwn.never rfl (pi_list (pe_dget hu (pv 0) pe_str (fun _ _ => rfl))) (pg_tup rfl (pgs_cons (pg_name (i := 8) sc__law_web.nd rfl (.inl rfl)) (pgs_cons (pg_name (i := 9) sc__law_web.nd rfl (.inl rfl)) (pgs_cons (pg_name (i := 10) sc__law_web.nd rfl (.inl rfl)) (pgs_cons (pg_name (i := 11) sc__law_web.nd rfl (.inl rfl)) pgs_nil)))))
        (pss_one (ps_set (i := 1) sc__law_web.nd rfl (.inl rfl) (pe_mg0 (met_Web_with_tie T) hr (by decide) (pv 1) (pa_cons (pv 8) (pa_cons (pv 9) pa_nil)) (pk_cons (pv 10) (pk_cons (pv 11) pk_nil))))))
      (pss_one (ps_ret (pv 1))))))), ?_⟩
    refine ⟨_, rfl, d, _, rfl, mk_by h1, fun x dx nx ndx ne => ⟨x, dx, m.last, rfl, upd_same, ok.last.1, ok.last.2, fun a0 b0 c0 H1 kp hp ha0 hb0 hc0 => ⟨rfl, ?_⟩⟩⟩
    have s1 : Same H H1 := Same.made nx ndx kp
    have W1 : WebAt (CW K) H1 x ⟨m.last, [], [], []⟩ := ⟨⟨dx, a0, b0, c0, [], [], hp, ha0, hb0, .nil, hc0, .nil⟩, ⟨by show 0 ≤ 10; decide, by show 0 ≤ 4; decide, by show 0 ≤ 40; decide⟩, ok.last⟩
    -- the moments
    refine ⟨_, rfl, d, _, rfl, mk_own (s1 _ _ h1), o, rfl, ⟨_, .inl (.inl (s1 _ _ h2))⟩, for_list (K := K) (a := o) (xs := m.own.map V.str) (fun i σ H2 => ∃ (p : Addr) (y : Option V), σ = [some (.ref d), some (.ref p), y, none, none, none, none, none, none, none, none, none] ∧
      Same H H2 ∧ H p = none ∧ WebAt (CW K) H2 p ⟨m.last, m.own.take i, [], []⟩) ⟨x, none, rfl, s1, nx, W1⟩ (fun i σ H2 _ ⟨_, _, _, s2, _⟩ => .inl (.inl (s2 _ _ h2))) ?_ ?_⟩
    · rintro i v σ H2 hv ⟨p, y, rfl, s2, np, W2⟩
      rw [List.getElem?_map] at hv
      cases ez : m.own[i]? with
      | none =>
        rw [ez] at hv
        cases hv
      | some z =>
        rw [ez] at hv
        cases hv
        have hi : i < m.own.length := (List.getElem?_eq_some_iff.mp ez).1
        have hz := pool_nm (ok.pool z (List.mem_append.mpr (.inl (List.mem_of_getElem? ez))))
        obtain ⟨dx2, _, _, _, _, _, g1, _⟩ := W2.ex
        refine ⟨_, rfl, p, dx2, _, rfl, g1, wf_no (by decide +kernel), _, rfl, p, _, z, rfl, W2, hz.1, ?_, ?_, fun r H3 s3 nr W3 => ?_⟩
        · intro hm
          rcases List.mem_cons.mp hm with e | e
          · exact hz.2 e
          · rcases List.mem_append.mp e with e | e
            · exact nd_take ndo ez e
            · cases e
        · show (m.own.take i).length < 10
          rw [List.length_take]
          omega
        · refine ⟨r, _, rfl, s2.trans s3, s2.free nr, ?_⟩
          rw [List.take_add_one, ez]
          exact W3
    · rintro σ H2 ⟨p, y, rfl, s2, np, W2⟩
      have e0 : m.own.take (m.own.map V.str).length = m.own := List.take_of_length_le (by rw [List.length_map]; exact Nat.le_refl _)
      rw [e0] at W2
      -- the spans
      refine ⟨_, rfl, d, _, rfl, mk_wd (s2 _ _ h1), u, rfl, ⟨_, .inl (.inl (s2 _ _ h3))⟩, for_list (K := K) (a := u) (xs := ws) (fun i σ H3 => ∃ (p : Addr) (y3 y4 y5 y6 y7 : Option V), σ = [some (.ref d), some (.ref p), y, y3, y4, y5, y6, y7, none, none, none, none] ∧
        Same H H3 ∧ H p = none ∧ WebAt (CW K) H3 p ⟨m.last, m.own, m.wd.take i, []⟩) ⟨p, none, none, none, none, none, rfl, s2, np, W2⟩ (fun i σ H3 _ ⟨_, _, _, _, _, _, _, s3, _⟩ => .inl (.inl (s3 _ _ h3))) ?_ ?_⟩
      · rintro i v σ H3 hv ⟨p, y3, y4, y5, y6, y7, rfl, s3, np, W3⟩
        obtain ⟨t, y, rfl, ey, ht⟩ := row_of h4 hv
        have hi : i < m.wd.length := (List.getElem?_eq_some_iff.mp ey).1
        have hy := ok.wd y (List.mem_of_getElem? ey)
        have een : (m.wd.map (·.en))[i]? = some y.en := by
          rw [List.getElem?_map, ey]
          rfl
        have hmem : y.en ∈ m.own ++ m.wd.map (·.en) := List.mem_append.mpr (.inr (List.mem_of_getElem? een))
        have hz := pool_nm (ok.pool y.en hmem)
        obtain ⟨dx3, _, _, _, _, _, g1, _⟩ := W3.ex
        refine ⟨t, y.row, rfl, .inl (.inl (s3 _ _ ht)), rfl, _, _, rfl, _, _, rfl, _, _, rfl, _, _, rfl, _, _, rfl, rfl, ?_⟩
        refine ⟨_, rfl, p, dx3, _, rfl, g1, wf_no (by decide +kernel), _, rfl, _, rfl, _, rfl, _, rfl, _, rfl, rfl, rfl, p, _, y, rfl, W3, ⟨hz.1, ?_, hy.bg, hy.lo, hy.hi, hy.top, hy.la, ?_⟩, fun r H4 s4 nr W4 => ?_⟩
        · intro hm
          rcases List.mem_cons.mp hm with e | e
          · exact hz.2 e
          · rcases List.mem_append.mp e with e | e
            · exact (List.nodup_append.mp ok.nd).2.2 _ e _ (List.mem_of_getElem? een) rfl
            · have e : y.en ∈ (m.wd.map (·.en)).take i := by
                rw [← List.map_take]
                exact e
              exact nd_take nde een e
        · show (m.wd.take i).length < 4
          rw [List.length_take]
          omega
        · refine ⟨r, _, _, _, _, _, rfl, s3.trans s4, s3.free nr, ?_⟩
          rw [List.take_add_one, ey]
          exact W4
      · rintro σ H3 ⟨p, y3, y4, y5, y6, y7, rfl, s3, np, W3⟩
        have ew : ws.length = m.wd.length := by rw [h4.len, List.length_map]
        have e0 : m.wd.take ws.length = m.wd := List.take_of_length_le (by omega)
        rw [e0] at W3
        -- the ties
        refine ⟨_, rfl, d, _, rfl, mk_bd (s3 _ _ h1), b, rfl, ⟨_, .inl (.inl (s3 _ _ h5))⟩, for_list (K := K) (a := b) (xs := bs) (fun i σ H4 => ∃ (p : Addr) (y8 y9 y10 y11 : Option V), σ = [some (.ref d), some (.ref p), y, y3, y4, y5, y6, y7, y8, y9, y10, y11] ∧
          Same H H4 ∧ H p = none ∧ WebAt (CW K) H4 p ⟨m.last, m.own, m.wd, m.bd.take i⟩) ⟨p, none, none, none, none, rfl, s3, np, W3⟩ (fun i σ H4 _ ⟨_, _, _, _, _, _, s4, _⟩ => .inl (.inl (s4 _ _ h5))) ?_ ?_⟩
        · rintro i v σ H4 hv ⟨p, y8, y9, y10, y11, rfl, s4, np, W4⟩
          obtain ⟨t, y, rfl, ey, ht⟩ := row_of h6 hv
          have hi : i < m.bd.length := (List.getElem?_eq_some_iff.mp ey).1
          have hy := ok.bd y (List.mem_of_getElem? ey)
          obtain ⟨dx4, _, _, _, _, _, g1, _⟩ := W4.ex
          refine ⟨t, y.row, rfl, .inl (.inl (s4 _ _ ht)), rfl, _, _, rfl, _, _, rfl, _, _, rfl, _, _, rfl, rfl, ?_⟩
          refine ⟨_, rfl, p, dx4, _, rfl, g1, wf_no (by decide +kernel), _, rfl, _, rfl, _, rfl, _, rfl, rfl, rfl, p, _, y, rfl, W4, ⟨hy.one, hy.oth, hy.ne, hy.b, ?_⟩, fun r H5 s5 nr W5 => ?_⟩
          · show (m.bd.take i).length < 40
            rw [List.length_take]
            omega
          · refine ⟨r, _, _, _, _, rfl, s4.trans s5, s4.free nr, ?_⟩
            rw [List.take_add_one, ey]
            exact W5
        · rintro σ H4 ⟨p, y8, y9, y10, y11, rfl, s4, np, W4⟩
          have eb : bs.length = m.bd.length := by rw [h6.len, List.length_map]
          have e0 : m.bd.take bs.length = m.bd := List.take_of_length_le (by omega)
          rw [e0] at W4
          exact ⟨_, rfl, q p H4 s4 np W4⟩
end
end Tw

set_option maxHeartbeats 4000000
namespace Tw
open PySem PySem.Spec PyProof.Rows L2
/-- two values that are the same through and through, at most n deep -/
theorem small8s {n : Nat} (h : n ≤ 8000000) : n < sizeLine := by
  show n < 16777216
  omega
def Sm : Nat → V → V → Hp → Prop
  | 0, _, _, _ => False
  | n + 1, x, y, H => (x = y ∧ flatV x = true) ∨ ∃ (a b : Addr) (xs ys : List V), x = .ref a ∧ y = .ref b ∧ ((H a = some (.lst xs) ∧ H b = some (.lst ys)) ∨ (H a = some (.tup xs) ∧ H b = some (.tup ys))) ∧ xs.length = ys.length ∧ xs.length ≤ 8000000 ∧
    ∀ (i : Nat) (x y : V), xs[i]? = some x → ys[i]? = some y → Sm n x y H
theorem Sm.same {H H' : Hp} (s : Same H H') : ∀ {n : Nat} {x y : V}, Sm n x y H → Sm n x y H'
  | 0, _, _, h => h.elim
  | n + 1, x, y, h => by
    rcases h with h | ⟨a, b, xs, ys, ex, ey, h, hl, hl2, hi⟩
    · exact .inl h
    · refine .inr ⟨a, b, xs, ys, ex, ey, ?_, hl, hl2, fun i x y h1 h2 => Sm.same s (hi i x y h1 h2)⟩
      rcases h with ⟨h1, h2⟩ | ⟨h1, h2⟩
      · exact .inl ⟨s _ _ h1, s _ _ h2⟩
      · exact .inr ⟨s _ _ h1, s _ _ h2⟩
theorem Sm.succ {H : Hp} : ∀ {n : Nat} {x y : V}, Sm n x y H → Sm (n + 1) x y H
  | 0, _, _, h => h.elim
  | n + 1, x, y, h => by
    rcases h with h | ⟨a, b, xs, ys, ex, ey, h, hl, hl2, hi⟩
    · exact .inl h
    · exact .inr ⟨a, b, xs, ys, ex, ey, h, hl, hl2, fun i x y h1 h2 => Sm.succ (hi i x y h1 h2)⟩
theorem Sm.flat {H : Hp} {n : Nat} {x : V} (h : flatV x = true) : Sm (n + 1) x x H := .inl ⟨rfl, h⟩
theorem sm_eq {H : Hp} {n : Nat} {x y : V} (e : x = y) (h : flatV x = true) : Sm (n + 1) x y H := by
  subst e
  exact Sm.flat h
theorem sm_lst {H : Hp} {a b : Addr} {xs ys : List V} {n : Nat} (h1 : H a = some (.lst xs)) (h2 : H b = some (.lst ys)) (hl : xs.length = ys.length) (h0 : xs.length ≤ 1000) (h : ∀ (i : Nat) (x y : V), xs[i]? = some x → ys[i]? = some y → Sm n x y H) : Sm (n + 1) (.ref a) (.ref b) H :=
  .inr ⟨a, b, xs, ys, rfl, rfl, .inl ⟨h1, h2⟩, hl, Nat.le_trans h0 (by decide), h⟩
theorem sm_tup {H : Hp} {a b : Addr} {xs ys : List V} {n : Nat} (h1 : H a = some (.tup xs)) (h2 : H b = some (.tup ys)) (hl : xs.length = ys.length) (h0 : xs.length ≤ 1000) (h : ∀ (i : Nat) (x y : V), xs[i]? = some x → ys[i]? = some y → Sm n x y H) : Sm (n + 1) (.ref a) (.ref b) H :=
  .inr ⟨a, b, xs, ys, rfl, rfl, .inr ⟨h1, h2⟩, hl, Nat.le_trans h0 (by decide), h⟩
theorem sm_flats {H : Hp} {xs : List V} {n : Nat} (hf : xs.all flatV = true) : ∀ (i : Nat) (x y : V), xs[i]? = some x → xs[i]? = some y → Sm (n + 1) x y H := fun i x y h1 h2 => by
  rw [h1] at h2
  cases h2
  exact Sm.flat (List.all_eq_true.mp hf x (List.mem_of_getElem? h1))
theorem sm_strs {H : Hp} {a b : Addr} {l : List Str} {n : Nat} (h1 : H a = some (.lst (l.map V.str))) (h2 : H b = some (.lst (l.map V.str))) (h0 : l.length ≤ 1000) : Sm (n + 2) (.ref a) (.ref b) H :=
  sm_lst h1 h2 rfl (by rw [List.length_map]; exact h0) (sm_flats (flat_strs l))
theorem sm_rows {H : Hp} {a b : Addr} {xs ys : List V} {rs : List (List V)} {n : Nat} (h1 : H a = some (.lst xs)) (h2 : H b = some (.lst ys)) (r1 : Rows H xs rs) (r2 : Rows H ys rs) (h0 : rs.length ≤ 1000) (hf : ∀ r ∈ rs, r.all flatV = true ∧ r.length ≤ 1000) : Sm (n + 3) (.ref a) (.ref b) H := by
  refine sm_lst h1 h2 (by rw [r1.len, r2.len]) (by rw [r1.len]; exact h0) fun i x y hx hy => ?_
  obtain ⟨t, r, rfl, hr, ht⟩ := r1.at hx
  obtain ⟨u, r', rfl, hr', hu⟩ := r2.at hy
  rw [hr] at hr'
  cases hr'
  have hr2 := hf r (List.mem_of_getElem? hr)
  exact sm_tup ht hu rfl hr2.2 (sm_flats hr2.1)
/-- rows, however many -/
theorem sm_rows8 {H : Hp} {a b : Addr} {xs ys : List V} {rs : List (List V)} {n : Nat} (h1 : H a = some (.lst xs)) (h2 : H b = some (.lst ys)) (r1 : Rows H xs rs) (r2 : Rows H ys rs) (h0 : rs.length ≤ 8000000) (hf : ∀ r ∈ rs, r.all flatV = true ∧ r.length ≤ 1000) : Sm (n + 3) (.ref a) (.ref b) H := by
  refine .inr ⟨a, b, xs, ys, rfl, rfl, .inl ⟨h1, h2⟩, by rw [r1.len, r2.len], by rw [r1.len]; exact h0, fun i x y hx hy => ?_⟩
  obtain ⟨t, r, rfl, hr, ht⟩ := r1.at hx
  obtain ⟨u, r', rfl, hr', hu⟩ := r2.at hy
  rw [hr] at hr'
  cases hr'
  have hr2 := hf r (List.mem_of_getElem? hr)
  exact sm_tup ht hu rfl hr2.2 (sm_flats hr2.1)
theorem rIx_of {K : PySem.W.Frag} {H : Hp} {a : Addr} {xs : List V} {i : Int} {v : V} {Q : VK} (h : SqL K H a xs ∨ SqT K H a xs) (e : atI xs i = some v) (q : Q v H) : rIx K (.ref a) (.int i) H Q := by
  rcases h with h | h
  · exact .inl ⟨a, xs, i, v, rfl, rfl, h, e, q⟩
  · exact .inr (.inl ⟨a, xs, i, v, rfl, rfl, h, e, q⟩)
theorem sq_same {K : PySem.W.Frag} {H H' : Hp} {a : Addr} {xs : List V} (s : Same H H') (h : SqL K H a xs ∨ SqT K H a xs) : SqL K H' a xs ∨ SqT K H' a xs := by
  rcases h with h | h
  · exact .inl (s.seq h)
  · refine .inr ?_
    rcases h with (h | ⟨o, h⟩) | h
    · exact .inl (.inl (s _ _ h))
    · exact .inl (.inr ⟨o, s _ _ h⟩)
    · exact .inr h
theorem lenV_of {K : PySem.W.Frag} {H : Hp} {a : Addr} {xs : List V} (h : SqL K H a xs ∨ SqT K H a xs) : LenV K (.ref a) H xs.length := by
  rcases h with h | h
  · exact .inl ⟨xs, h, rfl⟩
  · exact .inr ⟨xs, h, rfl⟩
section
variable {P : Program} {w : World} {K : PySem.W.Frag} {mg : Str → Option Value} {base : Heap}
def sp_same (n : Nat) : Sp := fun vs H Q _ => ∃ x y : V, vs = [x, y] ∧ Sm n x y H ∧ ∀ H', Same H H' → Q (.bl true) H'
end
end Tw

set_option maxHeartbeats 4000000
namespace Tw
open PySem PySem.Spec PyProof.Rows L2
section
variable {prog : Program} {w : World} {A : Around} {E : Value → Shared → Prop} {s : Shared} {K : PySem.W.Frag} {x C L f : Addr} {h₀ : Heap} {m : Str → Option Value} {ox : Obj} {od : Option Obj}
open PySem.W PySem.Calls Builtin in
/-- what truthy's own call of len finds: the answer of __len__, in its bounds -/
theorem len_ownBody {Q : Value → Shared → Prop} (X : K.In s.heap) (I : InstAt s.heap x ox C od) (hs : findIn K (.ref C) "__len__" = some (some (.ref f))) (hf : isFn K (.ref f) = true)
    (h : wpAny (model prog w) A (call (.ref f) [.ref x]) (PySem.W.LenBack Q) E s) : wpAny (model prog w) A (Builtin.«len» ⟨[.ref x], []⟩) (fun fin s' => ∃ r, fin = .done (.ret r) ∧ Q r s') E s := by
  have ask : ∀ {R : Option Value → Shared → Prop}, (∀ n u s', (0 ≤ n ∧ n < 2 ^ 63) → Q (.int n s'.toks) { s' with toks := s'.toks + 1 } → R (some (.int n u)) s') → wpAny (model prog w) A (callSpecial? (.ref x) (Str.ofString "__len__")) R E s := fun {R} k =>
    special_fn X I hs (beq_iff_eq.mp hf) (wpAny_mono h (fun r s' back => by
      cases r with
      | int n u => exact k n u s' back.1 back.2
      | _ => exact False.elim back) fun _ _ y => y)
  unfold Builtin.«len»
  repeat (first | with_reducible refine ask fun n u s' bnd back => ?_ | wp_step)
  rw [if_neg (Int.not_le.mpr bnd.2)]
  repeat wp_step
  exact ⟨_, rfl, back⟩
open PySem.W PySem.Calls Builtin in
theorem truthy_own {Q : Bool → Shared → Prop} (X : K.In s.heap) (I : InstAt s.heap x ox C od) (hb : findIn K (.ref C) "__bool__" = some none) (hs : findIn K (.ref C) "__len__" = some (some (.ref f))) (hf : isFn K (.ref f) = true)
    (h : wpAny (model prog w) A.in1 (call (.ref f) [.ref x]) (PySem.W.LenBack fun v s' => ∃ n t, v = .int n t ∧ Q (n != 0) s') E s) : wpAny (model prog w) A (truthy (.ref x)) Q E s := by
  have counted : ∀ {R : Value → Shared → Prop}, (∀ n t s', Q (n != 0) s' → R (.int n t) s') → wpAny (model prog w) A (runValue (.builtin "len" ⟨[.ref x], []⟩)) R E s := fun {R} k =>
    wpAny_runValue (codeAny_builtin entry_len (by
      rw [Around.under_plainId plain_len]
      refine wpAny_mono (len_ownBody X I hs hf h) ?_ fun _ _ z => z
      rintro _ s' ⟨_, rfl, n, t, rfl, q⟩
      exact k n t s' q))
  have noBool := looks_findIn (M := model prog w) X hb
  have hasLen := looks_findIn (M := model prog w) X hs
  unfold truthy callSpecial? specialOf
  repeat (first | with_reducible refine I.type.here ?_ | with_reducible refine noBool.here ?_ | with_reducible refine hasLen.here ?_ | with_reducible refine counted fun n t s' q => ?_ | assumption | wp_step)
theorem bool_new (l : Addr) : MeetsIn prog w (Builtin.«bool.__new__» ⟨[.type "bool", .ref l], []⟩) (fun A R s => wpAny (model prog w) A.in1 (truthy (.ref l)) (fun b s' => R (.ok (.ret (.bool b))) s') (fun e s' => R (.error e) s') s) :=
  .of_wp fun A R s hs => by
    have f1 := PySem.F.conv_sub_bool
    obtain ⟨hp, g, d, tk, os⟩ := s
    have ht : ∀ {Q : Bool → Shared → Prop}, (∀ b s', R (.ok (.ret (.bool b))) s' → Q b s') → wpAny (model prog w) A.in1 (truthy (.ref l)) Q (fun e s' => R (.error e) s') (Shared.mk hp g d tk os) := fun h => wpAny_mono hs (fun b s' z => h b s' z) fun _ _ z => z
    repeat (any_goals (first | assumption | (with_reducible refine ht fun b s' z => ?_) | wp_step))
    all_goals exact ⟨_, rfl, z⟩
end
section
variable {X : Cx} {k j : Nat} {C : Addr} {sp : Sp}
/-- bool(o) by an own __len__ -/
def rBoolO (C : Addr) (sp : Sp) : List V → Hp → VK → Prop := fun xs H Q => ∃ a dx fs, xs = [.ref a] ∧ H a = some (.ins C dx fs) ∧ sp [.ref a] H (fun v H' => ∃ i : Int, v = .int i ∧ 0 ≤ i ∧ i < 2 ^ 63 ∧ Q (.bl (i != 0)) H') E0
theorem call_boolO (c : Met X.prog X.w X.K X.mg X.base k C "__len__" sp) (nb : NoAttr X.K C "__bool__") (hr : Room j X.A) (hk : k + 3 ≤ j) : CallR X (.type "bool") (rBoolO C sp) := by
  rintro pins s σ H _ us Q I r ⟨a, dx, fs, rfl, here, q⟩
  obtain rfl := Vals.ref1 r
  obtain ⟨f, hs, hf, F⟩ := own0 c
  obtain ⟨_, J0, _⟩ := ins_get I.hok here
  obtain ⟨_, J, _⟩ := J0.look
  have room : Room k X.A.in1.in1.in1 := (hr.mono hk).in1.in1.in1
  refine callType_newIn PySem.F.called_bool PySem.F.newNe_bool (PySem.F.typeCall_bool_1 _) (PySem.F.newCall_bool_1 _) (fun obj => PySem.F.args_object_init_2 obj _) PySem.F.entry_bool_new (bool_new a) ?_
  refine truthy_own I.kIn J nb hs hf (thn (wpAny_call (SlX.run_at F room I.env0.in1.in1.in1 pass0 I r q)) ?_)
  rintro _ s1 ⟨_, H1, I1, rv, i, rfl, low, high, q1⟩
  obtain ⟨_, rfl⟩ := rv
  exact ⟨⟨low, high⟩, i, _, rfl, rfl, .bl (i != 0), H1, I1.tok _, rfl, q1⟩
end
end Tw

set_option maxHeartbeats 4000000
namespace Tw
open PySem PySem.Spec PyProof.Rows L2
theorem wd_flat (l : List Wd) : ∀ r ∈ l.map Wd.row, r.all flatV = true ∧ r.length ≤ 1000 := fun r h => by
  obtain ⟨x, _, rfl⟩ := List.mem_map.mp h
  refine ⟨?_, by show 5 ≤ 1000; decide⟩
  unfold Wd.row
  cases x.la <;> rfl
theorem bd_flat (l : List Bd) : ∀ r ∈ l.map Bd.row, r.all flatV = true ∧ r.length ≤ 1000 := fun r h => by
  obtain ⟨x, _, rfl⟩ := List.mem_map.mp h
  refine ⟨?_, by show 4 ≤ 1000; decide⟩
  unfold Bd.row
  cases x.bot <;> cases x.top <;> rfl
theorem sm_three {H : Hp} {a b : Addr} {x1 x2 x3 y1 y2 y3 : V} {n : Nat} (h1 : H a = some (.lst [x1, x2, x3])) (h2 : H b = some (.lst [y1, y2, y3])) (e1 : Sm n x1 y1 H) (e2 : Sm n x2 y2 H) (e3 : Sm n x3 y3 H) : Sm (n + 1) (.ref a) (.ref b) H := by
  refine sm_lst h1 h2 rfl (by show 3 ≤ 1000; decide) fun i x y hx hy => ?_
  match i, hx, hy with
  | 0, hx, hy =>
    cases hx
    cases hy
    exact e1
  | 1, hx, hy =>
    cases hx
    cases hy
    exact e2
  | 2, hx, hy =>
    cases hx
    cases hy
    exact e3
theorem empty_web : Str.empty ++ ("Web(" : Str) = ("Web(" : Str) := by decide +kernel
section
variable {P : Program} {w : World} {K : PySem.W.Frag} {mg : Str → Option Value} {base : Heap}
def sp_stands (K : PySem.W.Frag) : Sp := fun vs H Q _ => ∃ (p d : Addr) (m : Md), vs = [.ref p, .ref d] ∧ WebAt (CW K) H p m ∧ MdAt H d m ∧ ∀ H', Same H H' → Q (.bl true) H'
end
end Tw

set_option maxHeartbeats 4000000
namespace Tw
open PySem PySem.Spec PyProof.Rows L2
/-! ### laying, in plain words -/
def offW (z : Str) : List Wd → Str × Int × Int
  | [] => (z, 0, 0)
  | x :: r => if x.en = z then (match x.la with
    | none => (x.bg, x.lo, x.hi)
    | some i => (x.en, -i, -i)) else offW z r
def offRow (r : Str × Int × Int) : List V := [.str r.1, .int r.2.1, .int r.2.2]
def hs (l : List Wd) : List (Str × Str × Int × Int) := l.filterMap fun x => x.la.map fun i => (x.en, x.bg, x.lo + i, x.hi + i)
def hRow (h : Str × Str × Int × Int) : List V := [.str h.1, .str h.2.1, .int h.2.2.1, .int h.2.2.2]
def mRows (l : Int) (z : Str) : List (List V) := [[.str "start", .str z, .int l], [.str z, .str "start", .int 0]]
def h2Rows (h : Str × Str × Int × Int) : List (List V) := [[.str h.2.1, .str h.1, .int h.2.2.2], [.str h.1, .str h.2.1, .int (-h.2.2.1)]]
def topRow (a b : Str × Int × Int) : Option Int → List (List V)
  | none => []
  | some t => [[.str a.1, .str b.1, .int (t - b.2.2 + a.2.1)]]
def botRow (a b : Str × Int × Int) : Option Int → List (List V)
  | none => []
  | some t => [[.str b.1, .str a.1, .int (b.2.1 - a.2.2 - t)]]
def tieRows (wd : List Wd) (x : Bd) : List (List V) := topRow (offW x.one wd) (offW x.oth wd) x.top ++ botRow (offW x.one wd) (offW x.oth wd) x.bot
def bRows (m : Md) : List (List V) := m.own.flatMap (mRows m.last) ++ (hs m.wd).flatMap h2Rows ++ m.bd.flatMap (tieRows m.wd)
theorem drop_cons {α : Type} {l : List α} {i : Nat} {x : α} (e : l[i]? = some x) : l.drop i = x :: l.drop (i + 1) := by
  obtain ⟨h, rfl⟩ := List.getElem?_eq_some_iff.mp e
  exact List.drop_eq_getElem_cons h
theorem hs_take {l : List Wd} {i : Nat} {x : Wd} (e : l[i]? = some x) : hs (l.take (i + 1)) = hs (l.take i) ++ (x.la.map fun i => (x.en, x.bg, x.lo + i, x.hi + i)).toList := by
  unfold hs
  rw [List.take_add_one, e, List.filterMap_append]
  cases h : x.la <;> simp [h]
theorem hs_len (l : List Wd) : (hs l).length ≤ l.length := List.length_filterMap_le _ _
theorem fm_take {α β : Type} (f : α → List β) {l : List α} {i : Nat} {x : α} (e : l[i]? = some x) : (l.take (i + 1)).flatMap f = (l.take i).flatMap f ++ f x := by
  rw [List.take_add_one, e, List.flatMap_append]
  simp
theorem fm_len {α β : Type} (f : α → List β) (n : Nat) (h : ∀ x, (f x).length ≤ n) : ∀ l : List α, (l.flatMap f).length ≤ n * l.length
  | [] => by simp
  | a :: r => by
    rw [List.flatMap_cons, List.length_append, List.length_cons]
    have := fm_len f n h r
    have := h a
    rw [Nat.mul_add]
    omega
theorem tie_len (wd : List Wd) (x : Bd) : (tieRows wd x).length ≤ 2 := by
  unfold tieRows
  cases x.top <;> cases x.bot <;> simp [topRow, botRow]
/-- a list of tuples with these rows -/
def RowsAt (H : Hp) (D : Addr) (rs : List (List V)) : Prop := ∃ xs, H D = some (.lst xs) ∧ Rows H xs rs
theorem RowsAt.same {H H' : Hp} {D : Addr} {rs : List (List V)} (h : RowsAt H D rs) (s : Same H H') : RowsAt H' D rs := let ⟨xs, h1, h2⟩ := h; ⟨xs, s _ _ h1, h2.keep (Kt.of s)⟩
theorem kt_put {H : Hp} {D : Addr} {xs ys : List V} (h : H D = some (.lst xs)) : Kt H (upd H D (.lst ys)) := Kt.upd fun zs z => by
  rw [h] at z
  cases z
theorem rows_add {H : Hp} {D t : Addr} {xs : List V} {rs : List (List V)} {r : List V} (h : H D = some (.lst xs)) (R : Rows H xs rs) (nt : H t = none) : RowsAt (upd (upd H t (.tup r)) D (.lst (xs ++ [.ref t]))) D (rs ++ [r]) := by
  have s := same_upd (o := .tup r) nt
  have k := kt_put (ys := xs ++ [.ref t]) (s _ _ h)
  exact ⟨_, upd_same, ((R.keep (Kt.of s)).keep k).snoc (k _ _ upd_same)⟩
theorem Rows.append {H : Hp} : ∀ {xs ys : List V} {rs ss : List (List V)}, Rows H xs rs → Rows H ys ss → Rows H (xs ++ ys) (rs ++ ss)
  | _, _, _, _, .nil, h => h
  | _, _, _, _, .cons a t, h => .cons a (Rows.append t h)
section
variable {P : Program} {w : World} {K : PySem.W.Frag} {mg : Str → Option Value} {base : Heap}
/-! ### offset -/
def sp_offset (K : PySem.W.Frag) : Sp := fun vs H Q _ => ∃ (p : Addr) (m : Md) (z : Str), vs = [.ref p, .str z] ∧ WebAt (CW K) H p m ∧ z ∈ m.pts ∧ ∀ (t : Addr) (H' : Hp), Same H H' → H t = none → H' t = some (.tup (offRow (offW z m.wd))) → Q (.ref t) H'
theorem cal_offset (T : Tp K mg) : Cal P w K mg base 5 "offset" (sp_offset K) := by
  obtain ⟨fd, F⟩ := f_offset T
  refine cal_of F (g_offset T) (b_offset F) sc_offset (fun vs H Q E h => ?_) (fun cdv A outer s H vs Q E hr h => ?_)
  · obtain ⟨p, m, z, rfl, _⟩ := h
    rfl
  · obtain ⟨p, m, z, rfl, W, hz, q⟩ := h
    refine ⟨_, (pss_cons (ps_expr (C8.pe_c (cal_need_point T) hr (by decide) rfl (pa_cons (pv 0) (pa_cons (pv 1) pa_nil))))
      (pss_cons (ps_for PassesOwn.never rfl (pi_list (C8.pe_mt0 (met_Web_spans T) hr (by decide) (pv 0))) (pg_tup rfl (pgs_cons (pg_name (i := 2) sc_offset.nd rfl (.inl rfl)) (pgs_cons (pg_name (i := 3) sc_offset.nd rfl (.inl rfl)) (pgs_cons (pg_name (i := 4) sc_offset.nd rfl (.inl rfl)) (pgs_cons (pg_name (i := 5) sc_offset.nd rfl (.inl rfl)) (pgs_cons (pg_name (i := 6) sc_offset.nd rfl (.inl rfl)) pgs_nil))))))
        (pss_cons (ps_if (PW.pt (pw_and (pt_cmpR op_eq (pv 2) (pv 1) (nomark _)) (pw_and1 (pt_cmpR op_isN (pv 6) pe_non (nomark _))))) (pss_one (ps_ret (pe_tup (pa_cons (pv 3) (pa_cons (pv 4) (pa_cons (pv 5) pa_nil)))))) pss_nil)
        (pss_one (ps_if (pt_cmpR op_eq (pv 2) (pv 1) (nomark _)) (pss_one (ps_ret (pe_tup (pa_cons (pv 2) (pa_cons (pe_un un_neg (pv 6)) (pa_cons (pe_un un_neg (pv 6)) pa_nil)))))) pss_nil))))
      (pss_one (ps_ret (pe_tup (pa_cons (pv 1) (pa_cons pe_int (pa_cons pe_int pa_nil)))))))), ?_⟩
    refine ⟨_, rfl, _, rfl, p, m, z, rfl, W, hz, fun H1 s1 => ?_⟩
    have W1 := W.same s1
    obtain ⟨dx, _, _, _, _, _, g1, _⟩ := W1.ex
    refine ⟨_, rfl, p, dx, _, rfl, g1, wf_no (by decide +kernel), p, m, rfl, W1, fun ws l R nl => ?_⟩
    have s2 := s1.trans (same_upd (o := .lst ws) nl)
    have R2 := R.keep (Kt.of (same_upd (o := .lst ws) nl))
    refine ⟨l, rfl, ⟨_, .inl (.inl upd_same)⟩, for_list (K := K) (a := l) (xs := ws) (fun i σ H2 => H2 = upd H1 l (.lst ws) ∧ offW z m.wd = offW z (m.wd.drop i) ∧ ∃ y2 y3 y4 y5 y6 : Option V, σ = [some (.ref p), some (.str z), y2, y3, y4, y5, y6]) ⟨rfl, rfl, none, none, none, none, none, rfl⟩ (fun i σ H2 _ h => by rw [h.1]; exact .inl (.inl upd_same)) ?_ ?_⟩
    · rintro i x σ H2 hx ⟨rfl, ho, y2, y3, y4, y5, y6, rfl⟩
      obtain ⟨t, y, rfl, ey, ht⟩ := row_of R2 hx
      rw [drop_cons ey] at ho
      refine ⟨t, y.row, rfl, .inl (.inl ht), rfl, _, _, rfl, _, _, rfl, _, _, rfl, _, _, rfl, _, _, rfl, rfl, ?_⟩
      refine ⟨_, rfl, _, rfl, rfl, _, rfl, ?_⟩
      by_cases e : y.en = z
      · rw [decide_eq_true (show V.str y.en = V.str z by rw [e])]
        have ho2 : offW z m.wd = (match y.la with
          | none => (y.bg, y.lo, y.hi)
          | some i => (y.en, -i, -i)) := by
          rw [ho]
          show (if y.en = z then _ else _) = _
          rw [if_pos e]
        refine iteT ⟨_, rfl, rfl, _, rfl, ?_⟩
        rw [oV_non]
        cases el : y.la with
        | none =>
          rw [el] at ho2
          refine iteT ⟨_, rfl, _, rfl, _, rfl, (by show 3 ≤ sizeLine; decide), fun u nu => q u _ (s2.trans (same_upd nu)) (s2.free nu) ?_⟩
          rw [upd_same, ho2]
          rfl
        | some j =>
          rw [el] at ho2
          refine iteF ⟨_, rfl, _, rfl, rfl, _, rfl, ?_⟩
          rw [decide_eq_true (show V.str y.en = V.str z by rw [e])]
          refine iteT ⟨_, rfl, _, rfl, j, rfl, _, rfl, j, rfl, (by show 3 ≤ sizeLine; decide), fun u nu => q u _ (s2.trans (same_upd nu)) (s2.free nu) ?_⟩
          rw [upd_same, ho2]
          rfl
      · have ne : ¬ V.str y.en = V.str z := fun h => e (V.str.inj h)
        rw [decide_eq_false ne]
        refine iteF (iteF ⟨_, rfl, _, rfl, rfl, _, rfl, ?_⟩)
        rw [decide_eq_false ne]
        refine iteF ⟨rfl, ?_, _, _, _, _, _, rfl⟩
        rw [ho]
        show (if y.en = z then _ else _) = _
        rw [if_neg e]
    · rintro σ H2 ⟨rfl, ho, y2, y3, y4, y5, y6, rfl⟩
      have e0 : m.wd.drop ws.length = [] := List.drop_of_length_le (by rw [R.len, List.length_map]; exact Nat.le_refl _)
      rw [e0] at ho
      refine ⟨_, rfl, (by show 3 ≤ sizeLine; decide), fun u nu => q u _ (s2.trans (same_upd nu)) (s2.free nu) ?_⟩
      rw [upd_same, ho]
      rfl
/-! ### heard_spans -/
def sp_heard (K : PySem.W.Frag) : Sp := fun vs H Q _ => ∃ (p : Addr) (m : Md), vs = [.ref p] ∧ WebAt (CW K) H p m ∧ ∀ (D : Addr) (H' : Hp), Same H H' → H D = none → RowsAt H' D ((hs m.wd).map hRow) → Q (.ref D) H'
theorem cal_heard_spans (T : Tp K mg) : Cal P w K mg base 3 "heard_spans" (sp_heard K) := by
  obtain ⟨fd, F⟩ := f_heard_spans T
  refine cal_of F (g_heard_spans T) (b_heard_spans F) sc_heard_spans (fun vs H Q E h => ?_) (fun cdv A outer s H vs Q E hr h => ?_)
  · obtain ⟨p, m, rfl, _⟩ := h
    rfl
  · obtain ⟨p, m, rfl, W, q⟩ := h
    have hlen := W.len
    refine ⟨_, (pss_one (ps_ret (pe_lc (own := [("end", 1), ("begin", 2), ("low", 3), ("high", 4), ("late", 5)]) rfl sc_heard_spans.nd (pi_list (C8.pe_mt0 (met_Web_spans T) hr (by decide) (pv 0))) (blkOk_by (N := N_heard_spans) (sc := defScope s_heard_spans) (by decide +kernel)) (fun _ _ _ _ _ => (pg_tupK (K := K) (n := 5) rfl rfl (pgs_cons (pg_name (i := 1) sc_heard_spans.nd rfl (.inl rfl)) (pgs_cons (pg_name (i := 2) sc_heard_spans.nd rfl (.inl rfl)) (pgs_cons (pg_name (i := 3) sc_heard_spans.nd rfl (.inl rfl)) (pgs_cons (pg_name (i := 4) sc_heard_spans.nd rfl (.inl rfl)) (pgs_cons (pg_name (i := 5) sc_heard_spans.nd rfl (.inl rfl)) pgs_nil))))))) (fun _ _ _ _ _ => (pts_one (pt_cmpR op_notN (pv 5) pe_non (nomark _)))) (fun _ _ _ _ _ => (pe_tup (pa_cons (pv 1) (pa_cons (pv 2) (pa_cons (pe_op op_add (pv 3) (pv 5)) (pa_cons (pe_op op_add (pv 4) (pv 5)) pa_nil))))))))), ?_⟩
    obtain ⟨dx, _, _, _, _, _, g1, _⟩ := W.ex
    refine ⟨_, rfl, p, dx, _, rfl, g1, wf_no (by decide +kernel), p, m, rfl, W, fun ws l R nl => ?_⟩
    have s1 := same_upd (o := .lst ws) nl
    have R1 := R.keep (Kt.of s1)
    refine ⟨l, rfl, ⟨_, .inl (.inl upd_same)⟩, fun D nD => ?_⟩
    have nDH := s1.free nD
    refine lc_list (K := K) (a := l) (xs := ws) (fun i H2 => Same (upd H l (.lst ws)) H2 ∧ RowsAt H2 D ((hs (m.wd.take i)).map hRow)) ⟨same_upd nD, [], upd_same, .nil⟩ (fun i H2 _ ⟨s2, _⟩ => .inl (.inl (s2 _ _ upd_same))) ?_ ?_
    · rintro i x H2 hx ⟨s2, xs, d1, d2⟩
      obtain ⟨t, y, rfl, ey, ht⟩ := row_of R1 hx
      have hi : i < m.wd.length := (List.getElem?_eq_some_iff.mp ey).1
      refine ⟨t, y.row, rfl, .inl (.inl (s2 _ _ ht)), rfl, _, _, rfl, _, _, rfl, _, _, rfl, _, _, rfl, _, _, rfl, rfl, rfl, ?_⟩
      refine ⟨_, rfl, rfl, _, rfl, ?_⟩
      rw [oV_non]
      cases el : y.la with
      | none =>
        refine iteF ⟨s2, ?_⟩
        rw [hs_take ey, el]
        show RowsAt H2 D ((hs (m.wd.take i) ++ []).map hRow)
        rw [List.append_nil]
        exact ⟨xs, d1, d2⟩
      | some j =>
        refine iteT ⟨_, rfl, _, rfl, _, rfl, _, rfl, y.lo, j, rfl, rfl, _, rfl, _, rfl, y.hi, j, rfl, rfl, (by show 4 ≤ sizeLine; decide), fun u nu => ?_⟩
        have s3 := same_upd (o := .tup (hRow (y.en, y.bg, y.lo + j, y.hi + j))) nu
        refine ⟨xs, s3 _ _ d1, ?_, same_put (s2.trans s3) nD, ?_⟩
        · rw [d2.len, List.length_map]
          have h1 := hs_len (m.wd.take i)
          rw [List.length_take] at h1
          exact small1000 (by omega)
        · rw [hs_take ey, el, List.map_append]
          exact rows_add d1 d2 nu
    · rintro H2 ⟨s2, d⟩
      have e0 : m.wd.take ws.length = m.wd := List.take_of_length_le (by rw [R.len, List.length_map]; exact Nat.le_refl _)
      rw [e0] at d
      exact q D H2 (s1.trans s2) nDH d
end
end Tw

set_option maxHeartbeats 4000000
namespace Tw
open PySem PySem.Spec PyProof.Rows L2
section
variable {P : Program} {w : World} {K : PySem.W.Frag} {mg : Str → Option Value} {base : Heap}
/-! ### tie_bounds -/
def sp_tieb (K : PySem.W.Frag) : Sp := fun vs H Q _ => ∃ (p t : Addr) (m : Md) (x : Bd), vs = [.ref p, .ref t] ∧ WebAt (CW K) H p m ∧ H t = some (.tup x.row) ∧ x.one ∈ m.pts ∧ x.oth ∈ m.pts ∧ ∀ (D : Addr) (H' : Hp), Same H H' → H D = none → RowsAt H' D (tieRows m.wd x) → Q (.ref D) H'
theorem cal_tie_bounds (T : Tp K mg) : Cal P w K mg base 6 "tie_bounds" (sp_tieb K) := by
  obtain ⟨fd, F⟩ := f_tie_bounds T
  refine cal_of F (g_tie_bounds T) (b_tie_bounds F) sc_tie_bounds (fun vs H Q E h => ?_) (fun cdv A outer s H vs Q E hr h => ?_)
  · obtain ⟨p, t, m, x, rfl, _⟩ := h
    rfl
  · obtain ⟨p, t, m, x, rfl, W, ht, h1, h2, q⟩ := h
    refine ⟨_, (pss_cons (ps_asg (pv 1) (pg_tup rfl (pgs_cons (pg_name (i := 2) sc_tie_bounds.nd rfl (.inl rfl)) (pgs_cons (pg_name (i := 3) sc_tie_bounds.nd rfl (.inl rfl)) (pgs_cons (pg_name (i := 4) sc_tie_bounds.nd rfl (.inl rfl)) (pgs_cons (pg_name (i := 5) sc_tie_bounds.nd rfl (.inl rfl)) pgs_nil))))))
      (pss_cons (ps_asg (C8.pe_c (cal_offset T) hr (by decide) rfl (pa_cons (pv 0) (pa_cons (pv 2) pa_nil))) (pg_tup rfl (pgs_cons (pg_name (i := 6) sc_tie_bounds.nd rfl (.inl rfl)) (pgs_cons (pg_name (i := 7) sc_tie_bounds.nd rfl (.inl rfl)) (pgs_cons (pg_name (i := 8) sc_tie_bounds.nd rfl (.inl rfl)) pgs_nil)))))
      (pss_cons (ps_asg (C8.pe_c (cal_offset T) hr (by decide) rfl (pa_cons (pv 0) (pa_cons (pv 3) pa_nil))) (pg_tup rfl (pgs_cons (pg_name (i := 9) sc_tie_bounds.nd rfl (.inl rfl)) (pgs_cons (pg_name (i := 10) sc_tie_bounds.nd rfl (.inl rfl)) (pgs_cons (pg_name (i := 11) sc_tie_bounds.nd rfl (.inl rfl)) pgs_nil)))))
      (pss_cons (ps_set (i := 12) sc_tie_bounds.nd rfl (.inl rfl) (pe_lst pa_nil))
      (C8.pss_cut (ps_if (pt_cmpR op_notN (pv 5) pe_non (nomark _)) (pss_one (ps_expr (pe_bm PySem.F.plainAttrs_list PySem.F.slot_list_append PySem.F.type_list_append mt_append (pv 12) (pa_cons (pe_tup (pa_cons (pv 6) (pa_cons (pv 9) (pa_cons (pe_op op_add (pe_op op_sub (pv 5) (pv 11)) (pv 7)) pa_nil)))) pa_nil)))) pss_nil)
      (pss_cons (ps_if (pt_cmpR op_notN (pv 4) pe_non (nomark _)) (pss_one (ps_expr (pe_bm PySem.F.plainAttrs_list PySem.F.slot_list_append PySem.F.type_list_append mt_append (pv 12) (pa_cons (pe_tup (pa_cons (pv 9) (pa_cons (pv 6) (pa_cons (pe_op op_sub (pe_op op_sub (pv 10) (pv 8)) (pv 4)) pa_nil)))) pa_nil)))) pss_nil)
      (pss_one (ps_ret (pv 12))))))))), ?_⟩
    refine ⟨_, rfl, t, x.row, rfl, .inl (.inl ht), rfl, _, _, rfl, _, _, rfl, _, _, rfl, _, _, rfl, rfl, ?_⟩
    refine ⟨_, rfl, _, rfl, p, m, x.one, rfl, W, h1, fun u H1 s1 nu hu => ⟨u, _, rfl, .inl (.inl hu), rfl, _, _, rfl, _, _, rfl, _, _, rfl, rfl, ?_⟩⟩
    refine ⟨_, rfl, _, rfl, p, m, x.oth, rfl, W.same s1, h2, fun v H2 s2 nv hv => ⟨v, _, rfl, .inl (.inl hv), rfl, _, _, rfl, _, _, rfl, _, _, rfl, rfl, ?_⟩⟩
    refine ⟨Nat.zero_le _, fun D nD => ?_⟩
    have sA := s1.trans s2
    have nDH := sA.free nD
    have s3 := sA.trans (same_upd (o := .lst []) nD)
    refine ⟨fun σ' H' => σ' = [some (.ref p), some (.ref t), some (.str x.one), some (.str x.oth), some (oV x.bot), some (oV x.top), some (.str (offW x.one m.wd).1), some (.int (offW x.one m.wd).2.1), some (.int (offW x.one m.wd).2.2), some (.str (offW x.oth m.wd).1), some (.int (offW x.oth m.wd).2.1), some (.int (offW x.oth m.wd).2.2), some (.ref D)] ∧
      Same H H' ∧ RowsAt H' D (topRow (offW x.one m.wd) (offW x.oth m.wd) x.top), ?_, ?_⟩
    · refine ⟨_, rfl, rfl, _, rfl, ?_⟩
      rw [oV_non]
      cases ex : x.top with
      | none => exact iteF ⟨rfl, s3, [], upd_same, .nil⟩
      | some i =>
        refine iteT ⟨_, rfl, .inl ⟨rfl, _, .inl (.inl upd_same)⟩, _, rfl, _, rfl, _, rfl, _, rfl, i, _, rfl, rfl, _, rfl, _, _, rfl, rfl, (by show 3 ≤ sizeLine; decide), fun r nr => ?_⟩
        have s4 := same_upd (o := .tup [.str (offW x.one m.wd).1, .str (offW x.oth m.wd).1, .int (i - (offW x.oth m.wd).2.2 + (offW x.one m.wd).2.1)]) nr
        exact ⟨D, _, _, rfl, rfl, s4 _ _ upd_same, by decide, rfl, same_put (s3.trans s4) nDH, rows_add (rs := []) upd_same .nil nr⟩
    · rintro σ' H' ⟨rfl, s4, xs, d1, d2⟩
      have hl : xs.length ≤ 1 := by
        rw [d2.len]
        cases x.top <;> simp [topRow]
      refine ⟨_, rfl, rfl, _, rfl, ?_⟩
      rw [oV_non]
      cases ex : x.bot with
      | none =>
        refine iteF ⟨_, rfl, q D H' s4 nDH ⟨xs, d1, ?_⟩⟩
        unfold tieRows
        rw [ex]
        show Rows H' xs (_ ++ [])
        rw [List.append_nil]
        exact d2
      | some i =>
        refine iteT ⟨_, rfl, .inl ⟨rfl, _, .inl (.inl d1)⟩, _, rfl, _, rfl, _, rfl, _, rfl, _, _, rfl, rfl, _, rfl, _, i, rfl, rfl, (by show 3 ≤ sizeLine; decide), fun r nr => ?_⟩
        have s5 := same_upd (o := .tup [.str (offW x.oth m.wd).1, .str (offW x.one m.wd).1, .int ((offW x.oth m.wd).2.1 - (offW x.one m.wd).2.2 - i)]) nr
        refine ⟨D, xs, _, rfl, rfl, s5 _ _ d1, small1000 (by omega), _, rfl, q D _ (same_put (s4.trans s5) nDH) nDH ?_⟩
        unfold tieRows
        rw [ex]
        exact rows_add d1 d2 nr
/-! ### bounds -/
def sp_bounds (K : PySem.W.Frag) : Sp := fun vs H Q _ => ∃ (p : Addr) (m : Md), vs = [.ref p] ∧ WebAt (CW K) H p m ∧ (∀ x ∈ m.bd, x.one ∈ m.pts ∧ x.oth ∈ m.pts) ∧ ∀ (D : Addr) (H' : Hp), Same H H' → H D = none → RowsAt H' D (bRows m) → Q (.ref D) H'
theorem cal_bounds (T : Tp K mg) : Cal P w K mg base 7 "bounds" (sp_bounds K) := by
  obtain ⟨fd, F⟩ := f_bounds T
  refine cal_of F (g_bounds T) (b_bounds F) sc_bounds (fun vs H Q E h => ?_) (fun cdv A outer s H vs Q E hr h => ?_)
  · obtain ⟨p, m, rfl, _⟩ := h
    rfl
  · obtain ⟨p, m, rfl, W, hpt, q⟩ := h
    have hlen := W.len
    refine ⟨_, (pss_cons (ps_set (i := 1) sc_bounds.nd rfl (.inl rfl) (pe_lst pa_nil))
      (pss_cons (ps_for PassesOwn.never rfl (pi_list (C8.pe_mt0 (met_Web_moments T) hr (by decide) (pv 0))) (pg_name (i := 2) sc_bounds.nd rfl (.inl rfl))
        (pss_cons (ps_expr (pe_bm PySem.F.plainAttrs_list PySem.F.slot_list_append PySem.F.type_list_append mt_append (pv 1) (pa_cons (pe_tup (pa_cons (C8.pe_gc (by rfl) (c_START T)) (pa_cons (pv 2) (pa_cons (pe_fld (pv 0) rfl) pa_nil)))) pa_nil)))
        (pss_one (ps_expr (pe_bm PySem.F.plainAttrs_list PySem.F.slot_list_append PySem.F.type_list_append mt_append (pv 1) (pa_cons (pe_tup (pa_cons (pv 2) (pa_cons (C8.pe_gc (by rfl) (c_START T)) (pa_cons pe_int pa_nil)))) pa_nil))))))
      (pss_cons (ps_for PassesOwn.never rfl (pi_list (C8.pe_c (cal_heard_spans T) hr (by decide) rfl (pa_cons (pv 0) pa_nil))) (pg_tup rfl (pgs_cons (pg_name (i := 3) sc_bounds.nd rfl (.inl rfl)) (pgs_cons (pg_name (i := 4) sc_bounds.nd rfl (.inl rfl)) (pgs_cons (pg_name (i := 5) sc_bounds.nd rfl (.inl rfl)) (pgs_cons (pg_name (i := 6) sc_bounds.nd rfl (.inl rfl)) pgs_nil)))))
        (pss_cons (ps_expr (pe_bm PySem.F.plainAttrs_list PySem.F.slot_list_append PySem.F.type_list_append mt_append (pv 1) (pa_cons (pe_tup (pa_cons (pv 4) (pa_cons (pv 3) (pa_cons (pv 6) pa_nil)))) pa_nil)))
        (pss_one (ps_expr (pe_bm PySem.F.plainAttrs_list PySem.F.slot_list_append PySem.F.type_list_append mt_append (pv 1) (pa_cons (pe_tup (pa_cons (pv 3) (pa_cons (pv 4) (pa_cons (pe_un un_neg (pv 5)) pa_nil)))) pa_nil))))))
      (pss_cons (ps_for PassesOwn.never rfl (pi_list (C8.pe_mt0 (met_Web_ties T) hr (by decide) (pv 0))) (pg_name (i := 7) sc_bounds.nd rfl (.inl rfl))
        (pss_one (ps_expr (pe_bm PySem.F.plainAttrs_list PySem.F.slot_list_extend PySem.F.type_list_extend mt_extend (pv 1) (pa_cons (C8.pe_c (cal_tie_bounds T) hr (by decide) rfl (pa_cons (pv 0) (pa_cons (pv 7) pa_nil))) pa_nil)))))
      (pss_one (ps_ret (pv 1))))))), ?_⟩
    refine ⟨Nat.zero_le _, fun D nD => ?_⟩
    have s0 := same_upd (o := .lst []) nD
    have W0 := W.same s0
    obtain ⟨dx, _, _, _, _, _, g0, _⟩ := W0.ex
    -- the moments
    refine ⟨_, rfl, p, dx, _, rfl, g0, wf_no (by decide +kernel), p, m, rfl, W0, fun k nk => ?_⟩
    have s1 := same_upd (o := .lst (m.own.map V.str)) nk
    have nDk : k ≠ D := (ne_of_none (upd_same (H := H) (a := D) (o := .lst [])) nk).symm
    refine ⟨k, rfl, ⟨_, .inl (.inl upd_same)⟩, for_list (K := K) (a := k) (xs := m.own.map V.str) (fun i σ H2 => ∃ y : Option V, σ = [some (.ref p), some (.ref D), y, none, none, none, none, none] ∧ Same H H2 ∧ H2 k = some (.lst (m.own.map V.str)) ∧ RowsAt H2 D ((m.own.take i).flatMap (mRows m.last)))
      ⟨none, rfl, s0.trans s1, upd_same, [], s1 _ _ upd_same, .nil⟩ (fun i σ H2 _ ⟨_, _, _, h, _⟩ => .inl (.inl h)) ?_ ?_⟩
    · rintro i v σ H2 hv ⟨y, rfl, s2, hk2, xs, d1, d2⟩
      rw [List.getElem?_map] at hv
      cases ez : m.own[i]? with
      | none =>
        rw [ez] at hv
        cases hv
      | some z =>
        rw [ez] at hv
        cases hv
        have hi : i < m.own.length := (List.getElem?_eq_some_iff.mp ez).1
        have hxl : xs.length ≤ 2 * m.own.length := by
          rw [d2.len]
          refine Nat.le_trans (fm_len _ 2 (fun _ => Nat.le_refl _) _) ?_
          rw [List.length_take]
          omega
        have W2 := W.same s2
        obtain ⟨dx2, _, _, _, _, _, g2, _⟩ := W2.ex
        refine ⟨_, rfl, .inl ⟨rfl, _, .inl (.inl d1)⟩, _, rfl, _, rfl, p, CW K, dx2, _, _, rfl, g2, cl_Web T, na_by T, wf_by, (by show 3 ≤ sizeLine; decide), fun t nt => ?_⟩
        have s3 := same_upd (o := .tup [.str "start", .str z, .int m.last]) nt
        refine ⟨D, xs, _, rfl, rfl, s3 _ _ d1, small1000 (by omega), ?_⟩
        obtain ⟨xs2, e1, e2⟩ := rows_add (r := [.str "start", .str z, .int m.last]) d1 d2 nt
        have s4 := same_put (o := .lst (xs ++ [.ref t])) (s2.trans s3) nD
        have hk4 : (upd (upd H2 t (.tup [.str "start", .str z, .int m.last])) D (.lst (xs ++ [.ref t]))) k = some (.lst (m.own.map V.str)) := by
          rw [upd_ne nDk]
          exact s3 _ _ hk2
        have hl2 : xs2.length ≤ 2 * m.own.length + 1 := by
          rw [e2.len, List.length_append, ← d2.len]
          show xs.length + 1 ≤ _
          omega
        refine ⟨_, rfl, .inl ⟨rfl, _, .inl (.inl e1)⟩, _, rfl, (by show 3 ≤ sizeLine; decide), fun u nu => ?_⟩
        have s5 := same_upd (o := .tup [.str z, .str "start", .int 0]) nu
        refine ⟨D, xs2, _, rfl, rfl, s5 _ _ e1, small1000 (by omega), _, rfl, same_put (s4.trans s5) nD, by rw [upd_ne nDk]; exact s5 _ _ hk4, ?_⟩
        rw [fm_take _ ez]
        have := rows_add (r := [.str z, .str "start", .int 0]) e1 e2 nu
        rw [List.append_assoc] at this
        exact this
    · rintro σ H2 ⟨y, rfl, s2, hk2, d⟩
      have e0 : m.own.take (m.own.map V.str).length = m.own := List.take_of_length_le (by rw [List.length_map]; exact Nat.le_refl _)
      rw [e0] at d
      have l1 : (m.own.flatMap (mRows m.last)).length ≤ 20 := by
        have := fm_len (mRows m.last) 2 (fun _ => Nat.le_refl _) m.own
        omega
      -- the spans that are heard
      refine ⟨_, rfl, p, m, rfl, W.same s2, fun g H3 s3 ng R3 => ?_⟩
      obtain ⟨gs, hg, rg⟩ := R3
      obtain ⟨xs0, d1', d2'⟩ := d
      have nDg : g ≠ D := (ne_of_none d1' ng).symm
      have hsl := hs_len m.wd
      refine ⟨g, rfl, ⟨_, .inl (.inl hg)⟩, for_list (K := K) (a := g) (xs := gs) (fun i σ H4 => ∃ y3 y4 y5 y6 : Option V, σ = [some (.ref p), some (.ref D), y, y3, y4, y5, y6, none] ∧ Same H H4 ∧ H4 g = some (.lst gs) ∧ Rows H4 gs ((hs m.wd).map hRow) ∧ RowsAt H4 D (m.own.flatMap (mRows m.last) ++ ((hs m.wd).take i).flatMap h2Rows))
        ⟨none, none, none, none, rfl, s2.trans s3, hg, rg, ?_⟩ (fun i σ H4 _ ⟨_, _, _, _, _, _, h, _⟩ => .inl (.inl h)) ?_ ?_⟩
      · show RowsAt H3 D (_ ++ [])
        rw [List.append_nil]
        exact (RowsAt.same ⟨xs0, d1', d2'⟩ s3)
      · rintro i v σ H4 hv ⟨y3, y4, y5, y6, rfl, s4, hg4, rg4, xs, d1, d2⟩
        obtain ⟨t, x, rfl, ey, ht⟩ := row_of rg4 hv
        have hi : i < (hs m.wd).length := (List.getElem?_eq_some_iff.mp ey).1
        have hxl : xs.length ≤ 28 := by
          rw [d2.len, List.length_append]
          have := fm_len h2Rows 2 (fun _ => Nat.le_refl _) ((hs m.wd).take i)
          rw [List.length_take] at this
          omega
        refine ⟨t, hRow x, rfl, .inl (.inl ht), rfl, _, _, rfl, _, _, rfl, _, _, rfl, _, _, rfl, rfl, ?_⟩
        refine ⟨_, rfl, .inl ⟨rfl, _, .inl (.inl d1)⟩, _, rfl, _, rfl, _, rfl, (by show 3 ≤ sizeLine; decide), fun u nu => ?_⟩
        have s5 := same_upd (o := .tup [.str x.2.1, .str x.1, .int x.2.2.2]) nu
        refine ⟨D, xs, _, rfl, rfl, s5 _ _ d1, small1000 (by omega), ?_⟩
        obtain ⟨xs2, e1, e2⟩ := rows_add (r := [.str x.2.1, .str x.1, .int x.2.2.2]) d1 d2 nu
        have s6 := same_put (o := .lst (xs ++ [.ref u])) (s4.trans s5) nD
        have hg6 : (upd (upd H4 u (.tup [.str x.2.1, .str x.1, .int x.2.2.2])) D (.lst (xs ++ [.ref u]))) g = some (.lst gs) := by
          rw [upd_ne nDg]
          exact s5 _ _ hg4
        have k6 : Kt H4 (upd (upd H4 u (.tup [.str x.2.1, .str x.1, .int x.2.2.2])) D (.lst (xs ++ [.ref u]))) := (Kt.of s5).trans (kt_put (s5 _ _ d1))
        have hl2 : xs2.length ≤ 29 := by
          rw [e2.len, List.length_append, ← d2.len]
          show xs.length + 1 ≤ _
          omega
        refine ⟨_, rfl, .inl ⟨rfl, _, .inl (.inl e1)⟩, _, rfl, _, rfl, _, rfl, _, rfl, (by show 3 ≤ sizeLine; decide), fun r nr => ?_⟩
        have s7 := same_upd (o := .tup [.str x.1, .str x.2.1, .int (-x.2.2.1)]) nr
        refine ⟨D, xs2, _, rfl, rfl, s7 _ _ e1, small1000 (by omega), _, _, _, _, rfl, same_put (s6.trans s7) nD, by rw [upd_ne nDg]; exact s7 _ _ hg6, rg4.keep ((k6.trans (Kt.of s7)).trans (kt_put (s7 _ _ e1))), ?_⟩
        rw [fm_take _ ey]
        have := rows_add (r := [.str x.1, .str x.2.1, .int (-x.2.2.1)]) e1 e2 nr
        rw [List.append_assoc, List.append_assoc] at this
        exact this
      · rintro σ H4 ⟨y3, y4, y5, y6, rfl, s4, hg4, rg4, d⟩
        have e0 : (hs m.wd).take gs.length = hs m.wd := List.take_of_length_le (by rw [rg.len, List.length_map]; exact Nat.le_refl _)
        rw [e0] at d
        have l2 : (m.own.flatMap (mRows m.last) ++ (hs m.wd).flatMap h2Rows).length ≤ 28 := by
          have := fm_len h2Rows 2 (fun _ => Nat.le_refl _) (hs m.wd)
          rw [List.length_append]
          omega
        -- the ties
        have W4 := W.same s4
        obtain ⟨dx4, _, _, _, _, _, g4, _⟩ := W4.ex
        obtain ⟨xs0, d1', d2'⟩ := d
        refine ⟨_, rfl, p, dx4, _, rfl, g4, wf_no (by decide +kernel), p, m, rfl, W4, fun bs b R nb => ?_⟩
        have s5 := same_upd (o := .lst bs) nb
        have nDb : b ≠ D := (ne_of_none d1' nb).symm
        refine ⟨b, rfl, ⟨_, .inl (.inl upd_same)⟩, for_list (K := K) (a := b) (xs := bs) (fun i σ H6 => ∃ y7 : Option V, σ = [some (.ref p), some (.ref D), y, y3, y4, y5, y6, y7] ∧ Same H H6 ∧ H6 b = some (.lst bs) ∧ Rows H6 bs (m.bd.map Bd.row) ∧ RowsAt H6 D (m.own.flatMap (mRows m.last) ++ (hs m.wd).flatMap h2Rows ++ (m.bd.take i).flatMap (tieRows m.wd)))
          ⟨none, rfl, s4.trans s5, upd_same, R.keep (Kt.of s5), ?_⟩ (fun i σ H6 _ ⟨_, _, _, h, _⟩ => .inl (.inl h)) ?_ ?_⟩
        · show RowsAt _ D (_ ++ [])
          rw [List.append_nil]
          exact (RowsAt.same ⟨xs0, d1', d2'⟩ s5)
        · rintro i v σ H6 hv ⟨y7, rfl, s6, hb6, rb6, xs, d1, d2⟩
          obtain ⟨t, x, rfl, ey, ht⟩ := row_of rb6 hv
          have hi : i < m.bd.length := (List.getElem?_eq_some_iff.mp ey).1
          have hx := hpt x (List.mem_of_getElem? ey)
          have hxl : xs.length ≤ 108 := by
            rw [d2.len, List.length_append]
            have := fm_len (tieRows m.wd) 2 (tie_len m.wd) (m.bd.take i)
            rw [List.length_take] at this
            omega
          refine ⟨_, rfl, .inl ⟨rfl, _, .inl (.inl d1)⟩, _, rfl, _, rfl, p, t, m, x, rfl, W.same s6, ht, hx.1, hx.2, fun g H7 s7 ng R7 => ?_⟩
          obtain ⟨gs, e1, e2⟩ := R7
          have hgl : gs.length ≤ 2 := by
            rw [e2.len]
            exact tie_len _ _
          have dD := s7 _ _ d1
          refine ⟨D, g, xs, gs, rfl, rfl, dD, e1, Nat.le_of_lt (small1000 (by omega)), _, rfl, same_put (s6.trans s7) nD, by rw [upd_ne nDb]; exact s7 _ _ hb6, rb6.keep ((Kt.of s7).trans (kt_put dD)), ?_⟩
          rw [fm_take _ ey, ← List.append_assoc]
          exact ⟨_, upd_same, Rows.append ((d2.keep (Kt.of s7)).keep (kt_put dD)) (e2.keep (kt_put dD))⟩
        · rintro σ H6 ⟨y7, rfl, s6, hb6, rb6, d⟩
          have e0 : m.bd.take bs.length = m.bd := List.take_of_length_le (by rw [R.len, List.length_map]; exact Nat.le_refl _)
          rw [e0] at d
          exact ⟨_, rfl, q D H6 s6 nD d⟩
end
end Tw

set_option maxHeartbeats 4000000
namespace Tw
open PySem PySem.Spec PyProof.Rows L2
section
variable {P : Program} {w : World} {K : PySem.W.Frag} {mg : Str → Option Value} {base : Heap}
/-! ### _law_offset -/
def sp_loffset : Sp := fun vs H Q _ => ∃ (d : Addr) (m : Md) (z : Str), vs = [.ref d, .str z] ∧ MdAt H d m ∧ ∀ (t : Addr) (H' : Hp), Same H H' → H t = none → H' t = some (.tup (offRow (offW z m.wd))) → Q (.ref t) H'
/-! ### _law_heard -/
def sp_lheard : Sp := fun vs H Q _ => ∃ (d : Addr) (m : Md), vs = [.ref d] ∧ MdAt H d m ∧ m.wd.length ≤ 100 ∧ ∀ (D : Addr) (H' : Hp), Same H H' → H D = none → RowsAt H' D ((hs m.wd).map hRow) → Q (.ref D) H'
end
end Tw

set_option maxHeartbeats 4000000
namespace Tw
open PySem PySem.Spec PyProof.Rows L2
section
variable {P : Program} {w : World} {K : PySem.W.Frag} {mg : Str → Option Value} {base : Heap}
/-! ### _law_bounds -/
/-- two lists put together in a new one -/
theorem rows_cat {H : Hp} {D E r : Addr} {xs ys : List V} {rs ss : List (List V)} (h : Rows H xs rs) (h2 : Rows H ys ss) (nr : H r = none) : RowsAt (upd H r (.lst (xs ++ ys))) r (rs ++ ss) := by
  have s := same_upd (o := .lst (xs ++ ys)) nr
  exact ⟨_, upd_same, (h.append h2).keep (Kt.of s)⟩
def sp_lbounds : Sp := fun vs H Q _ => ∃ (d : Addr) (m : Md), vs = [.ref d] ∧ MdAt H d m ∧ (m.own.length ≤ 10 ∧ m.wd.length ≤ 4 ∧ m.bd.length ≤ 40) ∧ ∀ (D : Addr) (H' : Hp), Same H H' → H D = none → RowsAt H' D (bRows m) → Q (.ref D) H'
end
end Tw

set_option maxHeartbeats 4000000
namespace Tw
open PySem PySem.Spec PyProof.Rows L2
theorem bb_max : bootBuiltins "max" = some (.builtin "max") := by decide +kernel
/-! rules.py: facts, and what the rules make of them -/
abbrev kS (z : Str) : Key := .inr z
/-- a bound (x, y, amount), or, with u, a wait (end, x, amount) -/
structure Ft where
  u : Bool
  a : Str
  b : Str
  n : Int
def Ft.wd (f : Ft) : Str := if f.u = true then "until" else "most"
def Ft.row (f : Ft) : List V := [.str f.wd, .str f.a, .str f.b, .int f.n]
theorem wd_most (f : Ft) : decide (V.str f.wd = V.str "most") = !f.u := by
  unfold Ft.wd
  cases f.u
  · exact decide_eq_true rfl
  · exact decide_eq_false (fun z => absurd (V.str.inj z) (by decide +kernel))
theorem wd_until (f : Ft) : decide (V.str f.wd = V.str "until") = f.u := by
  unfold Ft.wd
  cases f.u
  · exact decide_eq_false (fun z => absurd (V.str.inj z) (by decide +kernel))
  · exact decide_eq_true rfl
/-- what the rules know of the heard spans -/
abbrev Hk : Type := Str → Option (Str × Int)
def hkS (f : Hk) (h : Str × Str × Int × Int) : Hk := fun z => if z = h.1 then some (h.2.1, h.2.2.1) else f z
def hkOf (l : List (Str × Str × Int × Int)) : Hk := l.foldl hkS fun _ => none
/-- .. in a dict -/
def HdK (H : Hp) (kvs : List (Key × V)) (f : Hk) : Prop := ∀ z, match f z with
  | none => valV kvs (kS z) = none
  | some r => ∃ t, valV kvs (kS z) = some (.ref t) ∧ H t = some (.tup [.str r.1, .int r.2])
def HdD (H : Hp) (d : Addr) (f : Hk) : Prop := ∃ kvs, H d = some (.dK kvs) ∧ HdK H kvs f
theorem HdK.keep {H H' : Hp} {kvs : List (Key × V)} {f : Hk} (h : HdK H kvs f) (k : Kt H H') : HdK H' kvs f := fun z => by
  have hz := h z
  cases e : f z with
  | none =>
    rw [e] at hz
    exact hz
  | some r =>
    rw [e] at hz
    obtain ⟨t, h1, h2⟩ := hz
    exact ⟨t, h1, k _ _ h2⟩
theorem HdD.same {H H' : Hp} {d : Addr} {f : Hk} (h : HdD H d f) (s : Same H H') : HdD H' d f := by
  obtain ⟨kvs, h1, h2⟩ := h
  exact ⟨kvs, s _ _ h1, h2.keep (Kt.of s)⟩
theorem HdK.put {H : Hp} {kvs : List (Key × V)} {f : Hk} {h : Str × Str × Int × Int} {t : Addr} (k : HdK H kvs f) (ht : H t = some (.tup [.str h.2.1, .int h.2.2.1])) : HdK H (putK kvs (kS h.1) (.ref t)) (hkS f h) := fun z => by
  unfold hkS
  by_cases e : z = h.1
  · rw [if_pos e]
    exact ⟨t, by rw [valV_put, if_pos (by rw [e])], ht⟩
  · rw [if_neg e]
    have hz := k z
    have ev : valV (putK kvs (kS h.1) (.ref t)) (kS z) = valV kvs (kS z) := by rw [valV_put, if_neg (fun q => e (Sum.inr.inj q))]
    cases ef : f z with
    | none =>
      rw [ef] at hz
      show valV _ _ = none
      rw [ev]
      exact hz
    | some r =>
      rw [ef] at hz
      obtain ⟨t', h1, h2⟩ := hz
      exact ⟨t', by rw [ev]; exact h1, h2⟩
theorem HdD.none {H : Hp} {d : Addr} {f : Hk} {z : Str} (h : HdD H d f) (e : f z = none) : DGet H d (.str z) none := by
  obtain ⟨kvs, h1, h2⟩ := h
  have hz := h2 z
  rw [e] at hz
  exact .inl ⟨kvs, kS z, .inl h1, rfl, hz.symm⟩
theorem HdD.some {H : Hp} {d : Addr} {f : Hk} {z : Str} {r : Str × Int} (h : HdD H d f) (e : f z = some r) : ∃ t, DGet H d (.str z) (some (.ref t)) ∧ H t = some (.tup [.str r.1, .int r.2]) := by
  obtain ⟨kvs, h1, h2⟩ := h
  have hz := h2 z
  rw [e] at hz
  obtain ⟨t, h3, h4⟩ := hz
  exact ⟨t, .inl ⟨kvs, kS z, .inl h1, rfl, h3.symm⟩, h4⟩
/-! ### the rules -/
def rAlong (o p : Ft) : Option Ft := if o.u = false ∧ p.u = false ∧ o.b = p.a then some ⟨false, o.a, p.b, o.n + p.n⟩ else none
def rWait (o p : Ft) : Option Ft := if o.u = false ∧ p.u = true ∧ o.b = p.b then some ⟨true, p.a, o.a, o.n + p.n⟩ else none
def rSure (f : Hk) (o : Ft) : Option Ft := if o.u = true then (f o.a).map fun r => ⟨false, o.b, r.1, max o.n (-r.2)⟩ else none
def rSoon (f : Hk) (o : Ft) : Option Ft := if o.u = false ∧ o.n < 0 then (f o.a).map fun r => ⟨false, r.1, o.b, r.2 + o.n⟩ else none
def rAhead (f : Hk) (o : Ft) : Option Ft := if o.u = true ∧ ¬ o.a = o.b ∧ o.n < 0 then (f o.b).map fun r => ⟨true, o.a, r.1, r.2 + o.n⟩ else none
/-- None, or a new fact -/
def MadeF (r : Option Ft) (H : Hp) (Q : VK) : Prop := (r = none → Q .non H) ∧ ∀ f, r = some f → ∀ t, H t = none → Q (.ref t) (upd H t (.tup f.row))
section
variable {P : Program} {w : World} {K : PySem.W.Frag} {mg : Str → Option Value} {base : Heap}
def sp_pair (rule : Ft → Ft → Option Ft) : Sp := fun vs H Q _ => ∃ (s t : Addr) (o p : Ft), vs = [.ref s, .ref t] ∧ H s = some (.tup o.row) ∧ H t = some (.tup p.row) ∧ MadeF (rule o p) H Q
/-- a rule of one fact -/
def sp_single (ok : Hk → Ft → Prop) (rule : Hk → Ft → Option Ft) : Sp := fun vs H Q _ => ∃ (d t : Addr) (f : Hk) (o : Ft), vs = [.ref d, .ref t] ∧ HdD H d f ∧ H t = some (.tup o.row) ∧ ok f o ∧ MadeF (rule f o) H Q
def okSure (f : Hk) (o : Ft) : Prop := o.u = true → (f o.a).isSome = true
theorem cal_sure (T : Tp K mg) : Cal P w K mg base 1 "sure" (sp_single okSure rSure) := by
  obtain ⟨fd, F⟩ := f_sure T
  refine cal_of F (g_sure T) (b_sure F) sc_sure (fun vs H Q E h => ?_) (fun cdv A outer s H vs Q E hr h => ?_)
  · obtain ⟨d, t, f, o, rfl, _⟩ := h
    rfl
  · obtain ⟨d, t, f, o, rfl, D, ht, ok, q1, q2⟩ := h
    have hu := hu_of hr
    have S : SqT K H t o.row := .inl (.inl ht)
    refine ⟨_, (pss_cons (ps_if (pt_cmpR op_ne (pe_ix ix_tup (pv 1) pe_int (fun _ _ => rfl)) (C8.pe_gc (by rfl) (c_UNTIL T)) (nomark _)) (pss_one (ps_ret pe_non)) pss_nil)
      (pss_cons (ps_asg (pe_dget hu (pv 0) (pe_ix ix_tup (pv 1) pe_int (fun _ _ => rfl)) (fun _ _ => rfl)) (pg_tup rfl (pgs_cons (pg_name (i := 2) sc_sure.nd rfl (.inl rfl)) (pgs_cons (pg_name (i := 3) sc_sure.nd rfl (.inl rfl)) pgs_nil))))
      (pss_one (ps_ret (pe_tup (pa_cons (C8.pe_gc (by rfl) (c_MOST T)) (pa_cons (pe_ix ix_tup (pv 1) pe_int (fun _ _ => rfl)) (pa_cons (pv 2) (pa_cons (pe_callB (call_max2 rfl) (by rfl) (z_max T) bb_max (pa_cons (pe_ix ix_tup (pv 1) pe_int (fun _ _ => rfl)) (pa_cons (pe_un un_neg (pv 3)) pa_nil))) pa_nil))))))))), ?_⟩
    refine ⟨_, rfl, t, _, 0, _, rfl, rfl, S, atI_nat (j := 0) rfl, rfl, _, rfl, ?_⟩
    rw [wd_until]
    cases eo : o.u with
    | false => exact iteT (q1 (by unfold rSure; rw [if_neg (by rw [eo]; intro z; cases z)]))
    | true =>
      obtain ⟨r, er⟩ := Option.isSome_iff_exists.mp (ok eo)
      obtain ⟨t2, g, ht2⟩ := D.some er
      refine iteF ⟨_, rfl, _, rfl, t, _, 1, _, rfl, rfl, S, atI_nat (j := 1) rfl, d, _, rfl, g, t2, _, rfl, .inl (.inl ht2), rfl, _, _, rfl, _, _, rfl, rfl, ?_⟩
      refine ⟨_, rfl, t, _, 2, _, rfl, rfl, S, atI_nat (j := 2) rfl, _, rfl, _, rfl, t, _, 3, _, rfl, rfl, S, atI_nat (j := 3) rfl, _, rfl, _, rfl, o.n, -r.2, rfl, (by show 4 ≤ sizeLine; decide), fun x nx => ?_⟩
      have em : (if -r.2 > o.n then -r.2 else o.n) = max o.n (-r.2) := by
        by_cases c : -r.2 > o.n
        · rw [if_pos c]
          omega
        · rw [if_neg c]
          omega
      rw [em]
      exact q2 ⟨false, o.b, r.1, max o.n (-r.2)⟩ (by unfold rSure; rw [if_pos eo, er]; rfl) x nx
def okAll (f : Hk) (o : Ft) : Prop := True
theorem cal_soon (T : Tp K mg) : Cal P w K mg base 1 "soon" (sp_single okAll rSoon) := by
  obtain ⟨fd, F⟩ := f_soon T
  refine cal_of F (g_soon T) (b_soon F) sc_soon (fun vs H Q E h => ?_) (fun cdv A outer s H vs Q E hr h => ?_)
  · obtain ⟨d, t, f, o, rfl, _⟩ := h
    rfl
  · obtain ⟨d, t, f, o, rfl, D, ht, ok, q1, q2⟩ := h
    have hu := hu_of hr
    have S : SqT K H t o.row := .inl (.inl ht)
    refine ⟨_, (pss_cons (ps_if (PW.pt (pw_or (pt_cmpR op_ne (pe_ix ix_tup (pv 1) pe_int (fun _ _ => rfl)) (C8.pe_gc (by rfl) (c_MOST T)) (nomark _)) (pw_or (pt_cmp (pc_dnotin hu (pe_ix ix_tup (pv 1) pe_int (fun _ _ => rfl)) (pv 0)) (by rfl)) (pw_or1 (pt_cmpR op_ge (pe_ix ix_tup (pv 1) pe_int (fun _ _ => rfl)) pe_int (nomark _)))))) (pss_one (ps_ret pe_non)) pss_nil)
      (pss_cons (ps_asg (pe_dget hu (pv 0) (pe_ix ix_tup (pv 1) pe_int (fun _ _ => rfl)) (fun _ _ => rfl)) (pg_tup rfl (pgs_cons (pg_name (i := 2) sc_soon.nd rfl (.inl rfl)) (pgs_cons (pg_name (i := 3) sc_soon.nd rfl (.inl rfl)) pgs_nil))))
      (pss_one (ps_ret (pe_tup (pa_cons (C8.pe_gc (by rfl) (c_MOST T)) (pa_cons (pv 2) (pa_cons (pe_ix ix_tup (pv 1) pe_int (fun _ _ => rfl)) (pa_cons (pe_op op_add (pv 3) (pe_ix ix_tup (pv 1) pe_int (fun _ _ => rfl))) pa_nil))))))))), ?_⟩
    refine ⟨_, rfl, t, _, 0, _, rfl, rfl, S, atI_nat (j := 0) rfl, rfl, _, rfl, ?_⟩
    rw [wd_most]
    cases eo : o.u with
    | true => exact iteT (q1 (by unfold rSoon; rw [if_neg (by rw [eo]; intro z; cases z.1)]))
    | false =>
      cases er : f o.a with
      | none => exact iteF ⟨_, rfl, t, _, 1, _, rfl, rfl, S, atI_nat (j := 1) rfl, _, rfl, d, _, rfl, D.none er, _, rfl, iteT (q1 (by unfold rSoon; rw [er]; by_cases c : o.u = false ∧ o.n < 0; rw [if_pos c]; rfl; rw [if_neg c]))⟩
      | some r =>
        obtain ⟨t2, g, ht2⟩ := D.some er
        refine iteF ⟨_, rfl, t, _, 1, _, rfl, rfl, S, atI_nat (j := 1) rfl, _, rfl, d, _, rfl, g, _, rfl, iteF ⟨_, rfl, t, _, 3, _, rfl, rfl, S, atI_nat (j := 3) rfl, o.n, 0, rfl, rfl, _, rfl, ?_⟩⟩
        by_cases c : o.n < 0
        · rw [decide_eq_false (by omega : ¬ (0 : Int) ≤ o.n)]
          refine iteF ⟨_, rfl, _, rfl, t, _, 1, _, rfl, rfl, S, atI_nat (j := 1) rfl, d, _, rfl, g, t2, _, rfl, .inl (.inl ht2), rfl, _, _, rfl, _, _, rfl, rfl, ?_⟩
          refine ⟨_, rfl, _, rfl, t, _, 2, _, rfl, rfl, S, atI_nat (j := 2) rfl, _, rfl, _, rfl, t, _, 3, _, rfl, rfl, S, atI_nat (j := 3) rfl, r.2, o.n, rfl, rfl, (by show 4 ≤ sizeLine; decide), fun x nx => ?_⟩
          exact q2 ⟨false, r.1, o.b, r.2 + o.n⟩ (by unfold rSoon; rw [if_pos ⟨eo, c⟩, er]; rfl) x nx
        · rw [decide_eq_true (by omega : (0 : Int) ≤ o.n)]
          exact iteT (q1 (by unfold rSoon; rw [if_neg (fun z => c z.2)]))
theorem cal_ahead (T : Tp K mg) : Cal P w K mg base 1 "ahead" (sp_single okAll rAhead) := by
  obtain ⟨fd, F⟩ := f_ahead T
  refine cal_of F (g_ahead T) (b_ahead F) sc_ahead (fun vs H Q E h => ?_) (fun cdv A outer s H vs Q E hr h => ?_)
  · obtain ⟨d, t, f, o, rfl, _⟩ := h
    rfl
  · obtain ⟨d, t, f, o, rfl, D, ht, ok, q1, q2⟩ := h
    have hu := hu_of hr
    have S : SqT K H t o.row := .inl (.inl ht)
    refine ⟨_, (pss_cons (ps_if (PW.pt (pw_or (pt_cmpR op_ne (pe_ix ix_tup (pv 1) pe_int (fun _ _ => rfl)) (C8.pe_gc (by rfl) (c_UNTIL T)) (nomark _)) (pw_or (pt_cmp (pc_dnotin hu (pe_ix ix_tup (pv 1) pe_int (fun _ _ => rfl)) (pv 0)) (by rfl)) (pw_or (pt_cmpR op_eq (pe_ix ix_tup (pv 1) pe_int (fun _ _ => rfl)) (pe_ix ix_tup (pv 1) pe_int (fun _ _ => rfl)) (nomark _)) (pw_or1 (pt_cmpR op_ge (pe_ix ix_tup (pv 1) pe_int (fun _ _ => rfl)) pe_int (nomark _))))))) (pss_one (ps_ret pe_non)) pss_nil)
      (pss_cons (ps_asg (pe_dget hu (pv 0) (pe_ix ix_tup (pv 1) pe_int (fun _ _ => rfl)) (fun _ _ => rfl)) (pg_tup rfl (pgs_cons (pg_name (i := 2) sc_ahead.nd rfl (.inl rfl)) (pgs_cons (pg_name (i := 3) sc_ahead.nd rfl (.inl rfl)) pgs_nil))))
      (pss_one (ps_ret (pe_tup (pa_cons (C8.pe_gc (by rfl) (c_UNTIL T)) (pa_cons (pe_ix ix_tup (pv 1) pe_int (fun _ _ => rfl)) (pa_cons (pv 2) (pa_cons (pe_op op_add (pv 3) (pe_ix ix_tup (pv 1) pe_int (fun _ _ => rfl))) pa_nil))))))))), ?_⟩
    refine ⟨_, rfl, t, _, 0, _, rfl, rfl, S, atI_nat (j := 0) rfl, rfl, _, rfl, ?_⟩
    rw [wd_until]
    cases eo : o.u with
    | false => exact iteT (q1 (by unfold rAhead; rw [if_neg (by rw [eo]; intro z; cases z.1)]))
    | true =>
      cases er : f o.b with
      | none => exact iteF ⟨_, rfl, t, _, 2, _, rfl, rfl, S, atI_nat (j := 2) rfl, _, rfl, d, _, rfl, D.none er, _, rfl, iteT (q1 (by unfold rAhead; rw [er]; by_cases c : o.u = true ∧ ¬ o.a = o.b ∧ o.n < 0; rw [if_pos c]; rfl; rw [if_neg c]))⟩
      | some r =>
        obtain ⟨t2, g, ht2⟩ := D.some er
        refine iteF ⟨_, rfl, t, _, 2, _, rfl, rfl, S, atI_nat (j := 2) rfl, _, rfl, d, _, rfl, g, _, rfl, iteF ⟨_, rfl, t, _, 1, _, rfl, rfl, S, atI_nat (j := 1) rfl, _, rfl, t, _, 2, _, rfl, rfl, S, atI_nat (j := 2) rfl, rfl, _, rfl, ?_⟩⟩
        by_cases c1 : o.a = o.b
        · rw [decide_eq_true (show V.str o.a = V.str o.b by rw [c1])]
          exact iteT (q1 (by unfold rAhead; rw [if_neg (fun z => z.2.1 c1)]))
        · rw [decide_eq_false (show ¬ V.str o.a = V.str o.b from fun z => c1 (V.str.inj z))]
          refine iteF ⟨_, rfl, t, _, 3, _, rfl, rfl, S, atI_nat (j := 3) rfl, o.n, 0, rfl, rfl, _, rfl, ?_⟩
          by_cases c : o.n < 0
          · rw [decide_eq_false (by omega : ¬ (0 : Int) ≤ o.n)]
            refine iteF ⟨_, rfl, _, rfl, t, _, 2, _, rfl, rfl, S, atI_nat (j := 2) rfl, d, _, rfl, g, t2, _, rfl, .inl (.inl ht2), rfl, _, _, rfl, _, _, rfl, rfl, ?_⟩
            refine ⟨_, rfl, t, _, 1, _, rfl, rfl, S, atI_nat (j := 1) rfl, _, rfl, _, rfl, _, rfl, t, _, 3, _, rfl, rfl, S, atI_nat (j := 3) rfl, r.2, o.n, rfl, rfl, (by show 4 ≤ sizeLine; decide), fun x nx => ?_⟩
            exact q2 ⟨true, o.a, r.1, r.2 + o.n⟩ (by unfold rAhead; rw [if_pos ⟨eo, c1, c⟩, er]; rfl) x nx
          · rw [decide_eq_true (by omega : (0 : Int) ≤ o.n)]
            exact iteT (q1 (by unfold rAhead; rw [if_neg (fun z => c z.2.2)]))
/-! ### heard_begins, late_waits -/
def sp_hbegins (K : PySem.W.Frag) : Sp := fun vs H Q _ => ∃ (p : Addr) (m : Md), vs = [.ref p] ∧ WebAt (CW K) H p m ∧ ∀ (d : Addr) (H' : Hp), Same H H' → H d = none → HdD H' d (hkOf (hs m.wd)) → Q (.ref d) H'
theorem cal_heard_begins (T : Tp K mg) : Cal P w K mg base 6 "heard_begins" (sp_hbegins K) := by
  obtain ⟨fd, F⟩ := f_heard_begins T
  refine cal_of F (g_heard_begins T) (b_heard_begins F) sc_heard_begins (fun vs H Q E h => ?_) (fun cdv A outer s H vs Q E hr h => ?_)
  · obtain ⟨p, m, rfl, _⟩ := h
    rfl
  · obtain ⟨p, m, rfl, W, q⟩ := h
    have hlen := W.len
    have hl := hs_len m.wd
    refine ⟨_, (pss_one (ps_ret (pe_dc (own := [("end", 1), ("begin", 2), ("first", 3), ("last", 4)]) (tt := tYes) rfl sc_heard_begins.nd (pi_list (C8.pe_c (cal_heard_spans T) hr (by decide) rfl (pa_cons (pv 0) pa_nil))) (blkOk_by (N := N_heard_begins) (sc := defScope s_heard_begins) (by decide +kernel)) (fun _ _ _ _ _ => (pg_tupK (K := K) (n := 4) rfl rfl (pgs_cons (pg_name (i := 1) sc_heard_begins.nd rfl (.inl rfl)) (pgs_cons (pg_name (i := 2) sc_heard_begins.nd rfl (.inl rfl)) (pgs_cons (pg_name (i := 3) sc_heard_begins.nd rfl (.inl rfl)) (pgs_cons (pg_name (i := 4) sc_heard_begins.nd rfl (.inl rfl)) pgs_nil)))))) (fun _ _ _ _ _ => pts_nil) (fun _ _ _ _ _ => (pv 1)) (fun _ _ _ _ _ => (pe_tup (pa_cons (pv 2) (pa_cons (pv 3) pa_nil))))))), ?_⟩
    refine ⟨_, rfl, p, m, rfl, W, fun L H1 s1 nL ⟨xs, hL, R⟩ => ⟨L, rfl, ⟨_, .inl (.inl hL)⟩, fun D nD => ?_⟩⟩
    have lx : xs.length = (hs m.wd).length := by rw [R.len, List.length_map]
    refine dc_walk (walk_list (K := K) (a := L) (xs := xs)) (fun i H2 => Same H1 H2 ∧ ∃ kvs, H2 D = some (.dK kvs) ∧ kvs.length ≤ i ∧ HdK H2 kvs (hkOf ((hs m.wd).take i))) ⟨same_upd nD, [], upd_same, Nat.le_refl _, fun z => rfl⟩ (fun i H2 _ h => .inl (.inl (h.1 _ _ hL))) ?_ ?_
    · rintro i v H2' H2 hi ⟨s2, kvs, d2, n2, k2⟩ ⟨rfl, hv⟩
      obtain ⟨h, eh⟩ : ∃ h, (hs m.wd)[i]? = some h := ⟨_, List.getElem?_eq_getElem (by omega)⟩
      obtain ⟨t, rfl, ht⟩ := rows_at R hv eh
      refine ⟨t, hRow h, rfl, .inl (.inl (s2 _ _ ht)), rfl, _, _, rfl, _, _, rfl, _, _, rfl, _, _, rfl, rfl, rfl, yes_i (iteT ⟨_, rfl, _, rfl, _, rfl, (by show 2 ≤ sizeLine; decide), fun u nu => ?_⟩)⟩
      have su := same_upd (o := .tup [.str h.2.1, .int h.2.2.1]) nu
      have d3 := su _ _ d2
      refine ⟨kvs, kS h.1, rfl, d3, small1000 (by omega), same_put (s2.trans su) nD, _, upd_same, ?_, ?_⟩
      · have := length_putK kvs (kS h.1) (.ref u)
        omega
      · have et : hkOf ((hs m.wd).take (i + 1)) = hkS (hkOf ((hs m.wd).take i)) h := by
          unfold hkOf
          rw [List.take_add_one, eh, List.foldl_append]
          rfl
        rw [et]
        have kk : Kt (upd H2 u (.tup [.str h.2.1, .int h.2.2.1])) (upd (upd H2 u (.tup [.str h.2.1, .int h.2.2.1])) D (.dK (putK kvs (kS h.1) (.ref u)))) := Kt.upd fun zs z => by
          rw [d3] at z
          cases z
        exact ((k2.keep (Kt.of su)).put upd_same).keep kk
    · rintro H2 ⟨s2, kvs, d2, n2, k2⟩
      rw [lx, List.take_length] at k2
      exact q D H2 (s1.trans s2) (s1.free nD) ⟨kvs, d2, k2⟩
/-- the late waits -/
def lateF (h : Str × Str × Int × Int) : Ft := ⟨true, h.1, h.1, -h.2.2.2⟩
def sp_lates (K : PySem.W.Frag) : Sp := fun vs H Q _ => ∃ (p : Addr) (m : Md), vs = [.ref p] ∧ WebAt (CW K) H p m ∧ ∀ (D : Addr) (H' : Hp), Same H H' → H D = none → RowsAt H' D (((hs m.wd).map lateF).map Ft.row) → Q (.ref D) H'
theorem cal_late_waits (T : Tp K mg) : Cal P w K mg base 6 "late_waits" (sp_lates K) := by
  obtain ⟨fd, F⟩ := f_late_waits T
  refine cal_of F (g_late_waits T) (b_late_waits F) sc_late_waits (fun vs H Q E h => ?_) (fun cdv A outer s H vs Q E hr h => ?_)
  · obtain ⟨p, m, rfl, _⟩ := h
    rfl
  · obtain ⟨p, m, rfl, W, q⟩ := h
    have hlen := W.len
    have hl := hs_len m.wd
    refine ⟨_, (pss_one (ps_ret (pe_lc (own := [("end", 1), ("begin", 2), ("first", 3), ("last", 4)]) (tt := tYes) rfl sc_late_waits.nd (pi_list (C8.pe_c (cal_heard_spans T) hr (by decide) rfl (pa_cons (pv 0) pa_nil))) (blkOk_by (N := N_late_waits) (sc := defScope s_late_waits) (by decide +kernel)) (fun _ _ _ _ _ => (pg_tupK (K := K) (n := 4) rfl rfl (pgs_cons (pg_name (i := 1) sc_late_waits.nd rfl (.inl rfl)) (pgs_cons (pg_name (i := 2) sc_late_waits.nd rfl (.inl rfl)) (pgs_cons (pg_name (i := 3) sc_late_waits.nd rfl (.inl rfl)) (pgs_cons (pg_name (i := 4) sc_late_waits.nd rfl (.inl rfl)) pgs_nil)))))) (fun _ _ _ _ _ => pts_nil) (fun _ _ _ _ _ => (pe_tup (pa_cons (C8.pe_gc (by rfl) (c_UNTIL T)) (pa_cons (pv 1) (pa_cons (pv 1) (pa_cons (pe_un un_neg (pv 4)) pa_nil))))))))), ?_⟩
    refine ⟨_, rfl, p, m, rfl, W, fun L H1 s1 nL ⟨xs, hL, R⟩ => ⟨L, rfl, ⟨_, .inl (.inl hL)⟩, fun D nD => ?_⟩⟩
    refine lc_pure (hs m.wd) (walk_listN (by rw [R.len, List.length_map])) (fun x => some (lateF x)) (SR Ft.row) sr_k nD (by omega) (fun H s => .inl (.inl (s _ _ hL))) ?_ ?_
    · rintro i h v H2 _ eh s2 ⟨rfl, hv⟩ Good Bad kt kf
      obtain ⟨t, rfl, ht⟩ := rows_at R hv eh
      refine ⟨t, hRow h, rfl, .inl (.inl (s2 _ _ ht)), rfl, _, _, rfl, _, _, rfl, _, _, rfl, _, _, rfl, rfl, rfl, yes_i (iteT ⟨_, rfl, _, rfl, _, rfl, _, rfl, (by show 4 ≤ sizeLine; decide), fun u nu => ?_⟩)⟩
      exact kt _ _ _ rfl (same_upd nu) ⟨u, rfl, upd_same⟩
    · intro H2 acc s2 d2 p2
      rw [show ((hs m.wd).filterMap fun x => some (lateF x)) = (hs m.wd).map lateF from List.filterMap_eq_map ▸ rfl] at p2
      exact q D H2 (s1.trans s2) (s1.free nD) ⟨acc, d2, paired_rows p2⟩
end
end Tw

set_option maxHeartbeats 4000000
/-! values as data: lists of tuples of plain values compared -/
namespace Tw
open PySem PySem.Spec PyProof.Rows L2
def pd : V → PyData
  | .bl b => .bool b
  | .int i => .int i
  | .str z => .str z
  | _ => .none
/-- a plain value that can be laid -/
def okV : V → Bool
  | .non => true
  | .bl _ => true
  | .int _ => true
  | .str z => PyData.canLay0 (.str z)
  | _ => false
theorem dp_ok {K : PySem.W.Frag} {H : Hp} {v : V} (h : okV v = true) : Dp K H v (pd v) := by
  cases v with
  | non => exact .non
  | bl b => exact .bl b
  | int i => exact .int i
  | str z => exact .str z
  | byt b => cases h
  | flt b => cases h
  | ref b => cases h
  | ty b => cases h
theorem can_ok {v : V} (h : okV v = true) : (pd v).canLay0 = true := by
  cases v with
  | non => rfl
  | bl b => rfl
  | int i => rfl
  | str z => exact h
  | byt b => cases h
  | flt b => cases h
  | ref b => cases h
  | ty b => cases h
theorem depth_pd (v : V) : (pd v).depth = 0 := by
  cases v <;> rfl
theorem dp_all {K : PySem.W.Frag} {H : Hp} : ∀ {r : List V}, r.all okV = true → DpAll K H r (r.map pd)
  | [], _ => .nil
  | v :: r, h => by
    rw [List.all_cons, Bool.and_eq_true] at h
    exact .cons (dp_ok h.1) (dp_all h.2)
theorem can_all : ∀ {r : List V}, r.all okV = true → PyData.canLayAll0 (r.map pd) = true
  | [], _ => rfl
  | v :: r, h => by
    rw [List.all_cons, Bool.and_eq_true] at h
    show (PyData.canLay0 (pd v) && PyData.canLayAll0 (r.map pd)) = true
    rw [can_ok h.1, can_all h.2]
    rfl
theorem depth_all : ∀ (r : List V), PyData.depthAll (r.map pd) = 0
  | [] => rfl
  | v :: r => by
    show max (PyData.depth (pd v)) (PyData.depthAll (r.map pd)) = 0
    rw [depth_pd, depth_all r]
    rfl
def pdR (r : List V) : PyData := .tuple (r.map pd)
theorem dp_rows {K : PySem.W.Frag} {H : Hp} : ∀ {xs : List V} {rs : List (List V)}, Rows H xs rs → (∀ r ∈ rs, r.all okV = true) → DpAll K H xs (rs.map pdR)
  | _, _, .nil, _ => .nil
  | _, _, .cons ⟨t, e, ht⟩ q, h => by
    subst e
    exact .cons (.tup (.inl (.inl ht)) (dp_all (h _ List.mem_cons_self))) (dp_rows q fun r hr => h r (List.mem_cons_of_mem _ hr))
theorem can_rows : ∀ {rs : List (List V)}, (∀ r ∈ rs, r.all okV = true) → PyData.canLayAll0 (rs.map pdR) = true
  | [], _ => rfl
  | r :: rs, h => by
    show (PyData.canLayAll0 (r.map pd) && PyData.canLayAll0 (rs.map pdR)) = true
    rw [can_all (h _ List.mem_cons_self), can_rows fun r hr => h r (List.mem_cons_of_mem _ hr)]
    rfl
theorem depth_rows : ∀ (rs : List (List V)), PyData.depthAll (rs.map pdR) ≤ 1
  | [] => Nat.zero_le _
  | r :: rs => by
    show max (PyData.depthAll (r.map pd) + 1) (PyData.depthAll (rs.map pdR)) ≤ 1
    rw [depth_all]
    exact Nat.max_le.mpr ⟨Nat.le_refl _, depth_rows rs⟩
theorem shaped_rows {rs : List (List V)} (h : ∀ r ∈ rs, r.all okV = true) : SeqAt.shaped (.list (rs.map pdR)) = true := by
  unfold SeqAt.shaped
  rw [Bool.and_eq_true]
  refine ⟨can_rows h, decide_eq_true ?_⟩
  show PyData.depthAll (rs.map pdR) + 1 ≤ 64
  have := depth_rows rs
  omega
/-- rows != [] -/
theorem ne_empty {K : PySem.W.Frag} {H : Hp} {a b : Addr} {xs : List V} {rs : List (List V)} {Q : VK} (ha : H a = some (.lst xs)) (hb : H b = some (.lst [])) (R : Rows H xs rs) (h : ∀ r ∈ rs, r.all okV = true) (q : Q (.bl (!rs.isEmpty)) H) : rNeD K (.ref a) (.ref b) H Q := by
  refine ⟨.list (rs.map pdR), .list [], .lst (.inl (.inl ha)) (dp_rows R h), .lst (.inl (.inl hb)) .nil, shaped_rows h, by decide, ?_⟩
  cases rs with
  | nil => exact q
  | cons r rs => exact q
end Tw

set_option maxHeartbeats 4000000
namespace Tw
open PySem PySem.Spec PyProof.Rows L2
/-! papers.py: made rows of a good form -/
theorem small8 {n : Nat} (h : n ≤ 8000000) : n < sizeLine := by
  show n < 16777216
  omega
inductive Rw where
  | told (x y : Str) (n : Int)
  | late (k : Str)
  | pr (z : Str) (i j : Nat)
  | sg (z : Str) (i : Nat)
def Rw.row : Rw → List V
  | .told x y n => [.str "told", .str x, .str y, .int n]
  | .late k => [.str "late", .str k]
  | .pr z i j => [.str z, .int (i : Nat), .int (j : Nat)]
  | .sg z i => [.str z, .int (i : Nat)]
def Rw.wd : Rw → Str
  | .told _ _ _ => "told"
  | .late _ => "late"
  | .pr z _ _ => z
  | .sg z _ => z
/-- the words are those of the rules -/
def Rw.ok : Rw → Prop
  | .told _ _ _ => True
  | .late _ => True
  | .pr z _ _ => z = "along" ∨ z = "wait"
  | .sg z _ => z = "sure" ∨ z = "soon" ∨ z = "ahead"
theorem Rw.first (r : Rw) : r.row[0]? = some (.str r.wd) := by
  cases r <;> rfl
theorem Rw.not_told {r : Rw} (ok : r.ok) (h : ∀ x y n, r ≠ .told x y n) : ¬ r.wd = "told" := fun e => by
  cases r with
  | told x y n => exact h x y n rfl
  | late k => exact absurd (show ("late" : Str) = "told" from e) (by decide +kernel)
  | pr z i j =>
    have e : z = "told" := e
    rcases ok with h | h
    · exact absurd (h.symm.trans e) (by decide +kernel)
    · exact absurd (h.symm.trans e) (by decide +kernel)
  | sg z i =>
    have e : z = "told" := e
    rcases ok with h | h | h
    · exact absurd (h.symm.trans e) (by decide +kernel)
    · exact absurd (h.symm.trans e) (by decide +kernel)
    · exact absurd (h.symm.trans e) (by decide +kernel)
theorem shaped_row {r : List V} (h : r.all okV = true) : SeqAt.shaped (pdR r) = true := by
  unfold SeqAt.shaped
  rw [Bool.and_eq_true]
  refine ⟨can_all h, decide_eq_true ?_⟩
  show PyData.depthAll (r.map pd) + 1 ≤ 64
  rw [depth_all]
  decide
theorem any_row {rs : List (List V)} {r : List V} (h : r.all okV = true) (hin : r ∈ rs) : ((rs.map pdR).any fun z => PyData.eqv z (pdR r)) = true :=
  List.any_eq_true.mpr ⟨pdR r, List.mem_map.mpr ⟨r, hin, rfl⟩, PySem.SeqAt.eqv_refl (pdR r) (can_all h)⟩
section
variable {P : Program} {w : World} {K : PySem.W.Frag} {mg : Str → Option Value} {base : Heap}
/-! ### told_fact -/
def sp_told : Sp := fun vs H Q _ => ∃ (L t : Addr) (rs : List (List V)) (r : Rw), vs = [.ref L, .ref t] ∧ RowsAt H L rs ∧ (∀ q ∈ rs, q.all okV = true) ∧ H t = some (.tup r.row) ∧ r.ok ∧
  (∀ x y n, r = .told x y n → [.str x, .str y, .int n] ∈ rs ∧ ∀ (u : Addr) (H' : Hp), Same H H' → H' u = some (.tup (Ft.row ⟨false, x, y, n⟩)) → Q (.ref u) H') ∧ ((∀ x y n, r ≠ .told x y n) → Q .non H)
/-! ### late_fact -/
/-- a dict from ends to their late waits -/
def LtK (H : Hp) (kvs : List (Key × V)) (f : Str → Option Ft) : Prop := ∀ z, match f z with
  | none => valV kvs (kS z) = none
  | some r => ∃ t, valV kvs (kS z) = some (.ref t) ∧ H t = some (.tup r.row)
def LtD (H : Hp) (d : Addr) (f : Str → Option Ft) : Prop := ∃ kvs, H d = some (.dK kvs) ∧ LtK H kvs f
theorem LtK.keep {H H' : Hp} {kvs : List (Key × V)} {f : Str → Option Ft} (h : LtK H kvs f) (k : Kt H H') : LtK H' kvs f := fun z => by
  have hz := h z
  cases e : f z with
  | none =>
    rw [e] at hz
    exact hz
  | some r =>
    rw [e] at hz
    obtain ⟨t, h1, h2⟩ := hz
    exact ⟨t, h1, k _ _ h2⟩
theorem LtD.same {H H' : Hp} {d : Addr} {f : Str → Option Ft} (h : LtD H d f) (s : Same H H') : LtD H' d f := by
  obtain ⟨kvs, h1, h2⟩ := h
  exact ⟨kvs, s _ _ h1, h2.keep (Kt.of s)⟩
def sp_one_ofD : Sp := fun vs H Q _ => ∃ (z : Str) (p : Addr) (kvs : List (Key × V)), vs = [.str z, .ref p] ∧ H p = some (.dK kvs) ∧ Q (.bl (valV kvs (kS z)).isSome) H
theorem cal_one_ofD (T : Tp K mg) : Cal P w K mg base 1 "is_one_of" sp_one_ofD := by
  obtain ⟨fd, F⟩ := f_is_one_of T
  refine cal_of F (g_is_one_of T) (b_is_one_of F) sc_is_one_of (fun vs H Q E h => ?_) (fun cdv A outer s H vs Q E hr h => ?_)
  · obtain ⟨z, p, kvs, rfl, _⟩ := h
    rfl
  · obtain ⟨z, p, kvs, rfl, hp, q⟩ := h
    have hu := hu_of hr
    refine ⟨_, (pss_one (ps_ret (pe_and (pe_callB call_isK (by rfl) (z_isinstance T) bb_isinstance (pa_cons (pv 0) (pa_cons (pe_bltn (v := .ty "str") (by rfl) (z_str T) bb_str rfl) pa_nil))) (pe_one (pe_cmp (pc_din hu (pv 0) (pv 1)) (by rfl)))))), ?_⟩
    exact ⟨_, rfl, _, "str", "str", rfl, .base (.str _), by decide, by decide, _, rfl, iteT ⟨_, rfl, _, rfl, p, _, rfl, DGet.k (k := kS z) hp, q⟩⟩
theorem Rw.not_late {r : Rw} (ok : r.ok) (h : ∀ k, r ≠ .late k) : ¬ r.wd = "late" := fun e => by
  cases r with
  | late k => exact h k rfl
  | told x y n => exact absurd (show ("told" : Str) = "late" from e) (by decide +kernel)
  | pr z i j =>
    have e : z = "late" := e
    rcases ok with h | h
    · exact absurd (h.symm.trans e) (by decide +kernel)
    · exact absurd (h.symm.trans e) (by decide +kernel)
  | sg z i =>
    have e : z = "late" := e
    rcases ok with h | h | h
    · exact absurd (h.symm.trans e) (by decide +kernel)
    · exact absurd (h.symm.trans e) (by decide +kernel)
    · exact absurd (h.symm.trans e) (by decide +kernel)
def sp_late : Sp := fun vs H Q _ => ∃ (d t : Addr) (f : Str → Option Ft) (r : Rw), vs = [.ref d, .ref t] ∧ LtD H d f ∧ H t = some (.tup r.row) ∧ r.ok ∧ (∀ k, r = .late k → ∃ x, f k = some x ∧ ∀ u, H u = some (.tup x.row) → Q (.ref u) H) ∧ ((∀ k, r ≠ .late k) → Q .non H)
/-! ### made_fact -/
def rPr (z : Str) (o p : Ft) : Option Ft := if z = "along" then rAlong o p else rWait o p
def rSg (z : Str) (f : Hk) (o : Ft) : Option Ft := if z = "sure" then rSure f o else if z = "soon" then rSoon f o else rAhead f o
/-- the table's def at a word -/
def one (f g : Addr) (sp : Sp) : Option Sp := if f = g then some sp else none
theorem one_at {f : Addr} {sp : Sp} : one f f sp = some sp := if_pos rfl
theorem one_of {f g : Addr} {sp sp' : Sp} (e : one f g sp = some sp') : f = g ∧ sp = sp' := by
  unfold one at e
  by_cases c : f = g
  · rw [if_pos c] at e
    exact ⟨c, Option.some.inj e⟩
  · rw [if_neg c] at e
    cases e
def SP (K : PySem.W.Frag) (z : Str) (f : Addr) : Option Sp := if z = "along" then one f (He.ga K "along") (sp_pair rAlong) else one f (He.ga K "wait") (sp_pair rWait)
def SS (K : PySem.W.Frag) (z : Str) (f : Addr) : Option Sp := if z = "sure" then one f (He.ga K "sure") (sp_single okSure rSure) else if z = "soon" then one f (He.ga K "soon") (sp_single okAll rSoon) else one f (He.ga K "ahead") (sp_single okAll rAhead)
theorem held_of {x : Str} {k : Nat} {sp : Sp} {f : Addr} (c : Cal P w K mg base k x sp) (g : mg x = some (.ref f)) : Held P w K mg base k f sp := by
  obtain ⟨f', fd, ps, ds, F, at_, kp, b, dv⟩ := c.ex
  rw [g] at at_
  cases at_
  cases dv
  exact ⟨fd, ps, F, kp, b⟩
theorem heldS (T : Tp K mg) (z : Str) : ∀ f sp, SS K z f = some sp → Held P w K mg base 1 f sp := fun f sp e => by
  unfold SS at e
  by_cases c1 : z = "sure"
  · rw [if_pos c1] at e
    obtain ⟨rfl, rfl⟩ := one_of e
    exact held_of (cal_sure T) (g_sure T)
  · rw [if_neg c1] at e
    by_cases c2 : z = "soon"
    · rw [if_pos c2] at e
      obtain ⟨rfl, rfl⟩ := one_of e
      exact held_of (cal_soon T) (g_soon T)
    · rw [if_neg c2] at e
      obtain ⟨rfl, rfl⟩ := one_of e
      exact held_of (cal_ahead T) (g_ahead T)
/-- None, or a fact that stands by now -/
def MadeS (r : Option Ft) (H : Hp) (Q : VK) : Prop := (r = none → ∀ H', Same H H' → Q .non H') ∧ ∀ f, r = some f → ∀ u H', Same H H' → H' u = some (.tup f.row) → Q (.ref u) H'
theorem MadeS.at {r : Option Ft} {H H' : Hp} {Q : VK} (h : MadeS r H Q) (s : Same H H') : MadeF r H' Q := ⟨fun e => h.1 e H' s, fun f e t nt => h.2 f e t _ (s.trans (same_upd nt)) upd_same⟩
abbrev Tbs (w : World) (K : PySem.W.Frag) : Prop := ∀ t ∈ tb, ∃ es n, KDict K w (t.1 K) es n
def sp_madeP : Sp := fun vs H Q _ => ∃ (d l t : Addr) (fs : List Ft) (xs : List V) (z : Str) (i j : Nat) (o p : Ft), vs = [.ref d, .ref l, .ref t] ∧ H l = some (.lst xs) ∧ Rows H xs (fs.map Ft.row) ∧ fs.length ≤ 8000000 ∧ H t = some (.tup (Rw.row (.pr z i j))) ∧ (z = "along" ∨ z = "wait") ∧ fs[i]? = some o ∧ fs[j]? = some p ∧ MadeS (rPr z o p) H Q
def sp_madeS : Sp := fun vs H Q _ => ∃ (d l t : Addr) (g : Hk) (fs : List Ft) (xs : List V) (z : Str) (i : Nat) (o : Ft), vs = [.ref d, .ref l, .ref t] ∧ HdD H d g ∧ H l = some (.lst xs) ∧ Rows H xs (fs.map Ft.row) ∧ fs.length ≤ 8000000 ∧ H t = some (.tup (Rw.row (.sg z i))) ∧ (z = "sure" ∨ z = "soon" ∨ z = "ahead") ∧ fs[i]? = some o ∧ okSure g o ∧ MadeS (rSg z g o) H Q
def sp_made : Sp := fun vs H Q E => sp_madeP vs H Q E ∨ sp_madeS vs H Q E
end
end Tw

set_option maxHeartbeats 4000000
namespace Tw
open PySem PySem.Spec PyProof.Rows L2
/-! meaning -/
def ltS (f : Str → Option Ft) (x : Ft) : Str → Option Ft := fun z => if z = x.a then some x else f z
def ltOf (l : List Ft) : Str → Option Ft := l.foldl ltS fun _ => none
theorem LtK.put {H : Hp} {kvs : List (Key × V)} {f : Str → Option Ft} {x : Ft} {t : Addr} (k : LtK H kvs f) (ht : H t = some (.tup x.row)) : LtK H (putK kvs (kS x.a) (.ref t)) (ltS f x) := fun z => by
  unfold ltS
  by_cases e : z = x.a
  · rw [if_pos e]
    exact ⟨t, by rw [valV_put, if_pos (by rw [e])], ht⟩
  · rw [if_neg e]
    have hz := k z
    have ev : valV (putK kvs (kS x.a) (.ref t)) (kS z) = valV kvs (kS z) := by rw [valV_put, if_neg (fun q => e (Sum.inr.inj q))]
    cases ef : f z with
    | none =>
      rw [ef] at hz
      show valV _ _ = none
      rw [ev]
      exact hz
    | some r =>
      rw [ef] at hz
      obtain ⟨t', h1, h2⟩ := hz
      exact ⟨t', by rw [ev]; exact h1, h2⟩
/-- a row, read behind those ahead -/
def Step (m : Md) (prev : List Ft) (f : Ft) : Rw → Prop
  | .told x y n => [.str x, .str y, .int n] ∈ bRows m ∧ f = ⟨false, x, y, n⟩
  | .late k => ltOf ((hs m.wd).map lateF) k = some f
  | .pr z i j => (z = "along" ∨ z = "wait") ∧ ∃ o p, prev[i]? = some o ∧ prev[j]? = some p ∧ rPr z o p = some f
  | .sg z i => (z = "sure" ∨ z = "soon" ∨ z = "ahead") ∧ ∃ o, prev[i]? = some o ∧ okSure (hkOf (hs m.wd)) o ∧ rSg z (hkOf (hs m.wd)) o = some f
theorem Step.ok {m : Md} {prev : List Ft} {f : Ft} {r : Rw} (h : Step m prev f r) : r.ok := by
  cases r with
  | told x y n => exact True.intro
  | late k => exact True.intro
  | pr z i j => exact h.1
  | sg z i => exact h.1
theorem Rw.two (r : Rw) : 1 < r.row.length := by
  cases r <;> simp [Rw.row]
section
variable {P : Program} {w : World} {K : PySem.W.Frag} {mg : Str → Option Value} {base : Heap}
def sp_meaning (K : PySem.W.Frag) : Sp := fun vs H Q _ => ∃ (p L : Addr) (m : Md) (rws : List Rw) (fs : List Ft) (xs : List V), vs = [.ref p, .ref L] ∧ WebAt (CW K) H p m ∧ (∀ x ∈ m.bd, x.one ∈ m.pts ∧ x.oth ∈ m.pts) ∧ (∀ q ∈ bRows m, q.all okV = true) ∧ H L = some (.lst xs) ∧ Rows H xs (rws.map Rw.row) ∧ rws.length ≤ 8000000 ∧ fs.length = rws.length ∧
  (∀ i r, rws[i]? = some r → ∃ f, fs[i]? = some f ∧ Step m (fs.take i) f r) ∧ ∀ (D : Addr) (H' : Hp), Same H H' → H D = none → RowsAt H' D (fs.map Ft.row) → Q (.ref D) H'
end
end Tw

set_option maxHeartbeats 4000000
namespace Tw
open PySem PySem.Spec PyProof.Rows L2
section
variable {P : Program} {w : World} {K : PySem.W.Frag} {mg : Str → Option Value} {base : Heap}
/-! ### _law_whole -/
def sp_lwhole : Sp := fun vs H Q _ => ∃ (v : V) (lo hi : Int), vs = [v, .int lo, .int hi] ∧ (plK v).isSome = true ∧ Q (.bl (whB lo hi v)) H
end
end Tw

set_option maxHeartbeats 4000000
namespace Tw
open PySem PySem.Spec PyProof.Rows L2
/-! the law's own reading of made rows -/
theorem ix_along : (((4 : Nat) : Int) - 3 + if decide (V.str "along" = V.str "wait") = true then 1 else 0) = 1 := by decide +kernel
theorem ix_wait : (((4 : Nat) : Int) - 3 + if decide (V.str "wait" = V.str "wait") = true then 1 else 0) = 2 := by decide +kernel
theorem ne_aw : ¬ V.str "along" = V.str "wait" := by decide +kernel
theorem ne_wa : ¬ V.str "wait" = V.str "along" := by decide +kernel
section
variable {P : Program} {w : World} {K : PySem.W.Frag} {mg : Str → Option Value} {base : Heap}
def sp_rpair : Sp := fun vs H Q _ => ∃ (s t : Addr) (x : V) (z : Str) (o p : Ft), vs = [x, .str z, .ref s, .ref t] ∧ H s = some (.tup o.row) ∧ H t = some (.tup p.row) ∧ (z = "along" ∨ z = "wait") ∧ MadeF (rPr z o p) H Q
theorem nS1 : ¬ V.str "sure" = V.str "soon" := by decide +kernel
theorem nS2 : ¬ V.str "sure" = V.str "ahead" := by decide +kernel
theorem nS3 : ¬ V.str "soon" = V.str "sure" := by decide +kernel
theorem nS4 : ¬ V.str "soon" = V.str "ahead" := by decide +kernel
theorem nS5 : ¬ V.str "ahead" = V.str "sure" := by decide +kernel
theorem nS6 : ¬ V.str "ahead" = V.str "soon" := by decide +kernel
def sp_rone : Sp := fun vs H Q _ => ∃ (d t : Addr) (m : Md) (z : Str) (o : Ft), vs = [.ref d, .str z, .ref t] ∧ MdAt H d m ∧ m.wd.length ≤ 4 ∧ H t = some (.tup o.row) ∧ (z = "sure" ∨ z = "soon" ∨ z = "ahead") ∧ okSure (hkOf (hs m.wd)) o ∧ MadeS (rSg z (hkOf (hs m.wd)) o) H Q
end
end Tw

set_option maxHeartbeats 4000000
namespace Tw
open PySem PySem.Spec PyProof.Rows L2
/-! _law_read_row, of rows that stand in their bounds -/
def sz0 : List (Key × V) := [(kS "told", .int 4), (kS "late", .int 2), (kS "along", .int 3), (kS "wait", .int 3), (kS "sure", .int 2), (kS "soon", .int 2), (kS "ahead", .int 2)]
theorem sz_ok {r : Rw} (ok : r.ok) : valV (mergeK [] sz0) (kS r.wd) = some (.int (r.row.length : Nat)) := by
  cases r with
  | told x y n =>
    show valV (mergeK [] sz0) (kS "told") = some (.int 4)
    decide +kernel
  | late k =>
    show valV (mergeK [] sz0) (kS "late") = some (.int 2)
    decide +kernel
  | pr z i j =>
    rcases (show z = "along" ∨ z = "wait" from ok) with rfl | rfl
    · show valV (mergeK [] sz0) (kS "along") = some (.int 3)
      decide +kernel
    · show valV (mergeK [] sz0) (kS "wait") = some (.int 3)
      decide +kernel
  | sg z i =>
    rcases (show z = "sure" ∨ z = "soon" ∨ z = "ahead" from ok) with rfl | rfl | rfl
    · show valV (mergeK [] sz0) (kS "sure") = some (.int 2)
      decide +kernel
    · show valV (mergeK [] sz0) (kS "soon") = some (.int 2)
      decide +kernel
    · show valV (mergeK [] sz0) (kS "ahead") = some (.int 2)
      decide +kernel
/-- what a row reads as -/
def rdR (m : Md) (prev : List Ft) : Rw → Option Ft
  | .told x y n => some ⟨false, x, y, n⟩
  | .late k => ltOf ((hs m.wd).map lateF) k
  | .pr z i j => (prev[i]?).bind fun o => (prev[j]?).bind fun p => rPr z o p
  | .sg z i => (prev[i]?).bind fun o => rSg z (hkOf (hs m.wd)) o
/-- rows that stand in their bounds -/
def InB (m : Md) (prev : List Ft) : Rw → Prop
  | .told x y n => [.str x, .str y, .int n] ∈ bRows m
  | .late k => ∃ h ∈ hs m.wd, h.1 = k
  | .pr z i j => (z = "along" ∨ z = "wait") ∧ i < prev.length ∧ j < prev.length
  | .sg z i => (z = "sure" ∨ z = "soon" ∨ z = "ahead") ∧ i < prev.length
theorem InB.ok {m : Md} {prev : List Ft} {r : Rw} (h : InB m prev r) : r.ok := by
  cases r with
  | told x y n => exact True.intro
  | late k => exact True.intro
  | pr z i j => exact h.1
  | sg z i => exact h.1
theorem filter_one : ∀ {l : List (Str × Str × Int × Int)} {h : Str × Str × Int × Int}, (l.map (·.1)).Nodup → h ∈ l → l.filterMap (fun x => if decide (x.1 = h.1) = true then some x.2.2.2 else none) = [h.2.2.2]
  | [], _, _, hm => nomatch hm
  | a :: r, h, nd, hm => by
    have nd : (a.1 :: r.map (·.1)).Nodup := nd
    obtain ⟨n1, n2⟩ := List.nodup_cons.mp nd
    rw [List.filterMap_cons]
    rcases List.mem_cons.mp hm with e | e
    · subst e
      rw [if_pos (decide_eq_true rfl)]
      have e2 : r.filterMap (fun x => if decide (x.1 = h.1) = true then some x.2.2.2 else none) = [] := List.filterMap_eq_nil_iff.mpr fun x hx => by
        rw [if_neg]
        intro z
        exact n1 (List.mem_map.mpr ⟨x, hx, of_decide_eq_true z⟩)
      show _ :: _ = _
      rw [e2]
    · have ne : ¬ a.1 = h.1 := fun z => n1 (by rw [z]; exact List.mem_map.mpr ⟨h, e, rfl⟩)
      rw [if_neg (by rw [decide_eq_true_eq]; exact ne)]
      exact filter_one n2 e
theorem lt_out : ∀ {l : List Ft} {f : Str → Option Ft} {z : Str}, ¬ z ∈ l.map (·.a) → l.foldl ltS f z = f z
  | [], _, _, _ => rfl
  | x :: r, f, z, h => by
    have h1 : ¬ z = x.a := fun e => h (by rw [e]; exact List.mem_cons_self)
    rw [List.foldl_cons, lt_out fun hm => h (List.mem_cons_of_mem _ hm)]
    unfold ltS
    rw [if_neg h1]
theorem lt_at : ∀ {l : List Ft} {f : Str → Option Ft} {x : Ft}, (l.map (·.a)).Nodup → x ∈ l → l.foldl ltS f x.a = some x
  | [], _, _, _, hm => nomatch hm
  | y :: r, f, x, nd, hm => by
    have nd : (y.a :: r.map (·.a)).Nodup := nd
    obtain ⟨n1, n2⟩ := List.nodup_cons.mp nd
    rw [List.foldl_cons]
    rcases List.mem_cons.mp hm with e | e
    · subst e
      rw [lt_out n1]
      unfold ltS
      rw [if_pos rfl]
    · exact lt_at n2 e
theorem late_at {m : Md} {h : Str × Str × Int × Int} (nd : ((hs m.wd).map (·.1)).Nodup) (hm : h ∈ hs m.wd) : ltOf ((hs m.wd).map lateF) h.1 = some (lateF h) := by
  refine lt_at (x := lateF h) ?_ (List.mem_map.mpr ⟨h, hm, rfl⟩)
  rw [List.map_map]
  exact nd
section
variable {P : Program} {w : World} {K : PySem.W.Frag} {mg : Str → Option Value} {base : Heap}
def sp_rrow : Sp := fun vs H Q _ => ∃ (d l t : Addr) (m : Md) (prev : List Ft) (xs : List V) (r : Rw), vs = [.ref d, .ref l, .ref t] ∧ MdAt H d m ∧ (m.own.length ≤ 10 ∧ m.wd.length ≤ 4 ∧ m.bd.length ≤ 40) ∧ (∀ q ∈ bRows m, q.all okV = true) ∧ H l = some (.lst xs) ∧ Rows H xs (prev.map Ft.row) ∧ prev.length ≤ 8000000 ∧ (∀ o ∈ prev, okSure (hkOf (hs m.wd)) o) ∧ H t = some (.tup r.row) ∧ InB m prev r ∧ ((hs m.wd).map (·.1)).Nodup ∧ MadeS (rdR m prev r) H Q
end
end Tw

set_option maxHeartbeats 4000000
namespace Tw
open PySem PySem.Spec PyProof.Rows L2
/-! _law_new_row -/
abbrev words9 : List Str := ["told", "along", "along", "wait", "wait", "sure", "soon", "ahead", "late"]
theorem bR_form {m : Md} {q : List V} (h : q ∈ bRows m) : ∃ (x y : Str) (n : Int), q = [.str x, .str y, .int n] := by
  unfold bRows at h
  rcases List.mem_append.mp h with h | h
  · rcases List.mem_append.mp h with h | h
    · obtain ⟨z, _, hz⟩ := List.mem_flatMap.mp h
      rcases List.mem_cons.mp hz with e | e
      · exact ⟨_, _, _, e⟩
      · exact ⟨_, _, _, List.mem_singleton.mp e⟩
    · obtain ⟨z, _, hz⟩ := List.mem_flatMap.mp h
      rcases List.mem_cons.mp hz with e | e
      · exact ⟨_, _, _, e⟩
      · exact ⟨_, _, _, List.mem_singleton.mp e⟩
  · obtain ⟨z, _, hz⟩ := List.mem_flatMap.mp h
    unfold tieRows at hz
    rcases List.mem_append.mp hz with e | e
    · cases et : z.top with
      | none =>
        rw [et] at e
        cases e
      | some i =>
        rw [et] at e
        exact ⟨_, _, _, List.mem_singleton.mp e⟩
    · cases et : z.bot with
      | none =>
        rw [et] at e
        cases e
      | some i =>
        rw [et] at e
        exact ⟨_, _, _, List.mem_singleton.mp e⟩
theorem bR_ne {m : Md} (h : 0 < m.own.length) : 0 < (bRows m).length := by
  obtain ⟨z, hz⟩ : ∃ z, z ∈ m.own := ⟨m.own[0], List.getElem_mem h⟩
  exact List.length_pos_of_mem (List.mem_append_left _ (List.mem_append_left _ (List.mem_flatMap.mpr ⟨z, hz, List.mem_cons_self⟩)))
theorem bR_heard {m : Md} {h : Str × Str × Int × Int} (hm : h ∈ hs m.wd) : [.str h.2.1, .str h.1, .int h.2.2.2] ∈ bRows m :=
  List.mem_append_left _ (List.mem_append_right _ (List.mem_flatMap.mpr ⟨h, hm, List.mem_cons_self⟩))
theorem row_okV {m : Md} {prev : List Ft} {r : Rw} (okr : ∀ q ∈ bRows m, q.all okV = true) (h : InB m prev r) : r.row.all okV = true := by
  cases r with
  | told x y n =>
    have h1 := okr _ h
    show (okV (.str "told") && ([.str x, .str y, .int n] : List V).all okV) = true
    rw [h1, Bool.and_true]
    decide +kernel
  | late k =>
    obtain ⟨g, hg, rfl⟩ := h
    have h1 := List.all_eq_true.mp (okr _ (bR_heard hg)) (.str g.1) (List.mem_cons_of_mem _ List.mem_cons_self)
    show (okV (.str "late") && (okV (.str g.1) && true)) = true
    rw [h1]
    decide +kernel
  | pr z i j =>
    rcases h.1 with rfl | rfl
    · show (okV (.str "along") && true) = true
      decide +kernel
    · show (okV (.str "wait") && true) = true
      decide +kernel
  | sg z i =>
    rcases h.1 with rfl | rfl | rfl
    · show (okV (.str "sure") && true) = true
      decide +kernel
    · show (okV (.str "soon") && true) = true
      decide +kernel
    · show (okV (.str "ahead") && true) = true
      decide +kernel
theorem walk_rangeN {lo : Int} {n k : Nat} (h : n = k) : Walk (Itr lo n) k (fun _ => True) (YFn fun i => .int (lo + i)) := h ▸ walk_range
theorem b_len {m : Md} (h : m.own.length ≤ 10 ∧ m.wd.length ≤ 4 ∧ m.bd.length ≤ 40) : (bRows m).length ≤ 108 := by
  unfold bRows
  rw [List.length_append, List.length_append]
  have h1 := fm_len (mRows m.last) 2 (fun _ => Nat.le_refl _) m.own
  have h2 := fm_len h2Rows 2 (fun _ => Nat.le_refl _) (hs m.wd)
  have h3 := fm_len (tieRows m.wd) 2 (tie_len m.wd) m.bd
  have h4 := hs_len m.wd
  omega
section
variable {P : Program} {w : World} {K : PySem.W.Frag} {mg : Str → Option Value} {base : Heap}
/-- what stands: the model, the facts -/
structure Sd (H : Hp) (d l : Addr) (m : Md) (prev : List Ft) (xs : List V) : Prop where
  md : MdAt H d m
  ls : H l = some (.lst xs)
  rw : Rows H xs (prev.map Ft.row)
theorem Sd.same {H H' : Hp} {d l : Addr} {m : Md} {prev : List Ft} {xs : List V} (h : Sd H d l m prev xs) (s : Same H H') : Sd H' d l m prev xs := ⟨h.md.same s, s _ _ h.ls, h.rw.keep (Kt.of s)⟩
theorem Sd.sb {H H' : Hp} {f c d l : Addr} {m : Md} {prev : List Ft} {xs : List V} (h : Sd H d l m prev xs) (F : Flow H f c) (s : Sb f H H') : Sd H' d l m prev xs := by
  obtain ⟨zs, hf⟩ := F.lst
  exact ⟨h.md.sb F s, s _ _ h.ls (rows_flow F h.ls h.rw), h.rw.keep (s.kt hf)⟩
structure Fix (m : Md) (prev : List Ft) : Prop where
  lens : m.own.length ≤ 10 ∧ m.wd.length ≤ 4 ∧ m.bd.length ≤ 40
  okr : ∀ q ∈ bRows m, q.all okV = true
  few : prev.length ≤ 20
  oks : ∀ o ∈ prev, okSure (hkOf (hs m.wd)) o
  ndh : ((hs m.wd).map (·.1)).Nodup
  own : 0 < m.own.length
def sp_new : Sp := fun vs H Q _ => ∃ (f c d l : Addr) (m : Md) (prev : List Ft) (xs : List V), vs = [.ref f, .ref d, .ref l] ∧ Flow H f c ∧ Sd H d l m prev xs ∧ Fix m prev ∧
  ∀ (t : Addr) (r : Rw) (g : Ft) (H' : Hp), Sb f H H' → Flow H' f c → H' t = some (.tup r.row) → InB m prev r → rdR m prev r = some g → Q (.ref t) H'
end
end Tw

set_option maxHeartbeats 4000000
namespace Tw
open PySem PySem.Spec PyProof.Rows L2
/-! _law_some_rows -/
theorem hk_some : ∀ {l : List (Str × Str × Int × Int)} {f : Hk} {z : Str}, (f z).isSome = true ∨ z ∈ l.map (·.1) → (l.foldl hkS f z).isSome = true
  | [], _, _, h => by
    rcases h with h | h
    · exact h
    · cases h
  | x :: r, f, z, h => by
    rw [List.foldl_cons]
    refine hk_some ?_
    by_cases c : z = x.1
    · refine .inl ?_
      unfold hkS
      rw [if_pos c]
      rfl
    · rcases h with h | h
      · refine .inl ?_
        unfold hkS
        rw [if_neg c]
        exact h
      · rcases List.mem_cons.mp h with h | h
        · exact absurd h c
        · exact .inr h
theorem step_of {m : Md} {prev : List Ft} {r : Rw} {g : Ft} (oks : ∀ o ∈ prev, okSure (hkOf (hs m.wd)) o) (ib : InB m prev r) (e : rdR m prev r = some g) : Step m prev g r := by
  cases r with
  | told x y n => exact ⟨ib, (Option.some.inj e).symm⟩
  | late k => exact e
  | pr z i j =>
    obtain ⟨o, h1, h2⟩ := Option.bind_eq_some_iff.mp e
    obtain ⟨p, h3, h4⟩ := Option.bind_eq_some_iff.mp h2
    exact ⟨ib.1, o, p, h1, h3, h4⟩
  | sg z i =>
    obtain ⟨o, h1, h2⟩ := Option.bind_eq_some_iff.mp e
    exact ⟨ib.1, o, h1, oks o (List.mem_of_getElem? h1), h2⟩
theorem sure_of {m : Md} {prev : List Ft} {r : Rw} {g : Ft} (nd : ((hs m.wd).map (·.1)).Nodup) (oks : ∀ o ∈ prev, okSure (hkOf (hs m.wd)) o) (ib : InB m prev r) (e : rdR m prev r = some g) : okSure (hkOf (hs m.wd)) g := by
  intro hu
  cases r with
  | told x y n =>
    cases e
    cases hu
  | late k =>
    obtain ⟨h, hm, rfl⟩ := ib
    have e2 : rdR m prev (.late h.1) = some (lateF h) := late_at nd hm
    rw [e2] at e
    cases e
    exact hk_some (.inr (List.mem_map.mpr ⟨h, hm, rfl⟩))
  | pr z i j =>
    obtain ⟨o, h1, h2⟩ := Option.bind_eq_some_iff.mp e
    obtain ⟨p, h3, h4⟩ := Option.bind_eq_some_iff.mp h2
    unfold rPr at h4
    by_cases c : z = "along"
    · rw [if_pos c] at h4
      unfold rAlong at h4
      by_cases d : o.u = false ∧ p.u = false ∧ o.b = p.a
      · rw [if_pos d] at h4
        cases h4
        cases hu
      · rw [if_neg d] at h4
        cases h4
    · rw [if_neg c] at h4
      unfold rWait at h4
      by_cases d : o.u = false ∧ p.u = true ∧ o.b = p.b
      · rw [if_pos d] at h4
        cases h4
        exact oks p (List.mem_of_getElem? h3) d.2.1
      · rw [if_neg d] at h4
        cases h4
  | sg z i =>
    obtain ⟨o, h1, h2⟩ := Option.bind_eq_some_iff.mp e
    unfold rSg at h2
    by_cases c : z = "sure"
    · rw [if_pos c] at h2
      unfold rSure at h2
      by_cases d : o.u = true
      · rw [if_pos d] at h2
        obtain ⟨y, _, rfl⟩ := Option.map_eq_some_iff.mp h2
        cases hu
      · rw [if_neg d] at h2
        cases h2
    · rw [if_neg c] at h2
      by_cases c2 : z = "soon"
      · rw [if_pos c2] at h2
        unfold rSoon at h2
        by_cases d : o.u = false ∧ o.n < 0
        · rw [if_pos d] at h2
          obtain ⟨y, _, rfl⟩ := Option.map_eq_some_iff.mp h2
          cases hu
        · rw [if_neg d] at h2
          cases h2
      · rw [if_neg c2] at h2
        unfold rAhead at h2
        by_cases d : o.u = true ∧ ¬ o.a = o.b ∧ o.n < 0
        · rw [if_pos d] at h2
          obtain ⟨y, _, rfl⟩ := Option.map_eq_some_iff.mp h2
          exact oks o (List.mem_of_getElem? h1) d.1
        · rw [if_neg d] at h2
          cases h2
/-- rows and what they read as, one by one -/
structure Red (m : Md) (rws : List Rw) (fs : List Ft) : Prop where
  len : fs.length = rws.length
  st : ∀ i r, rws[i]? = some r → ∃ f, fs[i]? = some f ∧ Step m (fs.take i) f r
  oks : ∀ o ∈ fs, okSure (hkOf (hs m.wd)) o
theorem Red.nil {m : Md} : Red m [] [] := ⟨rfl, (fun i r e => nomatch e), fun o h => nomatch h⟩
theorem Red.snoc {m : Md} {rws : List Rw} {fs : List Ft} {r : Rw} {g : Ft} (h : Red m rws fs) (nd : ((hs m.wd).map (·.1)).Nodup) (ib : InB m fs r) (e : rdR m fs r = some g) : Red m (rws ++ [r]) (fs ++ [g]) := by
  refine ⟨by rw [List.length_append, List.length_append, h.len]; rfl, fun i q eq => ?_, fun o ho => ?_⟩
  · by_cases c : i < rws.length
    · rw [List.getElem?_append_left c] at eq
      obtain ⟨f, h1, h2⟩ := h.st i q eq
      have li : i < fs.length := by rw [h.len]; exact c
      refine ⟨f, by rw [List.getElem?_append_left li]; exact h1, ?_⟩
      rw [List.take_append_of_le_length (Nat.le_of_lt li)]
      exact h2
    · have ei : i = rws.length := by
        have := (List.getElem?_eq_some_iff.mp eq).1
        rw [List.length_append] at this
        have h1 : ([r] : List Rw).length = 1 := rfl
        omega
      subst ei
      rw [List.getElem?_append_right (Nat.le_refl _), Nat.sub_self] at eq
      cases eq
      refine ⟨g, by rw [← h.len, List.getElem?_append_right (Nat.le_refl _), Nat.sub_self]; rfl, ?_⟩
      rw [← h.len, List.take_append_of_le_length (Nat.le_refl _), List.take_length]
      exact step_of h.oks ib e
  · rcases List.mem_append.mp ho with ho | ho
    · exact h.oks o ho
    · rw [List.mem_singleton.mp ho]
      exact sure_of nd h.oks ib e
theorem sb_put {H H1 : Hp} {f D : Addr} {o : HO} (s : Sb f H H1) (nD : H D = none) : Sb f H (upd H1 D o) := fun b x e n => by
  rw [upd_ne (ne_of_none e nD)]
  exact s b x e n
/-- of the model alone -/
structure FixM (m : Md) : Prop where
  lens : m.own.length ≤ 10 ∧ m.wd.length ≤ 4 ∧ m.bd.length ≤ 40
  okr : ∀ q ∈ bRows m, q.all okV = true
  ndh : ((hs m.wd).map (·.1)).Nodup
  own : 0 < m.own.length
section
variable {P : Program} {w : World} {K : PySem.W.Frag} {mg : Str → Option Value} {base : Heap}
def sp_some : Sp := fun vs H Q _ => ∃ (f c d : Addr) (m : Md) (k : Int), vs = [.ref f, .ref d, .int k] ∧ Flow H f c ∧ MdAt H d m ∧ FixM m ∧ 0 ≤ k ∧ k ≤ 20 ∧
  ∀ (t R M : Addr) (rs ms : List V) (rws : List Rw) (fs : List Ft) (H' : Hp), Sb f H H' → Flow H' f c → H' t = some (.tup [.ref R, .ref M]) → H R = none → H M = none → R ≠ M → H' R = some (.lst rs) → H' M = some (.lst ms) → Rows H' rs (rws.map Rw.row) → Rows H' ms (fs.map Ft.row) → Red m rws fs → rws.length ≤ 20 → rws.length = k.toNat → Q (.ref t) H'
end
end Tw

set_option maxHeartbeats 4000000
namespace Tw
open PySem PySem.Spec PyProof.Rows L2
/-! what a drawn model gives to the papers -/
theorem pts_lay {m : Md} (ok : MdOk m) {z : Str} (h : z ∈ m.pts) : okV (.str z) = true := by
  rcases List.mem_cons.mp h with h | h
  · rw [h]
    decide +kernel
  have n := (pool_nm (ok.pool z h)).1
  show z.cps.all (fun c => decide (c < 0x110000)) = true
  rw [Array.all_eq_true']
  intro c hc
  have h2 : (letters.cps.toList.all fun c => decide (c < 0x110000)) = true := by decide +kernel
  exact List.all_eq_true.mp h2 c (n.2.2 c (Array.mem_toList_iff.mpr hc))
theorem pts_own {m : Md} {z : Str} (h : z ∈ m.own) : z ∈ m.pts := List.mem_cons_of_mem _ (List.mem_append_left _ h)
theorem pts_end {m : Md} {x : Wd} (h : x ∈ m.wd) : x.en ∈ m.pts := List.mem_cons_of_mem _ (List.mem_append_right _ (List.mem_map.mpr ⟨x, h, rfl⟩))
theorem pts_beg {m : Md} (ok : MdOk m) {x : Wd} (h : x ∈ m.wd) : x.bg ∈ m.pts := by
  rcases (ok.wd x h).bg with e | e
  · rw [e]
    exact List.mem_cons_self
  · exact pts_own e
theorem hs_mem {m : Md} (ok : MdOk m) {h : Str × Str × Int × Int} (hh : h ∈ hs m.wd) : h.1 ∈ m.pts ∧ h.2.1 ∈ m.pts := by
  obtain ⟨x, hx, e⟩ := List.mem_filterMap.mp hh
  obtain ⟨i, _, rfl⟩ := Option.map_eq_some_iff.mp e
  exact ⟨pts_end hx, pts_beg ok hx⟩
theorem hs_ends : ∀ l : List Wd, ((hs l).map (·.1)).Sublist (l.map (·.en))
  | [] => List.Sublist.refl _
  | x :: r => by
    have ih := hs_ends r
    show (((x :: r).filterMap _).map _).Sublist _
    rw [List.filterMap_cons]
    cases e : x.la with
    | none => exact ih.cons _
    | some i => exact ih.cons₂ _
theorem hs_nd {m : Md} (ok : MdOk m) : ((hs m.wd).map (·.1)).Nodup := (hs_ends m.wd).nodup (List.nodup_append.mp ok.nd).2.1
theorem row_lay {m : Md} (ok : MdOk m) {x y : Str} {n : Int} (hx : x ∈ m.pts) (hy : y ∈ m.pts) : ([.str x, .str y, .int n] : List V).all okV = true := by
  show (okV (.str x) && (okV (.str y) && true)) = true
  rw [pts_lay ok hx, pts_lay ok hy]
  rfl
theorem offW_mem {m : Md} (ok : MdOk m) {z : Str} (h : z ∈ m.pts) : (offW z m.wd).1 ∈ m.pts := by
  have gen : ∀ l : List Wd, (∀ x ∈ l, x ∈ m.wd) → (offW z l).1 ∈ m.pts := by
    intro l
    induction l with
    | nil => exact fun _ => h
    | cons x r ih =>
      intro hl
      show (if x.en = z then _ else offW z r).1 ∈ m.pts
      by_cases c : x.en = z
      · rw [if_pos c]
        cases x.la with
        | none => exact pts_beg ok (hl x List.mem_cons_self)
        | some i => exact pts_end (hl x List.mem_cons_self)
      · rw [if_neg c]
        exact ih fun y hy => hl y (List.mem_cons_of_mem _ hy)
  exact gen _ fun _ hx => hx
theorem b_lay {m : Md} (ok : MdOk m) : ∀ q ∈ bRows m, q.all okV = true := fun q h => by
  unfold bRows at h
  rcases List.mem_append.mp h with h | h
  · rcases List.mem_append.mp h with h | h
    · obtain ⟨z, hz, h⟩ := List.mem_flatMap.mp h
      rcases List.mem_cons.mp h with e | e
      · rw [e]
        exact row_lay ok List.mem_cons_self (pts_own hz)
      · rw [List.mem_singleton.mp e]
        exact row_lay ok (pts_own hz) List.mem_cons_self
    · obtain ⟨z, hz, h⟩ := List.mem_flatMap.mp h
      have hm := hs_mem ok hz
      rcases List.mem_cons.mp h with e | e
      · rw [e]
        exact row_lay ok hm.2 hm.1
      · rw [List.mem_singleton.mp e]
        exact row_lay ok hm.1 hm.2
  · obtain ⟨x, hx, h⟩ := List.mem_flatMap.mp h
    have b := ok.bd x hx
    rcases List.mem_append.mp h with h | h
    · cases e : x.top with
      | none =>
        rw [e] at h
        cases h
      | some i =>
        rw [e] at h
        rw [List.mem_singleton.mp h]
        exact row_lay ok (offW_mem ok b.one) (offW_mem ok b.oth)
    · cases e : x.bot with
      | none =>
        rw [e] at h
        cases h
      | some i =>
        rw [e] at h
        rw [List.mem_singleton.mp h]
        exact row_lay ok (offW_mem ok b.oth) (offW_mem ok b.one)
theorem fix_of {m : Md} (ok : MdOk m) (h : 0 < m.own.length) : FixM m := ⟨ok.len, b_lay ok, hs_nd ok, h⟩
end Tw

/-! settling, by itself: what is made, offered and gone round -/
namespace Se
variable {α : Type} [DecidableEq α]
/-- a bound (false, x, y), a wait (true, end, x) -/
abbrev Ky (α : Type) : Type := Bool × α × α
inductive Rr (α : Type) where
  | told (x y : α) (n : Int)
  | late (e : α)
  | along (i j : Option Nat)
  | wait (i j : Option Nat)
  | sg (w : Nat) (i : Option Nat)
structure MS (α : Type) where
  made : List (Ky α × (Int × Option Nat))
  rows : List (Rr α)
  fault : Option Nat
/-- what a dict holds at a key -/
def look {β : Type} (k : Ky α) : List (Ky α × β) → Option β
  | [] => none
  | c :: cs => if c.1 = k then some c.2 else look k cs
/-- .. and what it is with a key set: in its place, or at the end -/
def put {β : Type} (k : Ky α) (v : β) (l : List (Ky α × β)) : List (Ky α × β) := if (l.any fun c => decide (c.1 = k)) = true then l.map (fun c => if c.1 = k then (c.1, v) else c) else l ++ [(k, v)]
theorem look_any {β : Type} (k : Ky α) (l : List (Ky α × β)) : (l.any fun c => decide (c.1 = k)) = (look k l).isSome := by
  induction l with
  | nil => rfl
  | cons c cs ih =>
    rw [List.any_cons]
    unfold look
    by_cases e : c.1 = k
    · rw [if_pos e, decide_eq_true e]; rfl
    · rw [if_neg e, decide_eq_false e, ih]; rfl
theorem look_map {β : Type} (k k' : Ky α) (v : β) (l : List (Ky α × β)) : look k' (l.map fun c => if c.1 = k then (c.1, v) else c) = if k' = k then (look k l).map fun _ => v else look k' l := by
  induction l with
  | nil =>
    show none = _
    split <;> rfl
  | cons c cs ih =>
    rw [List.map_cons]
    unfold look
    rw [ih]
    by_cases e : c.1 = k
    · simp only [if_pos e]
      by_cases e' : k' = k
      · simp only [if_pos e', if_pos (e.trans e'.symm), Option.map_some]
      · simp only [if_neg e', if_neg (fun z => e' (z.symm.trans e) : ¬ c.1 = k')]
    · simp only [if_neg e]
      by_cases e' : k' = k
      · simp only [if_pos e', if_neg (fun z => e (z.trans e') : ¬ c.1 = k')]
      · simp only [if_neg e']
theorem look_end {β : Type} (k k' : Ky α) (v : β) (l : List (Ky α × β)) (h : look k l = none) : look k' (l ++ [(k, v)]) = if k' = k then some v else look k' l := by
  induction l with
  | nil =>
    show (if k = k' then some v else none) = _
    by_cases e : k' = k
    · rw [if_pos e, if_pos e.symm]
    · rw [if_neg e, if_neg (fun z => e z.symm)]; rfl
  | cons c cs ih =>
    unfold look at h
    by_cases e : c.1 = k
    · rw [if_pos e] at h; cases h
    · rw [if_neg e] at h
      show (if c.1 = k' then some c.2 else look k' (cs ++ [(k, v)])) = if k' = k then some v else (if c.1 = k' then some c.2 else look k' cs)
      rw [ih h]
      by_cases e' : c.1 = k'
      · rw [if_pos e', if_pos e', if_neg (fun z => e (e'.trans z))]
      · rw [if_neg e', if_neg e']
theorem look_put {β : Type} (k k' : Ky α) (v : β) (l : List (Ky α × β)) : look k' (put k v l) = if k' = k then some v else look k' l := by
  unfold put
  rw [look_any]
  cases h : look k l with
  | none => rw [if_neg (by simp), look_end k k' v l h]
  | some x => rw [if_pos (show (some x).isSome = true from rfl), look_map, h]; rfl
/-- all keys are distinct: a look finds each of them -/
theorem look_mem {β : Type} {k : Ky α} {l : List (Ky α × β)} (h : k ∈ l.map (·.1)) : ∃ v, look k l = some v := by
  induction l with
  | nil => cases h
  | cons c cs ih =>
    unfold look
    by_cases e : c.1 = k
    · exact ⟨_, if_pos e⟩
    · rw [if_neg e]
      rcases List.mem_cons.1 h with z | z
      · exact absurd z.symm e
      · exact ih z
theorem mem_look {β : Type} {k : Ky α} {v : β} {l : List (Ky α × β)} (h : look k l = some v) : k ∈ l.map (·.1) := by
  induction l with
  | nil => cases h
  | cons c cs ih =>
    unfold look at h
    by_cases e : c.1 = k
    · exact List.mem_cons.2 (.inl e.symm)
    · rw [if_neg e] at h
      exact List.mem_cons.2 (.inr (ih h))
/-- the amount at a key -/
def MS.at (s : MS α) (k : Ky α) : Option Int := (look k s.made).map (·.1)
/-- at a key stands something not above v -/
def Le (s : MS α) (k : Ky α) (v : Int) : Prop := ∃ n, s.at k = some n ∧ n ≤ v
/-- what is held is not above n -/
def heldB (o : Option Int) (n : Int) : Bool := match o with
  | none => false
  | some m => decide (m ≤ n)
def offer (s : MS α) (k : Ky α) (n : Int) (r : Rr α) : MS α := if s.fault.isSome = true ∨ heldB (s.at k) n = true then s else ⟨put k (n, some s.rows.length) s.made, s.rows ++ [r], if k.1 = false ∧ k.2.1 = k.2.2 ∧ n < 0 then some s.rows.length else none⟩
theorem held_le {s : MS α} {k : Ky α} {n : Int} (h : heldB (s.at k) n = true) : Le s k n := by
  unfold heldB at h
  cases e : s.at k with
  | none => rw [e] at h; cases h
  | some m => rw [e] at h; exact ⟨m, e, of_decide_eq_true h⟩
theorem le_held {s : MS α} {k : Ky α} {n : Int} (h : Le s k n) : heldB (s.at k) n = true := by
  obtain ⟨m, e, l⟩ := h
  rw [e]
  exact decide_eq_true l
theorem Le.up {s : MS α} {k : Ky α} {n m : Int} (h : Le s k n) (l : n ≤ m) : Le s k m := h.imp fun _ z => ⟨z.1, by omega⟩
/-- one thing offered: turned down, or taken -/
theorem offer_cases (s : MS α) (k : Ky α) (n : Int) (r : Rr α) : (offer s k n r = s ∧ (s.fault.isSome = true ∨ Le s k n)) ∨ (s.fault = none ∧ ¬ Le s k n ∧ offer s k n r = ⟨put k (n, some s.rows.length) s.made, s.rows ++ [r], if k.1 = false ∧ k.2.1 = k.2.2 ∧ n < 0 then some s.rows.length else none⟩) := by
  unfold offer
  by_cases c : s.fault.isSome = true ∨ heldB (s.at k) n = true
  · rw [if_pos c]
    exact .inl ⟨rfl, c.imp id held_le⟩
  · rw [if_neg c]
    refine .inr ⟨?_, fun z => c (.inr (le_held z)), rfl⟩
    cases e : s.fault with
    | none => rfl
    | some _ => exact absurd (.inl (by rw [e]; rfl)) c
theorem at_put (s : MS α) (k k' : Ky α) (n : Int) (p : Option Nat) (rs : List (Rr α)) (f : Option Nat) : (MS.mk (put k (n, p) s.made) rs f).at k' = if k' = k then some n else s.at k' := by
  unfold MS.at
  show (look k' (put k (n, p) s.made)).map _ = _
  rw [look_put]
  by_cases e : k' = k
  · rw [if_pos e, if_pos e]; rfl
  · rw [if_neg e, if_neg e]
/-- from one state to a later one: amounts become less, rows more, a fault stays, and where the rows are as many nothing changed -/
def tot (s : MS α) : List (Ky α) → Int
  | [] => 0
  | k :: ks => (s.at k).getD 0 + tot s ks
/-- each key of a list has an amount -/
def Full (ks : List (Ky α)) (s : MS α) : Prop := ∀ k ∈ ks, ∃ n, s.at k = some n
/-- .. and no other one has -/
def Just (ks : List (Ky α)) (s : MS α) : Prop := ∀ k n, s.at k = some n → k ∈ ks
structure Dn (s t : MS α) : Prop where
  le : ∀ k v, Le s k v → Le t k v
  rows : s.rows.length ≤ t.rows.length
  fault : t.fault = none → s.fault = none
  same : t.rows.length = s.rows.length → t = s
  diag : (∀ x n, s.at (false, x, x) = some n → 0 ≤ n) → t.fault = none → ∀ x n, t.at (false, x, x) = some n → 0 ≤ n
  less : s.rows.length < t.rows.length → ∃ k n, t.at k = some n ∧ ¬ Le s k n
  count : ∀ ks, Just ks t → Full ks s → (t.rows.length : Int) + tot t ks ≤ s.rows.length + tot s ks
theorem Dn.refl (s : MS α) : Dn s s := ⟨fun _ _ h => h, Nat.le_refl _, fun h => h, fun _ => rfl, fun h _ => h, fun h => absurd h (Nat.lt_irrefl _), fun _ _ _ => Int.le_refl _⟩
theorem Dn.trans {s t u : MS α} (a : Dn s t) (b : Dn t u) : Dn s u := ⟨fun k v h => b.le k v (a.le k v h), Nat.le_trans a.rows b.rows, fun h => a.fault (b.fault h), fun h => by
    have h1 := a.rows
    have h2 := b.rows
    have e1 := b.same (by omega)
    have e2 := a.same (by omega)
    rw [e1, e2], fun h f => b.diag (a.diag h (b.fault f)) f, fun h => by
    by_cases c : t.rows.length < u.rows.length
    · obtain ⟨k, n, h1, h2⟩ := b.less c
      exact ⟨k, n, h1, fun z => h2 (a.le _ _ z)⟩
    · obtain ⟨k, n, h1, h2⟩ := a.less (by have := b.rows; omega)
      obtain ⟨n', h3, h4⟩ := b.le k n ⟨n, h1, Int.le_refl _⟩
      exact ⟨k, n', h3, fun z => h2 (z.imp fun _ q => ⟨q.1, by omega⟩)⟩, fun ks j f => by
    refine Int.le_trans (b.count ks j fun k hk => ?_) (a.count ks (fun k n h => ?_) f)
    · obtain ⟨n, h1⟩ := f k hk
      obtain ⟨n', h2, _⟩ := a.le k n ⟨n, h1, Int.le_refl _⟩
      exact ⟨n', h2⟩
    · obtain ⟨n', h2, _⟩ := b.le k n ⟨n, h, Int.le_refl _⟩
      exact j k n' h2⟩
theorem tot_same {s t : MS α} {ks : List (Ky α)} (h : ∀ k ∈ ks, (t.at k).getD 0 ≤ (s.at k).getD 0) : tot t ks ≤ tot s ks := by
  induction ks with
  | nil => exact Int.le_refl _
  | cons k ks ih =>
    have h1 := h k List.mem_cons_self
    have h2 := ih fun k hk => h k (List.mem_cons_of_mem _ hk)
    show _ + _ ≤ _ + _
    omega
theorem tot_lt {s t : MS α} {ks : List (Ky α)} (h : ∀ k ∈ ks, (t.at k).getD 0 ≤ (s.at k).getD 0) {k : Ky α} (hk : k ∈ ks) (l : (t.at k).getD 0 < (s.at k).getD 0) : tot t ks < tot s ks := by
  induction ks with
  | nil => cases hk
  | cons c ks ih =>
    have h1 := h c List.mem_cons_self
    have h2 := tot_same fun k hk => h k (List.mem_cons_of_mem _ hk)
    show _ + _ < _ + _
    rcases List.mem_cons.1 hk with z | z
    · rw [← z] at h1 ⊢
      omega
    · have := ih (fun k hk => h k (List.mem_cons_of_mem _ hk)) z
      omega
theorem dn_offer (s : MS α) (k : Ky α) (n : Int) (r : Rr α) : Dn s (offer s k n r) := by
  rcases offer_cases s k n r with ⟨e, _⟩ | ⟨f, nl, e⟩
  · rw [e]; exact .refl s
  · rw [e]
    refine ⟨fun k' v h => ?_, by show _ ≤ (s.rows ++ [r]).length; rw [List.length_append]; omega, fun _ => f, fun h => ?_, fun h hf x m hm => ?_, ?_, ?_⟩
    · obtain ⟨m, em, lm⟩ := h
      unfold Le
      rw [at_put]
      by_cases c : k' = k
      · rw [if_pos c]
        refine ⟨n, rfl, ?_⟩
        rw [c] at em
        by_cases l : n ≤ v
        · exact l
        · exact absurd ⟨m, em, by omega⟩ nl
      · rw [if_neg c]; exact ⟨m, em, lm⟩
    · have : (s.rows ++ [r]).length = s.rows.length := h
      rw [List.length_append] at this
      have : s.rows.length + 1 = s.rows.length := this
      omega
    · rw [at_put] at hm
      by_cases c : (false, x, x) = k
      · rw [if_pos c] at hm
        have en : n = m := Option.some.inj hm
        rw [← en]
        by_cases l : 0 ≤ n
        · exact l
        · rw [← c] at hf
          have : (if (false : Bool) = false ∧ x = x ∧ n < 0 then some s.rows.length else none) = none := hf
          rw [if_pos ⟨rfl, rfl, by omega⟩] at this
          cases this
      · rw [if_neg c] at hm
        exact h x m hm
    · exact fun _ => ⟨k, n, by rw [at_put, if_pos rfl], nl⟩
    · intro ks j fu
      have hk : k ∈ ks := j k n (by rw [at_put, if_pos rfl])
      obtain ⟨m, em⟩ := fu k hk
      have lm : n < m := by
        by_cases l : m ≤ n
        · exact absurd ⟨m, em, l⟩ nl
        · omega
      have := tot_lt (s := s) (t := MS.mk (put k (n, some s.rows.length) s.made) (s.rows ++ [r]) (if k.1 = false ∧ k.2.1 = k.2.2 ∧ n < 0 then some s.rows.length else none)) (ks := ks) (fun k' hk' => by
        rw [at_put]
        by_cases c : k' = k
        · rw [if_pos c, c, em]
          show n ≤ m
          omega
        · rw [if_neg c]
          exact Int.le_refl _) hk (by
        rw [at_put, if_pos rfl, em]
        exact lm)
      show ((s.rows ++ [r]).length : Int) + _ ≤ _
      rw [List.length_append, show ([r] : List (Rr α)).length = 1 from rfl]
      omega
/-- what was offered is held then, where there is no fault -/
theorem offer_le {s : MS α} {k : Ky α} {n : Int} {r : Rr α} (h : (offer s k n r).fault = none) : Le (offer s k n r) k n := by
  rcases offer_cases s k n r with ⟨e, c⟩ | ⟨f, nl, e⟩
  · rw [e] at h ⊢
    rcases c with c | c
    · rw [h] at c; cases c
    · exact c
  · rw [e]
    exact ⟨n, by rw [at_put, if_pos rfl], Int.le_refl _⟩
/-- what stands there then: what stood there, or what was offered -/
theorem offer_at {s : MS α} {k : Ky α} {n : Int} {r : Rr α} {k' : Ky α} {m : Int} (h : (offer s k n r).at k' = some m) : s.at k' = some m ∨ (k' = k ∧ m = n) := by
  rcases offer_cases s k n r with ⟨e, _⟩ | ⟨f, nl, e⟩
  · rw [e] at h; exact .inl h
  · rw [e, at_put] at h
    by_cases c : k' = k
    · rw [if_pos c] at h
      exact .inr ⟨c, (Option.some.inj h).symm⟩
    · rw [if_neg c] at h
      exact .inl h
/-- a walk of steps -/
def walk {β : Type} (f : MS α → β → MS α) (l : List β) (s : MS α) : MS α := l.foldl f s
theorem walk_cons {β : Type} (f : MS α → β → MS α) (x : β) (l : List β) (s : MS α) : walk f (x :: l) s = walk f l (f s x) := rfl
theorem dn_walk {β : Type} {f : MS α → β → MS α} (h : ∀ s x, Dn s (f s x)) (l : List β) (s : MS α) : Dn s (walk f l s) := by
  induction l generalizing s with
  | nil => exact .refl s
  | cons x l ih => exact (h s x).trans (ih (f s x))
/-- where a walk changed nothing, none of its steps did -/
theorem walk_still {β : Type} {f : MS α → β → MS α} (h : ∀ s x, Dn s (f s x)) {l : List β} {s : MS α} (e : walk f l s = s) : ∀ x ∈ l, f s x = s := by
  induction l generalizing s with
  | nil => exact fun _ z => absurd z List.not_mem_nil
  | cons y l ih =>
    have d1 := h s y
    have d2 := dn_walk h l (f s y)
    have ey : f s y = s := d1.same (by
      have := d1.rows
      have h2 := d2.rows
      have h3 : (walk f l (f s y)).rows.length = s.rows.length := by rw [← walk_cons, e]
      omega)
    intro x hx
    rcases List.mem_cons.1 hx with z | z
    · rw [z]; exact ey
    · refine ih ?_ x z
      rw [walk_cons, ey] at e
      exact e
/-- a walk with something that its steps keep, as long as there is no fault -/
theorem walk_inv {β : Type} {f : MS α → β → MS α} (hd : ∀ s x, Dn s (f s x)) (I : MS α → Prop) {l : List β} (hs : ∀ s, ∀ x ∈ l, I s → (f s x).fault = none → I (f s x)) {s : MS α} (h : I s) (e : (walk f l s).fault = none) : I (walk f l s) := by
  induction l generalizing s with
  | nil => exact h
  | cons y l ih =>
    rw [walk_cons] at e ⊢
    exact ih (fun s x hx => hs s x (List.mem_cons_of_mem _ hx)) (hs s y List.mem_cons_self h ((dn_walk hd l _).fault e)) e
/-- .. and with something that each step brings about, and the later ones keep -/
theorem walk_each {β : Type} {f : MS α → β → MS α} (hd : ∀ s x, Dn s (f s x)) (I : MS α → Prop) (J : β → MS α → Prop) {l : List β} (hs : ∀ s, ∀ x ∈ l, I s → (f s x).fault = none → I (f s x)) (hj : ∀ s, ∀ x ∈ l, I s → (f s x).fault = none → J x (f s x)) (hk : ∀ s t x, Dn s t → J x s → J x t) {s : MS α} (h : I s) (e : (walk f l s).fault = none) : ∀ x ∈ l, J x (walk f l s) := by
  induction l generalizing s with
  | nil => exact fun _ z => absurd z List.not_mem_nil
  | cons y l ih =>
    rw [walk_cons] at e ⊢
    have fe := (dn_walk hd l (f s y)).fault e
    intro x hx
    rcases List.mem_cons.1 hx with z | z
    · rw [z]
      exact hk _ _ _ (dn_walk hd l _) (hj s y List.mem_cons_self h fe)
    · exact ih (fun s x hx => hs s x (List.mem_cons_of_mem _ hx)) (fun s x hx => hj s x (List.mem_cons_of_mem _ hx)) (hs s y List.mem_cons_self h fe) e x z
/-! ### the ways to go -/
def stAlong (x y : α) (o : Int × Option Nat) (s : MS α) (z : α) : MS α := match look (false, y, z) s.made with
  | none => s
  | some p => offer s (false, x, z) (o.1 + p.1) (.along o.2 p.2)
def goAlong (ns : List α) (x y : α) (s : MS α) : MS α := match look (false, x, y) s.made with
  | none => s
  | some o => walk (stAlong x y o) ns s
def stWait (e y : α) (p : Int × Option Nat) (s : MS α) (x : α) : MS α := match look (false, x, y) s.made with
  | none => s
  | some o => offer s (true, e, x) (o.1 + p.1) (.wait o.2 p.2)
def goWait (ns : List α) (e y : α) (s : MS α) : MS α := match look (true, e, y) s.made with
  | none => s
  | some p => walk (stWait e y p) ns s
/-- what a rule makes of one fact: 0 sure, 1 soon, 2 ahead -/
def one (hk : α → Option (α × Int)) (w : Nat) (k : Ky α) (n : Int) : Option (Ky α × Int) :=
  if w = 0 then (if k.1 = true then (hk k.2.1).map fun r => ((false, k.2.2, r.1), max n (-r.2)) else none)
  else if w = 1 then (if k.1 = false ∧ n < 0 then (hk k.2.1).map fun r => ((false, r.1, k.2.2), r.2 + n) else none)
  else (if k.1 = true ∧ ¬ k.2.1 = k.2.2 ∧ n < 0 then (hk k.2.2).map fun r => ((true, k.2.1, r.1), r.2 + n) else none)
def stOne (hk : α → Option (α × Int)) (w : Nat) (s : MS α) (k : Ky α) : MS α := match look k s.made with
  | none => s
  | some v => match one hk w k v.1 with
    | none => s
    | some f => offer s f.1 f.2 (.sg w v.2)
def goOne (hk : α → Option (α × Int)) (w : Nat) (s : MS α) : MS α := walk (stOne hk w) (s.made.map (·.1)) s
def goAlongs (ns : List α) (s : MS α) : MS α := walk (fun s y => walk (fun s x => goAlong ns x y s) ns s) ns s
def goWaits (ns es : List α) (s : MS α) : MS α := walk (fun s e => walk (fun s y => goWait ns e y s) ns s) es s
def goRound (ns es : List α) (hk : α → Option (α × Int)) (s : MS α) : MS α := goOne hk 2 (goOne hk 1 (goOne hk 0 (goWaits ns es (goAlongs ns s))))
def tellB (l : List (α × α × Int)) (s : MS α) : MS α := walk (fun s b => offer s (false, b.1, b.2.1) b.2.2 (.told b.1 b.2.1 b.2.2)) l s
def tellL (l : List (α × Int)) (s : MS α) : MS α := walk (fun s b => offer s (true, b.1, b.1) b.2 (.late b.1)) l s
theorem dn_stAlong (x y : α) (o : Int × Option Nat) (s : MS α) (z : α) : Dn s (stAlong x y o s z) := by
  unfold stAlong
  split
  · exact .refl s
  · exact dn_offer ..
theorem dn_goAlong (ns : List α) (x y : α) (s : MS α) : Dn s (goAlong ns x y s) := by
  unfold goAlong
  split
  · exact .refl s
  · exact dn_walk (dn_stAlong x y _) ns s
theorem dn_stWait (e y : α) (p : Int × Option Nat) (s : MS α) (x : α) : Dn s (stWait e y p s x) := by
  unfold stWait
  split
  · exact .refl s
  · exact dn_offer ..
theorem dn_goWait (ns : List α) (e y : α) (s : MS α) : Dn s (goWait ns e y s) := by
  unfold goWait
  split
  · exact .refl s
  · exact dn_walk (dn_stWait e y _) ns s
theorem dn_stOne (hk : α → Option (α × Int)) (w : Nat) (s : MS α) (k : Ky α) : Dn s (stOne hk w s k) := by
  unfold stOne
  split
  · exact .refl s
  · split
    · exact .refl s
    · exact dn_offer ..
theorem dn_goOne (hk : α → Option (α × Int)) (w : Nat) (s : MS α) : Dn s (goOne hk w s) := dn_walk (dn_stOne hk w) _ s
theorem dn_goAlongs (ns : List α) (s : MS α) : Dn s (goAlongs ns s) := dn_walk (fun s y => dn_walk (fun s x => dn_goAlong ns x y s) ns s) ns s
theorem dn_goWaits (ns es : List α) (s : MS α) : Dn s (goWaits ns es s) := dn_walk (fun s e => dn_walk (fun s y => dn_goWait ns e y s) ns s) es s
theorem dn_goRound (ns es : List α) (hk : α → Option (α × Int)) (s : MS α) : Dn s (goRound ns es hk s) := ((((dn_goAlongs ns s).trans (dn_goWaits ns es _)).trans (dn_goOne hk 0 _)).trans (dn_goOne hk 1 _)).trans (dn_goOne hk 2 _)
theorem dn_tellB (l : List (α × α × Int)) (s : MS α) : Dn s (tellB l s) := dn_walk (fun s b => dn_offer ..) l s
theorem dn_tellL (l : List (α × Int)) (s : MS α) : Dn s (tellL l s) := dn_walk (fun s b => dn_offer ..) l s
/-! ### one pass of along closes the bounds under along -/
theorem at_of {s : MS α} {k : Ky α} {v : Int × Option Nat} (h : look k s.made = some v) : s.at k = some v.1 := by
  unfold MS.at
  rw [h]; rfl
theorem of_at {s : MS α} {k : Ky α} {n : Int} (h : s.at k = some n) : ∃ p, look k s.made = some (n, p) := by
  unfold MS.at at h
  cases e : look k s.made with
  | none => rw [e] at h; cases h
  | some v =>
    rw [e] at h
    exact ⟨v.2, by rw [← Option.some.inj h]⟩
theorem Le.of {s : MS α} {k : Ky α} {n : Int} (h : s.at k = some n) : Le s k n := ⟨n, h, Int.le_refl _⟩
/-- amid the ways along y, which began at s0 -/
structure Btw (y : α) (s0 s : MS α) : Prop where
  dn : Dn s0 s
  from_ : ∀ x z m, s.at (false, x, z) = some m → s0.at (false, x, z) = some m ∨ ∃ o p, s0.at (false, x, y) = some o ∧ s0.at (false, y, z) = some p ∧ m = o + p
theorem Btw.refl (y : α) (s : MS α) : Btw y s s := ⟨.refl s, fun _ _ _ h => .inl h⟩
theorem Btw.to {y : α} {s0 s : MS α} (B : Btw y s0 s) {c : Int} (hc : s0.at (false, y, y) = some c) (nc : 0 ≤ c) {x : α} {o : Int} (h : s.at (false, x, y) = some o) : s0.at (false, x, y) = some o := by
  rcases B.from_ _ _ _ h with z | ⟨a, p, h1, h2, h3⟩
  · exact z
  · obtain ⟨n, e, l⟩ := B.dn.le _ _ (Le.of h1)
    rw [h] at e
    rw [hc] at h2
    have := Option.some.inj e
    have := Option.some.inj h2
    rw [h1, show a = o by omega]
theorem Btw.fro {y : α} {s0 s : MS α} (B : Btw y s0 s) {c : Int} (hc : s0.at (false, y, y) = some c) (nc : 0 ≤ c) {z : α} {o : Int} (h : s.at (false, y, z) = some o) : s0.at (false, y, z) = some o := by
  rcases B.from_ _ _ _ h with q | ⟨a, p, h1, h2, h3⟩
  · exact q
  · obtain ⟨n, e, l⟩ := B.dn.le _ _ (Le.of h2)
    rw [h] at e
    rw [hc] at h1
    have := Option.some.inj e
    have := Option.some.inj h1
    rw [h2, show p = o by omega]
theorem Btw.step {y : α} {s0 s : MS α} (B : Btw y s0 s) {c : Int} (hc : s0.at (false, y, y) = some c) (nc : 0 ≤ c) {x : α} {o : Int × Option Nat} (ho : s0.at (false, x, y) = some o.1) (z : α) : Btw y s0 (stAlong x y o s z) := by
  refine ⟨B.dn.trans (dn_stAlong ..), ?_⟩
  unfold stAlong
  split
  · exact B.from_
  · rename_i p ep
    intro x' z' m h
    rcases offer_at h with q | ⟨ek, em⟩
    · exact B.from_ _ _ _ q
    · have e2 : x' = x := congrArg (fun k : Ky α => k.2.1) ek
      have e3 : z' = z := congrArg (fun k : Ky α => k.2.2) ek
      rw [e2, e3, em]
      exact .inr ⟨o.1, p.1, ho, B.fro hc nc (at_of ep), rfl⟩
theorem Btw.along {y : α} {s0 s : MS α} (B : Btw y s0 s) {c : Int} (hc : s0.at (false, y, y) = some c) (nc : 0 ≤ c) (ns : List α) (x : α) : Btw y s0 (goAlong ns x y s) := by
  unfold goAlong
  split
  · exact B
  · rename_i o eo
    have ho := B.to hc nc (at_of eo)
    clear eo
    unfold walk
    induction ns generalizing s with
    | nil => exact B
    | cons z zs ih => exact ih (B.step hc nc ho z)
/-- what a pass of x along y brings about -/
theorem along_le {y : α} {s : MS α} {ns : List α} {x z : α} {o p : Int} (ho : s.at (false, x, y) = some o) (hz : z ∈ ns) (hp : s.at (false, y, z) = some p) (h : (goAlong ns x y s).fault = none) : Le (goAlong ns x y s) (false, x, z) (o + p) := by
  obtain ⟨po, eo⟩ := of_at ho
  unfold goAlong at h ⊢
  rw [eo] at h ⊢
  refine walk_each (dn_stAlong x y _) (fun t => Le t (false, y, z) p) (fun z' t => z' = z → Le t (false, x, z) (o + p)) (fun t z' _ i _ => (dn_stAlong ..).le _ _ i) (fun t z' _ i f e => ?_) (fun t u z' d j e => d.le _ _ (j e)) (Le.of hp) h z hz rfl
  rw [e] at f ⊢
  obtain ⟨n, en, ln⟩ := i
  obtain ⟨q, eq⟩ := of_at en
  unfold stAlong at f ⊢
  rw [eq] at f ⊢
  exact (offer_le f).up (by show o + n ≤ o + p; omega)
/-- closed under along, over the vias of V -/
def Cl (ns : List α) (V : α → Prop) (s : MS α) : Prop := ∀ v, V v → ∀ x ∈ ns, ∀ z ∈ ns, ∀ a b, s.at (false, x, v) = some a → s.at (false, v, z) = some b → Le s (false, x, z) (a + b)
/-- each base has a bound to itself, and it does not lie below nought -/
def Dg (ns : List α) (s : MS α) : Prop := (∀ x ∈ ns, Le s (false, x, x) 0) ∧ ∀ x n, s.at (false, x, x) = some n → 0 ≤ n
theorem Dg.dn {ns : List α} {s t : MS α} (h : Dg ns s) (d : Dn s t) (f : t.fault = none) : Dg ns t := ⟨fun x hx => d.le _ _ (h.1 x hx), d.diag h.2 f⟩
theorem via_closed {ns : List α} {V : α → Prop} {s : MS α} {y : α} (hy : y ∈ ns) (C : Cl ns V s) (hV : ∀ v, V v → v ∈ ns) (D : Dg ns s) (f : (walk (fun s x => goAlong ns x y s) ns s).fault = none) : Cl ns (fun v => V v ∨ v = y) (walk (fun s x => goAlong ns x y s) ns s) := by
  obtain ⟨c, hc, _⟩ := D.1 y hy
  have nc := D.2 y c hc
  have dd : ∀ (s : MS α) (x : α), Dn s (goAlong ns x y s) := fun s x => dn_goAlong ns x y s
  have B : Btw y s (walk (fun s x => goAlong ns x y s) ns s) := walk_inv dd (Btw y s) (fun t x _ b _ => b.along hc nc ns x) (.refl y s) f
  have R : ∀ x ∈ ns, ∀ z ∈ ns, ∀ o p, s.at (false, x, y) = some o → s.at (false, y, z) = some p → Le (walk (fun s x => goAlong ns x y s) ns s) (false, x, z) (o + p) := by
    intro x hx z hz o p ho hp
    refine walk_each dd (fun t => Btw y s t) (fun x' t => x' = x → Le t (false, x, z) (o + p)) (fun t x _ b _ => b.along hc nc ns x) (fun t x' _ b ft e => ?_) (fun t u x' d j e => d.le _ _ (j e)) (.refl y s) f x hx rfl
    rw [e] at ft ⊢
    obtain ⟨o', eo, _⟩ := b.dn.le _ _ (Le.of ho)
    obtain ⟨p', ep, _⟩ := b.dn.le _ _ (Le.of hp)
    have h1 := b.to hc nc eo
    have h2 := b.fro hc nc ep
    rw [ho] at h1
    rw [hp] at h2
    have := Option.some.inj h1
    have := Option.some.inj h2
    exact (along_le eo hz ep ft).up (by omega)
  generalize walk (fun s x => goAlong ns x y s) ns s = t at B R f
  intro v hv x hx z hz a b ha hb
  rcases hv with hv | hv
  · rcases B.from_ _ _ _ ha with h1 | ⟨o, p, h1, h2, h3⟩
    · rcases B.from_ _ _ _ hb with g1 | ⟨o', p', g1, g2, g3⟩
      · exact B.dn.le _ _ (C v hv x hx z hz a b h1 g1)
      · obtain ⟨n, en, ln⟩ := C v hv x hx y hy a o' h1 g1
        exact (R x hx z hz n p' en g2).up (by omega)
    · rcases B.from_ _ _ _ hb with g1 | ⟨o', p', g1, g2, g3⟩
      · obtain ⟨n, en, ln⟩ := C v hv y hy z hz p b h2 g1
        exact (R x hx z hz o n h1 en).up (by omega)
      · obtain ⟨n, en, ln⟩ := C v hv y hy y hy p o' h2 g1
        have := D.2 y n en
        exact (R x hx z hz o p' h1 g2).up (by omega)
  · rw [hv] at ha hb
    exact R x hx z hz a b (B.to hc nc ha) (B.fro hc nc hb)
theorem alongs_closed {ns : List α} {s : MS α} (D : Dg ns s) (f : (goAlongs ns s).fault = none) : Cl ns (fun v => v ∈ ns) (goAlongs ns s) := by
  have dd : ∀ (s : MS α) (y : α), Dn s (walk (fun s x => goAlong ns x y s) ns s) := fun s y => dn_walk (fun s x => dn_goAlong ns x y s) ns s
  have key : ∀ (l : List α) (V : α → Prop) (s : MS α), (∀ y ∈ l, y ∈ ns) → (∀ v, V v → v ∈ ns) → Cl ns V s → Dg ns s → (walk (fun s y => walk (fun s x => goAlong ns x y s) ns s) l s).fault = none → Cl ns (fun v => V v ∨ v ∈ l) (walk (fun s y => walk (fun s x => goAlong ns x y s) ns s) l s) := by
    intro l
    induction l with
    | nil =>
      intro V s _ _ C _ _ v hv
      exact C v (hv.resolve_right List.not_mem_nil)
    | cons y l ih =>
      intro V s hl hV C D f
      rw [walk_cons] at f ⊢
      have fy := (dn_walk dd l _).fault f
      have Cy := via_closed (hl y List.mem_cons_self) C hV D fy
      intro v hv
      refine ih (fun v => V v ∨ v = y) _ (fun y hy => hl y (List.mem_cons_of_mem _ hy)) (fun v hv => hv.elim (hV v) fun e => e ▸ hl y List.mem_cons_self) Cy (D.dn (dd s y) fy) f v ?_
      rcases hv with h | h
      · exact .inl (.inl h)
      · rcases List.mem_cons.1 h with h | h
        · exact .inl (.inr h)
        · exact .inr h
  intro v hv
  exact key ns (fun _ => False) s (fun _ h => h) (fun _ h => h.elim) (fun _ h => h.elim) D f v (.inr hv)
/-! ### a whole round: nothing sinks for ever -/
theorem walk_keep {β : Type} {f : MS α → β → MS α} {I : MS α → Prop} {l : List β} (hs : ∀ s, ∀ x ∈ l, I s → I (f s x)) {s : MS α} (h : I s) : I (walk f l s) := by
  induction l generalizing s with
  | nil => exact h
  | cons y l ih => exact ih (fun s x hx => hs s x (List.mem_cons_of_mem _ hx)) (hs s y List.mem_cons_self h)
/-- the bounds (u false), the waits (u true) stay -/
def Ku (u : Bool) (s t : MS α) : Prop := ∀ a b, t.at (u, a, b) = s.at (u, a, b)
theorem Ku.refl (u : Bool) (s : MS α) : Ku u s s := fun _ _ => rfl
theorem Ku.trans {u : Bool} {s t v : MS α} (a : Ku u s t) (b : Ku u t v) : Ku u s v := fun x y => (b x y).trans (a x y)
theorem offer_other {s : MS α} {k k' : Ky α} {n : Int} {r : Rr α} (h : ¬ k' = k) : (offer s k n r).at k' = s.at k' := by
  rcases offer_cases s k n r with ⟨e, _⟩ | ⟨f, nl, e⟩
  · rw [e]
  · rw [e, at_put, if_neg h]
theorem ku_offer {u : Bool} {s : MS α} {k : Ky α} {n : Int} {r : Rr α} (h : ¬ k.1 = u) : Ku u s (offer s k n r) := fun a b => offer_other fun z => h (by rw [← z])
theorem ku_walk {β : Type} {u : Bool} {f : MS α → β → MS α} (h : ∀ s x, Ku u s (f s x)) (l : List β) (s : MS α) : Ku u s (walk f l s) := walk_keep (I := Ku u s) (fun t x _ k => k.trans (h t x)) (.refl u s)
theorem ku_goAlong (ns : List α) (x y : α) (s : MS α) : Ku true s (goAlong ns x y s) := by
  unfold goAlong
  split
  · exact .refl _ _
  · refine ku_walk (fun s z => ?_) ns s
    unfold stAlong
    split
    · exact .refl _ _
    · exact ku_offer (fun z => Bool.noConfusion z)
theorem ku_goWait (ns : List α) (e y : α) (s : MS α) : Ku false s (goWait ns e y s) := by
  unfold goWait
  split
  · exact .refl _ _
  · refine ku_walk (fun s z => ?_) ns s
    unfold stWait
    split
    · exact .refl _ _
    · exact ku_offer (fun z => Bool.noConfusion z)
theorem one_u {hk : α → Option (α × Int)} {w : Nat} {k : Ky α} {n : Int} {f : Ky α × Int} (h : one hk w k n = some f) : (w ≤ 1 → f.1.1 = false) ∧ (2 ≤ w → f.1.1 = true) := by
  unfold one at h
  by_cases c : w = 0
  · rw [if_pos c] at h
    split at h
    · obtain ⟨r, _, e⟩ := Option.map_eq_some_iff.1 h
      rw [← e]
      exact ⟨fun _ => rfl, fun z => by omega⟩
    · cases h
  · rw [if_neg c] at h
    by_cases c1 : w = 1
    · rw [if_pos c1] at h
      split at h
      · obtain ⟨r, _, e⟩ := Option.map_eq_some_iff.1 h
        rw [← e]
        exact ⟨fun _ => rfl, fun z => by omega⟩
      · cases h
    · rw [if_neg c1] at h
      split at h
      · obtain ⟨r, _, e⟩ := Option.map_eq_some_iff.1 h
        rw [← e]
        exact ⟨fun z => by omega, fun _ => rfl⟩
      · cases h
theorem ku_goOne (hk : α → Option (α × Int)) (w : Nat) (s : MS α) : Ku (decide (w ≤ 1)) s (goOne hk w s) := by
  refine ku_walk (fun s k => ?_) _ s
  unfold stOne
  split
  · exact .refl _ _
  · split
    · exact .refl _ _
    · rename_i f hf
      refine ku_offer fun z => ?_
      have := one_u hf
      by_cases c : w ≤ 1
      · rw [this.1 c, decide_eq_true c] at z; cases z
      · rw [this.2 (by omega), decide_eq_false c] at z; cases z
/-- all keys that there may be -/
def keys (ns es : List α) : List (Ky α) := (ns.flatMap fun x => ns.map fun y => (false, x, y)) ++ es.flatMap fun e => ns.map fun x => (true, e, x)
theorem mem_most {ns es : List α} {x y : α} : ((false, x, y) : Ky α) ∈ keys ns es ↔ x ∈ ns ∧ y ∈ ns := by
  unfold keys
  constructor
  · intro h
    rcases List.mem_append.1 h with h | h
    · obtain ⟨x', hx, h⟩ := List.mem_flatMap.1 h
      obtain ⟨y', hy, h⟩ := List.mem_map.1 h
      cases h
      exact ⟨hx, hy⟩
    · obtain ⟨x', hx, h⟩ := List.mem_flatMap.1 h
      obtain ⟨y', hy, h⟩ := List.mem_map.1 h
      cases h
  · intro h
    exact List.mem_append.2 (.inl (List.mem_flatMap.2 ⟨x, h.1, List.mem_map.2 ⟨y, h.2, rfl⟩⟩))
theorem mem_until {ns es : List α} {x y : α} : ((true, x, y) : Ky α) ∈ keys ns es ↔ x ∈ es ∧ y ∈ ns := by
  unfold keys
  constructor
  · intro h
    rcases List.mem_append.1 h with h | h
    · obtain ⟨x', hx, h⟩ := List.mem_flatMap.1 h
      obtain ⟨y', hy, h⟩ := List.mem_map.1 h
      cases h
    · obtain ⟨x', hx, h⟩ := List.mem_flatMap.1 h
      obtain ⟨y', hy, h⟩ := List.mem_map.1 h
      cases h
      exact ⟨hx, hy⟩
  · intro h
    exact List.mem_append.2 (.inr (List.mem_flatMap.2 ⟨x, h.1, List.mem_map.2 ⟨y, h.2, rfl⟩⟩))
/-- what a web gives: bases, heard ends, what is known of them -/
structure Wb (ns es : List α) (hk : α → Option (α × Int)) (F : Int) : Prop where
  ends : ∀ e ∈ es, e ∈ ns
  heard : ∀ e r, hk e = some r → r.1 ∈ ns ∧ hk r.1 = none ∧ 1 ≤ r.2 ∧ r.2 ≤ F
theorem just_offer {ks : List (Ky α)} {s : MS α} {k : Ky α} {n : Int} {r : Rr α} (h : Just ks s) (hk : k ∈ ks) : Just ks (offer s k n r) := fun k' m e => (offer_at e).elim (h k' m) fun z => z.1 ▸ hk
section
variable {ns es : List α} {hk : α → Option (α × Int)} {F : Int}
theorem just_goAlong {x y : α} (hx : x ∈ ns) {s : MS α} (h : Just (keys ns es) s) : Just (keys ns es) (goAlong ns x y s) := by
  unfold goAlong
  split
  · exact h
  · refine walk_keep (fun t z hz j => ?_) h
    unfold stAlong
    split
    · exact j
    · exact just_offer j (mem_most.2 ⟨hx, hz⟩)
theorem just_goWait {e y : α} (he : e ∈ es) {s : MS α} (h : Just (keys ns es) s) : Just (keys ns es) (goWait ns e y s) := by
  unfold goWait
  split
  · exact h
  · refine walk_keep (fun t z hz j => ?_) h
    unfold stWait
    split
    · exact j
    · exact just_offer j (mem_until.2 ⟨he, hz⟩)
theorem one_in (H : Wb ns es hk F) {w : Nat} {k : Ky α} {n : Int} {f : Ky α × Int} (h : one hk w k n = some f) (hj : k ∈ keys ns es) : f.1 ∈ keys ns es := by
  obtain ⟨u, a, b⟩ := k
  unfold one at h
  split at h
  · split at h
    · rename_i c
      obtain ⟨r, hr, e⟩ := Option.map_eq_some_iff.1 h
      have c : u = true := c
      rw [c] at hj
      rw [← e]
      exact mem_most.2 ⟨(mem_until.1 hj).2, (H.heard _ _ hr).1⟩
    · cases h
  · split at h
    · split at h
      · rename_i c
        obtain ⟨r, hr, e⟩ := Option.map_eq_some_iff.1 h
        have c : u = false := c.1
        rw [c] at hj
        rw [← e]
        exact mem_most.2 ⟨(H.heard _ _ hr).1, (mem_most.1 hj).2⟩
      · cases h
    · split at h
      · rename_i c
        obtain ⟨r, hr, e⟩ := Option.map_eq_some_iff.1 h
        have c : u = true := c.1
        rw [c] at hj
        rw [← e]
        exact mem_until.2 ⟨(mem_until.1 hj).1, (H.heard _ _ hr).1⟩
      · cases h
theorem just_goOne (H : Wb ns es hk F) (w : Nat) {s : MS α} (h : Just (keys ns es) s) : Just (keys ns es) (goOne hk w s) := by
  refine walk_keep (fun t k hz j => ?_) h
  unfold stOne
  split
  · exact j
  · rename_i v hv
    split
    · exact j
    · rename_i f hf
      exact just_offer j (one_in H hf (j k _ (at_of hv)))
theorem just_stOne (H : Wb ns es hk F) (w : Nat) {s : MS α} (h : Just (keys ns es) s) (k : Ky α) : Just (keys ns es) (stOne hk w s k) := by
  unfold stOne
  split
  · exact h
  · rename_i v hv
    split
    · exact h
    · rename_i f hf
      exact just_offer h (one_in H hf (h k _ (at_of hv)))
theorem just_goAlongs {s : MS α} (h : Just (keys ns es) s) : Just (keys ns es) (goAlongs ns s) := walk_keep (fun t y _ j => walk_keep (I := Just (keys ns es)) (fun t x hx j => just_goAlong hx j) j) h
theorem just_goWaits {s : MS α} (h : Just (keys ns es) s) : Just (keys ns es) (goWaits ns es s) := walk_keep (fun t e he j => walk_keep (I := Just (keys ns es)) (fun t x hx j => just_goWait he j) j) h
theorem ku_goAlongs (ns : List α) (s : MS α) : Ku true s (goAlongs ns s) := ku_walk (fun s y => ku_walk (fun s x => ku_goAlong ns x y s) ns s) ns s
theorem ku_goWaits (ns es : List α) (s : MS α) : Ku false s (goWaits ns es s) := ku_walk (fun s e => ku_walk (fun s x => ku_goWait ns e x s) ns s) es s
theorem Cl.ku {V : α → Prop} {s t : MS α} (C : Cl ns V s) (k : Ku false s t) : Cl ns V t := fun v hv x hx z hz a b ha hb => by
  rw [k] at ha hb
  obtain ⟨n, e, l⟩ := C v hv x hx z hz a b ha hb
  exact ⟨n, by rw [k]; exact e, l⟩
theorem Cl.le {s : MS α} (C : Cl ns (fun v => v ∈ ns) s) {x v z : α} (hx : x ∈ ns) (hv : v ∈ ns) (hz : z ∈ ns) {a b : Int} (ha : Le s (false, x, v) a) (hb : Le s (false, v, z) b) : Le s (false, x, z) (a + b) := by
  obtain ⟨a', ea, la⟩ := ha
  obtain ⟨b', eb, lb⟩ := hb
  exact (C v hv x hx z hz a' b' ea eb).up (by omega)
/-- told ways from each base to the start and back, by two steps each -/
def Wy (ns : List α) (st : α) (B : Int) (s : MS α) : Prop := st ∈ ns ∧ ∀ x ∈ ns, (∃ y ∈ ns, Le s (false, x, y) B ∧ Le s (false, y, st) B) ∧ ∃ y ∈ ns, Le s (false, st, y) B ∧ Le s (false, y, x) B
theorem Wy.dn {st : α} {B : Int} {s t : MS α} (h : Wy ns st B s) (d : Dn s t) : Wy ns st B t := ⟨h.1, fun x hx => by
  obtain ⟨⟨y, h1, h2, h3⟩, z, h4, h5, h6⟩ := h.2 x hx
  exact ⟨⟨y, h1, d.le _ _ h2, d.le _ _ h3⟩, z, h4, d.le _ _ h5, d.le _ _ h6⟩⟩
theorem up_near {st : α} {B : Int} {s : MS α} (C : Cl ns (fun v => v ∈ ns) s) (h : Wy ns st B s) {x z : α} (hx : x ∈ ns) (hz : z ∈ ns) : Le s (false, x, z) (4 * B) := by
  obtain ⟨⟨y, h1, h2, h3⟩, _⟩ := h.2 x hx
  obtain ⟨_, y', g1, g2, g3⟩ := h.2 z hz
  exact (C.le hx h.1 hz (C.le hx h1 h.1 h2 h3) (C.le h.1 g1 hz g2 g3)).up (by omega)
/-- no bound lies below -c -/
def Lo (c : Int) (s : MS α) : Prop := ∀ x y n, s.at (false, x, y) = some n → -c ≤ n
theorem lo_near {st : α} {B : Int} {s : MS α} (C : Cl ns (fun v => v ∈ ns) s) (h : Wy ns st B s) (D : Dg ns s) (J : Just (keys ns es) s) : Lo (4 * B) s := fun x y n e => by
  obtain ⟨hx, hy⟩ := mem_most.1 (J _ _ e)
  obtain ⟨m, em, lm⟩ := up_near C h hy hx
  obtain ⟨d, ed, ld⟩ := C.le hx hy hx (Le.of e) (Le.of em)
  have := D.2 x d ed
  omega
theorem Lo.ku {c : Int} {s t : MS α} (h : Lo c s) (k : Ku false s t) : Lo c t := fun x y n e => h x y n (by rw [← k]; exact e)
/-- each wait of x lies above a bound from x, less M -/
def Wt (M : Int) (s : MS α) : Prop := ∀ e x a, s.at (true, e, x) = some a → ∃ y b, Le s (false, x, y) b ∧ b ≤ a + M
theorem Wt.ku {M : Int} {s t : MS α} (h : Wt M s) (d : Dn s t) (k : Ku true s t) : Wt M t := fun e x a q => by
  rw [k] at q
  obtain ⟨y, b, h1, h2⟩ := h e x a q
  exact ⟨y, b, d.le _ _ h1, h2⟩
theorem wt_offer {M : Int} {s : MS α} {e x : α} {n : Int} {r : Rr α} (h : Wt M s) (w : ∃ y b, Le s (false, x, y) b ∧ b ≤ n + M) : Wt M (offer s (true, e, x) n r) := fun e' x' a q => by
  have d := dn_offer s (true, e, x) n r
  rcases offer_at q with z | ⟨z, z'⟩
  · obtain ⟨y, b, h1, h2⟩ := h e' x' a z
    exact ⟨y, b, d.le _ _ h1, h2⟩
  · have ex : x' = x := congrArg (fun k : Ky α => k.2.2) z
    obtain ⟨y, b, h1, h2⟩ := w
    rw [ex, z']
    exact ⟨y, b, d.le _ _ h1, h2⟩
theorem wt_goWait {M : Int} {s : MS α} {e y : α} (hy : y ∈ ns) (C : Cl ns (fun v => v ∈ ns) s) (J : Just (keys ns es) s) (h : Wt M s) : Wt M (goWait ns e y s) := by
  unfold goWait
  split
  · exact h
  · rename_i p hp
    obtain ⟨z, b, h1, h2⟩ := h e y _ (at_of hp)
    refine (walk_keep (I := fun t => Ku false s t ∧ Wt M t) (fun t x hx i => ?_) ⟨.refl _ _, h⟩).2
    unfold stWait
    split
    · exact i
    · rename_i o ho
      refine ⟨i.1.trans (ku_offer fun z => Bool.noConfusion z), wt_offer i.2 ⟨z, o.1 + b, ?_, by omega⟩⟩
      have hz : z ∈ ns := by
        obtain ⟨b', e', _⟩ := h1
        exact (mem_most.1 (J _ _ e')).2
      have e' := at_of ho
      rw [i.1] at e'
      obtain ⟨n, en, ln⟩ := C.le hx hy hz (Le.of e') h1
      exact ⟨n, by rw [i.1]; exact en, ln⟩
theorem wt_goWaits {M : Int} {s : MS α} (C : Cl ns (fun v => v ∈ ns) s) (J : Just (keys ns es) s) (h : Wt M s) : Wt M (goWaits ns es s) := by
  refine (walk_keep (I := fun t => (Cl ns (fun v => v ∈ ns) t ∧ Just (keys ns es) t) ∧ Wt M t) (fun t e he i => ?_) ⟨⟨C, J⟩, h⟩).2
  refine walk_keep (I := fun t => (Cl ns (fun v => v ∈ ns) t ∧ Just (keys ns es) t) ∧ Wt M t) (fun t y hy i => ?_) i
  exact ⟨⟨i.1.1.ku (ku_goWait _ _ _ _), just_goWait he i.1.2⟩, wt_goWait hy i.1.1 i.1.2 i.2⟩
/-- .. each base has a wait for each end -/
theorem up_wait {U : Int} {s : MS α} {e : α} (he : e ∈ ns) (h1 : Le s (true, e, e) 0) (h2 : ∀ x ∈ ns, Le s (false, x, e) U) (f : (goWait ns e e s).fault = none) : ∀ x ∈ ns, Le (goWait ns e e s) (true, e, x) U := by
  obtain ⟨p, ep, lp⟩ := h1
  obtain ⟨q, eq⟩ := of_at ep
  unfold goWait at f ⊢
  rw [eq] at f ⊢
  intro x hx
  refine walk_each (dn_stWait e e _) (fun t => Le t (false, x, e) U) (fun x' t => x' = x → Le t (true, e, x) U) (fun t x' _ i _ => (dn_stWait ..).le _ _ i) (fun t x' _ i ft ex => ?_) (fun t u x' d j ex => d.le _ _ (j ex)) (h2 x hx) f x hx rfl
  rw [ex] at ft ⊢
  obtain ⟨n, en, ln⟩ := i
  obtain ⟨r, er⟩ := of_at en
  unfold stWait at ft ⊢
  rw [er] at ft ⊢
  exact (offer_le ft).up (by show n + p ≤ U; omega)
theorem up_waits (H : Wb ns es hk F) {U : Int} {s : MS α} (h1 : ∀ e ∈ es, Le s (true, e, e) 0) (h2 : ∀ x ∈ ns, ∀ y ∈ ns, Le s (false, x, y) U) (f : (goWaits ns es s).fault = none) : ∀ e ∈ es, ∀ x ∈ ns, Le (goWaits ns es s) (true, e, x) U := by
  have dd : ∀ (s : MS α) (e : α), Dn s (walk (fun s y => goWait ns e y s) ns s) := fun s e => dn_walk (fun s y => dn_goWait ns e y s) ns s
  refine walk_each dd (fun t => Dn s t) (fun e t => ∀ x ∈ ns, Le t (true, e, x) U) (fun t e _ i _ => i.trans (dd t e)) (fun t e he i ft => ?_) (fun t u e d j x hx => d.le _ _ (j x hx)) (.refl s) f
  refine walk_each (fun s y => dn_goWait ns e y s) (fun t => Dn s t) (fun y t => y = e → ∀ x ∈ ns, Le t (true, e, x) U) (fun t y _ i _ => i.trans (dn_goWait ns e y t)) (fun t y hy i ft ey => ?_) (fun t u e d j ey x hx => d.le _ _ (j ey x hx)) i ft e (H.ends e he) rfl
  rw [ey] at ft ⊢
  exact up_wait (H.ends e he) (i.le _ _ (h1 e he)) (fun x hx => i.le _ _ (h2 x hx e (H.ends e he))) ft
end
/-! ### the single rules -/
section
variable {ns es : List α} {hk : α → Option (α × Int)} {F : Int}
theorem one0 {k : Ky α} {n : Int} {g : Ky α × Int} (h : one hk 0 k n = some g) : k.1 = true ∧ ∃ r, hk k.2.1 = some r ∧ g = ((false, k.2.2, r.1), max n (-r.2)) := by
  unfold one at h
  rw [if_pos rfl] at h
  split at h
  · rename_i c
    obtain ⟨r, hr, e⟩ := Option.map_eq_some_iff.1 h
    exact ⟨c, r, hr, e.symm⟩
  · cases h
theorem one1 {k : Ky α} {n : Int} {g : Ky α × Int} (h : one hk 1 k n = some g) : k.1 = false ∧ n < 0 ∧ ∃ r, hk k.2.1 = some r ∧ g = ((false, r.1, k.2.2), r.2 + n) := by
  unfold one at h
  rw [if_neg (by decide), if_pos rfl] at h
  split at h
  · rename_i c
    obtain ⟨r, hr, e⟩ := Option.map_eq_some_iff.1 h
    exact ⟨c.1, c.2, r, hr, e.symm⟩
  · cases h
theorem one2 {k : Ky α} {n : Int} {g : Ky α × Int} (h : one hk 2 k n = some g) : k.1 = true ∧ ¬ k.2.1 = k.2.2 ∧ n < 0 ∧ ∃ r, hk k.2.2 = some r ∧ g = ((true, k.2.1, r.1), r.2 + n) := by
  unfold one at h
  rw [if_neg (by decide), if_neg (by decide)] at h
  split at h
  · rename_i c
    obtain ⟨r, hr, e⟩ := Option.map_eq_some_iff.1 h
    exact ⟨c.1, c.2.1, c.2.2, r, hr, e.symm⟩
  · cases h
theorem lo_sure (H : Wb ns es hk F) {c : Int} (hc : F ≤ c) {s : MS α} (h : Lo c s) : Lo c (goOne hk 0 s) := by
  refine walk_keep (fun t k _ i => ?_) h
  unfold stOne
  split
  · exact i
  · split
    · exact i
    · rename_i v hv oo g hg
      obtain ⟨_, r, hr, e⟩ := one0 hg
      have := (H.heard _ _ hr).2.2
      intro x y n q
      rcases offer_at q with z | ⟨_, z⟩
      · exact i x y n z
      · rw [z, e]
        show -c ≤ max v.1 (-r.2)
        omega
theorem lo_soon (H : Wb ns es hk F) {c : Int} {s : MS α} (h : Lo c s) : Lo c (goOne hk 1 s) := by
  refine walk_keep (fun t k _ i => ?_) h
  unfold stOne
  split
  · exact i
  · split
    · exact i
    · rename_i v hv oo g hg
      obtain ⟨hu, _, r, hr, e⟩ := one1 hg
      have := (H.heard _ _ hr).2.2
      intro x y n q
      rcases offer_at q with z | ⟨_, z⟩
      · exact i x y n z
      · rw [z, e]
        obtain ⟨u, a, b⟩ := k
        have hu : u = false := hu
        rw [hu] at hv
        have := i a b v.1 (at_of hv)
        show -c ≤ r.2 + v.1
        omega
/-- soon has gone over all bounds -/
def Sn (hk : α → Option (α × Int)) (s : MS α) : Prop := ∀ e y n r, s.at (false, e, y) = some n → n < 0 → hk e = some r → Le s (false, r.1, y) (r.2 + n)
theorem soon_done (H : Wb ns es hk F) {s : MS α} (f : (goOne hk 1 s).fault = none) : Sn hk (goOne hk 1 s) := by
  have keep : ∀ (t : MS α) (k : Ky α) (e y : α) (r : α × Int), hk e = some r → (stOne hk 1 t k).at (false, e, y) = t.at (false, e, y) := by
    intro t k e y r hr
    unfold stOne
    split
    · rfl
    · split
      · rfl
      · rename_i v hv oo g hg
        obtain ⟨_, _, r', hr', eg⟩ := one1 hg
        refine offer_other fun z => ?_
        rw [eg] at z
        have e1 : e = r'.1 := congrArg (fun k : Ky α => k.2.1) z
        have := (H.heard _ _ hr').2.1
        rw [← e1, hr] at this
        cases this
  have all : ∀ e y r, hk e = some r → (goOne hk 1 s).at (false, e, y) = s.at (false, e, y) := fun e y r hr => walk_keep (I := fun t => t.at (false, e, y) = s.at (false, e, y)) (fun t k _ i => (keep t k e y r hr).trans i) rfl
  intro e y n r hn nn hr
  rw [all e y r hr] at hn
  obtain ⟨p, hp⟩ := of_at hn
  refine walk_each (dn_stOne hk 1) (fun t => t.at (false, e, y) = some n) (fun k t => k = (false, e, y) → Le t (false, r.1, y) (r.2 + n)) (fun t k _ i _ => (keep t k e y r hr).trans i) (fun t k _ i ft ek => ?_) (fun t u k d j ek => d.le _ _ (j ek)) hn f _ (mem_look hp) rfl
  rw [ek] at ft ⊢
  obtain ⟨q, hq⟩ := of_at i
  unfold stOne at ft ⊢
  rw [hq] at ft ⊢
  have eo : one hk 1 (false, e, y) n = some ((false, r.1, y), r.2 + n) := by
    unfold one
    rw [if_neg (by decide), if_pos rfl, if_pos ⟨rfl, nn⟩, hr]
    rfl
  simp only [eo] at ft ⊢
  exact offer_le ft
theorem wt_ahead (H : Wb ns es hk F) {M : Int} {s : MS α} (S : Sn hk s) (D : ∀ x ∈ ns, Le s (false, x, x) 0) (h : Wt M s) : Wt M (goOne hk 2 s) := by
  refine (walk_keep (I := fun t => Ku false s t ∧ Wt M t) (fun t k _ i => ?_) ⟨.refl _ _, h⟩).2
  unfold stOne
  split
  · exact i
  · split
    · exact i
    · rename_i v hv oo g hg
      obtain ⟨hu, _, nn, r, hr, e⟩ := one2 hg
      obtain ⟨u, a, b⟩ := k
      have hu : u = true := hu
      rw [hu] at hv
      rw [e]
      refine ⟨i.1.trans (ku_offer fun z => Bool.noConfusion z), wt_offer i.2 ?_⟩
      obtain ⟨y, c, ⟨c', h1, h2⟩, h3⟩ := i.2 a b v.1 (at_of hv)
      have hb := (H.heard _ _ hr)
      by_cases l : c' < 0
      · rw [i.1] at h1
        obtain ⟨n, en, ln⟩ := S b y c' r h1 l hr
        exact ⟨y, n, ⟨n, by rw [i.1]; exact en, Int.le_refl _⟩, by show n ≤ r.2 + v.1 + M; omega⟩
      · obtain ⟨n, en, ln⟩ := D r.1 hb.1
        exact ⟨r.1, n, ⟨n, by rw [i.1]; exact en, Int.le_refl _⟩, by show n ≤ r.2 + v.1 + M; have := hb.2.2; omega⟩
/-- at the head of a round -/
structure Hd (ns es : List α) (st : α) (B M : Int) (s : MS α) : Prop where
  just : Just (keys ns es) s
  dg : Dg ns s
  wy : Wy ns st B s
  lt : ∀ e ∈ es, Le s (true, e, e) 0
  wt : Wt M s
/-- all amounts are there, between two bounds -/
def Fl (ns es : List α) (C U : Int) (s : MS α) : Prop := ∀ k ∈ keys ns es, ∃ n, s.at k = some n ∧ -C ≤ n ∧ n ≤ U
theorem round_hd (H : Wb ns es hk F) {st : α} {B M : Int} (hB : 0 ≤ B) (hM : 0 ≤ M) (hF : 0 ≤ F) {s : MS α} (h : Hd ns es st B M s) (f : (goRound ns es hk s).fault = none) : Hd ns es st B M (goRound ns es hk s) ∧ Fl ns es (M + 4 * B + F) (4 * B) (goRound ns es hk s) := by
  have D := dn_goRound ns es hk s
  unfold goRound at f D ⊢
  have d1 := dn_goAlongs ns s
  have k1 := ku_goAlongs ns s
  have j1 := just_goAlongs h.just
  have cl : (goAlongs ns s).fault = none → Cl ns (fun v => v ∈ ns) (goAlongs ns s) := alongs_closed h.dg
  generalize goAlongs ns s = s1 at *
  have d2 := dn_goWaits ns es s1
  have k2 := ku_goWaits ns es s1
  have j2 := just_goWaits (es := es) j1
  have w2 : Cl ns (fun v => v ∈ ns) s1 → Wt M s1 → Wt M (goWaits ns es s1) := fun C w => wt_goWaits C j1 w
  have u2 := @up_waits α _ ns es hk F H (4 * B) s1
  generalize goWaits ns es s1 = s2 at *
  have d3 := dn_goOne hk 0 s2
  have k3 : Ku true s2 (goOne hk 0 s2) := ku_goOne hk 0 s2
  have j3 := just_goOne H 0 j2
  have l3 : Lo (4 * B + F) s2 → Lo (4 * B + F) (goOne hk 0 s2) := fun z => lo_sure H (by omega) z
  generalize goOne hk 0 s2 = s3 at *
  have d4 := dn_goOne hk 1 s3
  have k4 : Ku true s3 (goOne hk 1 s3) := ku_goOne hk 1 s3
  have j4 := just_goOne H 1 j3
  have l4 : Lo (4 * B + F) s3 → Lo (4 * B + F) (goOne hk 1 s3) := fun z => lo_soon H z
  have n4 : (goOne hk 1 s3).fault = none → Sn hk (goOne hk 1 s3) := soon_done H
  generalize goOne hk 1 s3 = s4 at *
  have d5 := dn_goOne hk 2 s4
  have k5 : Ku false s4 (goOne hk 2 s4) := ku_goOne hk 2 s4
  have j5 := just_goOne H 2 j4
  have w5 : Sn hk s4 → (∀ x ∈ ns, Le s4 (false, x, x) 0) → Wt M s4 → Wt M (goOne hk 2 s4) := wt_ahead H
  generalize goOne hk 2 s4 = s5 at *
  have f4 := d5.fault f
  have f3 := d4.fault f4
  have f2 := d3.fault f3
  have f1 := d2.fault f2
  have C1 := cl f1
  have dg1 := h.dg.dn d1 f1
  have wy1 := h.wy.dn d1
  have wt1 := h.wt.ku d1 k1
  have up1 : ∀ x ∈ ns, ∀ y ∈ ns, Le s1 (false, x, y) (4 * B) := fun x hx y hy => up_near C1 wy1 hx hy
  have lo1 : Lo (4 * B + F) s1 := fun x y n e => by
    have := lo_near C1 wy1 dg1 j1 x y n e
    omega
  have up2 := u2 (fun e he => d1.le _ _ (h.lt e he)) up1 f2
  have wt2 := w2 C1 wt1
  have wt4 := (wt2.ku d3 k3).ku d4 k4
  have dg4 := (h.dg.dn (d1.trans (d2.trans (d3.trans d4))) f4)
  have wt5 := w5 (n4 f4) dg4.1 wt4
  have lo5 : Lo (4 * B + F) s5 := (l4 (l3 (lo1.ku k2))).ku k5
  refine ⟨⟨j5, h.dg.dn D f, h.wy.dn D, fun e he => D.le _ _ (h.lt e he), wt5⟩, fun k hk' => ?_⟩
  obtain ⟨u, a, b⟩ := k
  cases u with
  | false =>
    obtain ⟨ha, hb⟩ := mem_most.1 hk'
    obtain ⟨n, en, ln⟩ := (d2.trans (d3.trans (d4.trans d5))).le _ _ (up1 a ha b hb)
    exact ⟨n, en, by have := lo5 a b n en; omega, ln⟩
  | true =>
    obtain ⟨ha, hb⟩ := mem_until.1 hk'
    obtain ⟨n, en, ln⟩ := (d3.trans (d4.trans d5)).le _ _ (up2 a ha b hb)
    refine ⟨n, en, ?_, ln⟩
    obtain ⟨y, c, ⟨c', h1, h2⟩, h3⟩ := wt5 a b n en
    have := lo5 b y c' h1
    omega
/-! ### it ends -/
def val (C Z : Nat) : Option Int → Nat
  | none => Z
  | some n => (n + C).toNat
def mu (C Z : Nat) (s : MS α) : List (Ky α) → Nat
  | [] => 0
  | k :: ks => val C Z (s.at k) + mu C Z s ks
theorem mu_le {C Z : Nat} {s t : MS α} {ks : List (Ky α)} (h : ∀ k ∈ ks, val C Z (t.at k) ≤ val C Z (s.at k)) : mu C Z t ks ≤ mu C Z s ks := by
  induction ks with
  | nil => exact Nat.le_refl _
  | cons k ks ih =>
    have h1 := h k List.mem_cons_self
    have h2 := ih fun k hk => h k (List.mem_cons_of_mem _ hk)
    show _ + _ ≤ _ + _
    omega
theorem mu_lt {C Z : Nat} {s t : MS α} {ks : List (Ky α)} (h : ∀ k ∈ ks, val C Z (t.at k) ≤ val C Z (s.at k)) {k : Ky α} (hk : k ∈ ks) (l : val C Z (t.at k) < val C Z (s.at k)) : mu C Z t ks < mu C Z s ks := by
  induction ks with
  | nil => cases hk
  | cons c ks ih =>
    have h1 := h c List.mem_cons_self
    have h2 := mu_le fun k hk => h k (List.mem_cons_of_mem _ hk)
    show _ + _ < _ + _
    rcases List.mem_cons.1 hk with z | z
    · rw [← z] at h1 ⊢
      omega
    · have := ih (fun k hk => h k (List.mem_cons_of_mem _ hk)) z
      omega
theorem round_less {C U Z : Nat} (hZ : C + U < Z) {s t : MS α} (d : Dn s t) (j : Just (keys ns es) t) (f : Fl ns es C U t) (g : s.rows.length < t.rows.length) : mu C Z t (keys ns es) < mu C Z s (keys ns es) := by
  obtain ⟨k, n, h1, h2⟩ := d.less g
  have hk := j k n h1
  refine mu_lt (fun k' hk' => ?_) hk ?_
  · obtain ⟨m, e, l1, l2⟩ := f k' hk'
    rw [e]
    cases es : s.at k' with
    | none => show (m + C).toNat ≤ Z; omega
    | some v =>
      obtain ⟨m', e', l'⟩ := d.le k' v ⟨v, es, Int.le_refl _⟩
      rw [e] at e'
      have := Option.some.inj e'
      show (m + C).toNat ≤ (v + C).toNat
      omega
  · obtain ⟨m, e, l1, l2⟩ := f k hk
    rw [h1] at e
    have em := Option.some.inj e
    rw [h1]
    cases es : s.at k with
    | none => show (n + C).toNat < Z; omega
    | some v =>
      have : n < v := by
        by_cases c : v ≤ n
        · exact absurd ⟨v, es, c⟩ h2
        · omega
      show (n + C).toNat < (v + C).toNat
      omega
/-- closed under all rules -/
structure Closed (ns es : List α) (hk : α → Option (α × Int)) (s : MS α) : Prop where
  along : Cl ns (fun v => v ∈ ns) s
  wait : ∀ e ∈ es, ∀ y ∈ ns, ∀ x ∈ ns, ∀ o p, s.at (false, x, y) = some o → s.at (true, e, y) = some p → Le s (true, e, x) (o + p)
  one : ∀ w, w < 3 → ∀ k n f, s.at k = some n → one hk w k n = some f → Le s f.1 f.2
theorem offer_still {s : MS α} {k : Ky α} {n : Int} {r : Rr α} (f : s.fault = none) (h : offer s k n r = s) : Le s k n := by
  have := @offer_le α _ s k n r (by rw [h]; exact f)
  rw [h] at this
  exact this
theorem one_still {w : Nat} {s : MS α} (f : s.fault = none) (h : goOne hk w s = s) : ∀ k n g, s.at k = some n → one hk w k n = some g → Le s g.1 g.2 := fun k n g e eg => by
  obtain ⟨p, hp⟩ := of_at e
  have q := walk_still (dn_stOne hk w) h k (mem_look hp)
  unfold stOne at q
  rw [hp] at q
  simp only [eg] at q
  exact offer_still f q
theorem round_still {s : MS α} (D : Dg ns s) (f : s.fault = none) (e : (goRound ns es hk s).rows.length = s.rows.length) : Closed ns es hk s := by
  unfold goRound at e
  have d1 := dn_goAlongs ns s
  have d2 := dn_goWaits ns es (goAlongs ns s)
  have d3 := dn_goOne hk 0 (goWaits ns es (goAlongs ns s))
  have d4 := dn_goOne hk 1 (goOne hk 0 (goWaits ns es (goAlongs ns s)))
  have d5 := dn_goOne hk 2 (goOne hk 1 (goOne hk 0 (goWaits ns es (goAlongs ns s))))
  have r1 := d1.rows
  have r2 := d2.rows
  have r3 := d3.rows
  have r4 := d4.rows
  have r5 := d5.rows
  have e1 := d1.same (by omega)
  have e2 := d2.same (by omega)
  have e3 := d3.same (by omega)
  have e4 := d4.same (by omega)
  have e5 := d5.same (by omega)
  rw [e4, e3, e2, e1] at e5
  rw [e3, e2, e1] at e4
  rw [e2, e1] at e3
  rw [e1] at e2
  refine ⟨?_, fun n he y hy x hx o p ho hp => ?_, fun w hw => ?_⟩
  · have := alongs_closed D (by rw [e1]; exact f)
    rw [e1] at this
    exact this
  · have q := walk_still (fun s e => dn_walk (fun s y => dn_goWait ns e y s) ns s) e2 n he
    have q := walk_still (fun s y => dn_goWait ns n y s) q y hy
    obtain ⟨p', hp'⟩ := of_at hp
    obtain ⟨o', ho'⟩ := of_at ho
    unfold goWait at q
    rw [hp'] at q
    have q := walk_still (dn_stWait n y _) q x hx
    unfold stWait at q
    rw [ho'] at q
    exact offer_still f q
  · match w, hw with
    | 0, _ => exact one_still f e3
    | 1, _ => exact one_still f e4
    | 2, _ => exact one_still f e5
/-! ### how many rows there are -/
theorem len_offer (s : MS α) (k : Ky α) (n : Int) (r : Rr α) : (offer s k n r).rows.length ≤ s.rows.length + 1 := by
  rcases offer_cases s k n r with ⟨e, _⟩ | ⟨f, nl, e⟩
  · rw [e]; omega
  · rw [e]
    show (s.rows ++ [r]).length ≤ _
    rw [List.length_append]
    exact Nat.le_refl _
theorem len_walk {β : Type} {f : MS α → β → MS α} {c : Nat} (h : ∀ s x, (f s x).rows.length ≤ s.rows.length + c) (l : List β) (s : MS α) : (walk f l s).rows.length ≤ s.rows.length + l.length * c := by
  induction l generalizing s with
  | nil =>
    show s.rows.length ≤ _
    omega
  | cons x l ih =>
    have h1 := ih (f s x)
    have h2 := h s x
    rw [walk_cons, List.length_cons, Nat.succ_mul]
    omega
theorem len_goAlong (ns : List α) (x y : α) (s : MS α) : (goAlong ns x y s).rows.length ≤ s.rows.length + ns.length * 1 := by
  unfold goAlong
  split
  · omega
  · refine len_walk (fun s z => ?_) ns s
    unfold stAlong
    split
    · omega
    · exact len_offer ..
theorem len_goWait (ns : List α) (e y : α) (s : MS α) : (goWait ns e y s).rows.length ≤ s.rows.length + ns.length * 1 := by
  unfold goWait
  split
  · omega
  · refine len_walk (fun s z => ?_) ns s
    unfold stWait
    split
    · omega
    · exact len_offer ..
theorem len_goOne (w : Nat) (s : MS α) : (goOne hk w s).rows.length ≤ s.rows.length + s.made.length * 1 := by
  have := len_walk (f := stOne hk w) (c := 1) (fun s k => by
    unfold stOne
    split
    · omega
    · split
      · omega
      · exact len_offer ..) (s.made.map (·.1)) s
  rw [List.length_map] at this
  exact this
theorem nodup_len {β : Type} [DecidableEq β] : ∀ (l m : List β), l.Nodup → (∀ x ∈ l, x ∈ m) → l.length ≤ m.length
  | [], m, _, _ => Nat.zero_le _
  | x :: l, m, h, s => by
    have hx := s x List.mem_cons_self
    have h' := List.nodup_cons.1 h
    have := nodup_len l (m.erase x) h'.2 fun y hy => by
      refine (List.mem_erase_of_ne (fun e => h'.1 ?_)).2 (s y (List.mem_cons_of_mem _ hy))
      rw [← e]
      exact hy
    rw [List.length_erase_of_mem hx] at this
    have p : 0 < m.length := List.length_pos_of_mem hx
    show l.length + 1 ≤ _
    omega
end
/-! ### what can be made lies above a closed table, and holds no ring -/
section
variable {ns es : List α} {hk : α → Option (α × Int)} {F : Int} {bn : List (α × α × Int)} {lt : List (α × Int)}
/-- the told bounds, the late waits -/
structure Told (bn : List (α × α × Int)) (lt : List (α × Int)) (s : MS α) : Prop where
  bound : ∀ b ∈ bn, Le s (false, b.1, b.2.1) b.2.2
  late : ∀ p ∈ lt, Le s (true, p.1, p.1) p.2
theorem Told.dn {s t : MS α} (h : Told bn lt s) (d : Dn s t) : Told bn lt t := ⟨fun b hb => d.le _ _ (h.bound b hb), fun b hb => d.le _ _ (h.late b hb)⟩
theorem one_mono {w : Nat} {k : Ky α} {n m : Int} {f : Ky α × Int} (h : one hk w k n = some f) (l : m ≤ n) : ∃ v, one hk w k m = some (f.1, v) ∧ v ≤ f.2 := by
  unfold one at h ⊢
  split at h
  · rename_i c
    rw [if_pos c]
    split at h
    · rename_i c
      rw [if_pos c]
      obtain ⟨r, hr, e⟩ := Option.map_eq_some_iff.1 h
      rw [hr, ← e]
      exact ⟨_, rfl, by show max m (-r.2) ≤ max n (-r.2); omega⟩
    · cases h
  · rename_i c
    rw [if_neg c]
    split at h
    · rename_i c
      rw [if_pos c]
      split at h
      · rename_i c
        rw [if_pos ⟨c.1, by omega⟩]
        obtain ⟨r, hr, e⟩ := Option.map_eq_some_iff.1 h
        rw [hr, ← e]
        exact ⟨_, rfl, by show r.2 + m ≤ r.2 + n; omega⟩
      · cases h
    · rename_i c
      rw [if_neg c]
      split at h
      · rename_i c
        rw [if_pos ⟨c.1, c.2.1, by omega⟩]
        obtain ⟨r, hr, e⟩ := Option.map_eq_some_iff.1 h
        rw [hr, ← e]
        exact ⟨_, rfl, by show r.2 + m ≤ r.2 + n; omega⟩
      · cases h
theorem le_along {s : MS α} (C : Closed ns es hk s) (J : Just (keys ns es) s) {x y z : α} {o p : Int} (h1 : Le s (false, x, y) o) (h2 : Le s (false, y, z) p) : Le s (false, x, z) (o + p) := by
  obtain ⟨n, en, _⟩ := id h1
  obtain ⟨m, em, _⟩ := id h2
  obtain ⟨hx, hy⟩ := mem_most.1 (J _ _ en)
  exact C.along.le hx hy (mem_most.1 (J _ _ em)).2 h1 h2
theorem le_wait {s : MS α} (C : Closed ns es hk s) (J : Just (keys ns es) s) {e x y : α} {o p : Int} (h1 : Le s (false, x, y) o) (h2 : Le s (true, e, y) p) : Le s (true, e, x) (o + p) := by
  obtain ⟨n, en, ln⟩ := h1
  obtain ⟨m, em, lm⟩ := h2
  obtain ⟨hx, hy⟩ := mem_most.1 (J _ _ en)
  exact (C.wait e (mem_until.1 (J _ _ em)).1 y hy x hx n m en em).up (by omega)
theorem le_one {s : MS α} (C : Closed ns es hk s) {w : Nat} (hw : w < 3) {k : Ky α} {n : Int} {f : Ky α × Int} (h : Le s k n) (e : one hk w k n = some f) : Le s f.1 f.2 := by
  obtain ⟨m, em, lm⟩ := h
  obtain ⟨v, ev, lv⟩ := one_mono e lm
  exact (C.one w hw k m _ em ev).up lv
theorem le_sure (H : Wb ns es hk F) {s : MS α} (C : Closed ns es hk s) {e x : α} {r : α × Int} {n : Int} (hr : hk e = some r) (h : Le s (true, e, x) n) (nn : n < 0) : Le s (false, x, r.1) (-1) := by
  have := le_one (w := 0) C (by decide) h (f := ((false, x, r.1), max n (-r.2))) (by unfold one; rw [if_pos rfl, if_pos rfl]; show Option.map _ (hk e) = _; rw [hr]; rfl)
  have := (H.heard _ _ hr).2.2
  exact Le.up ‹_› (by show max n (-r.2) ≤ -1; omega)
/-- no ring of bounds below nought -/
theorem no_ring {s : MS α} (C : Closed ns es hk s) (J : Just (keys ns es) s) (D : Dg ns s) {a b : Nat → α} {m : Nat} (h : ∀ i, i ≤ m → Le s (false, a i, b i) (-1)) (hc : ∀ i, i < m → b i = a (i + 1)) (he : b m = a 0) : False := by
  have go : ∀ i, i ≤ m → Le s (false, a 0, b i) (-1) := by
    intro i
    induction i with
    | zero => exact fun hi => h 0 hi
    | succ i ih =>
      intro hi
      have h1 := ih (by omega)
      rw [hc i (by omega)] at h1
      exact (le_along C J h1 (h (i + 1) hi)).up (by omega)
  have := go m (Nat.le_refl _)
  rw [he] at this
  obtain ⟨n, en, ln⟩ := this
  have := D.2 (a 0) n en
  omega
/-! ### the rows are a paper's -/
def RdOk (hk : α → Option (α × Int)) (bn : List (α × α × Int)) (lt : List (α × Int)) (fs : List (Ky α × Int)) (g : Ky α × Int) : Rr α → Prop
  | .told x y n => (x, y, n) ∈ bn ∧ g = ((false, x, y), n)
  | .late e => ∃ n, (e, n) ∈ lt ∧ g = ((true, e, e), n)
  | .along i j => ∃ a b x y z o p, i = some a ∧ j = some b ∧ fs[a]? = some ((false, x, y), o) ∧ fs[b]? = some ((false, y, z), p) ∧ g = ((false, x, z), o + p)
  | .wait i j => ∃ a b e x y o p, i = some a ∧ j = some b ∧ fs[a]? = some ((false, x, y), o) ∧ fs[b]? = some ((true, e, y), p) ∧ g = ((true, e, x), o + p)
  | .sg w i => ∃ a k n, i = some a ∧ w < 3 ∧ fs[a]? = some (k, n) ∧ one hk w k n = some g
structure Rs (hk : α → Option (α × Int)) (bn : List (α × α × Int)) (lt : List (α × Int)) (s : MS α) (fs : List (Ky α × Int)) : Prop where
  len : fs.length = s.rows.length
  row : ∀ i r, s.rows[i]? = some r → ∃ g, fs[i]? = some g ∧ RdOk hk bn lt (fs.take i) g r
  made : ∀ k n p, look k s.made = some (n, p) → (p = none ∧ k.1 = false ∧ k.2.1 = k.2.2 ∧ n = 0) ∨ ∃ j, p = some j ∧ fs[j]? = some (k, n)
  fault : ∀ j, s.fault = some j → ∃ x n, fs[j]? = some ((false, x, x), n) ∧ n < 0
/-- more facts behind -/
def Ext (fs fs' : List (Ky α × Int)) : Prop := ∀ (j : Nat) (g : Ky α × Int), fs[j]? = some g → fs'[j]? = some g
theorem rs_offer {s : MS α} {fs : List (Ky α × Int)} (h : Rs hk bn lt s fs) {k : Ky α} {n : Int} {r : Rr α} (hr : s.fault = none → ¬ Le s k n → RdOk hk bn lt fs (k, n) r) : ∃ fs', Rs hk bn lt (offer s k n r) fs' ∧ Ext fs fs' := by
  rcases offer_cases s k n r with ⟨e, _⟩ | ⟨f, nl, e⟩
  · rw [e]; exact ⟨fs, h, fun _ _ z => z⟩
  · rw [e]
    have put_at : (fs ++ [(k, n)])[s.rows.length]? = some (k, n) := by rw [← h.len, List.getElem?_append_right (Nat.le_refl _), Nat.sub_self]; rfl
    have old_at : ∀ j g, fs[j]? = some g → (fs ++ [(k, n)])[j]? = some g := fun j g z => by
      rw [List.getElem?_append_left (List.getElem?_eq_some_iff.1 z).1]
      exact z
    refine ⟨fs ++ [(k, n)], ⟨?_, fun i q hq => ?_, fun k' m p hp => ?_, fun j hj => ?_⟩, old_at⟩
    · show _ = (s.rows ++ [r]).length
      rw [List.length_append, List.length_append, h.len]
      rfl
    · have hq : (s.rows ++ [r])[i]? = some q := hq
      by_cases c : i < s.rows.length
      · rw [List.getElem?_append_left c] at hq
        obtain ⟨g, h1, h2⟩ := h.row i q hq
        refine ⟨g, old_at i g h1, ?_⟩
        rw [List.take_append_of_le_length (by rw [h.len]; omega)]
        exact h2
      · have il := (List.getElem?_eq_some_iff.1 hq).1
        rw [List.length_append] at il
        have il : i < s.rows.length + 1 := il
        have ei : i = s.rows.length := by omega
        rw [ei, List.getElem?_append_right (Nat.le_refl _), Nat.sub_self] at hq
        have eq : r = q := Option.some.inj hq
        refine ⟨(k, n), by rw [ei]; exact put_at, ?_⟩
        rw [ei, ← h.len, List.take_left', ← eq]
        · exact hr f nl
        · rfl
    · have hp : look k' (put k (n, some s.rows.length) s.made) = some (m, p) := hp
      rw [look_put] at hp
      by_cases c : k' = k
      · rw [if_pos c] at hp
        cases hp
        rw [c]
        exact .inr ⟨_, rfl, put_at⟩
      · rw [if_neg c] at hp
        rcases h.made k' m p hp with z | ⟨j, h1, h2⟩
        · exact .inl z
        · exact .inr ⟨j, h1, old_at j _ h2⟩
    · have hj : (if k.1 = false ∧ k.2.1 = k.2.2 ∧ n < 0 then some s.rows.length else none) = some j := hj
      split at hj
      · rename_i c
        cases hj
        obtain ⟨u, a, b⟩ := k
        have c1 : u = false := c.1
        have c2 : a = b := c.2.1
        refine ⟨a, n, ?_, c.2.2⟩
        rw [put_at, c1, ← c2]
      · cases hj
def RsE (hk : α → Option (α × Int)) (bn : List (α × α × Int)) (lt : List (α × Int)) (s : MS α) : Prop := ∃ fs, Rs hk bn lt s fs
theorem rs_goAlong {x y : α} {s : MS α} (h : RsE hk bn lt s) : RsE hk bn lt (goAlong ns x y s) := by
  unfold goAlong
  split
  · exact h
  · rename_i o ho
    obtain ⟨fs0, R0⟩ := h
    have mo := R0.made (false, x, y) o.1 o.2 ho
    have hl : Le s (false, x, y) o.1 := Le.of (at_of ho)
    obtain ⟨_, fs, h1, _⟩ := walk_keep (I := fun t => Dn s t ∧ ∃ fs, Rs hk bn lt t fs ∧ Ext fs0 fs) (l := ns) (f := stAlong x y o) (fun t z _ i => by
      refine ⟨i.1.trans (dn_stAlong ..), ?_⟩
      obtain ⟨d, fs, R, ex⟩ := i
      unfold stAlong
      split
      · exact ⟨fs, R, ex⟩
      · rename_i p hp
        obtain ⟨fs', R', ex'⟩ := rs_offer R (k := (false, x, z)) (n := o.1 + p.1) (r := .along o.2 p.2) (fun _ nl => by
          rcases mo with ⟨_, _, exy, e0⟩ | ⟨a, ea, ha⟩
          · have exy : x = y := exy
            refine absurd ?_ nl
            rw [e0, exy, Int.zero_add]
            exact Le.of (at_of hp)
          · rcases R.made (false, y, z) p.1 p.2 hp with ⟨_, _, eyz, e0⟩ | ⟨b, eb, hb⟩
            · have eyz : y = z := eyz
              refine absurd ?_ nl
              rw [e0, ← eyz, Int.add_zero]
              exact d.le _ _ hl
            · exact ⟨a, b, x, y, z, o.1, p.1, ea, eb, ex _ _ ha, hb, rfl⟩)
        exact ⟨fs', R', fun j g q => ex' j g (ex j g q)⟩) (s := s) ⟨.refl s, fs0, R0, fun _ _ z => z⟩
    exact ⟨fs, h1⟩
theorem rs_goWait {e y : α} {s : MS α} (h : RsE hk bn lt s) : RsE hk bn lt (goWait ns e y s) := by
  unfold goWait
  split
  · exact h
  · rename_i p hp
    obtain ⟨fs0, R0⟩ := h
    have mp := R0.made (true, e, y) p.1 p.2 hp
    have hl : Le s (true, e, y) p.1 := Le.of (at_of hp)
    obtain ⟨_, fs, h1, _⟩ := walk_keep (I := fun t => Dn s t ∧ ∃ fs, Rs hk bn lt t fs ∧ Ext fs0 fs) (l := ns) (f := stWait e y p) (fun t x _ i => by
      refine ⟨i.1.trans (dn_stWait ..), ?_⟩
      obtain ⟨d, fs, R, ex⟩ := i
      unfold stWait
      split
      · exact ⟨fs, R, ex⟩
      · rename_i o ho
        obtain ⟨fs', R', ex'⟩ := rs_offer R (k := (true, e, x)) (n := o.1 + p.1) (r := .wait o.2 p.2) (fun _ nl => by
          rcases R.made (false, x, y) o.1 o.2 ho with ⟨_, _, exy, e0⟩ | ⟨a, ea, ha⟩
          · have exy : x = y := exy
            refine absurd ?_ nl
            rw [e0, exy, Int.zero_add]
            exact d.le _ _ hl
          · rcases mp with ⟨_, z, _⟩ | ⟨b, eb, hb⟩
            · cases z
            · exact ⟨a, b, e, x, y, o.1, p.1, ea, eb, ha, ex _ _ hb, rfl⟩)
        exact ⟨fs', R', fun j g q => ex' j g (ex j g q)⟩) (s := s) ⟨.refl s, fs0, R0, fun _ _ z => z⟩
    exact ⟨fs, h1⟩
theorem rs_goOne {w : Nat} (hw : w < 3) {s : MS α} (h : RsE hk bn lt s) : RsE hk bn lt (goOne hk w s) := by
  refine walk_keep (I := RsE hk bn lt) (fun t k _ i => ?_) h
  unfold stOne
  split
  · exact i
  · split
    · exact i
    · rename_i v hv oo g hg
      obtain ⟨fs, R⟩ := i
      obtain ⟨fs', R', _⟩ := rs_offer R (k := g.1) (n := g.2) (r := .sg w v.2) (fun _ _ => by
        rcases R.made k v.1 v.2 hv with ⟨_, hu, _, e0⟩ | ⟨a, ea, ha⟩
        · exfalso
          match w, hw with
          | 0, _ =>
            have := (one0 hg).1
            rw [hu] at this
            cases this
          | 1, _ =>
            have := (one1 hg).2.1
            omega
          | 2, _ =>
            have := (one2 hg).1
            rw [hu] at this
            cases this
        · exact ⟨a, k, v.1, ea, hw, ha, hg⟩)
      exact ⟨fs', R'⟩
theorem rs_goRound {s : MS α} (h : RsE hk bn lt s) : RsE hk bn lt (goRound ns es hk s) := by
  refine rs_goOne (by decide) (rs_goOne (by decide) (rs_goOne (by decide) ?_))
  refine walk_keep (I := RsE hk bn lt) (fun t e _ i => walk_keep (I := RsE hk bn lt) (fun t y _ i => rs_goWait i) i) ?_
  exact walk_keep (I := RsE hk bn lt) (fun t y _ i => walk_keep (I := RsE hk bn lt) (fun t x _ i => rs_goAlong i) i) h
theorem rs_tellB {l : List (α × α × Int)} (hl : ∀ b ∈ l, b ∈ bn) {s : MS α} (h : RsE hk bn lt s) : RsE hk bn lt (tellB l s) := walk_keep (I := RsE hk bn lt) (fun t b hb i => by
  obtain ⟨fs, R⟩ := i
  obtain ⟨fs', R', _⟩ := rs_offer R (k := (false, b.1, b.2.1)) (n := b.2.2) (r := .told b.1 b.2.1 b.2.2) (fun _ _ => ⟨hl b hb, rfl⟩)
  exact ⟨fs', R'⟩) h
theorem rs_tellL {l : List (α × Int)} (hl : ∀ b ∈ l, b ∈ lt) {s : MS α} (h : RsE hk bn lt s) : RsE hk bn lt (tellL l s) := walk_keep (I := RsE hk bn lt) (fun t b hb i => by
  obtain ⟨fs, R⟩ := i
  obtain ⟨fs', R', _⟩ := rs_offer R (k := (true, b.1, b.1)) (n := b.2) (r := .late b.1) (fun _ _ => ⟨_, hl b hb, rfl⟩)
  exact ⟨fs', R'⟩) h
/-! ### the beginning, and the heads of all rounds -/
def init (ns : List α) : MS α := ⟨ns.map fun x => ((false, x, x), (0, none)), [], none⟩
theorem init_look (ns : List α) (k : Ky α) (v : Int × Option Nat) (h : look k (init ns).made = some v) : k.1 = false ∧ k.2.1 = k.2.2 ∧ k.2.1 ∈ ns ∧ v = (0, none) := by
  replace h : look k (ns.map fun x => (((false, x, x), (0, none)) : Ky α × (Int × Option Nat))) = some v := h
  induction ns with
  | nil => cases h
  | cons x ns ih =>
    have h : (if (false, x, x) = k then some (0, none) else look k (ns.map fun x => (((false, x, x), (0, none)) : Ky α × (Int × Option Nat)))) = some v := h
    split at h
    · rename_i c
      rw [← c]
      exact ⟨rfl, rfl, List.mem_cons_self, (Option.some.inj h).symm⟩
    · obtain ⟨h1, h2, h3, h4⟩ := ih h
      exact ⟨h1, h2, List.mem_cons_of_mem _ h3, h4⟩
theorem init_le {x : α} (hx : x ∈ ns) : Le (init ns) (false, x, x) 0 := by
  obtain ⟨v, hv⟩ := look_mem (k := (false, x, x)) (l := (init ns).made) (by
    show _ ∈ ((ns.map fun x => (((false, x, x), (0, none)) : Ky α × (Int × Option Nat))).map (·.1))
    rw [List.map_map]
    exact List.mem_map.2 ⟨x, hx, rfl⟩)
  have := (init_look ns _ v hv).2.2.2
  exact ⟨0, by rw [at_of hv, this], Int.le_refl _⟩
theorem init_rs : RsE hk bn lt (init ns) := by
  refine ⟨[], rfl, fun i r h => ?_, fun k n p h => ?_, fun j h => ?_⟩
  · cases i <;> cases h
  · obtain ⟨h1, h2, _, h4⟩ := init_look ns k _ h
    cases h4
    exact .inl ⟨rfl, h1, h2, rfl⟩
  · cases h
/-- what a web tells -/
structure Tl (ns es : List α) (st : α) (B M : Int) (bn : List (α × α × Int)) (lt : List (α × Int)) : Prop where
  stin : st ∈ ns
  bound : ∀ b ∈ bn, b.1 ∈ ns ∧ b.2.1 ∈ ns
  late : ∀ p ∈ lt, p.1 ∈ es ∧ p.2 ≤ 0 ∧ -M ≤ p.2
  lates : ∀ e ∈ es, ∃ n, (e, n) ∈ lt
  ends : ∀ e ∈ es, e ∈ ns
  to : ∀ x ∈ ns, ∃ y ∈ ns, (x = y ∨ ∃ n, (x, y, n) ∈ bn ∧ n ≤ B) ∧ (y = st ∨ ∃ n, (y, st, n) ∈ bn ∧ n ≤ B)
  fro : ∀ x ∈ ns, ∃ y ∈ ns, (st = y ∨ ∃ n, (st, y, n) ∈ bn ∧ n ≤ B) ∧ (y = x ∨ ∃ n, (y, x, n) ∈ bn ∧ n ≤ B)
def tell (ns : List α) (bn : List (α × α × Int)) (lt : List (α × Int)) : MS α := tellL lt (tellB bn (init ns))
theorem ku_tellL (l : List (α × Int)) (s : MS α) : Ku false s (tellL l s) := ku_walk (fun s b => ku_offer fun z => Bool.noConfusion z) l s
theorem tell_told (f : (tell ns bn lt).fault = none) : Told bn lt (tell ns bn lt) := by
  unfold tell at f ⊢
  have f1 := (dn_tellL lt (tellB bn (init ns))).fault f
  refine ⟨fun b hb => (dn_tellL lt _).le _ _ ?_, fun p hp => ?_⟩
  · exact walk_each (fun s b => dn_offer ..) (fun _ => True) (fun (b : α × α × Int) (t : MS α) => Le t (false, b.1, b.2.1) b.2.2) (fun _ _ _ _ _ => trivial) (fun t b _ _ ft => offer_le ft) (fun t u b d j => Dn.le d _ _ j) trivial f1 b hb
  · exact walk_each (fun s b => dn_offer ..) (fun _ => True) (fun (b : α × Int) (t : MS α) => Le t (true, b.1, b.1) b.2) (fun _ _ _ _ _ => trivial) (fun t b _ _ ft => offer_le ft) (fun t u b d j => Dn.le d _ _ j) trivial f p hp
theorem tell_hd {st : α} {B M : Int} (hB : 0 ≤ B) (h : Tl ns es st B M bn lt) (f : (tell ns bn lt).fault = none) : Hd ns es st B M (tell ns bn lt) := by
  have T := tell_told f
  have D : Dn (init ns) (tell ns bn lt) := (dn_tellB bn (init ns)).trans (dn_tellL lt _)
  have dg : Dg ns (tell ns bn lt) := Dg.dn ⟨fun x hx => init_le hx, fun x n e => by
    obtain ⟨p, hp⟩ := of_at e
    have := (init_look ns _ _ hp).2.2.2
    cases this
    exact Int.le_refl _⟩ D f
  have j0 : Just (keys ns es) (init ns) := fun k n e => by
    obtain ⟨p, hp⟩ := of_at e
    obtain ⟨h1, h2, h3, _⟩ := init_look ns _ _ hp
    obtain ⟨u, a, b⟩ := k
    have h1 : u = false := h1
    have h2 : a = b := h2
    rw [h1, ← h2]
    exact mem_most.2 ⟨h3, h3⟩
  have j1 : Just (keys ns es) (tellB bn (init ns)) := walk_keep (I := Just (keys ns es)) (fun t b hb j => just_offer j (mem_most.2 (h.bound b hb))) j0
  have j2 : Just (keys ns es) (tell ns bn lt) := walk_keep (I := Just (keys ns es)) (fun t b hb j => just_offer j (mem_until.2 ⟨(h.late b hb).1, h.ends _ (h.late b hb).1⟩)) j1
  have way : ∀ x y, y ∈ ns → (x = y ∨ ∃ n, (x, y, n) ∈ bn ∧ n ≤ B) → Le (tell ns bn lt) (false, x, y) B := by
    intro x y hy hw
    rcases hw with e | ⟨n, h1, h2⟩
    · rw [e]
      exact (dg.1 y hy).up hB
    · exact (T.bound _ h1).up h2
  refine ⟨j2, dg, ⟨h.stin, fun x hx => ?_⟩, fun e he => ?_, ?_⟩
  · obtain ⟨y, hy, h1, h2⟩ := h.to x hx
    obtain ⟨z, hz, h3, h4⟩ := h.fro x hx
    exact ⟨⟨y, hy, way x y hy h1, way y st h.stin h2⟩, z, hz, way st z hz h3, way z x hx h4⟩
  · obtain ⟨n, hn⟩ := h.lates e he
    exact (T.late _ hn).up (h.late _ hn).2.1
  · intro e x a ea
    have : a ∈ (lt.map fun p => p.2) ∧ x ∈ ns := ⟨by
      have := walk_keep (I := fun t : MS α => ∀ e x a, t.at (true, e, x) = some a → a ∈ lt.map fun p => p.2) (l := lt) (f := fun s b => offer s (true, b.1, b.1) b.2 (.late b.1)) (fun t b hb i e x a q => by
        rcases offer_at q with z | ⟨_, z⟩
        · exact i e x a z
        · rw [z]
          exact List.mem_map.2 ⟨b, hb, rfl⟩) (s := tellB bn (init ns)) (fun e x a q => by
        have k : Ku true (init ns) (tellB bn (init ns)) := ku_walk (fun s b => ku_offer fun z => Bool.noConfusion z) bn _
        rw [k] at q
        obtain ⟨p, hp⟩ := of_at q
        have := (init_look ns _ _ hp).1
        cases this)
      exact this e x a ea, (mem_until.1 (j2 _ _ ea)).2⟩
    obtain ⟨p, hp, e2⟩ := List.mem_map.1 this.1
    have := (h.late p hp).2.2
    have e2 : p.2 = a := e2
    exact ⟨x, 0, dg.1 x (mem_until.1 (j2 _ _ ea)).2, by omega⟩
end
/-! ### all rounds -/
section
variable {ns es : List α} {hk : α → Option (α × Int)} {F : Int} {bn : List (α × α × Int)} {lt : List (α × Int)}
/-- no key twice -/
def Nd (s : MS α) : Prop := (s.made.map (·.1)).Nodup
theorem put_keys {β : Type} (k : Ky α) (v : β) (l : List (Ky α × β)) : (put k v l).map (·.1) = if k ∈ l.map (·.1) then l.map (·.1) else l.map (·.1) ++ [k] := by
  have same : ∀ l : List (Ky α × β), (l.map fun c => if c.1 = k then (c.1, v) else c).map (·.1) = l.map (·.1) := fun l => by
    rw [List.map_map]
    refine List.map_congr_left fun c _ => ?_
    show (if c.1 = k then (c.1, v) else c).1 = c.1
    split <;> rfl
  unfold put
  rw [look_any]
  by_cases h : k ∈ l.map (·.1)
  · obtain ⟨x, hx⟩ := look_mem h
    rw [hx, if_pos (show (some x).isSome = true from rfl), if_pos h, same]
  · cases hx : look k l with
    | none => rw [if_neg (by simp), if_neg h, List.map_append]; rfl
    | some x => exact absurd (mem_look hx) h
theorem nd_offer {s : MS α} (h : Nd s) (k : Ky α) (n : Int) (r : Rr α) : Nd (offer s k n r) := by
  rcases offer_cases s k n r with ⟨e, _⟩ | ⟨f, nl, e⟩
  · rw [e]; exact h
  · rw [e]
    show ((put k (n, some s.rows.length) s.made).map (·.1)).Nodup
    rw [put_keys]
    split
    · exact h
    · rename_i c
      refine List.nodup_append.2 ⟨h, List.nodup_cons.2 ⟨List.not_mem_nil, List.nodup_nil⟩, fun a ha b hb => ?_⟩
      have : b = k := List.mem_singleton.1 hb
      rw [this]
      exact fun z => c (z ▸ ha)
theorem nd_goAlong {x y : α} {s : MS α} (h : Nd s) : Nd (goAlong ns x y s) := by
  unfold goAlong
  split
  · exact h
  · refine walk_keep (fun t z _ i => ?_) h
    unfold stAlong
    split
    · exact i
    · exact nd_offer i _ _ _
theorem nd_goWait {e y : α} {s : MS α} (h : Nd s) : Nd (goWait ns e y s) := by
  unfold goWait
  split
  · exact h
  · refine walk_keep (fun t z _ i => ?_) h
    unfold stWait
    split
    · exact i
    · exact nd_offer i _ _ _
theorem nd_goOne {w : Nat} {s : MS α} (h : Nd s) : Nd (goOne hk w s) := by
  refine walk_keep (fun t k _ i => ?_) h
  unfold stOne
  split
  · exact i
  · split
    · exact i
    · exact nd_offer i _ _ _
theorem nd_goAlongs {s : MS α} (h : Nd s) : Nd (goAlongs ns s) := walk_keep (I := Nd) (fun t y _ i => walk_keep (I := Nd) (fun t x _ i => nd_goAlong i) i) h
theorem nd_goWaits {s : MS α} (h : Nd s) : Nd (goWaits ns es s) := walk_keep (I := Nd) (fun t y _ i => walk_keep (I := Nd) (fun t x _ i => nd_goWait i) i) h
theorem nd_tell (hn : ns.Nodup) : Nd (tell ns bn lt) := by
  refine walk_keep (I := Nd) (fun t b _ i => nd_offer i _ _ _) (walk_keep (I := Nd) (fun t b _ i => nd_offer i _ _ _) ?_)
  show ((ns.map fun x => (((false, x, x), (0, none)) : Ky α × (Int × Option Nat))).map (·.1)).Nodup
  rw [List.map_map]
  induction ns with
  | nil => exact List.nodup_nil
  | cons x l ih =>
    have h := List.nodup_cons.1 hn
    refine List.nodup_cons.2 ⟨fun z => ?_, ih h.2⟩
    obtain ⟨y, hy, e⟩ := List.mem_map.1 z
    have : y = x := congrArg (fun k : Ky α => k.2.1) e
    exact h.1 (this ▸ hy)
theorem made_len {s : MS α} (N : Nd s) (J : Just (keys ns es) s) : s.made.length ≤ (keys ns es).length := by
  have := nodup_len (s.made.map Prod.fst) (keys ns es) N fun k hk => by
    obtain ⟨v, hv⟩ := look_mem hk
    exact J k v.1 (at_of hv)
  rw [List.length_map] at this
  exact this
/-- how many rows a round can bring -/
def much (ns es : List α) : Nat := ns.length * (ns.length * (ns.length * 1)) + es.length * (ns.length * (ns.length * 1)) + 3 * (keys ns es).length
theorem len_goRound (H : Wb ns es hk F) {s : MS α} (N : Nd s) (J : Just (keys ns es) s) : (goRound ns es hk s).rows.length ≤ s.rows.length + much ns es := by
  have h1 : (goAlongs ns s).rows.length ≤ s.rows.length + ns.length * (ns.length * (ns.length * 1)) := len_walk (fun s y => len_walk (fun s x => len_goAlong ns x y s) ns s) ns s
  have n1 : Nd (goAlongs ns s) := nd_goAlongs N
  have j1 := just_goAlongs (ns := ns) J
  unfold goRound much
  generalize goAlongs ns s = s1 at *
  have h2 : (goWaits ns es s1).rows.length ≤ s1.rows.length + es.length * (ns.length * (ns.length * 1)) := len_walk (fun s e => len_walk (fun s y => len_goWait ns e y s) ns s) es s1
  have n2 : Nd (goWaits ns es s1) := nd_goWaits n1
  have j2 := just_goWaits (es := es) j1
  generalize goWaits ns es s1 = s2 at *
  have h3 := len_goOne (hk := hk) 0 s2
  have l3 := made_len n2 j2
  have n3 : Nd (goOne hk 0 s2) := nd_goOne n2
  have j3 := just_goOne H 0 j2
  generalize goOne hk 0 s2 = s3 at *
  have h4 := len_goOne (hk := hk) 1 s3
  have l4 := made_len n3 j3
  have n4 : Nd (goOne hk 1 s3) := nd_goOne n3
  have j4 := just_goOne H 1 j3
  generalize goOne hk 1 s3 = s4 at *
  have h5 := len_goOne (hk := hk) 2 s4
  have l5 := made_len n4 j4
  omega
theorem tot_up {s : MS α} {U : Int} {ks : List (Ky α)} (h : ∀ k ∈ ks, ∃ n, s.at k = some n ∧ n ≤ U) : tot s ks ≤ ks.length * U := by
  induction ks with
  | nil => show (0 : Int) ≤ (0 : Nat) * U; omega
  | cons k ks ih =>
    obtain ⟨n, e, l⟩ := h k List.mem_cons_self
    have := ih fun k hk => h k (List.mem_cons_of_mem _ hk)
    show (s.at k).getD 0 + tot s ks ≤ (ks.length + 1 : Nat) * U
    rw [e, Int.natCast_add, Int.add_mul]
    show n + _ ≤ _ + 1 * U
    omega
theorem tot_dn {s : MS α} {C : Int} {ks : List (Ky α)} (h : ∀ k ∈ ks, ∃ n, s.at k = some n ∧ -C ≤ n) : -(ks.length * C) ≤ tot s ks := by
  induction ks with
  | nil => show -((0 : Nat) * C) ≤ (0 : Int); omega
  | cons k ks ih =>
    obtain ⟨n, e, l⟩ := h k List.mem_cons_self
    have := ih fun k hk => h k (List.mem_cons_of_mem _ hk)
    show -((ks.length + 1 : Nat) * C) ≤ (s.at k).getD 0 + tot s ks
    rw [e, Int.natCast_add, Int.add_mul]
    show -(_ + 1 * C) ≤ n + _
    omega
/-- at the head of a round, counts and all -/
structure Ok (ns es : List α) (st : α) (B M F : Int) (bn : List (α × α × Int)) (lt : List (α × Int)) (s : MS α) : Prop where
  hd : Hd ns es st B M s
  nd : Nd s
  told : Told bn lt s
  many : s.rows.length ≤ bn.length + lt.length ∨ (Fl ns es (M + 4 * B + F) (4 * B) s ∧ (s.rows.length : Int) + tot s (keys ns es) ≤ bn.length + lt.length + much ns es + (keys ns es).length * (4 * B))
theorem tell_len : (tell ns bn lt).rows.length ≤ bn.length + lt.length := by
  have h1 : (tellB bn (init ns)).rows.length ≤ (init ns).rows.length + bn.length * 1 := len_walk (fun s b => len_offer ..) bn (init ns)
  have h2 : (tell ns bn lt).rows.length ≤ (tellB bn (init ns)).rows.length + lt.length * 1 := len_walk (fun s b => len_offer ..) lt _
  have : (init ns).rows.length = 0 := rfl
  omega
theorem tell_ok {st : α} {B M : Int} (hB : 0 ≤ B) (hn : ns.Nodup) (h : Tl ns es st B M bn lt) (f : (tell ns bn lt).fault = none) : Ok ns es st B M F bn lt (tell ns bn lt) := ⟨tell_hd hB h f, nd_tell hn, tell_told f, .inl tell_len⟩
/-- how many rows there can be in all -/
def most (ns es : List α) (B M F : Int) (bn : List (α × α × Int)) (lt : List (α × Int)) : Int := bn.length + lt.length + 2 * much ns es + (keys ns es).length * (4 * B) + (keys ns es).length * (M + 4 * B + F)
theorem round_ok (H : Wb ns es hk F) {st : α} {B M : Int} (hB : 0 ≤ B) (hM : 0 ≤ M) (hF : 0 ≤ F) {s : MS α} (h : Ok ns es st B M F bn lt s) :
    ((goRound ns es hk s).rows.length : Int) ≤ most ns es B M F bn lt ∧ ((goRound ns es hk s).fault = none → Ok ns es st B M F bn lt (goRound ns es hk s) ∧ Fl ns es (M + 4 * B + F) (4 * B) (goRound ns es hk s)) := by
  have l := len_goRound H h.nd h.hd.just
  have hk1 : (0 : Int) ≤ (keys ns es).length * (4 * B) := Int.mul_nonneg (by omega) (by omega)
  have hk2 : (0 : Int) ≤ (keys ns es).length * (M + 4 * B + F) := Int.mul_nonneg (by omega) (by omega)
  have D := dn_goRound ns es hk s
  refine ⟨?_, fun f => ?_⟩
  · unfold most
    rcases h.many with m | ⟨m1, m2⟩
    · omega
    · have := tot_dn (s := s) (C := M + 4 * B + F) (ks := keys ns es) fun k hk => (m1 k hk).imp fun _ z => ⟨z.1, z.2.1⟩
      omega
  · obtain ⟨h1, h2⟩ := round_hd H hB hM hF h.hd f
    refine ⟨⟨h1, nd_goOne (nd_goOne (nd_goOne (nd_goWaits (nd_goAlongs h.nd)))), h.told.dn D, .inr ⟨h2, ?_⟩⟩, h2⟩
    rcases h.many with m | ⟨m1, m2⟩
    · have := tot_up (s := goRound ns es hk s) (U := 4 * B) (ks := keys ns es) fun k hk => (h2 k hk).imp fun _ z => ⟨z.1, z.2.2⟩
      omega
    · exact Int.le_trans (D.count _ h1.just fun k hk => (m1 k hk).imp fun _ z => z.1) m2
/-- the measure of the loop -/
def left (ns es : List α) (C Z : Nat) (c : Int) (s : MS α) : Nat := if s.fault = none then 1 + 2 * mu C Z s (keys ns es) + (if c < s.rows.length then 1 else 0) else 0
theorem round_left {C U Z : Nat} (hZ : C + U < Z) {s : MS α} (f : s.fault = none) {c : Int} (hc : c < s.rows.length) (hf : (goRound ns es hk s).fault = none → Just (keys ns es) (goRound ns es hk s) ∧ Fl ns es C U (goRound ns es hk s)) : left ns es C Z s.rows.length (goRound ns es hk s) < left ns es C Z c s := by
  have D := dn_goRound ns es hk s
  unfold left
  rw [if_pos f, if_pos hc]
  by_cases g : (goRound ns es hk s).fault = none
  · rw [if_pos g]
    obtain ⟨j, fl⟩ := hf g
    by_cases l : s.rows.length < (goRound ns es hk s).rows.length
    · have := round_less hZ D j fl l
      split <;> omega
    · have e := D.same (by have := D.rows; omega)
      rw [e]
      rw [if_neg (by omega)]
      omega
  · rw [if_neg g]
    omega
end
end Se

set_option maxHeartbeats 4000000
/-! dict comprehensions whose keys are tuples -/
namespace Tw
open PySem PySem.Spec PyProof.Rows L2
section
variable {X : Cx} {pins : List (Addr × Obj)} {σ : L2.St} {H : Hp} {s : Shared}
/-- a store into a dict with tuple keys, by its place -/
theorem put_tup {D b : Addr} {kvs : List (List Key × V)} {k : List Key} {v : V} {r : Value} {A : Around} {E : Value → Shared → Prop} {Q : Unit → Shared → Prop} (hu : A.units + 1 < cLine) (I : Inv X pins σ H s) (eD : H D = some (.dT kvs)) (eb : H b = some (.tup (k.map kV))) (few : kvs.length < sizeLine) (rv : RelV v r)
    (next : ∀ s', Inv X pins σ (upd H D (.dT (putK kvs k v))) s' → Q () s') : wpAny (model X.prog X.w) A (dictSet D (.ref b) r) Q E s := by
  obtain ⟨z, hd, xs, rel, dd⟩ := dt_of I.hok eD
  have hz : xs.length ≤ sizeLine := by
    rw [← Paired.length rel]
    exact z
  have hl := length_putK kvs k v
  refine wpAny_dictSet_heap (hsz := hz) (show A.units < cLine by omega) (key_of I.hok eb) dd ?_
  intro h1 dd1 sb1
  refine next _ ?_
  obtain ⟨o1, es, ep, g1, g2, g3, g4, _, g5⟩ := dd1
  have rel1 := (rel.put k eb rv).keeps (H' := upd H D (.dT (putK kvs k v))) fun c ys ec => by
    rw [upd_ne (ne_of ec eD (fun z => nomatch z))]
    exact ec
  exact d_write I (by rw [eD]; exact True.intro) sb1 ⟨o1, g1⟩ ⟨by omega, hd, _, rel1, o1, es, ep, g1, g2, g3, g4, g5⟩
/-- {k: v for target in iter if ..}, the keys tuples; D the new dict -/
def tDcT (wi : TI) (g : TG) (tt : TT) (tk tv : TE) (vs : List Nat) : TE := fun σ H Q => wi σ H fun J H1 => ∀ D, H1 D = none → ∃ W : Nat → Nat → Hp → Prop, (∃ n, W 0 n (upd H1 D (.dT []))) ∧
  ∀ i n Hc, W i n Hc → (J.stop i Hc ∧ Q (.ref D) Hc) ∨ (J.go i Hc ∧ ∃ Go : Hp → Prop, (∀ Hn, Go Hn → ∃ n', n' < n ∧ W (i + 1) n' Hn) ∧
    ∀ x Hx, J.yld i Hc x Hx → g x (wipe σ vs) Hx fun σ2 H2 => wipe σ2 vs = wipe σ vs ∧ tt σ2 H2 fun ok H3 =>
      if ok = true then tk σ2 H3 fun y H4 => tv σ2 H4 fun z H5 => ∃ kvs k b, y = .ref b ∧ H5 b = some (.tup (k.map kV)) ∧ H5 D = some (.dT kvs) ∧ kvs.length < sizeLine ∧ Go (upd H5 D (.dT (putK kvs k z))) else Go H3)
theorem dcT_core {kx vx tg iter : Expr} {ifs : List Expr} {scope : Scope} {own : List (Str × Nat)} {pos pos' : Pos} {wi : TI} {g : TG} {tt : TT} {tk tv : TE} {Q : VK} {use : Option (Value → Sem Unit)} {Qf : Value → Shared → Prop} (hu : X.A.units + 1 < cLine) (calm : X.calm = true) (nod : X.N.Nodup) (I : Inv X pins σ H s) (hi : PI X tg iter wi) (blk : BlkOk X.N X.env.scope scope own)
    (hg : ∀ (s : Shared) (H : Hp) (C : Addr) (cl : List (Str × Addr)) (fp : List Addr), PG (X.blk s H scope (compEnvC scope cl C X.env) fp) tg g)
    (ht : ∀ (s : Shared) (H : Hp) (C : Addr) (cl : List (Str × Addr)) (fp : List Addr), PTs (X.blk s H scope (compEnvC scope cl C X.env) fp) ifs tt)
    (hk : ∀ (s : Shared) (H : Hp) (C : Addr) (cl : List (Str × Addr)) (fp : List Addr), PE (X.blk s H scope (compEnvC scope cl C X.env) fp) kx tk)
    (hv : ∀ (s : Shared) (H : Hp) (C : Addr) (cl : List (Str × Addr)) (fp : List Addr), PE (X.blk s H scope (compEnvC scope cl C X.env) fp) vx tv) (fold : ∀ x, foldedSetIterable iter X.env x = pure x)
    (want : tDcT wi g tt tk tv (own.map (·.2)) σ H Q) (last : ∀ D C s' m H', Inv X pins σ H' s' → Q (.ref D) H' → s'.heap.Ns C m → FpOk X pins H' C → compPost (model X.prog X.w) X.A X.xe use Qf (.ref D) C (.ok .next) s') :
    wpAny (model X.prog X.w) X.A (comprehension (.DictComp kx vx [⟨tg, iter, ifs, 0⟩] scope pos) scope X.env pos' newDict false (eval iter X.env) use) Qf X.xe s := by
  have cells : ∀ y ∈ scope.names, y.2 = .free → ∃ c, X.env.cells.lookup y.1 = some c := by
    intro y hy e
    rcases blk.free y hy e with q | q
    · exact I.ok.has _ (.inl q)
    · exact I.ok.has _ (.inr q)
  have first := hi.run pins s σ H _ I want
  refine wpAny_comprehension_free (use := use) rfl fold (closure_ok cells) blk.kind (fun y hy e => by rw [blk.uniq y hy, e]) (thn first ?_)
  intro xv s1 h1
  refine thn h1 ?_
  rintro itv s2 ⟨it, fp, tn, J, H2, rfl, I2, TU, st2, fp2, q2⟩
  refine wpAny_newObj_type (newEnv_comp ?_)
  -- the new dict at D
  obtain ⟨D, eD⟩ : ∃ D, s2.heap.objs.size = D := ⟨_, rfl⟩
  have freeD : H2 D = none := I2.hok.fresh (Nat.le_of_eq eD)
  obtain ⟨W, ⟨n0, w0⟩, turn⟩ := q2 D freeD
  obtain ⟨s3, es3⟩ : ∃ s3 : Shared, ({ s2 with heap := s2.heap.push { cls := .type "dict", data := .dict #[] } } : Shared) = s3 := ⟨_, rfl⟩
  have heap3 : s3.heap = s2.heap.push { cls := .type "dict", data := .dict #[] } := by rw [← es3]
  have I3 : Inv X pins σ (upd H2 D (.dT [])) s3 := by
    subst es3 eD
    exact I2.laid (t' := s2.toks) (fun b o e => Heap.get?_push_of_some _ e) (Nat.le_refl _) (dt_empty s2.heap I2.big)
  have old : ∀ b ∈ fp, b < s2.heap.objs.size := by
    intro b hb
    obtain ⟨o, e, _⟩ := TU.obj _ _ st2 b hb
    exact Heap.lt_size e
  have fp3 : ∀ b ∈ fp, FpOk X pins (upd H2 D (.dT [])) b ∧ b < s3.heap.objs.size := by
    intro b hb
    have lt := old b hb
    have ne : b ≠ D := by
      rw [← eD]
      exact Nat.ne_of_lt lt
    refine ⟨⟨?_, (fp2 b hb).2⟩, ?_⟩
    · rw [upd_ne ne]
      exact (fp2 b hb).1
    · rw [heap3, Heap.size_push]
      exact Nat.lt_succ_of_lt lt
  have keep3 : ∀ b ∈ fp, ∀ o, s2.heap.get? b = some o → s3.heap.get? b = some o := by
    intro b _ o e
    rw [heap3]
    exact Heap.get?_push_of_some _ e
  have st3 := TU.keep _ _ _ st2 keep3
  have I4 := block_start I3 blk nod fp3
  generalize eH3 : upd H2 D (.dT []) = H3 at I3 I4 w0 fp3
  -- the block's own frame
  let L := s3.heap.objs.size
  let ce := compEnvC scope (cellsFrom (L + 1) scope.names (cloFrom X.env.cells scope.names [])) L X.env
  have pg : PG (X.blk s3 H3 scope ce fp) tg g := hg _ _ _ _ _
  have pt : PTs (X.blk s3 H3 scope ce fp) ifs tt := ht _ _ _ _ _
  have pk : PE (X.blk s3 H3 scope ce fp) kx tk := hk _ _ _ _ _
  have pv : PE (X.blk s3 H3 scope ce fp) vx tv := hv _ _ _ _ _
  have cl : ce.locals = L := rfl
  obtain ⟨s4, es4⟩ : ∃ s4 : Shared, ({ s3 with heap := pushCells (s3.heap.push { cls := .type "dict", data := .dict #[] }) scope.names } : Shared) = s4 := ⟨_, rfl⟩
  have I4 : Inv (X.blk s3 H3 scope ce fp) [] (wipe σ (own.map (·.2))) H3 s4 := by
    rw [← es4]
    exact I4
  have st4 : tn 0 s4.heap := by
    refine TU.keep _ _ _ st3 fun b _ o e => ?_
    rw [← es4]
    exact pushCells_keeps _ _ _ _ (Heap.get?_push_of_some _ e)
  have unt : ∀ b ∈ fp, H3 b = none := fun b hb => (fp3 b hb).1.1
  have foot : ∀ {σ' : L2.St} {H' : Hp} {s' : Shared}, Inv (X.blk s3 H3 scope ce fp) [] σ' H' s' → (∀ b ∈ fp, H' b = none) → ∀ b ∈ fp, FpOk (X.blk s3 H3 scope ce fp) [] H' b := by
    intro σ' H' s' J1 free1 b hb
    refine ⟨free1 b hb, (J1.ok.exf b hb).1, J1.ok.exfs b hb, .inl hb, fun x c e => (J1.ok.exf b hb).2 x c e, fun p hp => ?_⟩
    exact absurd (show p ∈ ([] : List (Addr × Obj)) ++ [] from hp) (by simp)
  have run : codeAny (model X.prog X.w) X.A (.compLoop (.DictComp kx vx [⟨tg, iter, ifs, 0⟩] scope pos) 0 (.ref it) (.ref D) ce) (compPost (model X.prog X.w) X.A X.xe use Qf (.ref D) L) s4 := by
    refine compLoop_anyD (fun n s' => ∃ i H', Inv (X.blk s3 H3 scope ce fp) [] (wipe σ (own.map (·.2))) H' s' ∧ tn i s'.heap ∧ (∀ b ∈ fp, H' b = none) ∧ W i n H') ?_ n0 ⟨0, H3, I4, st4, unt, w0⟩
    rintro n s5 ⟨i, H5, I5, st5, free5, w5⟩
    rcases turn i n H5 w5 with ⟨stop, qq⟩ | ⟨go, Go, less, step⟩
    · -- no item is left
      refine thnF (TU.done (X.blk s3 H3 scope ce fp) rfl rfl rfl calm i [] s5 _ H5 (fun _ _ => False) I5 (foot I5 free5) st5 stop) ?_
      rintro r s6 ⟨rfl, I6⟩
      have I7 : Inv X pins σ H5 s6 := I3.call' (ch := fp) I6.os I6.base I6.hok I6.bare fun b hb => ⟨(fp3 b hb).1.2.2.2.1, (fp3 b hb).1.2.1, (fp3 b hb).1.2.2.2.2.1, (fp3 b hb).1.2.2.2.2.2⟩
      have freeL : H5 L = none := I6.free
      obtain ⟨mm, hn, _⟩ := I6.loc
      have hn : s6.heap.Ns L mm := hn
      exact last D L s6 mm H5 I7 qq hn (I3.fpOk (Nat.le_refl _) freeL)
    · -- one turn
      refine thnF (TU.item (X.blk s3 H3 scope ce fp) rfl rfl rfl calm i [] s5 _ H5 (fun _ _ => False) I5 (foot I5 free5) st5 go) ?_
      rintro r s6 ⟨u, rfl, h6⟩
      refine thnF h6 ?_
      rintro _ s7 ⟨x, H7, I7, r7, y7, st7, free7⟩
      have P7 := I7.pinned (foot I7 free7) (TU.obj _ _ st7)
      refine thnF (pg.run _ s7 _ H7 x u _ P7 r7 (step x H7 y7)) ?_
      rintro _ s8 ⟨σ8, H8, I8, wiped, q8⟩
      have back : ∀ {s' : Shared} {H' : Hp}, Inv (X.blk s3 H3 scope ce fp) ([] ++ pinsAt fp s7.heap) σ8 H' s' → Go H' → ∃ m, m < n ∧ ∃ i H', Inv (X.blk s3 H3 scope ce fp) [] (wipe σ (own.map (·.2))) H' s' ∧ tn i s'.heap ∧ (∀ b ∈ fp, H' b = none) ∧ W i m H' := by
        intro s' H' J1 g1
        obtain ⟨n', lt, w'⟩ := less H' g1
        have there : ∀ b ∈ fp, ∀ o, s7.heap.get? b = some o → s'.heap.get? b = some o ∧ H' b = none := by
          intro b hb o e
          have z := J1.pin (b, o) (List.mem_append_right _ (List.mem_append_right _ (mem_pinsAt hb e)))
          exact ⟨z.1, z.2.1⟩
        have len8 : (wipe σ (own.map (·.2))).length = σ8.length := by rw [← wiped, wipe_length]
        refine ⟨n', lt, i + 1, H', (J1.unpinned (pins := [])).weak len8 ?_, TU.keep _ _ _ st7 fun b hb o e => (there b hb o e).1, ?_, w'⟩
        · intro j v e
          rw [← wiped] at e
          exact (wipe_some e).1
        · intro b hb
          obtain ⟨o, e, _⟩ := TU.obj _ _ st7 b hb
          exact (there b hb o e).2
      refine thnF (pt.run _ s8 σ8 H8 _ I8 q8) ?_
      rintro ok s9 ⟨H9, I9, q9⟩
      cases ok with
      | false =>
        rw [if_neg (by simp)] at q9 ⊢
        exact back I9 q9
      | true =>
        rw [if_pos rfl] at q9 ⊢
        refine thnF (pk.run _ s9 σ8 H9 _ I9 q9) ?_
        rintro uk s10 ⟨yk, H10, I10, rk, q10⟩
        refine thnF (pv.run _ s10 σ8 H10 _ I10 q10) ?_
        rintro uv s11 ⟨yv, H11, I11, rv, kvs, k, b, ey, eb, eD, few, g1⟩
        subst ey
        obtain rfl : uk = Value.ref b := rk
        exact put_tup (X := X.blk s3 H3 scope ce fp) hu I11 eD eb few rv fun s12 I12 => back I12 g1
  have start := codeAny_compStart_dict run (TU.self X.A 0 _ _ _ st4 run)
  subst es4 es3 eD
  exact start
theorem pe_dcT {kx vx tg iter : Expr} {ifs : List Expr} {scope : Scope} {own : List (Str × Nat)} {pos : Pos} {wi : TI} {g : TG} {tt : TT} {tk tv : TE} (hu : X.A.units + 1 < cLine) (calm : X.calm = true) (nod : X.N.Nodup) (hi : PI X tg iter wi) (blk : BlkOk X.N X.env.scope scope own)
    (hg : ∀ (s : Shared) (H : Hp) (C : Addr) (cl : List (Str × Addr)) (fp : List Addr), PG (X.blk s H scope (compEnvC scope cl C X.env) fp) tg g)
    (ht : ∀ (s : Shared) (H : Hp) (C : Addr) (cl : List (Str × Addr)) (fp : List Addr), PTs (X.blk s H scope (compEnvC scope cl C X.env) fp) ifs tt)
    (hk : ∀ (s : Shared) (H : Hp) (C : Addr) (cl : List (Str × Addr)) (fp : List Addr), PE (X.blk s H scope (compEnvC scope cl C X.env) fp) kx tk)
    (hv : ∀ (s : Shared) (H : Hp) (C : Addr) (cl : List (Str × Addr)) (fp : List Addr), PE (X.blk s H scope (compEnvC scope cl C X.env) fp) vx tv) (fold : ∀ x, foldedSetIterable iter X.env x = pure x := by intro _; rfl) :
    PE X (.DictComp kx vx [⟨tg, iter, ifs, 0⟩] scope pos) (tDcT wi g tt tk tv (own.map (·.2))) := by
  refine ⟨fun pins s σ H Q I want => ?_⟩
  rw [arm_eval_DictComp]
  refine dcT_core (use := none) hu calm nod I hi blk hg ht hk hv fold want fun D C s' m H' I' q ns fp => ?_
  obtain ⟨f0, f1, f2, f3, f4, f5⟩ := fp
  exact ⟨m, ns, fun h' sb => ⟨.ref D, H', I'.turned (t' := s'.toks) (fun b o hb e => (sb.2 b hb).trans e) f0 f1 f3 f4 f5, rfl, q⟩⟩
end
end Tw

set_option maxHeartbeats 4000000
/-! a dict with keys that are tuples, filled by a walk -/
namespace Tw
open PySem PySem.Spec PyProof.Rows L2
theorem dcT_walk {J : It} {n : Nat} {G : Hp → Prop} {Y : Nat → Hp → V → Hp → Prop} (w : Walk J n G Y) {g : TG} {tt : TT} {tk tv : TE} {vs : List Nat} {σ : L2.St} {H1 : Hp} {D : Addr} {Qd : Hp → Prop} (Pv : Nat → Hp → Prop)
    (h0 : Pv 0 (upd H1 D (.dT []))) (hG : ∀ i H, i ≤ n → Pv i H → G H)
    (hs : ∀ i x H H', i < n → Pv i H → Y i H x H' → g x (wipe σ vs) H' fun σ2 H2 => wipe σ2 vs = wipe σ vs ∧ tt σ2 H2 fun c H3 => if c = true then tk σ2 H3 fun y H4 => tv σ2 H4 fun z H5 => ∃ kvs k b, y = .ref b ∧ H5 b = some (.tup (k.map kV)) ∧ H5 D = some (.dT kvs) ∧ kvs.length < sizeLine ∧ Pv (i + 1) (upd H5 D (.dT (putK kvs k z))) else Pv (i + 1) H3)
    (hd : ∀ H, Pv n H → Qd H) :
    ∃ W : Nat → Nat → Hp → Prop, (∃ m, W 0 m (upd H1 D (.dT []))) ∧ ∀ i m H, W i m H → (J.stop i H ∧ Qd H) ∨ (J.go i H ∧ ∃ Nx : Hp → Prop, (∀ H', Nx H' → ∃ m', m' < m ∧ W (i + 1) m' H') ∧
      ∀ x H', J.yld i H x H' → g x (wipe σ vs) H' fun σ2 H2 => wipe σ2 vs = wipe σ vs ∧ tt σ2 H2 fun c H3 => if c = true then tk σ2 H3 fun y H4 => tv σ2 H4 fun z H5 => ∃ kvs k b, y = .ref b ∧ H5 b = some (.tup (k.map kV)) ∧ H5 D = some (.dT kvs) ∧ kvs.length < sizeLine ∧ Nx (upd H5 D (.dT (putK kvs k z))) else Nx H3) := by
  refine ⟨fun i m H => i + m = n ∧ Pv i H, ⟨n, Nat.zero_add n, h0⟩, fun i m H ⟨e, p⟩ => ?_⟩
  cases m with
  | zero =>
    have e : i = n := e
    subst e
    exact .inl ⟨w.stops H (hG i H (Nat.le_refl i) p), hd H p⟩
  | succ m =>
    have lt : i < n := by omega
    exact .inr ⟨w.goes i H lt (hG i H (Nat.le_of_lt lt) p), Pv (i + 1), fun H' p' => ⟨m, Nat.lt_succ_self m, by omega, p'⟩, fun x H' y => hs i x H H' lt p (w.yields i H x H' lt (hG i H (Nat.le_of_lt lt) p) y)⟩
/-- .. kept by a name -/
theorem ps_dcsT {X : Cx} {i : Nat} {y : Str} {py pos spos : Pos} {kx vx tg iter : Expr} {ifs : List Expr} {sc : Scope} {own : List (Str × Nat)} {wi : TI} {g : TG} {tt : TT} {tk tv : TE} (hu : X.A.units + 1 < cLine) (Y : DcY X i y sc py pos) (B : DcB X kx vx tg iter ifs sc own wi g tt tk tv) :
    PS X (.Assign [.Name y py] (.DictComp kx vx [⟨tg, iter, ifs, 0⟩] sc pos) spos) (tAsg (tDcT wi g tt tk tv (own.map (·.2))) (gName i)) := by
  have sw : swapsWith (.DictComp kx vx [⟨tg, iter, ifs, 0⟩] sc pos) (some (.Name y py)) spos.line X.env = pure true := by
    have e1 : (X.env.kindOf y == some .local) = true := by
      rw [show X.env.kindOf y = some .local from Y.loc]
      rfl
    have e2 : (X.env.blockKind == .function) = true := by
      unfold Env.blockKind
      rw [Y.fn]
      rfl
    show (pure (X.env.blockKind == .function && X.env.kindOf y == some .local && py.line == pos.line && !(sc.names.any fun (n, k) => n == y && (k == .local || k == .cell))) : Sem Bool) = pure true
    rw [e1, e2, Y.row, Y.own]
    rfl
  constructor
  intro pins s σ H D I h
  rw [exec_Assign_Name_used _ _ _ _ sw]
  apply wpAny_bind
  apply wpAny_standAt
  apply wpAny_bind
  refine wpAny_bind (wpAny_mono (dcT_core (use := some (assign (.Name y py) X.env)) (Qf := fun _ s' => L2.SP X pins D .next s') hu B.calm B.nod I B.walk B.blk B.tgt B.tst B.key B.val B.raw h ?_) (fun _ s' hq => wpAny_pure (wpAny_pure hq)) (fun _ _ hx => hx))
  intro d C s' n H' I' q ns fp
  have hm : FpOk X pins H' C := fp
  obtain ⟨m0, m1, _, m3, m4, m5⟩ := fp
  refine wpAny_assign_Name (store_ok2 (v := V.ref d) I' B.nod Y.at_ (.inl Y.loc) rfl (fun s2 I2 kept => ?_) (.inr Y.loc))
  obtain ⟨a, sb, ha⟩ := kept
  have nC : C ≠ a := by
    intro e
    rcases ha with z | z
    · exact m1 (e.trans z)
    · exact m4 y a z e.symm
  exact ⟨n, ns.sameBut sb nC, fun h3 sb3 => ⟨_, H', I2.turned (t' := s2.toks) (fun b o hb e => (sb3.2 b hb).trans e) m0 m1 m3 m4 m5, q⟩⟩
/-- a tuple walked within a comprehension -/
theorem pi_tupK {X : Cx} {K : PySem.W.Frag} (h : X.K = K) {tg e : Expr} {te : TE} (he : PE X e te) : PI X tg e (iTup K te) := by
  subst h
  exact pi_tup he
/-! a dict with tuple keys taken over: {pair: d[pair] for pair in d} -/
theorem valV_at {κ : Type} [DecidableEq κ] : ∀ {kvs : List (κ × V)} {i : Nat} {k : κ} {v : V}, (kvs.map (·.1)).Nodup → kvs[i]? = some (k, v) → valV kvs k = some v
  | [], _, _, _, _, e => nomatch e
  | c :: cs, 0, k, v, _, e => by
    cases e
    exact valV_pos rfl
  | c :: cs, i + 1, k, v, nd, e => by
    have h := List.nodup_cons.1 nd
    rw [valV_neg (fun z => h.1 (by show c.1 ∈ _; rw [z]; exact List.mem_map.2 ⟨(k, v), List.mem_of_getElem? e, rfl⟩))]
    exact valV_at h.2 e
theorem valV_off {κ : Type} [DecidableEq κ] : ∀ {kvs : List (κ × V)} {k : κ}, k ∉ kvs.map (·.1) → valV kvs k = none
  | [], _, _ => rfl
  | c :: cs, k, h => by
    rw [valV_neg (fun z => h (List.mem_cons.2 (.inl z.symm)))]
    exact valV_off fun z => h (List.mem_cons_of_mem _ z)
theorem put_take {κ : Type} [DecidableEq κ] {kvs : List (κ × V)} {i : Nat} {k : κ} {v : V} (nd : (kvs.map (·.1)).Nodup) (e : kvs[i]? = some (k, v)) : putK (kvs.take i) k v = kvs.take (i + 1) := by
  have no : k ∉ (kvs.take i).map (·.1) := fun z => by
    have sp : kvs.map (·.1) = (kvs.take i).map (·.1) ++ (kvs.drop i).map (·.1) := by rw [← List.map_append, List.take_append_drop]
    rw [sp] at nd
    have hd : (kvs.drop i)[0]? = some (k, v) := by rw [List.getElem?_drop]; exact e
    exact (List.nodup_append.1 nd).2.2 k z k (List.mem_map.2 ⟨_, List.mem_of_getElem? hd, rfl⟩) rfl
  rw [putK_new v (valV_off no), List.take_add_one, e]
  rfl
theorem copy_dT {σ : L2.St} {H : Hp} {Q : VK} {d : Addr} {kvs : List (List Key × V)} {j g : Nat} {vs : List Nat} (hd : H d = some (.dT kvs)) (nd : (kvs.map (·.1)).Nodup) (few : kvs.length < sizeLine) (h1 : σ[j]? = some (some (.ref d))) (h2 : ∀ x, (List.set (wipe σ vs) g (some x))[j]? = some (some (.ref d))) (h3 : ∀ x, (List.set (wipe σ vs) g (some x))[g]? = some (some x)) (h4 : ∀ x, wipe (List.set (wipe σ vs) g (some x)) vs = wipe σ vs)
    (q : ∀ D H', Same H H' → H D = none → H' D = some (.dT kvs) → Q (.ref D) H') : tLockE (tDcT (iKeys (tVar j)) (gName g) tYes (tVar g) (tDGet (tVar j) (tVar g)) vs) σ H Q := by
  refine ⟨d, .dT kvs, hd, True.intro, fun od => ⟨.ref d, h1, d, od, rfl, .inr ⟨kvs, upd_same, fun D nD => ?_⟩⟩⟩
  have nDd : D ≠ d := fun e => by rw [e, upd_same] at nD; cases nD
  have nD0 : H D = none := by rw [← nD, upd_ne nDd]
  refine ⟨fun i n Hc => i + n = kvs.length ∧ (∀ b o, H b = some o → b ≠ d → Hc b = some o) ∧ Hc d = some (.frz od (.dT kvs)) ∧ Hc D = some (.dT (kvs.take i)), ⟨kvs.length, Nat.zero_add _, fun b o e n => ?_, ?_, upd_same⟩, ?_⟩
  · rw [upd_ne (ne_of_none e nD0), upd_ne n]; exact e
  · rw [upd_ne nDd.symm, upd_same]
  · rintro i n Hc ⟨hn, hs, hc, hD⟩
    cases n with
    | zero =>
      have ei : i = kvs.length := hn
      refine .inl ⟨⟨hc, by omega⟩, hc, q D _ (fun b o e => ?_) nD0 ?_⟩
      · by_cases c : b = d
        · rw [c, upd_same, ← hd, ← c, e]
        · rw [upd_ne c]; exact hs b o e c
      · rw [upd_ne nDd, hD, ei, List.take_length]
    | succ n =>
      refine .inr ⟨⟨hc, by omega⟩, fun Hn => (∀ b o, H b = some o → b ≠ d → Hn b = some o) ∧ Hn d = some (.frz od (.dT kvs)) ∧ Hn D = some (.dT (kvs.take (i + 1))), fun Hn z => ⟨n, Nat.lt_succ_self n, by omega, z⟩, ?_⟩
      rintro x Hx ⟨rfl, k, v, b, ekv, rfl, hb⟩
      refine ⟨h4 _, yes_i (iteT ⟨_, h3 _, _, h2 _, _, h3 _, d, v, rfl, ?_, kvs.take i, k, b, rfl, hb, hD, (by rw [List.length_take]; omega), fun b' o e n => ?_, ?_, ?_⟩)⟩
      · rw [← valV_at nd ekv]
        exact .inr ⟨kvs, k, b, .inr ⟨od, hc⟩, rfl, hb, rfl⟩
      · rw [upd_ne (ne_of_none e nD0)]; exact hs b' o e n
      · rw [upd_ne nDd.symm]; exact hc
      · rw [upd_same, put_take nd ekv]
end Tw

set_option maxHeartbeats 4000000
/-! for x in D, D a dict of the top whose keys are texts -/
namespace Tw
open PySem PySem.Spec PyProof.Rows L2
theorem kd_all {K : PySem.W.Frag} {w : World} {a : Addr} {ks : List Str} (h : He.dicW K a = some (He.keysIn w.params ks)) : ∃ es n, KDict K w a es n ∧ es.toList.map He.keyOf = He.keysIn w.params ks := by
  obtain ⟨es, n, D⟩ := He.dicW_ok h
  refine ⟨es, n, D, ?_⟩
  unfold He.dicW at h
  rw [D.at_] at h
  simpa [D.low] using h
theorem kd_key {P : Params} {ks : List Str} {i : Nat} {z : Str} : ∀ {l : List DictEntry}, l.map He.keyOf = He.keysIn P ks → ks[i]? = some z → ∃ en t, l[i]? = some en ∧ en.key = .str z t := fun {l} h e => by
  have h1 : (l.map He.keyOf)[i]? = some (some (z, PyData.keyHash P z)) := by
    rw [h]
    unfold He.keysIn
    rw [List.getElem?_map, e]
    rfl
  rw [List.getElem?_map] at h1
  obtain ⟨en, h2, h3⟩ := Option.map_eq_some_iff.1 h1
  unfold He.keyOf at h3
  split at h3
  · rename_i x t q
    have := Option.some.inj h3
    have hx : x = z := congrArg Prod.fst this
    exact ⟨en, t, h2, by rw [q, hx]⟩
  · cases h3
/-- the keys, one by one; the dict never changes -/
def Itc (ks : List Str) : It := ⟨fun i _ => i < ks.length, fun i H x H' => H' = H ∧ ∃ z, ks[i]? = some z ∧ x = .str z, fun i _ => ks.length ≤ i⟩
theorem keyiter_plain {h : Heap} {it d : Addr} {i n ep : Nat} (st : h.IsKeyIter it d i n ep) : ∃ o, h.get? it = some o ∧ ∀ v, o.data ≠ .cell v := by
  obtain ⟨oi, e, _, dd⟩ := st
  exact ⟨oi, e, fun v z => by rw [dd] at z; cases z⟩
section
variable {X : Cx} {tg e : Expr} {d : Addr} {es : Array DictEntry} {n : Nat} {ks : List Str}
theorem pi_kd {td : TE} (D : KDict X.K X.w d es n) (hks : es.toList.map He.keyOf = He.keysIn X.w.params ks) (he : PE X e td) : PI X tg e (fun σ H R => td σ H fun x H1 => x = .ref d ∧ R (Itc ks) H1) := by
  have len : es.size = ks.length := by
    have := congrArg List.length hks
    unfold He.keysIn at this
    rw [List.length_map, List.length_map, Array.length_toList] at this
    exact this
  refine ⟨fun pins s σ H R I h => thn (he.run pins s σ H _ I h) fun u s1 ⟨x, H1, I1, rx, ex, q⟩ => ?_⟩
  subst ex
  obtain rfl : u = Value.ref d := rx
  refine iter_keys D.low (I1.kIn d _ D.at_) ⟨rfl, rfl, rfl⟩ rfl (pi_one (tk := s1.toks) I1 _ (tn := fun i h => h.IsKeyIter s1.heap.objs.size d i es.size n) ?_ ⟨_, Heap.get?_push_size _ rfl, rfl, rfl⟩ q)
  have one : ∀ b, b ∈ [s1.heap.objs.size] → b = s1.heap.objs.size := fun b hb => by simpa using hb
  refine ⟨List.mem_cons_self, fun i h st b hb => one b hb ▸ keyiter_plain st, fun i h h' st k => st.at fun oi e => k _ List.mem_cons_self oi e, ?_, ?_, fun A i s Q E st h => wpAny_pyIter_keyiter st h⟩
  · intro Y hP hw hK hc i pins s σ H E I hf st hg
    obtain ⟨f0, f1, f2, f3, f4, f5⟩ := hf _ List.mem_cons_self
    obtain ⟨en, t, h1, h2⟩ := kd_key (z := ks[i]) hks (List.getElem?_eq_getElem hg)
    have at_ := I.kIn d _ (by rw [hK]; exact D.at_)
    refine next_key_item st at_ rfl rfl (by rw [← Array.getElem?_toList]; exact h1) fun h' st' sb => ?_
    have I1 := I.turned (t' := s.toks) (h' := h') (fun b ob hb e => (sb.2 b hb).trans e) f0 f1 f3 f4 f5
    obtain ⟨oi, e, c, dd⟩ := id st'
    exact ⟨en.key, rfl, go_of (s := { s with heap := h' }) e c dd (by decide) ⟨.str ks[i], H, I1, ⟨t, h2⟩, ⟨rfl, _, List.getElem?_eq_getElem hg, rfl⟩, st', fun b hb => (hf b hb).1⟩⟩
  · intro Y hP hw hK hc i pins s σ H E I hf st hg
    obtain ⟨f0, f1, f2, f3, f4, f5⟩ := hf _ List.mem_cons_self
    have at_ := I.kIn d _ (by rw [hK]; exact D.at_)
    exact next_key_end (I.ok.hd hc) st at_ rfl rfl (by rw [len]; exact hg) fun h' eb => ⟨rfl, I.turned (t' := s.toks) (fun b ob hb e => eb b ob hb e) f0 f1 f3 f4 f5⟩
/-- a loop over such keys -/
theorem for_kd {g : TG} {tb : TS} {D : Ends} {σ : L2.St} {H : Hp} (Pv : Nat → L2.St → Hp → Prop) (h0 : Pv 0 σ H)
    (hs : ∀ i z σ H, ks[i]? = some z → Pv i σ H → g (.str z) σ H fun σ2 H2 => tb { D with nx := Pv (i + 1), ct := Pv (i + 1), bk := D.nx } σ2 H2) (hd : ∀ σ H, Pv ks.length σ H → D.nx σ H) :
    ∃ W : Nat → Nat → L2.St → Hp → Prop, (∃ m, W 0 m σ H) ∧ ∀ i m σ H, W i m σ H →
      ((Itc ks).stop i H ∧ D.nx σ H) ∨ ((Itc ks).go i H ∧ ∃ N : L2.St → Hp → Prop, (∀ σ' H', N σ' H' → ∃ m', m' < m ∧ W (i + 1) m' σ' H') ∧ ∀ x H', (Itc ks).yld i H x H' → g x σ H' fun σ2 H2 => tb { D with nx := N, ct := N, bk := D.nx } σ2 H2) := by
  refine ⟨fun i m σ H => i + m = ks.length ∧ Pv i σ H, ⟨ks.length, Nat.zero_add _, h0⟩, fun i m σ H ⟨hm, p⟩ => ?_⟩
  cases m with
  | zero =>
    have e : i = ks.length := hm
    exact .inl ⟨Nat.le_of_eq e.symm, hd σ H (e ▸ p)⟩
  | succ m =>
    refine .inr ⟨by show i < ks.length; omega, Pv (i + 1), fun σ' H' p' => ⟨m, Nat.lt_succ_self m, by omega, p'⟩, fun x H' ⟨eH, z, ez, ex⟩ => ?_⟩
    rw [eH, ex]
    exact hs i z σ H ez p
end
end Tw

set_option maxHeartbeats 4000000
namespace Tw
open PySem PySem.Spec PyProof.Rows L2
/-! making.py: a Making that lies in the heap, and the state that it follows -/
abbrev Ky : Type := Se.Ky Str
def oN : Option Nat → V
  | none => .non
  | some j => .int j
def wdU (u : Bool) : Str := if u = true then "until" else "most"
def kyL (k : Ky) : List Key := [kS (wdU k.1), kS k.2.1, kS k.2.2]
def kyR (k : Ky) : List V := [.str (wdU k.1), .str k.2.1, .str k.2.2]
theorem kyL_kV (k : Ky) : (kyL k).map kV = kyR k := rfl
theorem wdU_inj {a b : Bool} (h : wdU a = wdU b) : a = b := by
  cases a <;> cases b
  · rfl
  · exact absurd h (by decide +kernel)
  · exact absurd h (by decide +kernel)
  · rfl
theorem kyL_inj {a b : Ky} (h : kyL a = kyL b) : a = b := by
  obtain ⟨u, x, y⟩ := a
  obtain ⟨u', x', y'⟩ := b
  unfold kyL at h
  obtain ⟨h1, h⟩ := List.cons.inj h
  obtain ⟨h2, h⟩ := List.cons.inj h
  obtain ⟨h3, _⟩ := List.cons.inj h
  have e1 : u = u' := wdU_inj (Sum.inr.inj h1)
  have e2 : x = x' := Sum.inr.inj h2
  have e3 : y = y' := Sum.inr.inj h3
  rw [e1, e2, e3]
def sgW (w : Nat) : Str := if w = 0 then "sure" else if w = 1 then "soon" else "ahead"
def rrV : Se.Rr Str → List V
  | .told x y n => [.str "told", .str x, .str y, .int n]
  | .late e => [.str "late", .str e]
  | .along i j => [.str "along", oN i, oN j]
  | .wait i j => [.str "wait", oN i, oN j]
  | .sg w i => [.str (sgW w), oN i]
def vlR (v : Int × Option Nat) : List V := [.int v.1, oN v.2]
theorem dU_most (u : Bool) : decide (V.str (wdU u) = V.str "most") = !u := by
  cases u
  · exact decide_eq_true rfl
  · exact decide_eq_false (fun z => absurd (V.str.inj z) (by decide +kernel))
/-- the dict made -/
def MdV (H : Hp) (kvs : List (List Key × V)) (l : List (Ky × (Int × Option Nat))) : Prop := Paired (fun c d => c.1 = kyL d.1 ∧ ∃ t, c.2 = V.ref t ∧ H t = some (.tup (vlR d.2))) kvs l
theorem MdV.keep {H H' : Hp} {kvs : List (List Key × V)} {l : List (Ky × (Int × Option Nat))} (h : MdV H kvs l) (k : Kt H H') : MdV H' kvs l := Paired.mono (fun _ _ ⟨e, t, e', ht⟩ => ⟨e, t, e', k t _ ht⟩) h
theorem MdV.len {H : Hp} {kvs : List (List Key × V)} {l : List (Ky × (Int × Option Nat))} (h : MdV H kvs l) : kvs.length = l.length := Paired.length h
theorem MdV.no {H : Hp} {kvs : List (List Key × V)} {l : List (Ky × (Int × Option Nat))} (h : MdV H kvs l) {k : Ky} (e : Se.look k l = none) : valV kvs (kyL k) = none := by
  unfold MdV at h
  induction h with
  | nil => rfl
  | cons hc _ ih =>
    obtain ⟨e1, _⟩ := hc
    unfold Se.look at e
    split at e
    · cases e
    · rename_i c
      rw [valV_neg (fun z => c (kyL_inj (e1.symm.trans z)))]
      exact ih e
theorem MdV.yes {H : Hp} {kvs : List (List Key × V)} {l : List (Ky × (Int × Option Nat))} (h : MdV H kvs l) {k : Ky} {v : Int × Option Nat} (e : Se.look k l = some v) : ∃ t, valV kvs (kyL k) = some (.ref t) ∧ H t = some (.tup (vlR v)) := by
  unfold MdV at h
  induction h with
  | nil => cases e
  | cons hc _ ih =>
    obtain ⟨e1, t, e2, ht⟩ := hc
    unfold Se.look at e
    split at e
    · rename_i c
      cases e
      exact ⟨t, by rw [valV_pos (e1.trans (by rw [c])), e2], ht⟩
    · rename_i c
      rw [valV_neg (fun z => c (kyL_inj (e1.symm.trans z)))]
      exact ih e
theorem MdV.any {H : Hp} {kvs : List (List Key × V)} {l : List (Ky × (Int × Option Nat))} (h : MdV H kvs l) (k : Ky) : (kvs.any fun kv => decide (kv.1 = kyL k)) = l.any fun c => decide (c.1 = k) := by
  unfold MdV at h
  induction h with
  | nil => rfl
  | cons hc _ ih =>
    obtain ⟨e1, _⟩ := hc
    rw [List.any_cons, List.any_cons, ih]
    congr 1
    rw [e1]
    exact decide_eq_decide.2 ⟨kyL_inj, fun z => by rw [z]⟩
theorem MdV.put {H : Hp} {kvs : List (List Key × V)} {l : List (Ky × (Int × Option Nat))} (h : MdV H kvs l) {k : Ky} {v : Int × Option Nat} {t : Addr} (ht : H t = some (.tup (vlR v))) : MdV H (putK kvs (kyL k) (.ref t)) (Se.put k v l) := by
  unfold putK Se.put
  rw [h.any k]
  split
  · rename_i hany
    clear hany
    unfold MdV at h ⊢
    induction h with
    | nil => exact .nil
    | cons hc _ ih =>
      refine .cons ?_ ih
      obtain ⟨e1, t', e2, ht'⟩ := hc
      rename_i a b _ _ _
      show (if a.1 = kyL k then (a.1, V.ref t) else a).1 = kyL (if b.1 = k then (b.1, v) else b).1 ∧ ∃ t_1, (if a.1 = kyL k then (a.1, V.ref t) else a).2 = V.ref t_1 ∧ H t_1 = some (HO.tup (vlR (if b.1 = k then (b.1, v) else b).2))
      by_cases c : b.1 = k
      · rw [if_pos c, if_pos (e1.trans (by rw [c]))]
        exact ⟨e1, t, rfl, ht⟩
      · rw [if_neg c, if_neg (fun z => c (kyL_inj (e1.symm.trans z)))]
        exact ⟨e1, t', e2, ht'⟩
  · exact Paired.snoc h ⟨rfl, t, rfl, ht⟩
/-- where its parts lie -/
structure MkA where
  p : Addr
  dx : Addr
  w : Addr
  nl : Addr
  el : Addr
  hd : Addr
  D : Addr
  L : Addr
def mf (a : MkA) (f : Option Nat) : List (Str × V) := [("web", .ref a.w), ("names", .ref a.nl), ("ends", .ref a.el), ("heard", .ref a.hd), ("made", .ref a.D), ("rows", .ref a.L), ("fault", oN f)]
theorem mf_web {a : MkA} {f : Option Nat} : (mf a f).lookup ("web" : Str) = some (.ref a.w) := by
  unfold mf
  rw [List.lookup_cons_self]
theorem mf_names {a : MkA} {f : Option Nat} : (mf a f).lookup ("names" : Str) = some (.ref a.nl) := by
  unfold mf
  rw [List.lookup_cons, show (("names" : Str) == "web") = false by decide +kernel, List.lookup_cons_self]
theorem mf_ends {a : MkA} {f : Option Nat} : (mf a f).lookup ("ends" : Str) = some (.ref a.el) := by
  unfold mf
  rw [List.lookup_cons, show (("ends" : Str) == "web") = false by decide +kernel, List.lookup_cons, show (("ends" : Str) == "names") = false by decide +kernel, List.lookup_cons_self]
theorem mf_heard {a : MkA} {f : Option Nat} : (mf a f).lookup ("heard" : Str) = some (.ref a.hd) := by
  unfold mf
  rw [List.lookup_cons, show (("heard" : Str) == "web") = false by decide +kernel, List.lookup_cons, show (("heard" : Str) == "names") = false by decide +kernel, List.lookup_cons, show (("heard" : Str) == "ends") = false by decide +kernel, List.lookup_cons_self]
theorem mf_made {a : MkA} {f : Option Nat} : (mf a f).lookup ("made" : Str) = some (.ref a.D) := by
  unfold mf
  rw [List.lookup_cons, show (("made" : Str) == "web") = false by decide +kernel, List.lookup_cons, show (("made" : Str) == "names") = false by decide +kernel, List.lookup_cons, show (("made" : Str) == "ends") = false by decide +kernel, List.lookup_cons, show (("made" : Str) == "heard") = false by decide +kernel, List.lookup_cons_self]
theorem mf_rows {a : MkA} {f : Option Nat} : (mf a f).lookup ("rows" : Str) = some (.ref a.L) := by
  unfold mf
  rw [List.lookup_cons, show (("rows" : Str) == "web") = false by decide +kernel, List.lookup_cons, show (("rows" : Str) == "names") = false by decide +kernel, List.lookup_cons, show (("rows" : Str) == "ends") = false by decide +kernel, List.lookup_cons, show (("rows" : Str) == "heard") = false by decide +kernel, List.lookup_cons, show (("rows" : Str) == "made") = false by decide +kernel, List.lookup_cons_self]
theorem mf_fault {a : MkA} {f : Option Nat} : (mf a f).lookup ("fault" : Str) = some (oN f) := by
  unfold mf
  rw [List.lookup_cons, show (("fault" : Str) == "web") = false by decide +kernel, List.lookup_cons, show (("fault" : Str) == "names") = false by decide +kernel, List.lookup_cons, show (("fault" : Str) == "ends") = false by decide +kernel, List.lookup_cons, show (("fault" : Str) == "heard") = false by decide +kernel, List.lookup_cons, show (("fault" : Str) == "made") = false by decide +kernel, List.lookup_cons, show (("fault" : Str) == "rows") = false by decide +kernel, List.lookup_cons_self]
theorem nf_web : ¬ (("web" : Str) = "fault") := by decide +kernel
theorem nf_names : ¬ (("names" : Str) = "fault") := by decide +kernel
theorem nf_ends : ¬ (("ends" : Str) = "fault") := by decide +kernel
theorem nf_heard : ¬ (("heard" : Str) = "fault") := by decide +kernel
theorem nf_made : ¬ (("made" : Str) = "fault") := by decide +kernel
theorem nf_rows : ¬ (("rows" : Str) = "fault") := by decide +kernel
theorem mf_put {a : MkA} {f : Option Nat} {j : Nat} : putF "fault" (.int j) (mf a f) = mf a (some j) := by
  unfold mf
  simp only [putF, if_neg nf_web, if_neg nf_names, if_neg nf_ends, if_neg nf_heard, if_neg nf_made, if_neg nf_rows, if_true]
  rfl
def mkAttrs : List Str := ["web", "names", "ends", "heard", "made", "rows", "fault"]
theorem mf_no {a : MkA} {f : Option Nat} {x : Str} (h : mkAttrs.all (fun y => !(x == y)) = true) : (mf a f).lookup x = none := by
  unfold mkAttrs at h
  simp only [List.all_cons, List.all_nil, Bool.and_true, Bool.and_eq_true, Bool.not_eq_true'] at h
  obtain ⟨h1, h2, h3, h4, h5, h6, h7⟩ := h
  unfold mf
  rw [List.lookup_cons, h1, List.lookup_cons, h2, List.lookup_cons, h3, List.lookup_cons, h4, List.lookup_cons, h5, List.lookup_cons, h6, List.lookup_cons, h7]
  rfl
abbrev CM (K : PySem.W.Frag) : Addr := He.ga K "Making"
def bsN (m : Md) : List Str := "start" :: (m.own ++ (hs m.wd).map (·.1))
def enN (m : Md) : List Str := (hs m.wd).map (·.1)
/-- a Making of the web m that has come to the state s -/
structure MkAt (K : PySem.W.Frag) (H : Hp) (a : MkA) (m : Md) (s : Se.MS Str) : Prop where
  obj : H a.p = some (.ins (CM K) a.dx (mf a s.fault))
  dict : ∃ kvs, H a.D = some (.dT kvs) ∧ MdV H kvs s.made
  rows : ∃ xs, H a.L = some (.lst xs) ∧ Rows H xs (s.rows.map rrV)
  nl : H a.nl = some (.lst ((bsN m).map V.str))
  el : H a.el = some (.lst ((enN m).map V.str))
  hd : HdD H a.hd (hkOf (hs m.wd))
  web : WebAt (CW K) H a.w m
  ne : a.nl ≠ a.L ∧ a.el ≠ a.L ∧ a.w ≠ a.p
  few : s.made.length ≤ s.rows.length + 1000
/-- all but the three parts that change -/
def Fr (a : MkA) (H H' : Hp) : Prop := ∀ b o, H b = some o → b ≠ a.p → b ≠ a.D → b ≠ a.L → H' b = some o
theorem Fr.of {a : MkA} {H H' : Hp} (s : Same H H') : Fr a H H' := fun b o e _ _ _ => s b o e
theorem Fr.trans {a : MkA} {H H1 H2 : Hp} (x : Fr a H H1) (y : Fr a H1 H2) : Fr a H H2 := fun b o e h1 h2 h3 => y b o (x b o e h1 h2 h3) h1 h2 h3
theorem Fr.kt {a : MkA} {K : PySem.W.Frag} {H H' : Hp} {m : Md} {s : Se.MS Str} (h : MkAt K H a m s) (x : Fr a H H') : Kt H H' := fun b xs e => by
  obtain ⟨_, hD, _⟩ := h.dict
  obtain ⟨_, hL, _⟩ := h.rows
  exact x b _ e (ne_of e h.obj (fun z => nomatch z)) (ne_of e hD (fun z => nomatch z)) (ne_of e hL (fun z => nomatch z))
/-- a Making over a later heap: what is asked anew -/
theorem MkAt.move {K : PySem.W.Frag} {H H' : Hp} {a : MkA} {m : Md} {s t : Se.MS Str} (h : MkAt K H a m s) (x : Fr a H H') (obj : H' a.p = some (.ins (CM K) a.dx (mf a t.fault))) (dict : ∃ kvs, H' a.D = some (.dT kvs) ∧ MdV H' kvs t.made) (rows : ∃ xs, H' a.L = some (.lst xs) ∧ Rows H' xs (t.rows.map rrV)) (few : t.made.length ≤ t.rows.length + 1000) : MkAt K H' a m t := by
  obtain ⟨kv, hD, _⟩ := h.dict
  obtain ⟨xs, hL, _⟩ := h.rows
  have kt := x.kt h
  refine ⟨obj, dict, rows, x _ _ h.nl (ne_of h.nl h.obj (fun z => nomatch z)) (ne_of h.nl hD (fun z => nomatch z)) h.ne.1, x _ _ h.el (ne_of h.el h.obj (fun z => nomatch z)) (ne_of h.el hD (fun z => nomatch z)) h.ne.2.1, ?_, ?_, h.ne, few⟩
  · obtain ⟨kvs, h1, h2⟩ := h.hd
    exact ⟨kvs, x _ _ h1 (ne_of h1 h.obj (fun z => nomatch z)) (ne_of h1 hD (fun z => nomatch z)) (ne_of h1 hL (fun z => nomatch z)), h2.keep kt⟩
  · refine h.web.keep (fun dx fs e => x _ _ e h.ne.2.2 (ne_of e hD (fun z => nomatch z)) (ne_of e hL (fun z => nomatch z))) kt
theorem MkAt.same {K : PySem.W.Frag} {H H' : Hp} {a : MkA} {m : Md} {s : Se.MS Str} (h : MkAt K H a m s) (x : Same H H') : MkAt K H' a m s := by
  obtain ⟨kv, hD, hV⟩ := h.dict
  obtain ⟨xs, hL, hR⟩ := h.rows
  exact h.move (.of x) (x _ _ h.obj) ⟨kv, x _ _ hD, hV.keep (.of x)⟩ ⟨xs, x _ _ hL, hR.keep (.of x)⟩ h.few
section
variable {P : Program} {w : World} {K : PySem.W.Frag} {mg : Str → Option Value} {base : Heap}
def sp_offer (K : PySem.W.Frag) : Sp := fun vs H Q _ => ∃ (a : MkA) (m : Md) (s : Se.MS Str) (k : Ky) (n : Int) (t : Addr) (r : Se.Rr Str), vs = [.ref a.p, .str (wdU k.1), .str k.2.1, .str k.2.2, .int n, .ref t] ∧ MkAt K H a m s ∧ H t = some (.tup (rrV r)) ∧ s.rows.length < 8000000 ∧
  ∀ H', Fr a H H' → MkAt K H' a m (Se.offer s k n r) → Q .non H'
theorem met_Making_offer (T : Tp K mg) : Met P w K mg base 2 (CM K) "offer" (sp_offer K) := by
  obtain ⟨fd, F⟩ := f_Making_offer T
  refine met_of F (cl_Making T) (me_Making_offer T) (b_Making_offer F) sc_Making_offer (fun vs H Q E h => ?_) (fun cdv A outer s H vs Q E hr h => ?_)
  · obtain ⟨a, m, s, k, n, t, r, rfl, _⟩ := h
    rfl
  · obtain ⟨a, m, st, k, n, t, r, rfl, M, ht, few, q⟩ := h
    have hu := hu_of hr
    obtain ⟨kvs, hD, hV⟩ := M.dict
    obtain ⟨xs, hL, hR⟩ := M.rows
    refine ⟨_, (pss_cons (ps_set (i := 6) sc_Making_offer.nd rfl (.inl rfl) (pe_dget1 hu (pe_fld (pv 0) rfl) (pe_tup (pa_cons (pv 1) (pa_cons (pv 2) (pa_cons (pv 3) pa_nil)))) ⟨rfl, rfl, rfl, rfl⟩))
      (C8.pss_cut (ps_if (PW.pt (pw_or (pt_cmpR op_notN (pe_fld (pv 0) rfl) pe_non (nomark _)) (pw_or1 (PW.pt (pw_and (pt_cmpR op_notN (pv 6) pe_non (nomark _)) (pw_and1 (pt_cmpR op_le (pe_ix ix_tup (pv 6) pe_int (fun _ _ => rfl)) (pv 4) (nomark _)))))))) (pss_one ps_retN) pss_nil)
      (pss_cons (ps_set (i := 7) sc_Making_offer.nd rfl (.inl rfl) (pe_callB call_len_seq (by rfl) (z_len T) bb_len (pa_cons (pe_fld (pv 0) rfl) pa_nil)))
      (pss_cons (ps_dput hu (pe_fld (pv 0) rfl) (pe_tup (pa_cons (pv 1) (pa_cons (pv 2) (pa_cons (pv 3) pa_nil)))) (pe_tup (pa_cons (pv 4) (pa_cons (pv 7) pa_nil))) rfl)
      (pss_cons (ps_expr (pe_bm PySem.F.plainAttrs_list PySem.F.slot_list_append PySem.F.type_list_append mt_append (pe_fld (pv 0) rfl) (pa_cons (pv 5) pa_nil)))
      (pss_one (ps_if (PW.pt (pw_and (pt_cmpR op_eq (pv 1) (C8.pe_gc (by rfl) (c_MOST T)) (nomark _)) (pw_and (pt_cmpR op_eq (pv 2) (pv 3) (nomark _)) (pw_and1 (pt_cmpR op_lt (pv 4) pe_int (nomark _)))))) (pss_one (ps_fld (pv 0) (pv 7) rfl)) pss_nil))))))), ?_⟩
    refine ⟨_, rfl, a.p, CM K, a.dx, _, _, rfl, M.obj, cl_Making T, na_Making_made T, mf_made, a.D, rfl, .inr ⟨kvs, .inl hD⟩, ?_⟩
    refine ⟨_, rfl, _, rfl, _, rfl, (by show 3 ≤ sizeLine; decide), fun x nx => ?_⟩
    have s1 : Same H (upd H x (.tup (kyR k))) := same_upd nx
    have M1 := M.same s1
    have key : (upd H x (.tup (kyR k))) x = some (.tup ((kyL k).map kV)) := upd_same
    have g : ∃ o, valV kvs (kyL k) = o := ⟨_, rfl⟩
    obtain ⟨o, eo⟩ := g
    refine ⟨o, eo ▸ DGet.t (s1 _ _ hD) key, ?_⟩
    refine ⟨fun σ' H' => σ' = [some (.ref a.p), some (.str (wdU k.1)), some (.str k.2.1), some (.str k.2.2), some (.int n), some (.ref t), some (o.getD .non), none] ∧ H' = upd H x (.tup (kyR k)) ∧ st.fault = none ∧ ¬ Se.Le st k n, ?_, ?_⟩
    · refine ⟨_, rfl, a.p, CM K, a.dx, _, _, rfl, M1.obj, cl_Making T, na_Making_fault T, mf_fault, rfl, _, rfl, ?_⟩
      cases ef : st.fault with
      | some j =>
        refine iteT (q _ (.of s1) ?_)
        have : Se.offer st k n r = st := by unfold Se.offer; rw [if_pos (.inl (by rw [ef]; rfl))]
        rw [this]
        exact M1
      | none =>
        refine iteF ?_
        cases el : Se.look k st.made with
        | none =>
          have e0 : o = none := by rw [← eo]; exact hV.no el
          subst e0
          refine ⟨_, rfl, rfl, _, rfl, iteF ⟨rfl, rfl, rfl, fun z => ?_⟩⟩
          obtain ⟨m', e', _⟩ := z
          obtain ⟨p', h'⟩ := Se.of_at e'
          rw [el] at h'
          cases h'
        | some v =>
          obtain ⟨u, hv, hu'⟩ := hV.yes el
          have e0 : o = some (.ref u) := by rw [← eo]; exact hv
          subst e0
          refine ⟨_, rfl, rfl, _, rfl, iteT ⟨_, rfl, u, _, 0, _, rfl, rfl, .inl (.inl (s1 _ _ hu')), atI_nat (j := 0) rfl, _, rfl, v.1, n, rfl, rfl, _, rfl, ?_⟩⟩
          by_cases c : v.1 ≤ n
          · rw [decide_eq_true c]
            refine iteT (q _ (.of s1) ?_)
            have : Se.offer st k n r = st := by unfold Se.offer; rw [if_pos (.inr (Se.le_held ⟨v.1, Se.at_of el, c⟩))]
            rw [this]
            exact M1
          · rw [decide_eq_false c]
            refine iteF ⟨rfl, rfl, rfl, fun z => ?_⟩
            obtain ⟨m', e', l'⟩ := z
            rw [Se.at_of el] at e'
            cases e'
            exact c l'
    · rintro σ' H' ⟨rfl, rfl, ef, nl⟩
      have lx : xs.length = st.rows.length := by rw [hR.len, List.length_map]
      have hsz : sizeLine = 16777216 := rfl
      refine ⟨_, rfl, a.p, CM K, a.dx, _, _, rfl, M1.obj, cl_Making T, na_Making_rows T, mf_rows, a.L, xs, rfl, .inl (.inl (.inl (s1 _ _ hL))), ?_⟩
      -- made[..] = (amount, place)
      refine ⟨_, rfl, _, rfl, (by show 2 ≤ sizeLine; decide), fun y ny => ?_⟩
      have s2 := s1.trans (same_upd (o := .tup [.int n, .int xs.length]) ny)
      have M2 := M.same s2
      refine ⟨_, rfl, a.p, CM K, a.dx, _, _, rfl, M2.obj, cl_Making T, na_Making_made T, mf_made, _, rfl, _, rfl, _, rfl, (by show 3 ≤ sizeLine; decide), fun z nz => ?_⟩
      have s3 := s2.trans (same_upd (o := .tup [.str (wdU k.1), .str k.2.1, .str k.2.2]) nz)
      have lk := hV.len
      have fewM := M.few
      have hD3 := s3 _ _ hD
      have hL3 := s3 _ _ hL
      have hP3 := s3 _ _ M.obj
      have ht3 := s3 _ _ ht
      have hV3 := hV.keep (.of s3)
      have hR3 := hR.keep (.of s3)
      have hy3 : (upd (upd (upd H x (.tup (kyR k))) y (.tup [.int n, .int xs.length])) z (.tup [.str (wdU k.1), .str k.2.1, .str k.2.2])) y = some (.tup [.int n, .int xs.length]) := same_upd nz _ _ upd_same
      have hz3 : (upd (upd (upd H x (.tup (kyR k))) y (.tup [.int n, .int xs.length])) z (.tup [.str (wdU k.1), .str k.2.1, .str k.2.2])) z = some (.tup ((kyL k).map kV)) := upd_same
      refine ⟨a.D, _, rfl, DPut.t hD3 hz3 (by omega), ?_⟩
      generalize upd (upd (upd H x (.tup (kyR k))) y (.tup [.int n, .int xs.length])) z (.tup [.str (wdU k.1), .str k.2.1, .str k.2.2]) = H3 at s3 hD3 hL3 hP3 ht3 hV3 hR3 hy3 hz3 ⊢
      have nDL : a.D ≠ a.L := ne_of hD3 hL3 (fun z => nomatch z)
      have nDP : a.D ≠ a.p := ne_of hD3 hP3 (fun z => nomatch z)
      have nLP : a.L ≠ a.p := ne_of hL3 hP3 (fun z => nomatch z)
      have kt4 : Kt H3 (upd H3 a.D (.dT (putK kvs (kyL k) (.ref y)))) := Kt.upd fun _ e => by rw [hD3] at e; cases e
      have hL4 : upd H3 a.D (.dT (putK kvs (kyL k) (.ref y))) a.L = some (.lst xs) := by rw [upd_ne nDL.symm]; exact hL3
      have hP4 : upd H3 a.D (.dT (putK kvs (kyL k) (.ref y))) a.p = some (.ins (CM K) a.dx (mf a st.fault)) := by rw [upd_ne nDP.symm]; exact hP3
      -- rows.append(row)
      refine ⟨_, rfl, a.p, CM K, a.dx, _, _, rfl, hP4, cl_Making T, na_Making_rows T, mf_rows, .inl ⟨rfl, _, .inl (.inl hL4)⟩, _, rfl, a.L, xs, _, rfl, rfl, hL4, by omega, ?_⟩
      have kt5 : Kt (upd H3 a.D (.dT (putK kvs (kyL k) (.ref y)))) (upd (upd H3 a.D (.dT (putK kvs (kyL k) (.ref y)))) a.L (.lst (xs ++ [.ref t]))) := Kt.upd fun _ e => by rw [hL4] at e; cases e
      have kt := kt4.trans kt5
      have hP5 : upd (upd H3 a.D (.dT (putK kvs (kyL k) (.ref y)))) a.L (.lst (xs ++ [.ref t])) a.p = some (.ins (CM K) a.dx (mf a st.fault)) := by rw [upd_ne nLP.symm]; exact hP4
      have hD5 : upd (upd H3 a.D (.dT (putK kvs (kyL k) (.ref y)))) a.L (.lst (xs ++ [.ref t])) a.D = some (.dT (putK kvs (kyL k) (.ref y))) := by rw [upd_ne nDL, upd_same]
      have hL5 : upd (upd H3 a.D (.dT (putK kvs (kyL k) (.ref y)))) a.L (.lst (xs ++ [.ref t])) a.L = some (.lst (xs ++ [.ref t])) := upd_same
      have fr5 : Fr a H3 (upd (upd H3 a.D (.dT (putK kvs (kyL k) (.ref y)))) a.L (.lst (xs ++ [.ref t]))) := fun b o e h1 h2 h3 => by rw [upd_ne h3, upd_ne h2]; exact e
      generalize upd (upd H3 a.D (.dT (putK kvs (kyL k) (.ref y)))) a.L (.lst (xs ++ [.ref t])) = H5 at kt kt5 hP5 hD5 hL5 fr5 ⊢
      have V5 : MdV H5 (putK kvs (kyL k) (.ref y)) (Se.put k (n, some st.rows.length) st.made) := (hV3.put (by rw [lx] at hy3; exact hy3)).keep kt
      have R5 : Rows H5 (xs ++ [.ref t]) ((st.rows ++ [r]).map rrV) := by
        rw [List.map_append]
        exact (hR3.snoc ht3).keep kt
      have fr : Fr a H H5 := (Fr.of s3).trans fr5
      have lp : (Se.put k (n, some st.rows.length) st.made).length ≤ st.made.length + 1 := by
        have h1 := V5.len
        have h2 := length_putK kvs (kyL k) (.ref y)
        omega
      have eo : Se.offer st k n r = ⟨Se.put k (n, some st.rows.length) st.made, st.rows ++ [r], if k.1 = false ∧ k.2.1 = k.2.2 ∧ n < 0 then some st.rows.length else none⟩ := by
        rcases Se.offer_cases st k n r with ⟨_, z⟩ | ⟨_, _, z⟩
        · rcases z with z | z
          · rw [ef] at z; cases z
          · exact absurd z nl
        · exact z
      have fin : ∀ (f : Option Nat) (H' : Hp), (if k.1 = false ∧ k.2.1 = k.2.2 ∧ n < 0 then some st.rows.length else none) = f → Fr a H5 H' → H' a.p = some (.ins (CM K) a.dx (mf a f)) → H' a.D = H5 a.D → H' a.L = H5 a.L → Kt H5 H' → Q .non H' := by
        intro f H' e fr' hp hd hl k5
        refine q H' (fr.trans fr') ?_
        rw [eo, e]
        refine M.move (fr.trans fr') hp ⟨_, hd.trans hD5, V5.keep k5⟩ ⟨_, hl.trans hL5, R5.keep k5⟩ ?_
        show (Se.put k (n, some st.rows.length) st.made).length ≤ (st.rows ++ [r]).length + 1000
        rw [List.length_append, show ([r] : List (Se.Rr Str)).length = 1 from rfl]
        omega
      have off : ¬ (k.1 = false ∧ k.2.1 = k.2.2 ∧ n < 0) → Q .non H5 := fun c => fin none H5 (if_neg c) (fun b o e _ _ _ => e) (by rw [← ef]; exact hP5) rfl rfl (fun _ _ e => e)
      refine ⟨_, rfl, rfl, _, rfl, ?_⟩
      rw [dU_most]
      cases eu : k.1 with
      | true => exact iteF (off (by rw [eu]; exact fun z => nomatch z.1))
      | false =>
        refine iteT ⟨_, rfl, _, rfl, rfl, _, rfl, ?_⟩
        by_cases c : k.2.1 = k.2.2
        · rw [decide_eq_true (show V.str k.2.1 = V.str k.2.2 by rw [c])]
          refine iteT ⟨_, rfl, n, 0, rfl, rfl, _, rfl, ?_⟩
          by_cases l : n < 0
          · rw [decide_eq_true l]
            refine iteT ⟨_, rfl, _, rfl, a.p, CM K, a.dx, _, rfl, hP5, cl_Making T, na_Making_fault T, (by show 7 < 1000; decide), ?_⟩
            refine fin (some st.rows.length) _ (if_pos ⟨eu, c, l⟩) (fun b o e h1 _ _ => by rw [upd_ne h1]; exact e) ?_ (upd_ne nDP) (upd_ne nLP) (Kt.upd fun _ e => by rw [hP5] at e; cases e)
            rw [upd_same, mf_put, lx]
          · rw [decide_eq_false l]
            exact iteF (off (fun z => l z.2.2))
        · rw [decide_eq_false (show ¬ V.str k.2.1 = V.str k.2.2 from fun z => c (V.str.inj z))]
          exact iteF (off (fun z => c z.2.1))
end
end Tw

set_option maxHeartbeats 4000000
namespace Tw
open PySem PySem.Spec PyProof.Rows L2
/-! making.py: the ways along and the waits -/
theorem walk_take {β : Type} {f : Se.MS Str → β → Se.MS Str} {l : List β} {i : Nat} {z : β} {s : Se.MS Str} (h : l[i]? = some z) : Se.walk f (l.take (i + 1)) s = f (Se.walk f (l.take i) s) z := by
  unfold Se.walk
  rw [List.take_add_one, h, List.foldl_append]
  rfl
theorem walk_few {β : Type} {f : Se.MS Str → β → Se.MS Str} (hd : ∀ s x, Se.Dn s (f s x)) (l : List β) (i : Nat) (s : Se.MS Str) : (Se.walk f (l.take i) s).rows.length ≤ (Se.walk f l s).rows.length := by
  have e : Se.walk f l s = Se.walk f (l.drop i) (Se.walk f (l.take i) s) := by
    unfold Se.walk
    rw [← List.foldl_append, List.take_append_drop]
  rw [e]
  exact (Se.dn_walk hd _ _).rows
theorem str_at {l : List Str} {i : Nat} {x : V} (h : (l.map V.str)[i]? = some x) : ∃ z, x = .str z ∧ l[i]? = some z := by
  rw [List.getElem?_map] at h
  cases e : l[i]? with
  | none => rw [e] at h; cases h
  | some z => rw [e] at h; cases h; exact ⟨z, rfl, rfl⟩
section
variable {P : Program} {w : World} {K : PySem.W.Frag} {mg : Str → Option Value} {base : Heap}
/-- what a dict of a Making holds at a key, as d.get tells it -/
theorem mk_get {H : Hp} {a : MkA} {m : Md} {s : Se.MS Str} (M : MkAt K H a m s) (k : Ky) {x : Addr} (hx : H x = some (.tup (kyR k))) : ∃ o, DGet H a.D (.ref x) o ∧ ((Se.look k s.made = none ∧ o = none) ∨ ∃ v u, Se.look k s.made = some v ∧ o = some (.ref u) ∧ H u = some (.tup (vlR v))) := by
  obtain ⟨kvs, hD, hV⟩ := M.dict
  refine ⟨_, DGet.t (k := kyL k) hD hx, ?_⟩
  cases e : Se.look k s.made with
  | none => exact .inl ⟨rfl, hV.no e⟩
  | some v =>
    obtain ⟨u, h1, h2⟩ := hV.yes e
    exact .inr ⟨v, u, rfl, h1, h2⟩
theorem mk_isD {H : Hp} {a : MkA} {m : Md} {s : Se.MS Str} (M : MkAt K H a m s) : IsD H a.D := by
  obtain ⟨kvs, hD, _⟩ := M.dict
  exact .inr ⟨kvs, .inl hD⟩
def sp_along (K : PySem.W.Frag) : Sp := fun vs H Q _ => ∃ (a : MkA) (m : Md) (s : Se.MS Str) (x y : Str), vs = [.ref a.p, .str x, .str y] ∧ MkAt K H a m s ∧ (Se.goAlong (bsN m) x y s).rows.length < 8000000 ∧
  ∀ H', Fr a H H' → MkAt K H' a m (Se.goAlong (bsN m) x y s) → Q .non H'
theorem met_Making_go_along (T : Tp K mg) : Met P w K mg base 3 (CM K) "go_along" (sp_along K) := by
  obtain ⟨fd, F⟩ := f_Making_go_along T
  refine met_of F (cl_Making T) (me_Making_go_along T) (b_Making_go_along F) sc_Making_go_along (fun vs H Q E h => ?_) (fun cdv A outer s H vs Q E hr h => ?_)
  · obtain ⟨a, m, s, x, y, rfl, _⟩ := h
    rfl
  · obtain ⟨a, m, st, x, y, rfl, M, few, q⟩ := h
    have hu := hu_of hr
    refine ⟨_, (pss_cons (ps_set (i := 3) sc_Making_go_along.nd rfl (.inl rfl) (pe_dget1 hu (pe_fld (pv 0) rfl) (pe_tup (pa_cons (C8.pe_gc (by rfl) (c_MOST T)) (pa_cons (pv 1) (pa_cons (pv 2) pa_nil)))) ⟨rfl, rfl, rfl, rfl⟩))
      (pss_cons (ps_if (pt_cmpR op_isN (pv 3) pe_non (nomark _)) (pss_one ps_retN) pss_nil)
      (pss_one (ps_for PassesOwn.never rfl (pi_list (pe_fld (pv 0) rfl)) (pg_name (i := 4) sc_Making_go_along.nd rfl (.inl rfl))
        (pss_cons (ps_set (i := 5) sc_Making_go_along.nd rfl (.inl rfl) (pe_dget1 hu (pe_fld (pv 0) rfl) (pe_tup (pa_cons (C8.pe_gc (by rfl) (c_MOST T)) (pa_cons (pv 2) (pa_cons (pv 4) pa_nil)))) ⟨rfl, rfl, rfl, rfl⟩))
        (pss_one (ps_if (pt_cmpR op_notN (pv 5) pe_non (nomark _)) (pss_one (ps_expr (C8.pe_mt (met_Making_offer T) hr (by decide) (pv 0) (pa_cons (C8.pe_gc (by rfl) (c_MOST T)) (pa_cons (pv 1) (pa_cons (pv 4) (pa_cons (pe_op op_add (pe_ix ix_tup (pv 3) pe_int (fun _ _ => rfl)) (pe_ix ix_tup (pv 5) pe_int (fun _ _ => rfl))) (pa_cons (pe_tup (pa_cons pe_str (pa_cons (pe_ix ix_tup (pv 3) pe_int (fun _ _ => rfl)) (pa_cons (pe_ix ix_tup (pv 5) pe_int (fun _ _ => rfl)) pa_nil)))) pa_nil)))))))) pss_nil))))))), ?_⟩
    refine ⟨_, rfl, a.p, CM K, a.dx, _, _, rfl, M.obj, cl_Making T, na_Making_made T, mf_made, a.D, rfl, mk_isD M, _, rfl, _, rfl, (by show 3 ≤ sizeLine; decide), fun b nb => ?_⟩
    have s1 : Same H (upd H b (.tup [.str "most", .str x, .str y])) := same_upd nb
    have M1 := M.same s1
    obtain ⟨o, g, c⟩ := mk_get M1 (false, x, y) (x := b) upd_same
    refine ⟨o, g, _, rfl, rfl, _, rfl, ?_⟩
    unfold Se.goAlong at few q
    rcases c with ⟨el, rfl⟩ | ⟨v, u, el, rfl, hv⟩
    · rw [el] at few q
      exact iteT (q _ (.of s1) M1)
    · rw [el] at few q
      refine iteF ?_
      generalize upd H b (.tup [.str "most", .str x, .str y]) = H1 at s1 M1 hv g ⊢
      refine ⟨_, rfl, a.p, CM K, a.dx, _, _, rfl, M1.obj, cl_Making T, na_Making_names T, mf_names, ?_⟩
      refine ⟨a.nl, rfl, ⟨_, .inl (.inl M1.nl)⟩, for_list (K := K) (a := a.nl) (xs := (bsN m).map V.str) (fun i σ H2 => ∃ y4 y5 : Option V, σ = [some (.ref a.p), some (.str x), some (.str y), some (.ref u), y4, y5] ∧ Fr a H1 H2 ∧ MkAt K H2 a m (Se.walk (Se.stAlong x y v) ((bsN m).take i) st))
        ⟨none, none, rfl, fun b o e _ _ _ => e, M1⟩ (fun i σ H2 _ ⟨_, _, _, _, h⟩ => .inl (.inl h.nl)) ?_ ?_⟩
      · rintro i x' σ H2 hx ⟨y4, y5, rfl, fr, M2⟩
        obtain ⟨z, rfl, ez⟩ := str_at hx
        have hv2 := (fr.kt M1) _ _ hv
        refine ⟨_, rfl, a.p, CM K, a.dx, _, _, rfl, M2.obj, cl_Making T, na_Making_made T, mf_made, a.D, rfl, mk_isD M2, _, rfl, _, rfl, (by show 3 ≤ sizeLine; decide), fun b nb => ?_⟩
        have s3 : Same H2 (upd H2 b (.tup [.str "most", .str y, .str z])) := same_upd nb
        have M3 := M2.same s3
        obtain ⟨o, g3, c⟩ := mk_get M3 (false, y, z) (x := b) upd_same
        refine ⟨o, g3, _, rfl, rfl, _, rfl, ?_⟩
        have ew := walk_take (f := Se.stAlong x y v) (s := st) ez
        have lw := walk_few (Se.dn_stAlong x y v) (bsN m) i st
        generalize Se.walk (Se.stAlong x y v) ((bsN m).take i) st = t at *
        rcases c with ⟨el3, rfl⟩ | ⟨v', u', el3, rfl, hv'⟩
        · refine iteF ⟨_, _, rfl, fr.trans (.of s3), ?_⟩
          rw [ew]
          unfold Se.stAlong
          rw [el3]
          exact M3
        · refine iteT ?_
          have hv3 := s3 _ _ hv2
          generalize upd H2 b (.tup [.str "most", .str y, .str z]) = H3 at s3 M3 hv' hv3 g3 ⊢
          refine ⟨_, rfl, a.p, a.dx, _, rfl, M3.obj, mf_no (by decide +kernel), _, rfl, _, rfl, _, rfl, u, _, 0, _, rfl, rfl, .inl (.inl hv3), atI_nat (j := 0) rfl, _, rfl, u', _, 0, _, rfl, rfl, .inl (.inl hv'), atI_nat (j := 0) rfl, v.1, v'.1, rfl, rfl, _, rfl, u, _, 1, _, rfl, rfl, .inl (.inl hv3), atI_nat (j := 1) rfl, _, rfl, u', _, 1, _, rfl, rfl, .inl (.inl hv'), atI_nat (j := 1) rfl, (by show 3 ≤ sizeLine; decide), fun r nr => ?_⟩
          have s4 := same_upd (o := .tup (rrV (.along v.2 v'.2))) nr
          refine ⟨a, m, t, (false, x, z), v.1 + v'.1, r, .along v.2 v'.2, rfl, M3.same s4, upd_same, Nat.lt_of_le_of_lt lw few, fun H4 fr4 M4 => ⟨_, _, rfl, ((fr.trans (.of s3)).trans (.of s4)).trans fr4, ?_⟩⟩
          rw [ew]
          unfold Se.stAlong
          rw [el3]
          exact M4
      · rintro σ' H2 ⟨y4, y5, rfl, fr, M2⟩
        rw [List.length_map, List.take_length] at M2
        exact q _ ((Fr.of s1).trans fr) M2
def sp_waitM (K : PySem.W.Frag) : Sp := fun vs H Q _ => ∃ (a : MkA) (m : Md) (s : Se.MS Str) (e y : Str), vs = [.ref a.p, .str e, .str y] ∧ MkAt K H a m s ∧ (Se.goWait (bsN m) e y s).rows.length < 8000000 ∧
  ∀ H', Fr a H H' → MkAt K H' a m (Se.goWait (bsN m) e y s) → Q .non H'
theorem met_Making_go_wait (T : Tp K mg) : Met P w K mg base 3 (CM K) "go_wait" (sp_waitM K) := by
  obtain ⟨fd, F⟩ := f_Making_go_wait T
  refine met_of F (cl_Making T) (me_Making_go_wait T) (b_Making_go_wait F) sc_Making_go_wait (fun vs H Q E h => ?_) (fun cdv A outer s H vs Q E hr h => ?_)
  · obtain ⟨a, m, s, e, y, rfl, _⟩ := h
    rfl
  · obtain ⟨a, m, st, e, y, rfl, M, few, q⟩ := h
    have hu := hu_of hr
    refine ⟨_, (pss_cons (ps_set (i := 3) sc_Making_go_wait.nd rfl (.inl rfl) (pe_dget1 hu (pe_fld (pv 0) rfl) (pe_tup (pa_cons (C8.pe_gc (by rfl) (c_UNTIL T)) (pa_cons (pv 1) (pa_cons (pv 2) pa_nil)))) ⟨rfl, rfl, rfl, rfl⟩))
      (pss_cons (ps_if (pt_cmpR op_isN (pv 3) pe_non (nomark _)) (pss_one ps_retN) pss_nil)
      (pss_one (ps_for PassesOwn.never rfl (pi_list (pe_fld (pv 0) rfl)) (pg_name (i := 4) sc_Making_go_wait.nd rfl (.inl rfl))
        (pss_cons (ps_set (i := 5) sc_Making_go_wait.nd rfl (.inl rfl) (pe_dget1 hu (pe_fld (pv 0) rfl) (pe_tup (pa_cons (C8.pe_gc (by rfl) (c_MOST T)) (pa_cons (pv 4) (pa_cons (pv 2) pa_nil)))) ⟨rfl, rfl, rfl, rfl⟩))
        (pss_one (ps_if (pt_cmpR op_notN (pv 5) pe_non (nomark _)) (pss_one (ps_expr (C8.pe_mt (met_Making_offer T) hr (by decide) (pv 0) (pa_cons (C8.pe_gc (by rfl) (c_UNTIL T)) (pa_cons (pv 1) (pa_cons (pv 4) (pa_cons (pe_op op_add (pe_ix ix_tup (pv 5) pe_int (fun _ _ => rfl)) (pe_ix ix_tup (pv 3) pe_int (fun _ _ => rfl))) (pa_cons (pe_tup (pa_cons pe_str (pa_cons (pe_ix ix_tup (pv 5) pe_int (fun _ _ => rfl)) (pa_cons (pe_ix ix_tup (pv 3) pe_int (fun _ _ => rfl)) pa_nil)))) pa_nil)))))))) pss_nil))))))), ?_⟩
    refine ⟨_, rfl, a.p, CM K, a.dx, _, _, rfl, M.obj, cl_Making T, na_Making_made T, mf_made, a.D, rfl, mk_isD M, _, rfl, _, rfl, (by show 3 ≤ sizeLine; decide), fun b nb => ?_⟩
    have s1 : Same H (upd H b (.tup [.str "until", .str e, .str y])) := same_upd nb
    have M1 := M.same s1
    obtain ⟨o, g, c⟩ := mk_get M1 (true, e, y) (x := b) upd_same
    refine ⟨o, g, _, rfl, rfl, _, rfl, ?_⟩
    unfold Se.goWait at few q
    rcases c with ⟨el, rfl⟩ | ⟨v, u, el, rfl, hv⟩
    · rw [el] at few q
      exact iteT (q _ (.of s1) M1)
    · rw [el] at few q
      refine iteF ?_
      generalize upd H b (.tup [.str "until", .str e, .str y]) = H1 at s1 M1 hv g ⊢
      refine ⟨_, rfl, a.p, CM K, a.dx, _, _, rfl, M1.obj, cl_Making T, na_Making_names T, mf_names, ?_⟩
      refine ⟨a.nl, rfl, ⟨_, .inl (.inl M1.nl)⟩, for_list (K := K) (a := a.nl) (xs := (bsN m).map V.str) (fun i σ H2 => ∃ y4 y5 : Option V, σ = [some (.ref a.p), some (.str e), some (.str y), some (.ref u), y4, y5] ∧ Fr a H1 H2 ∧ MkAt K H2 a m (Se.walk (Se.stWait e y v) ((bsN m).take i) st))
        ⟨none, none, rfl, fun b o e _ _ _ => e, M1⟩ (fun i σ H2 _ ⟨_, _, _, _, h⟩ => .inl (.inl h.nl)) ?_ ?_⟩
      · rintro i x' σ H2 hx ⟨y4, y5, rfl, fr, M2⟩
        obtain ⟨x, rfl, ez⟩ := str_at hx
        have hv2 := (fr.kt M1) _ _ hv
        refine ⟨_, rfl, a.p, CM K, a.dx, _, _, rfl, M2.obj, cl_Making T, na_Making_made T, mf_made, a.D, rfl, mk_isD M2, _, rfl, _, rfl, (by show 3 ≤ sizeLine; decide), fun b nb => ?_⟩
        have s3 : Same H2 (upd H2 b (.tup [.str "most", .str x, .str y])) := same_upd nb
        have M3 := M2.same s3
        obtain ⟨o, g3, c⟩ := mk_get M3 (false, x, y) (x := b) upd_same
        refine ⟨o, g3, _, rfl, rfl, _, rfl, ?_⟩
        have ew := walk_take (f := Se.stWait e y v) (s := st) ez
        have lw := walk_few (Se.dn_stWait e y v) (bsN m) i st
        generalize Se.walk (Se.stWait e y v) ((bsN m).take i) st = t at *
        rcases c with ⟨el3, rfl⟩ | ⟨v', u', el3, rfl, hv'⟩
        · refine iteF ⟨_, _, rfl, fr.trans (.of s3), ?_⟩
          rw [ew]
          unfold Se.stWait
          rw [el3]
          exact M3
        · refine iteT ?_
          have hv3 := s3 _ _ hv2
          generalize upd H2 b (.tup [.str "most", .str x, .str y]) = H3 at s3 M3 hv' hv3 g3 ⊢
          refine ⟨_, rfl, a.p, a.dx, _, rfl, M3.obj, mf_no (by decide +kernel), _, rfl, _, rfl, _, rfl, u', _, 0, _, rfl, rfl, .inl (.inl hv'), atI_nat (j := 0) rfl, _, rfl, u, _, 0, _, rfl, rfl, .inl (.inl hv3), atI_nat (j := 0) rfl, v'.1, v.1, rfl, rfl, _, rfl, u', _, 1, _, rfl, rfl, .inl (.inl hv'), atI_nat (j := 1) rfl, _, rfl, u, _, 1, _, rfl, rfl, .inl (.inl hv3), atI_nat (j := 1) rfl, (by show 3 ≤ sizeLine; decide), fun r nr => ?_⟩
          have s4 := same_upd (o := .tup (rrV (.wait v'.2 v.2))) nr
          refine ⟨a, m, t, (true, e, x), v'.1 + v.1, r, .wait v'.2 v.2, rfl, M3.same s4, upd_same, Nat.lt_of_le_of_lt lw few, fun H4 fr4 M4 => ⟨_, _, rfl, ((fr.trans (.of s3)).trans (.of s4)).trans fr4, ?_⟩⟩
          rw [ew]
          unfold Se.stWait
          rw [el3]
          exact M4
      · rintro σ' H2 ⟨y4, y5, rfl, fr, M2⟩
        rw [List.length_map, List.take_length] at M2
        exact q _ ((Fr.of s1).trans fr) M2
end
end Tw

set_option maxHeartbeats 4000000
namespace Tw
open PySem PySem.Spec PyProof.Rows L2
/-! making.py: the single rules -/
def ftO (r : Ky × Int) : Ft := ⟨r.1.1, r.1.2.1, r.1.2.2, r.2⟩
theorem ft_wd (u : Bool) (x y : Str) (n : Int) : (Ft.mk u x y n).row = [.str (wdU u), .str x, .str y, .int n] := rfl
section
variable {P : Program} {w : World} {K : PySem.W.Frag} {mg : Str → Option Value} {base : Heap}
theorem sg_at (T : Tp K mg) {j : Nat} (hj : j < 3) : ∃ (f : Addr) (ok : Hk → Ft → Prop) (rule : Hk → Ft → Option Ft), PySem.W.nsIn K (He.ga K "SINGLE_RULES") (sgW j) = some (some (.ref f)) ∧ SS K (sgW j) f = some (sp_single ok rule) ∧ (∀ g o, okSure g o → ok g o) ∧ ∀ (g : Hk) (k : Ky) (n : Int), rule g ⟨k.1, k.2.1, k.2.2, n⟩ = (Se.one g j k n).map ftO := by
  match j, hj with
  | 0, _ =>
    refine ⟨He.ga K "sure", okSure, rSure, nt_SINGLE_RULES_sure T, by unfold SS; rw [if_pos (show sgW 0 = "sure" from rfl)]; exact one_at, fun _ _ h => h, fun g k n => ?_⟩
    unfold rSure Se.one
    show (if k.1 = true then (g k.2.1).map _ else none) = (if k.1 = true then (g k.2.1).map _ else none).map ftO
    split
    · rw [Option.map_map]; rfl
    · rfl
  | 1, _ =>
    refine ⟨He.ga K "soon", okAll, rSoon, nt_SINGLE_RULES_soon T, by unfold SS; rw [if_neg (by decide +kernel), if_pos (show sgW 1 = "soon" from rfl)]; exact one_at, fun _ _ _ => trivial, fun g k n => ?_⟩
    unfold rSoon Se.one
    show (if k.1 = false ∧ n < 0 then (g k.2.1).map _ else none) = (if k.1 = false ∧ n < 0 then (g k.2.1).map _ else none).map ftO
    split
    · rw [Option.map_map]; rfl
    · rfl
  | 2, _ =>
    refine ⟨He.ga K "ahead", okAll, rAhead, nt_SINGLE_RULES_ahead T, by unfold SS; rw [if_neg (by decide +kernel), if_neg (by decide +kernel)]; exact one_at, fun _ _ _ => trivial, fun g k n => ?_⟩
    unfold rAhead Se.one
    show (if k.1 = true ∧ ¬ k.2.1 = k.2.2 ∧ n < 0 then (g k.2.2).map _ else none) = (if k.1 = true ∧ ¬ k.2.1 = k.2.2 ∧ n < 0 then (g k.2.2).map _ else none).map ftO
    split
    · rw [Option.map_map]; rfl
    · rfl
theorem keys_at {H : Hp} {kvs : List (List Key × V)} {l : List (Ky × (Int × Option Nat))} (h : MdV H kvs l) {bs : List Addr} (g : IsKeys H kvs bs) {i : Nat} {x : V} (e : (bs.map V.ref)[i]? = some x) : ∃ b k, x = .ref b ∧ (l.map (·.1))[i]? = some k ∧ H b = some (.tup (kyR k)) := by
  unfold MdV at h
  unfold IsKeys at g
  induction h generalizing bs i with
  | nil => cases g; cases e
  | cons hc _ ih =>
    cases g with
    | cons hb g =>
      cases i with
      | zero =>
        cases e
        refine ⟨_, _, rfl, rfl, ?_⟩
        rw [hb, hc.1]
        rfl
      | succ i => exact ih g e
/-- what the single rules take -/
structure SgOk (m : Md) (F : Int) : Prop where
  wb : Se.Wb (bsN m) (enN m) (hkOf (hs m.wd)) F
  hk : ∀ e ∈ enN m, (hkOf (hs m.wd) e).isSome = true
def sp_gosg (K : PySem.W.Frag) : Sp := fun vs H Q _ => ∃ (a : MkA) (m : Md) (s : Se.MS Str) (j : Nat) (F : Int), vs = [.ref a.p, .str (sgW j)] ∧ j < 3 ∧ SgOk m F ∧ Se.Just (Se.keys (bsN m) (enN m)) s ∧ MkAt K H a m s ∧ (Se.goOne (hkOf (hs m.wd)) j s).rows.length < 8000000 ∧
  ∀ H', Fr a H H' → MkAt K H' a m (Se.goOne (hkOf (hs m.wd)) j s) → Q .non H'
theorem met_Making_go_single (T : Tp K mg) (TB : Tbs w K) : Met P w K mg base 3 (CM K) "go_single" (sp_gosg K) := by
  obtain ⟨fd, F⟩ := f_Making_go_single T
  refine met_of F (cl_Making T) (me_Making_go_single T) (b_Making_go_single F) sc_Making_go_single (fun vs H Q E h => ?_) (fun cdv A outer s H vs Q E hr h => ?_)
  · obtain ⟨a, m, s, j, F, rfl, _⟩ := h
    rfl
  · obtain ⟨a, m, st, j, F', rfl, hj, SO, J, M, few, q⟩ := h
    have hu := hu_of hr
    obtain ⟨es2, n2, DS⟩ := TB (fun K => He.ga K "SINGLE_RULES", ["sure", "soon", "ahead"]) (by first | exact List.mem_cons_self | exact List.mem_cons_of_mem _ List.mem_cons_self)
    obtain ⟨f, ok, rule, hn, hS, hok, hrule⟩ := sg_at T hj
    obtain ⟨z, ez⟩ : ∃ z, sgW j = z := ⟨_, rfl⟩
    rw [ez] at hn hS
    refine ⟨_, (pss_cons (ps_set (i := 2) sc_Making_go_single.nd rfl (.inl rfl) (pe_ix ix_kdict (pe_glob (v := .ref (He.ga K "SINGLE_RULES")) (by rfl) (g_SINGLE_RULES T) rfl) (pv 1) (fun _ _ => rfl)))
      (pss_one (ps_for PassesOwn.never rfl (pi_list (pe_callTy (call_list_dT rfl) (by rfl) (z_list T) bb_list (pa_cons (pe_fld (pv 0) rfl) pa_nil))) (pg_tup rfl (pgs_cons (pg_name (i := 3) sc_Making_go_single.nd rfl (.inl rfl)) (pgs_cons (pg_name (i := 4) sc_Making_go_single.nd rfl (.inl rfl)) (pgs_cons (pg_name (i := 5) sc_Making_go_single.nd rfl (.inl rfl)) pgs_nil))))
        (pss_cons (ps_asg (pe_dget hu (pe_fld (pv 0) rfl) (pe_tup (pa_cons (pv 3) (pa_cons (pv 4) (pa_cons (pv 5) pa_nil)))) (fun _ _ => rfl)) (pg_tup rfl (pgs_cons (pg_name (i := 6) sc_Making_go_single.nd rfl (.inl rfl)) (pgs_cons (pg_name (i := 7) sc_Making_go_single.nd rfl (.inl rfl)) pgs_nil))))
        (pss_cons (ps_set (i := 8) sc_Making_go_single.nd rfl (.inl rfl) (pe_callA (i := 2) (heldS T z) (hr.mono (by decide)) rfl (.inl rfl) (pa_cons (pe_fld (pv 0) rfl) (pa_cons (pe_tup (pa_cons (pv 3) (pa_cons (pv 4) (pa_cons (pv 5) (pa_cons (pv 6) pa_nil))))) pa_nil))))
        (pss_one (ps_if (pt_cmpR op_notN (pv 8) pe_non (nomark _)) (pss_one (ps_expr (C8.pe_mt (met_Making_offer T) hr (by decide) (pv 0) (pa_cons (pe_ix ix_tup (pv 8) pe_int (fun _ _ => rfl)) (pa_cons (pe_ix ix_tup (pv 8) pe_int (fun _ _ => rfl)) (pa_cons (pe_ix ix_tup (pv 8) pe_int (fun _ _ => rfl)) (pa_cons (pe_ix ix_tup (pv 8) pe_int (fun _ _ => rfl)) (pa_cons (pe_tup (pa_cons (pv 1) (pa_cons (pv 7) pa_nil))) pa_nil)))))))) pss_nil))))))), ?_⟩
    refine ⟨_, rfl, He.ga K "SINGLE_RULES", _, .ref f, rfl, rfl, ⟨es2, n2, _, DS.at_, DS.lit, by rw [ez]; exact hn, rfl⟩, ?_⟩
    obtain ⟨kvs, hD, hV⟩ := M.dict
    refine ⟨_, rfl, a.p, CM K, a.dx, _, _, rfl, M.obj, cl_Making T, na_Making_made T, mf_made, a.D, kvs, rfl, .inl hD, fun L bs nL hb => ⟨L, rfl, ⟨_, .inl (.inl upd_same)⟩, ?_⟩⟩
    have s1 : Same H (upd H L (.lst (bs.map V.ref))) := same_upd nL
    have M1 := M.same s1
    have hL1 : upd H L (.lst (bs.map V.ref)) L = some (.lst (bs.map V.ref)) := upd_same
    have nLp : L ≠ a.p := fun e => by rw [e, M.obj] at nL; cases nL
    have nLD : L ≠ a.D := fun e => by rw [e, hD] at nL; cases nL
    obtain ⟨xs0, hL0, _⟩ := M.rows
    have nLL : L ≠ a.L := fun e => by rw [e, hL0] at nL; cases nL
    generalize upd H L (.lst (bs.map V.ref)) = H1 at s1 M1 hL1 ⊢
    refine for_list (K := K) (a := L) (xs := bs.map V.ref) (fun i σ H2 => ∃ y3 y4 y5 y6 y7 y8 : Option V, σ = [some (.ref a.p), some (.str (sgW j)), some (.ref f), y3, y4, y5, y6, y7, y8] ∧ Fr a H1 H2 ∧ Se.Just (Se.keys (bsN m) (enN m)) (Se.walk (Se.stOne (hkOf (hs m.wd)) j) ((st.made.map (·.1)).take i) st) ∧ MkAt K H2 a m (Se.walk (Se.stOne (hkOf (hs m.wd)) j) ((st.made.map (·.1)).take i) st))
      ⟨none, none, none, none, none, none, rfl, fun b o e _ _ _ => e, J, M1⟩ (fun i σ H2 _ ⟨_, _, _, _, _, _, _, fr, _⟩ => .inl (.inl (fr _ _ hL1 nLp nLD nLL))) ?_ ?_
    · rintro i x σ H2 hx ⟨y3, y4, y5, y6, y7, y8, rfl, fr, J2, M2⟩
      obtain ⟨b, k, rfl, ek, hbk⟩ := keys_at hV hb hx
      have hb2 := (fr.kt M1) _ _ (s1 _ _ hbk)
      have ew := walk_take (f := Se.stOne (hkOf (hs m.wd)) j) (s := st) ek
      have lw := walk_few (Se.dn_stOne (hkOf (hs m.wd)) j) (st.made.map (·.1)) i st
      have dw := Se.dn_walk (Se.dn_stOne (hkOf (hs m.wd)) j) ((st.made.map (·.1)).take i) st
      generalize Se.walk (Se.stOne (hkOf (hs m.wd)) j) ((st.made.map (·.1)).take i) st = t at *
      refine ⟨b, _, rfl, .inl (.inl hb2), rfl, _, _, rfl, _, _, rfl, _, _, rfl, rfl, ?_⟩
      refine ⟨_, rfl, a.p, CM K, a.dx, _, _, rfl, M2.obj, cl_Making T, na_Making_made T, mf_made, _, rfl, _, rfl, _, rfl, (by show 3 ≤ sizeLine; decide), fun c nc => ?_⟩
      have s3 : Same H2 (upd H2 c (.tup [.str (wdU k.1), .str k.2.1, .str k.2.2])) := same_upd nc
      have M3 := M2.same s3
      obtain ⟨o, g3, c3⟩ := mk_get M3 k (x := c) upd_same
      obtain ⟨v, u, el, rfl, hv⟩ : ∃ v u, Se.look k t.made = some v ∧ o = some (.ref u) ∧ upd H2 c (.tup [.str (wdU k.1), .str k.2.1, .str k.2.2]) u = some (.tup (vlR v)) := by
        rcases c3 with ⟨el, _⟩ | h
        · exfalso
          obtain ⟨v0, h0⟩ := Se.look_mem (List.mem_of_getElem? ek)
          obtain ⟨n, en, _⟩ := dw.le k v0.1 (Se.Le.of (Se.at_of h0))
          obtain ⟨p, hp⟩ := Se.of_at en
          rw [el] at hp
          cases hp
        · exact h
      refine ⟨a.D, .ref u, rfl, g3, u, _, rfl, .inl (.inl hv), rfl, _, _, rfl, _, _, rfl, rfl, ?_⟩
      generalize upd H2 c (.tup [.str (wdU k.1), .str k.2.1, .str k.2.2]) = H3 at s3 M3 hv g3 ⊢
      refine ⟨f, sp_single ok rule, rfl, hS, _, rfl, a.p, CM K, a.dx, _, _, rfl, M3.obj, cl_Making T, na_Making_heard T, mf_heard, _, rfl, _, rfl, _, rfl, _, rfl, (by show 4 ≤ sizeLine; decide), fun d nd => ?_⟩
      have s4 : Same H3 (upd H3 d (.tup [.str (wdU k.1), .str k.2.1, .str k.2.2, .int v.1])) := same_upd nd
      have M4 := M3.same s4
      have okk : okSure (hkOf (hs m.wd)) ⟨k.1, k.2.1, k.2.2, v.1⟩ := fun e => by
        have hk := J2 k v.1 (Se.at_of el)
        obtain ⟨uu, ka, kb⟩ := k
        have e : uu = true := e
        rw [e] at hk
        exact SO.hk ka (Se.mem_until.1 hk).1
      refine ⟨a.hd, d, hkOf (hs m.wd), ⟨k.1, k.2.1, k.2.2, v.1⟩, rfl, M4.hd, upd_same, hok _ _ okk, ?_⟩
      rw [hrule]
      have fr4 := (fr.trans (.of s3)).trans (.of s4)
      have J3 := Se.just_stOne SO.wb j J2 k
      generalize upd H3 d (.tup [.str (wdU k.1), .str k.2.1, .str k.2.2, .int v.1]) = H4 at s4 M4 fr4 ⊢
      cases eo : Se.one (hkOf (hs m.wd)) j k v.1 with
      | none =>
        have e1 : Se.stOne (hkOf (hs m.wd)) j t k = t := by
          unfold Se.stOne
          rw [el]
          simp only [eo]
        refine ⟨fun _ => ?_, fun _ z => nomatch z⟩
        refine ⟨_, rfl, rfl, _, rfl, iteF ⟨_, _, _, _, _, _, rfl, fr4, ?_, ?_⟩⟩
        · rw [ew]; exact J3
        · rw [ew, e1]; exact M4
      | some r =>
        have e1 : Se.stOne (hkOf (hs m.wd)) j t k = Se.offer t r.1 r.2 (.sg j v.2) := by
          unfold Se.stOne
          rw [el]
          simp only [eo]
        refine ⟨(fun z => nomatch z), fun f' ef' t' nt' => ?_⟩
        cases ef'
        have s5 : Same H4 (upd H4 t' (.tup (ftO r).row)) := same_upd nt'
        have hf' : upd H4 t' (.tup (ftO r).row) t' = some (.tup (ftO r).row) := upd_same
        have M5 := M4.same s5
        generalize upd H4 t' (.tup (ftO r).row) = H5 at s5 hf' M5 ⊢
        refine ⟨_, rfl, rfl, _, rfl, iteT ?_⟩
        refine ⟨_, rfl, a.p, a.dx, _, rfl, M5.obj, mf_no (by decide +kernel), _, rfl, t', _, 0, _, rfl, rfl, .inl (.inl hf'), atI_nat (j := 0) rfl, _, rfl, t', _, 1, _, rfl, rfl, .inl (.inl hf'), atI_nat (j := 1) rfl, _, rfl, t', _, 2, _, rfl, rfl, .inl (.inl hf'), atI_nat (j := 2) rfl, _, rfl, t', _, 3, _, rfl, rfl, .inl (.inl hf'), atI_nat (j := 3) rfl, _, rfl, _, rfl, (by show 2 ≤ sizeLine; decide), fun rr nr => ?_⟩
        have s6 := same_upd (o := .tup (rrV (.sg j v.2))) nr
        refine ⟨a, m, t, r.1, r.2, rr, .sg j v.2, rfl, M5.same s6, upd_same, Nat.lt_of_le_of_lt lw few, fun H7 fr7 M7 => ⟨_, _, _, _, _, _, rfl, ((fr4.trans (.of s5)).trans (.of s6)).trans fr7, ?_, ?_⟩⟩
        · rw [ew]; exact J3
        · rw [ew, e1]; exact M7
    · rintro σ' H2 ⟨y3, y4, y5, y6, y7, y8, rfl, fr, _, M2⟩
      have el : (bs.map V.ref).length = (st.made.map (·.1)).length := by
        rw [List.length_map, List.length_map, ← hV.len]
        exact (Paired.length hb).symm
      rw [el, List.take_length] at M2
      exact q _ ((Fr.of s1).trans fr) M2
end
end Tw

set_option maxHeartbeats 4000000
namespace Tw
open PySem PySem.Spec PyProof.Rows L2
/-! making.py: a whole round -/
def sgN (hk : Hk) : Nat → Se.MS Str → Se.MS Str
  | 0, s => s
  | n + 1, s => Se.goOne hk n (sgN hk n s)
theorem dn_sgN (hk : Hk) (n : Nat) (s : Se.MS Str) : Se.Dn s (sgN hk n s) := by
  induction n with
  | zero => exact .refl s
  | succ n ih => exact ih.trans (Se.dn_goOne hk n _)
theorem sgN_few (hk : Hk) (s : Se.MS Str) {n m : Nat} (h : n ≤ m) : (sgN hk n s).rows.length ≤ (sgN hk m s).rows.length := by
  induction m with
  | zero => rw [show n = 0 by omega]; exact Nat.le_refl _
  | succ m ih =>
    by_cases c : n = m + 1
    · rw [c]; exact Nat.le_refl _
    · exact Nat.le_trans (ih (by omega)) (Se.dn_goOne hk m _).rows
theorem just_sgN {ns es : List Str} {hk : Hk} {F : Int} (H : Se.Wb ns es hk F) (n : Nat) {s : Se.MS Str} (h : Se.Just (Se.keys ns es) s) : Se.Just (Se.keys ns es) (sgN hk n s) := by
  induction n with
  | zero => exact h
  | succ n ih => exact Se.just_goOne H n ih
section
variable {P : Program} {w : World} {K : PySem.W.Frag} {mg : Str → Option Value} {base : Heap}
/-- the tables of the top, with their keys in order -/
abbrev Tbo (w : World) (K : PySem.W.Frag) : Prop := ∀ t ∈ tb, He.dicW K (t.1 K) = some (He.keysIn w.params t.2)
theorem tbo_tbs (TO : Tbo w K) : Tbs w K := fun t ht => He.dicW_ok (TO t ht)
def sp_round (K : PySem.W.Frag) : Sp := fun vs H Q _ => ∃ (a : MkA) (m : Md) (s : Se.MS Str) (F : Int), vs = [.ref a.p] ∧ SgOk m F ∧ Se.Just (Se.keys (bsN m) (enN m)) s ∧ MkAt K H a m s ∧ (Se.goRound (bsN m) (enN m) (hkOf (hs m.wd)) s).rows.length < 8000000 ∧
  ∀ H', Fr a H H' → MkAt K H' a m (Se.goRound (bsN m) (enN m) (hkOf (hs m.wd)) s) → Q .non H'
theorem met_Making_go_round (T : Tp K mg) (TO : Tbo w K) : Met P w K mg base 4 (CM K) "go_round" (sp_round K) := by
  have TB := tbo_tbs TO
  obtain ⟨fd, F⟩ := f_Making_go_round T
  refine met_of F (cl_Making T) (me_Making_go_round T) (b_Making_go_round F) sc_Making_go_round (fun vs H Q E h => ?_) (fun cdv A outer s H vs Q E hr h => ?_)
  · obtain ⟨a, m, s, F, rfl, _⟩ := h
    rfl
  · obtain ⟨a, m, st, F', rfl, SO, J, M, few, q⟩ := h
    have hu := hu_of hr
    obtain ⟨es2, n2, DS, hks⟩ := kd_all (TO (fun K => He.ga K "SINGLE_RULES", ["sure", "soon", "ahead"]) (by first | exact List.mem_cons_self | exact List.mem_cons_of_mem _ List.mem_cons_self))
    have hG : Se.goRound (bsN m) (enN m) (hkOf (hs m.wd)) st = sgN (hkOf (hs m.wd)) 3 (Se.goWaits (bsN m) (enN m) (Se.goAlongs (bsN m) st)) := rfl
    rw [hG] at few q
    have d1 : ∀ (t : Se.MS Str) (y : Str), Se.Dn t (Se.walk (fun s x => Se.goAlong (bsN m) x y s) (bsN m) t) := fun t y => Se.dn_walk (fun s x => Se.dn_goAlong (bsN m) x y s) _ t
    have d2 : ∀ (t : Se.MS Str) (e : Str), Se.Dn t (Se.walk (fun s y => Se.goWait (bsN m) e y s) (bsN m) t) := fun t e => Se.dn_walk (fun s y => Se.dn_goWait (bsN m) e y s) _ t
    have f2 : (Se.goWaits (bsN m) (enN m) (Se.goAlongs (bsN m) st)).rows.length < 8000000 := Nat.lt_of_le_of_lt (dn_sgN _ 3 _).rows few
    have f1 : (Se.goAlongs (bsN m) st).rows.length < 8000000 := Nat.lt_of_le_of_lt (Se.dn_goWaits _ _ _).rows f2
    have J1 := Se.just_goAlongs (ns := bsN m) J
    have J2 := Se.just_goWaits (es := enN m) J1
    refine ⟨_, (pss_cons (ps_for PassesOwn.never rfl (pi_list (pe_fld (pv 0) rfl)) (pg_name (i := 1) sc_Making_go_round.nd rfl (.inl rfl))
        (pss_one (ps_for PassesOwn.never rfl (pi_list (pe_fld (pv 0) rfl)) (pg_name (i := 2) sc_Making_go_round.nd rfl (.inl rfl))
          (pss_one (ps_expr (C8.pe_mt (met_Making_go_along T) hr (by decide) (pv 0) (pa_cons (pv 2) (pa_cons (pv 1) pa_nil))))))))
      (pss_cons (ps_for PassesOwn.never rfl (pi_list (pe_fld (pv 0) rfl)) (pg_name (i := 3) sc_Making_go_round.nd rfl (.inl rfl))
        (pss_one (ps_for PassesOwn.never rfl (pi_list (pe_fld (pv 0) rfl)) (pg_name (i := 1) sc_Making_go_round.nd rfl (.inl rfl))
          (pss_one (ps_expr (C8.pe_mt (met_Making_go_wait T) hr (by decide) (pv 0) (pa_cons (pv 3) (pa_cons (pv 1) pa_nil))))))))
      (pss_one (ps_for PassesOwn.never rfl ((pi_kd DS hks) (pe_glob (v := .ref (He.ga K "SINGLE_RULES")) (by rfl) (g_SINGLE_RULES T) rfl)) (pg_name (i := 4) sc_Making_go_round.nd rfl (.inl rfl))
        (pss_one (ps_expr (C8.pe_mt (met_Making_go_single T TB) hr (by decide) (pv 0) (pa_cons (pv 4) pa_nil)))))))), ?_⟩
    -- for y in names: for x in names
    refine ⟨_, rfl, a.p, CM K, a.dx, _, _, rfl, M.obj, cl_Making T, na_Making_names T, mf_names, a.nl, rfl, ⟨_, .inl (.inl M.nl)⟩, for_list (K := K) (a := a.nl) (xs := (bsN m).map V.str) (fun i σ H2 => ∃ y1 y2 : Option V, σ = [some (.ref a.p), y1, y2, none, none] ∧ Fr a H H2 ∧ MkAt K H2 a m (Se.walk (fun s y => Se.walk (fun s x => Se.goAlong (bsN m) x y s) (bsN m) s) ((bsN m).take i) st))
      ⟨none, none, rfl, fun b o e _ _ _ => e, M⟩ (fun i σ H2 _ ⟨_, _, _, _, h⟩ => .inl (.inl h.nl)) ?_ ?_⟩
    · rintro i x' σ H2 hx ⟨y1, y2, rfl, fr, M2⟩
      obtain ⟨y, rfl, ey⟩ := str_at hx
      have ew := walk_take (f := fun s y => Se.walk (fun s x => Se.goAlong (bsN m) x y s) (bsN m) s) (s := st) ey
      have lw := walk_few d1 (bsN m) (i + 1) st
      generalize Se.walk (fun s y => Se.walk (fun s x => Se.goAlong (bsN m) x y s) (bsN m) s) ((bsN m).take i) st = t at *
      rw [ew] at lw
      refine ⟨_, rfl, a.p, CM K, a.dx, _, _, rfl, M2.obj, cl_Making T, na_Making_names T, mf_names, a.nl, rfl, ⟨_, .inl (.inl M2.nl)⟩, for_list (K := K) (a := a.nl) (xs := (bsN m).map V.str) (fun j σ H3 => ∃ y2 : Option V, σ = [some (.ref a.p), some (.str y), y2, none, none] ∧ Fr a H H3 ∧ MkAt K H3 a m (Se.walk (fun s x => Se.goAlong (bsN m) x y s) ((bsN m).take j) t))
        ⟨_, rfl, fr, M2⟩ (fun i σ H2 _ ⟨_, _, _, h⟩ => .inl (.inl h.nl)) ?_ ?_⟩
      · rintro j x' σ H3 hx ⟨y2, rfl, fr3, M3⟩
        obtain ⟨x, rfl, ex⟩ := str_at hx
        have ew3 := walk_take (f := fun s x => Se.goAlong (bsN m) x y s) (s := t) ex
        have lw3 := walk_few (f := fun s x => Se.goAlong (bsN m) x y s) (fun s x => Se.dn_goAlong (bsN m) x y s) (bsN m) (j + 1) t
        rw [ew3] at lw3
        refine ⟨_, rfl, a.p, a.dx, _, rfl, M3.obj, mf_no (by decide +kernel), _, rfl, _, rfl, a, m, _, x, y, rfl, M3, ?_, fun H4 fr4 M4 => ⟨_, rfl, fr3.trans fr4, ?_⟩⟩
        · exact Nat.lt_of_le_of_lt lw3 (Nat.lt_of_le_of_lt lw f1)
        · rw [ew3]; exact M4
      · rintro σ' H3 ⟨y2, rfl, fr3, M3⟩
        rw [List.length_map, List.take_length] at M3
        exact ⟨_, _, rfl, fr3, by rw [ew]; exact M3⟩
    · rintro σ' H2 ⟨y1, y2, rfl, fr, M2⟩
      rw [List.length_map, List.take_length] at M2
      have M2 : MkAt K H2 a m (Se.goAlongs (bsN m) st) := M2
      generalize Se.goAlongs (bsN m) st = t1 at *
      -- for end in ends: for y in names
      refine ⟨_, rfl, a.p, CM K, a.dx, _, _, rfl, M2.obj, cl_Making T, na_Making_ends T, mf_ends, a.el, rfl, ⟨_, .inl (.inl M2.el)⟩, for_list (K := K) (a := a.el) (xs := (enN m).map V.str) (fun i σ H2 => ∃ y1 y2 y3 : Option V, σ = [some (.ref a.p), y1, y2, y3, none] ∧ Fr a H H2 ∧ MkAt K H2 a m (Se.walk (fun s e => Se.walk (fun s y => Se.goWait (bsN m) e y s) (bsN m) s) ((enN m).take i) t1))
        ⟨_, _, _, rfl, fr, M2⟩ (fun i σ H2 _ ⟨_, _, _, _, _, h⟩ => .inl (.inl h.el)) ?_ ?_⟩
      · rintro i x' σ H2 hx ⟨y1, y2, y3, rfl, fr, M2⟩
        obtain ⟨e, rfl, ey⟩ := str_at hx
        have ew := walk_take (f := fun s e => Se.walk (fun s y => Se.goWait (bsN m) e y s) (bsN m) s) (s := t1) ey
        have lw := walk_few d2 (enN m) (i + 1) t1
        generalize Se.walk (fun s e => Se.walk (fun s y => Se.goWait (bsN m) e y s) (bsN m) s) ((enN m).take i) t1 = t at *
        rw [ew] at lw
        refine ⟨_, rfl, a.p, CM K, a.dx, _, _, rfl, M2.obj, cl_Making T, na_Making_names T, mf_names, a.nl, rfl, ⟨_, .inl (.inl M2.nl)⟩, for_list (K := K) (a := a.nl) (xs := (bsN m).map V.str) (fun j σ H3 => ∃ y1 : Option V, σ = [some (.ref a.p), y1, y2, some (.str e), none] ∧ Fr a H H3 ∧ MkAt K H3 a m (Se.walk (fun s y => Se.goWait (bsN m) e y s) ((bsN m).take j) t))
          ⟨_, rfl, fr, M2⟩ (fun i σ H2 _ ⟨_, _, _, h⟩ => .inl (.inl h.nl)) ?_ ?_⟩
        · rintro j x' σ H3 hx ⟨y1, rfl, fr3, M3⟩
          obtain ⟨y, rfl, ex⟩ := str_at hx
          have ew3 := walk_take (f := fun s y => Se.goWait (bsN m) e y s) (s := t) ex
          have lw3 := walk_few (f := fun s y => Se.goWait (bsN m) e y s) (fun s y => Se.dn_goWait (bsN m) e y s) (bsN m) (j + 1) t
          rw [ew3] at lw3
          refine ⟨_, rfl, a.p, a.dx, _, rfl, M3.obj, mf_no (by decide +kernel), _, rfl, _, rfl, a, m, _, e, y, rfl, M3, ?_, fun H4 fr4 M4 => ⟨_, rfl, fr3.trans fr4, ?_⟩⟩
          · exact Nat.lt_of_le_of_lt lw3 (Nat.lt_of_le_of_lt lw f2)
          · rw [ew3]; exact M4
        · rintro σ' H3 ⟨y1, rfl, fr3, M3⟩
          rw [List.length_map, List.take_length] at M3
          exact ⟨_, _, _, rfl, fr3, by rw [ew]; exact M3⟩
      · rintro σ' H2 ⟨y1, y2, y3, rfl, fr, M2⟩
        rw [List.length_map, List.take_length] at M2
        have M2 : MkAt K H2 a m (Se.goWaits (bsN m) (enN m) t1) := M2
        generalize Se.goWaits (bsN m) (enN m) t1 = t2 at *
        -- for word in SINGLE_RULES
        refine ⟨rfl, for_kd (fun i σ H2 => ∃ y4 : Option V, σ = [some (.ref a.p), y1, y2, y3, y4] ∧ Fr a H H2 ∧ MkAt K H2 a m (sgN (hkOf (hs m.wd)) i t2)) ⟨_, rfl, fr, M2⟩ ?_ ?_⟩
        · rintro i z σ H3 hz ⟨y4, rfl, fr3, M3⟩
          have hi : i < 3 := (List.getElem?_eq_some_iff.mp hz).1
          have ez : z = sgW i := by
            match i, hi, hz with
            | 0, _, hz => exact (Option.some.inj hz).symm
            | 1, _, hz => exact (Option.some.inj hz).symm
            | 2, _, hz => exact (Option.some.inj hz).symm
          subst ez
          refine ⟨_, rfl, a.p, a.dx, _, rfl, M3.obj, mf_no (by decide +kernel), _, rfl, a, m, _, i, F', rfl, hi, SO, just_sgN SO.wb i J2, M3, ?_, fun H4 fr4 M4 => ⟨_, rfl, fr3.trans fr4, M4⟩⟩
          exact Nat.lt_of_le_of_lt (sgN_few (hkOf (hs m.wd)) t2 (show i + 1 ≤ 3 by omega)) few
        · rintro σ' H3 ⟨y4, rfl, fr3, M3⟩
          exact q _ fr3 M3
end
end Tw

set_option maxHeartbeats 4000000
namespace Tw
open PySem PySem.Spec PyProof.Rows L2
/-! settle.py: make_all, which ends -/
section
variable {P : Program} {w : World} {K : PySem.W.Frag} {mg : Str → Option Value} {base : Heap}
/-- bounds of what a web tells, and what it tells -/
structure Mg where
  B : Nat
  M : Nat
  F : Nat
  bn : List (Str × Str × Int)
  lt : List (Str × Int)
abbrev OkM (m : Md) (g : Mg) (s : Se.MS Str) : Prop := Se.Ok (bsN m) (enN m) "start" g.B g.M g.F g.bn g.lt s
abbrev ClM (m : Md) (s : Se.MS Str) : Prop := Se.Closed (bsN m) (enN m) (hkOf (hs m.wd)) s
abbrev RsM (m : Md) (g : Mg) (s : Se.MS Str) : Prop := Se.RsE (hkOf (hs m.wd)) g.bn g.lt s
def sp_all (K : PySem.W.Frag) : Sp := fun vs H Q _ => ∃ (a : MkA) (m : Md) (g : Mg) (s : Se.MS Str), vs = [.ref a.p] ∧ SgOk m g.F ∧ Se.most (bsN m) (enN m) g.B g.M g.F g.bn g.lt < 8000000 ∧ s.rows.length < 8000000 ∧ MkAt K H a m s ∧ RsM m g s ∧ (s.fault = none → OkM m g s) ∧
  ∀ t H', Fr a H H' → MkAt K H' a m t → RsM m g t → t.rows.length < 8000000 → (t.fault = none → OkM m g t ∧ ClM m t) → Q .non H'
theorem cal_make_all (T : Tp K mg) (TO : Tbo w K) : Cal P w K mg base 5 "make_all" (sp_all K) := by
  obtain ⟨fd, F⟩ := f_make_all T
  refine cal_of F (g_make_all T) (b_make_all F) sc_make_all (fun vs H Q E h => ?_) (fun cdv A outer s H vs Q E hr h => ?_)
  · obtain ⟨a, m, g, s, rfl, _⟩ := h
    rfl
  · obtain ⟨a, m, g, st, rfl, SO, big, few, M, R, ok, q⟩ := h
    have e1 : ((g.M + 4 * g.B + g.F : Nat) : Int) = (g.M : Int) + 4 * g.B + g.F := by omega
    have e2 : ((4 * g.B : Nat) : Int) = 4 * (g.B : Int) := by omega
    refine ⟨_, (pss_cons (ps_set (i := 1) sc_make_all.nd rfl (.inl rfl) (pe_un un_neg pe_int))
      (pss_one (ps_while PassesOwn.never (PW.pt (pw_and (pt_cmpR op_lt (pv 1) (pe_callB call_len_seq (by rfl) (z_len T) bb_len (pa_cons (pe_fld (pv 0) rfl) pa_nil)) (nomark _)) (pw_and1 (pt_cmpR op_isN (pe_fld (pv 0) rfl) pe_non (nomark _))))) (pss_cons (ps_set (i := 1) sc_make_all.nd rfl (.inl rfl) (pe_callB call_len_seq (by rfl) (z_len T) bb_len (pa_cons (pe_fld (pv 0) rfl) pa_nil)))
        (pss_one (ps_expr (C8.pe_mt0 (met_Making_go_round T TO) hr (by decide) (pv 0)))))))), ?_⟩
    refine ⟨1, rfl, fun k σ H' => ∃ (c : Int) (t : Se.MS Str), σ = [some (.ref a.p), some (.int c)] ∧ Fr a H H' ∧ MkAt K H' a m t ∧ RsM m g t ∧ t.rows.length < 8000000 ∧ (t.fault = none → OkM m g t) ∧ (t.fault = none → (t.rows.length : Int) ≤ c → ClM m t) ∧ k = Se.left (bsN m) (enN m) (g.M + 4 * g.B + g.F) (g.M + 8 * g.B + g.F + 1) c t, ⟨_, -1, st, rfl, fun b o e _ _ _ => e, M, R, few, ok, fun _ z => by omega, rfl⟩, ?_⟩
    rintro k σ H2 ⟨c, t, rfl, fr, M2, R2, few2, ok2, cl2, rfl⟩
    obtain ⟨xs, hL, hR⟩ := M2.rows
    have lx : xs.length = t.rows.length := by rw [hR.len, List.length_map]
    refine ⟨_, rfl, _, rfl, a.p, CM K, a.dx, _, _, rfl, M2.obj, cl_Making T, na_Making_rows T, mf_rows, a.L, xs, rfl, .inl (.inl (.inl hL)), c, _, rfl, rfl, _, rfl, ?_⟩
    by_cases lc : c < (xs.length : Int)
    · rw [decide_eq_true lc]
      refine iteT ⟨_, rfl, a.p, CM K, a.dx, _, _, rfl, M2.obj, cl_Making T, na_Making_fault T, mf_fault, rfl, _, rfl, ?_⟩
      cases ef : t.fault with
      | some j => exact iteF (q t H2 fr M2 R2 few2 fun z => by rw [ef] at z; cases z)
      | none =>
        have ok3 := ok2 ef
        obtain ⟨big3, next⟩ := Se.round_ok SO.wb (by omega) (by omega) (by omega) ok3
        have R3 := Se.rs_goRound (ns := bsN m) (es := enN m) R2
        have less := Se.round_left (hk := hkOf (hs m.wd)) (C := g.M + 4 * g.B + g.F) (U := 4 * g.B) (Z := g.M + 8 * g.B + g.F + 1) (by omega) ef (c := c) (by omega) fun z => by
          rw [e1, e2]
          exact ⟨(next z).1.hd.just, (next z).2⟩
        refine iteT ⟨fun σ' H' => σ' = [some (.ref a.p), some (.int (t.rows.length : Nat))] ∧ Fr a H H' ∧ MkAt K H' a m (Se.goRound (bsN m) (enN m) (hkOf (hs m.wd)) t), fun σ' H' ⟨es, fr', M'⟩ => ⟨_, less, _, _, es, fr', M', R3, by omega, fun z => (next z).1, fun z l => ?_, rfl⟩, ?_⟩
        · have D := Se.dn_goRound (bsN m) (enN m) (hkOf (hs m.wd)) t
          have er : (Se.goRound (bsN m) (enN m) (hkOf (hs m.wd)) t).rows.length = t.rows.length := by
            have := D.rows
            omega
          rw [D.same er]
          exact Se.round_still ok3.hd.dg ef er
        · refine ⟨_, rfl, a.p, CM K, a.dx, _, _, rfl, M2.obj, cl_Making T, na_Making_rows T, mf_rows, a.L, xs, rfl, .inl (.inl (.inl hL)), ?_⟩
          refine ⟨_, rfl, a.p, a.dx, _, rfl, M2.obj, mf_no (by decide +kernel), a, m, t, g.F, rfl, SO, ok3.hd.just, M2, by omega, fun H4 fr4 M4 => ⟨by rw [lx]; rfl, fr.trans fr4, M4⟩⟩
    · rw [decide_eq_false lc]
      exact iteF (q t H2 fr M2 R2 few2 fun z => ⟨ok2 z, cl2 z (by omega)⟩)
end
end Tw

set_option maxHeartbeats 4000000
namespace Tw
open PySem PySem.Spec PyProof.Rows L2
/-! making.py: what is told -/
def trR (b : Str × Str × Int) : List V := [.str b.1, .str b.2.1, .int b.2.2]
def mT (l : Int) (z : Str) : List (Str × Str × Int) := [("start", z, l), (z, "start", 0)]
def h2T (h : Str × Str × Int × Int) : List (Str × Str × Int) := [(h.2.1, h.1, h.2.2.2), (h.1, h.2.1, -h.2.2.1)]
def topT (a b : Str × Int × Int) : Option Int → List (Str × Str × Int)
  | none => []
  | some t => [(a.1, b.1, t - b.2.2 + a.2.1)]
def botT (a b : Str × Int × Int) : Option Int → List (Str × Str × Int)
  | none => []
  | some t => [(b.1, a.1, b.2.1 - a.2.2 - t)]
def tieT (wd : List Wd) (x : Bd) : List (Str × Str × Int) := topT (offW x.one wd) (offW x.oth wd) x.top ++ botT (offW x.one wd) (offW x.oth wd) x.bot
/-- the told bounds -/
def bnT (m : Md) : List (Str × Str × Int) := m.own.flatMap (mT m.last) ++ (hs m.wd).flatMap h2T ++ m.bd.flatMap (tieT m.wd)
theorem flat_tr {α : Type} {f : α → List (List V)} {g : α → List (Str × Str × Int)} (h : ∀ x, f x = (g x).map trR) (l : List α) : l.flatMap f = (l.flatMap g).map trR := by
  induction l with
  | nil => rfl
  | cons x l ih => rw [List.flatMap_cons, List.flatMap_cons, List.map_append, h, ih]
theorem tie_tr (wd : List Wd) (x : Bd) : tieRows wd x = (tieT wd x).map trR := by
  unfold tieRows tieT
  rw [List.map_append]
  congr 1
  · cases x.top <;> rfl
  · cases x.bot <;> rfl
theorem bn_tr (m : Md) : bRows m = (bnT m).map trR := by
  unfold bRows bnT
  rw [List.map_append, List.map_append, flat_tr (f := mRows m.last) (g := mT m.last) (fun _ => rfl), flat_tr (f := h2Rows) (g := h2T) (fun _ => rfl), flat_tr (tie_tr m.wd)]
/-- the late waits -/
def ltT (m : Md) : List (Str × Int) := (hs m.wd).map fun h => (h.1, -h.2.2.2)
theorem lt_row (m : Md) : ((hs m.wd).map lateF).map Ft.row = (ltT m).map fun b => ([.str "until", .str b.1, .str b.1, .int b.2] : List V) := by
  unfold ltT
  rw [List.map_map, List.map_map]
  rfl
def tellM (m : Md) (s : Se.MS Str) : Se.MS Str := Se.tellL (ltT m) (Se.tellB (bnT m) s)
section
variable {P : Program} {w : World} {K : PySem.W.Frag} {mg : Str → Option Value} {base : Heap}
theorem mk_outM {H : Hp} {a : MkA} {m : Md} {t : Se.MS Str} {D : Addr} (M : MkAt K H a m t) (n : H D = none) : D ≠ a.p ∧ D ≠ a.D ∧ D ≠ a.L := by
  obtain ⟨_, h1, _⟩ := M.dict
  obtain ⟨_, h2, _⟩ := M.rows
  exact ⟨(ne_of_none M.obj n).symm, (ne_of_none h1 n).symm, (ne_of_none h2 n).symm⟩
def sp_tell (K : PySem.W.Frag) : Sp := fun vs H Q _ => ∃ (a : MkA) (m : Md) (s : Se.MS Str), vs = [.ref a.p] ∧ MkAt K H a m s ∧ (∀ x ∈ m.bd, x.one ∈ m.pts ∧ x.oth ∈ m.pts) ∧ (tellM m s).rows.length < 8000000 ∧ ∀ H', Fr a H H' → MkAt K H' a m (tellM m s) → Q .non H'
theorem met_Making_tell (T : Tp K mg) : Met P w K mg base 8 (CM K) "tell" (sp_tell K) := by
  obtain ⟨fd, F⟩ := f_Making_tell T
  refine met_of F (cl_Making T) (me_Making_tell T) (b_Making_tell F) sc_Making_tell (fun vs H Q E h => ?_) (fun cdv A outer s H vs Q E hr h => ?_)
  · obtain ⟨a, m, s, rfl, _⟩ := h
    rfl
  · obtain ⟨a, m, st, rfl, M, hbd, few, q⟩ := h
    have few1 : (Se.tellB (bnT m) st).rows.length < 8000000 := Nat.lt_of_le_of_lt (Se.dn_tellL (ltT m) _).rows few
    refine ⟨_, (pss_cons (ps_for PassesOwn.never rfl (pi_list (C8.pe_c (cal_bounds T) hr (by decide) rfl (pa_cons (pe_fld (pv 0) rfl) pa_nil))) (pg_tup rfl (pgs_cons (pg_name (i := 1) sc_Making_tell.nd rfl (.inl rfl)) (pgs_cons (pg_name (i := 2) sc_Making_tell.nd rfl (.inl rfl)) (pgs_cons (pg_name (i := 3) sc_Making_tell.nd rfl (.inl rfl)) pgs_nil))))
        (pss_one (ps_expr (C8.pe_mt (met_Making_offer T) hr (by decide) (pv 0) (pa_cons (C8.pe_gc (by rfl) (c_MOST T)) (pa_cons (pv 1) (pa_cons (pv 2) (pa_cons (pv 3) (pa_cons (pe_tup (pa_cons pe_str (pa_cons (pv 1) (pa_cons (pv 2) (pa_cons (pv 3) pa_nil))))) pa_nil)))))))))
      (pss_one (ps_for PassesOwn.never rfl (pi_list (C8.pe_c (cal_late_waits T) hr (by decide) rfl (pa_cons (pe_fld (pv 0) rfl) pa_nil))) (pg_tup rfl (pgs_cons (pg_name (i := 4) sc_Making_tell.nd rfl (.inl rfl)) (pgs_cons (pg_name (i := 5) sc_Making_tell.nd rfl (.inl rfl)) (pgs_cons (pg_name (i := 1) sc_Making_tell.nd rfl (.inl rfl)) (pgs_cons (pg_name (i := 3) sc_Making_tell.nd rfl (.inl rfl)) pgs_nil)))))
        (pss_one (ps_expr (C8.pe_mt (met_Making_offer T) hr (by decide) (pv 0) (pa_cons (pv 4) (pa_cons (pv 5) (pa_cons (pv 1) (pa_cons (pv 3) (pa_cons (pe_tup (pa_cons pe_str (pa_cons (pv 5) pa_nil))) pa_nil))))))))))), ?_⟩
    refine ⟨_, rfl, a.p, CM K, a.dx, _, _, rfl, M.obj, cl_Making T, na_Making_web T, mf_web, a.w, m, rfl, M.web, hbd, fun D H1 s1 nD ⟨xs, hD, R⟩ => ⟨D, rfl, ⟨_, .inl (.inl hD)⟩, ?_⟩⟩
    rw [bn_tr] at R
    have M1 := M.same s1
    obtain ⟨n1, n2, n3⟩ := mk_outM M nD
    have lx : xs.length = (bnT m).length := by rw [R.len, List.length_map]
    refine for_list (K := K) (a := D) (xs := xs) (fun i σ H2 => ∃ y1 y2 y3 : Option V, σ = [some (.ref a.p), y1, y2, y3, none, none] ∧ Fr a H1 H2 ∧ MkAt K H2 a m (Se.walk (fun s b => Se.offer s (false, b.1, b.2.1) b.2.2 (.told b.1 b.2.1 b.2.2)) ((bnT m).take i) st)) ⟨none, none, none, rfl, fun b o e _ _ _ => e, M1⟩ (fun i σ H2 _ ⟨_, _, _, _, fr, _⟩ => .inl (.inl (fr _ _ hD n1 n2 n3))) ?_ ?_
    · rintro i x σ H2 hx ⟨y1, y2, y3, rfl, fr, M2⟩
      obtain ⟨t, b, rfl, eb, ht⟩ := row_of R hx
      have ht2 := (fr.kt M1) _ _ ht
      have ew := walk_take (f := fun s b => Se.offer s (false, b.1, b.2.1) b.2.2 (.told b.1 b.2.1 b.2.2)) (s := st) eb
      have lw := walk_few (f := fun s (b : Str × Str × Int) => Se.offer s (false, b.1, b.2.1) b.2.2 (.told b.1 b.2.1 b.2.2)) (fun s b => Se.dn_offer ..) (bnT m) i st
      refine ⟨t, _, rfl, .inl (.inl ht2), rfl, _, _, rfl, _, _, rfl, _, _, rfl, rfl, ?_⟩
      refine ⟨_, rfl, a.p, a.dx, _, rfl, M2.obj, mf_no (by decide +kernel), _, rfl, _, rfl, _, rfl, _, rfl, _, rfl, _, rfl, (by show 4 ≤ sizeLine; decide), fun r nr => ?_⟩
      have s4 := same_upd (o := .tup (rrV (.told b.1 b.2.1 b.2.2))) nr
      refine ⟨a, m, _, (false, b.1, b.2.1), b.2.2, r, .told b.1 b.2.1 b.2.2, rfl, M2.same s4, upd_same, Nat.lt_of_le_of_lt lw few1, fun H4 fr4 M4 => ⟨_, _, _, rfl, (fr.trans (.of s4)).trans fr4, ?_⟩⟩
      rw [ew]; exact M4
    · rintro σ' H2 ⟨y1, y2, y3, rfl, fr, M2⟩
      rw [lx, List.take_length] at M2
      have M2 : MkAt K H2 a m (Se.tellB (bnT m) st) := M2
      have frA : Fr a H H2 := (Fr.of s1).trans fr
      have few2 : (Se.tellL (ltT m) (Se.tellB (bnT m) st)).rows.length < 8000000 := few
      have q2 : ∀ H', Fr a H H' → MkAt K H' a m (Se.tellL (ltT m) (Se.tellB (bnT m) st)) → Q .non H' := q
      generalize Se.tellB (bnT m) st = t1 at *
      refine ⟨_, rfl, a.p, CM K, a.dx, _, _, rfl, M2.obj, cl_Making T, na_Making_web T, mf_web, a.w, m, rfl, M2.web, fun D H3 s3 nD ⟨xs, hD, R⟩ => ⟨D, rfl, ⟨_, .inl (.inl hD)⟩, ?_⟩⟩
      rw [lt_row] at R
      have M3 := M2.same s3
      have nn := mk_outM M2 nD
      have lx : xs.length = (ltT m).length := by rw [R.len, List.length_map]
      refine for_list (K := K) (a := D) (xs := xs) (fun i σ H2 => ∃ y1 y2 y3 y4 y5 : Option V, σ = [some (.ref a.p), y1, y2, y3, y4, y5] ∧ Fr a H3 H2 ∧ MkAt K H2 a m (Se.walk (fun s b => Se.offer s (true, b.1, b.1) b.2 (.late b.1)) ((ltT m).take i) t1)) ⟨_, _, _, _, _, rfl, fun b o e _ _ _ => e, M3⟩ (fun i σ H2 _ ⟨_, _, _, _, _, _, fr, _⟩ => .inl (.inl (fr _ _ hD nn.1 nn.2.1 nn.2.2))) ?_ ?_
      · rintro i x σ H4 hx ⟨y1, y2, y3, y4, y5, rfl, fr4, M4⟩
        obtain ⟨t, b, rfl, eb, ht⟩ := row_of R hx
        have ht4 := (fr4.kt M3) _ _ ht
        have ew := walk_take (f := fun s b => Se.offer s (true, b.1, b.1) b.2 (.late b.1)) (s := t1) eb
        have lw := walk_few (f := fun s (b : Str × Int) => Se.offer s (true, b.1, b.1) b.2 (.late b.1)) (fun s b => Se.dn_offer ..) (ltT m) i t1
        refine ⟨t, _, rfl, .inl (.inl ht4), rfl, _, _, rfl, _, _, rfl, _, _, rfl, _, _, rfl, rfl, ?_⟩
        refine ⟨_, rfl, a.p, a.dx, _, rfl, M4.obj, mf_no (by decide +kernel), _, rfl, _, rfl, _, rfl, _, rfl, _, rfl, (by show 2 ≤ sizeLine; decide), fun r nr => ?_⟩
        have s5 := same_upd (o := .tup (rrV (.late b.1))) nr
        refine ⟨a, m, _, (true, b.1, b.1), b.2, r, .late b.1, rfl, M4.same s5, upd_same, Nat.lt_of_le_of_lt lw few2, fun H6 fr6 M6 => ⟨_, _, _, _, _, rfl, (fr4.trans (.of s5)).trans fr6, ?_⟩⟩
        rw [ew]; exact M6
      · rintro σ' H4 ⟨y1, y2, y3, y4, y5, rfl, fr4, M4⟩
        rw [lx, List.take_length] at M4
        exact q2 _ ((frA.trans (.of s3)).trans fr4) M4
end
end Tw

set_option maxHeartbeats 4000000
namespace Tw
open PySem PySem.Spec PyProof.Rows L2
/-! what a drawn web gives to settling -/
theorem hs_of {m : Md} (ok : MdOk m) {h : Str × Str × Int × Int} (hh : h ∈ hs m.wd) : ∃ x ∈ m.wd, ∃ i, x.la = some i ∧ h = (x.en, x.bg, x.lo + i, x.hi + i) := by
  unfold hs at hh
  obtain ⟨x, hx, e⟩ := List.mem_filterMap.1 hh
  obtain ⟨i, hi, e⟩ := Option.map_eq_some_iff.1 e
  exact ⟨x, hx, i, hi, e.symm⟩
structure HsOk (m : Md) (h : Str × Str × Int × Int) : Prop where
  en : h.1 ∈ m.wd.map (·.en)
  bg : h.2.1 = "start" ∨ h.2.1 ∈ m.own
  lo : 1 ≤ h.2.2.1 ∧ h.2.2.1 ≤ 2000
  hi : 1 ≤ h.2.2.2 ∧ h.2.2.2 ≤ 2000
theorem hs_ok {m : Md} (ok : MdOk m) {h : Str × Str × Int × Int} (hh : h ∈ hs m.wd) : HsOk m h := by
  obtain ⟨x, hx, i, hi, rfl⟩ := hs_of ok hh
  have w := ok.wd x hx
  have l := w.la i hi
  have h1 := w.lo
  have h2 := w.hi
  have h3 := w.top
  exact ⟨List.mem_map.2 ⟨x, hx, rfl⟩, w.bg, ⟨by show 1 ≤ x.lo + i; omega, by show x.lo + i ≤ 2000; omega⟩, ⟨by show 1 ≤ x.hi + i; omega, by show x.hi + i ≤ 2000; omega⟩⟩
theorem en_own {m : Md} (ok : MdOk m) {z : Str} (h : z ∈ m.wd.map (·.en)) : ¬ z = "start" ∧ z ∉ m.own := by
  refine ⟨(pool_nm (ok.pool z (List.mem_append.2 (.inr h)))).2, fun o => ?_⟩
  exact (List.nodup_append.1 ok.nd).2.2 z o z h rfl
theorem bg_in {m : Md} {z : Str} (h : z = "start" ∨ z ∈ m.own) : z ∈ bsN m := by
  unfold bsN
  rcases h with h | h
  · rw [h]; exact List.mem_cons_self
  · exact List.mem_cons_of_mem _ (List.mem_append.2 (.inl h))
theorem en_in {m : Md} {z : Str} (h : z ∈ enN m) : z ∈ bsN m := List.mem_cons_of_mem _ (List.mem_append.2 (.inr h))
theorem hk_all : ∀ (l : List (Str × Str × Int × Int)) (e : Str), (hkOf l e = none ∧ e ∉ l.map (·.1)) ∨ ∃ h ∈ l, h.1 = e ∧ hkOf l e = some (h.2.1, h.2.2.1) := by
  have gen : ∀ (l : List (Str × Str × Int × Int)) (f : Hk) (e : Str), (l.foldl hkS f e = f e ∧ e ∉ l.map (·.1)) ∨ ∃ h ∈ l, h.1 = e ∧ l.foldl hkS f e = some (h.2.1, h.2.2.1) := by
    intro l
    induction l with
    | nil => exact fun f e => .inl ⟨rfl, List.not_mem_nil⟩
    | cons h l ih =>
      intro f e
      rcases ih (hkS f h) e with ⟨h1, h2⟩ | ⟨g, hg, h1, h2⟩
      · by_cases c : e = h.1
        · refine .inr ⟨h, List.mem_cons_self, c.symm, ?_⟩
          rw [List.foldl_cons, h1]
          unfold hkS
          rw [if_pos c]
        · refine .inl ⟨?_, fun z => ?_⟩
          · rw [List.foldl_cons, h1]
            unfold hkS
            rw [if_neg c]
          · rcases List.mem_cons.1 z with z | z
            · exact c z
            · exact h2 z
      · exact .inr ⟨g, List.mem_cons_of_mem _ hg, h1, h2⟩
  exact fun l e => gen l _ e
theorem sg_ok {m : Md} (ok : MdOk m) : SgOk m 2000 := by
  refine ⟨⟨fun e he => en_in he, fun e r hr => ?_⟩, fun e he => ?_⟩
  · rcases hk_all (hs m.wd) e with ⟨h1, _⟩ | ⟨h, hh, h1, h2⟩
    · rw [h1] at hr; cases hr
    · rw [h2] at hr
      cases hr
      have g := hs_ok ok hh
      refine ⟨bg_in g.bg, ?_, g.lo⟩
      rcases hk_all (hs m.wd) h.2.1 with ⟨h3, _⟩ | ⟨h', hh', h3, h4⟩
      · exact h3
      · have g' := hs_ok ok hh'
        have := en_own ok g'.en
        rw [h3] at this
        exact (g.bg.elim this.1 this.2).elim
  · rcases hk_all (hs m.wd) e with ⟨_, h1⟩ | ⟨h, hh, h1, h2⟩
    · exact absurd he h1
    · rw [h2]; rfl
theorem bs_nodup {m : Md} (ok : MdOk m) : (bsN m).Nodup := by
  unfold bsN
  have nd := List.nodup_append.1 ok.nd
  have sub : ∀ z ∈ (hs m.wd).map (·.1), z ∈ m.wd.map (·.en) := fun z hz => by
    obtain ⟨h, hh, rfl⟩ := List.mem_map.1 hz
    exact (hs_ok ok hh).en
  have ndh : ∀ l : List Wd, (l.map (·.en)).Nodup → ((hs l).map (·.1)).Nodup := by
    intro l
    induction l with
    | nil => exact fun _ => List.nodup_nil
    | cons x l ih =>
      intro h
      have h' := List.nodup_cons.1 h
      have e : hs (x :: l) = (match x.la.map fun i => (x.en, x.bg, x.lo + i, x.hi + i) with | none => hs l | some y => y :: hs l) := by
        unfold hs
        rw [List.filterMap_cons]
        cases x.la <;> rfl
      rw [e]
      cases x.la with
      | none => exact ih h'.2
      | some i =>
        refine List.nodup_cons.2 ⟨fun z => h'.1 ?_, ih h'.2⟩
        obtain ⟨g, hg, eg⟩ := List.mem_map.1 z
        unfold hs at hg
        obtain ⟨y, hy, e'⟩ := List.mem_filterMap.1 hg
        obtain ⟨j, _, e'⟩ := Option.map_eq_some_iff.1 e'
        refine List.mem_map.2 ⟨y, hy, ?_⟩
        rw [← eg, ← e']
  refine List.nodup_cons.2 ⟨fun z => ?_, List.nodup_append.2 ⟨nd.1, ndh _ nd.2.1, fun a ha b hb e => ?_⟩⟩
  · rcases List.mem_append.1 z with z | z
    · exact (pool_nm (ok.pool _ (List.mem_append.2 (.inl z)))).2 rfl
    · exact (en_own ok (sub _ z)).1 rfl
  · exact nd.2.2 a ha b (sub b hb) e
theorem off_in {m : Md} (ok : MdOk m) {z : Str} (h : z ∈ m.pts) : (offW z m.wd).1 ∈ bsN m := by
  have gen : ∀ l : List Wd, (∀ x ∈ l, x ∈ m.wd) → ((∀ x ∈ m.wd, x ∉ l → ¬ x.en = z) → (offW z l).1 ∈ bsN m) := by
    intro l
    induction l with
    | nil =>
      intro _ no
      show z ∈ bsN m
      unfold Md.pts at h
      rcases List.mem_cons.1 h with h | h
      · exact bg_in (.inl h)
      · rcases List.mem_append.1 h with h | h
        · exact bg_in (.inr h)
        · obtain ⟨x, hx, e⟩ := List.mem_map.1 h
          exact absurd e (no x hx List.not_mem_nil)
    | cons x r ih =>
      intro hl no
      unfold offW
      by_cases c : x.en = z
      · rw [if_pos c]
        have hx := hl x List.mem_cons_self
        cases e : x.la with
        | none => exact bg_in (ok.wd x hx).bg
        | some i =>
          refine en_in ?_
          unfold enN
          refine List.mem_map.2 ⟨(x.en, x.bg, x.lo + i, x.hi + i), ?_, rfl⟩
          unfold hs
          exact List.mem_filterMap.2 ⟨x, hx, by rw [e]; rfl⟩
      · rw [if_neg c]
        refine ih (fun y hy => hl y (List.mem_cons_of_mem _ hy)) fun y hy hn => ?_
        by_cases cy : y ∈ x :: r
        · rcases List.mem_cons.1 cy with z | z
          · rw [z]; exact c
          · exact absurd z hn
        · exact no y hy cy
  exact gen m.wd (fun _ h => h) (fun x hx hn => absurd hx hn)
theorem tl_ok {m : Md} (ok : MdOk m) : Se.Tl (bsN m) (enN m) "start" 2000 2000 (bnT m) (ltT m) := by
  have own_to : ∀ z ∈ m.own, ((z, "start", 0) : Str × Str × Int) ∈ bnT m := fun z hz => List.mem_append.2 (.inl (List.mem_append.2 (.inl (List.mem_flatMap.2 ⟨z, hz, List.mem_cons_of_mem _ List.mem_cons_self⟩))))
  have own_fro : ∀ z ∈ m.own, (("start", z, m.last) : Str × Str × Int) ∈ bnT m := fun z hz => List.mem_append.2 (.inl (List.mem_append.2 (.inl (List.mem_flatMap.2 ⟨z, hz, List.mem_cons_self⟩))))
  have en_to : ∀ h ∈ hs m.wd, (h.1, h.2.1, -h.2.2.1) ∈ bnT m := fun h hh => List.mem_append.2 (.inl (List.mem_append.2 (.inr (List.mem_flatMap.2 ⟨h, hh, List.mem_cons_of_mem _ List.mem_cons_self⟩))))
  have en_fro : ∀ h ∈ hs m.wd, (h.2.1, h.1, h.2.2.2) ∈ bnT m := fun h hh => List.mem_append.2 (.inl (List.mem_append.2 (.inr (List.mem_flatMap.2 ⟨h, hh, List.mem_cons_self⟩))))
  have en_mem : ∀ h ∈ hs m.wd, h.1 ∈ enN m := fun h hh => List.mem_map.2 ⟨h, hh, rfl⟩
  have hl := ok.last
  have bg_to : ∀ z : Str, (z = "start" ∨ z ∈ m.own) → (z = "start" ∨ ∃ n, ((z, "start", n) : Str × Str × Int) ∈ bnT m ∧ n ≤ 2000) := fun z hz => hz.imp id fun h => ⟨0, own_to z h, by omega⟩
  have bg_fro : ∀ z : Str, (z = "start" ∨ z ∈ m.own) → (("start" : Str) = z ∨ ∃ n, (("start", z, n) : Str × Str × Int) ∈ bnT m ∧ n ≤ 2000) := fun z hz => hz.imp (fun e => e.symm) fun h => ⟨m.last, own_fro z h, by omega⟩
  have parts : ∀ x ∈ bsN m, (x = "start" ∨ x ∈ m.own) ∨ ∃ h ∈ hs m.wd, h.1 = x := fun x hx => by
    unfold bsN at hx
    rcases List.mem_cons.1 hx with h | h
    · exact .inl (.inl h)
    · rcases List.mem_append.1 h with h | h
      · exact .inl (.inr h)
      · exact .inr (List.mem_map.1 h)
  refine ⟨List.mem_cons_self, fun b hb => ?_, fun p hp => ?_, fun e he => ?_, fun e he => en_in he, fun x hx => ?_, fun x hx => ?_⟩
  · unfold bnT at hb
    rcases List.mem_append.1 hb with hb | hb
    · rcases List.mem_append.1 hb with hb | hb
      · obtain ⟨z, hz, hb⟩ := List.mem_flatMap.1 hb
        rcases List.mem_cons.1 hb with e | hb
        · rw [e]; exact ⟨bg_in (.inl rfl), bg_in (.inr hz)⟩
        · rw [List.mem_singleton.1 hb]; exact ⟨bg_in (.inr hz), bg_in (.inl rfl)⟩
      · obtain ⟨h, hh, hb⟩ := List.mem_flatMap.1 hb
        have g := hs_ok ok hh
        rcases List.mem_cons.1 hb with e | hb
        · rw [e]; exact ⟨bg_in g.bg, en_in (en_mem h hh)⟩
        · rw [List.mem_singleton.1 hb]; exact ⟨en_in (en_mem h hh), bg_in g.bg⟩
    · obtain ⟨x, hx, hb⟩ := List.mem_flatMap.1 hb
      have g := ok.bd x hx
      have o1 := off_in ok g.one
      have o2 := off_in ok g.oth
      unfold tieT at hb
      rcases List.mem_append.1 hb with hb | hb
      · cases e : x.top with
        | none => rw [e] at hb; exact absurd hb List.not_mem_nil
        | some t =>
          rw [e] at hb
          rw [List.mem_singleton.1 hb]
          exact ⟨o1, o2⟩
      · cases e : x.bot with
        | none => rw [e] at hb; exact absurd hb List.not_mem_nil
        | some t =>
          rw [e] at hb
          rw [List.mem_singleton.1 hb]
          exact ⟨o2, o1⟩
  · obtain ⟨h, hh, e⟩ := List.mem_map.1 hp
    have g := hs_ok ok hh
    rw [← e]
    exact ⟨en_mem h hh, by show -h.2.2.2 ≤ 0; have := g.hi; omega, by show (-2000 : Int) ≤ -h.2.2.2; have := g.hi; omega⟩
  · obtain ⟨h, hh, e⟩ := List.mem_map.1 he
    exact ⟨-h.2.2.2, List.mem_map.2 ⟨h, hh, by rw [← e]⟩⟩
  · rcases parts x hx with h | ⟨h, hh, e⟩
    · exact ⟨x, hx, .inl rfl, bg_to x h⟩
    · have g := hs_ok ok hh
      rw [← e]
      exact ⟨h.2.1, bg_in g.bg, .inr ⟨_, en_to h hh, by have := g.lo; omega⟩, bg_to _ g.bg⟩
  · rcases parts x hx with h | ⟨h, hh, e⟩
    · exact ⟨x, hx, bg_fro x h, .inl rfl⟩
    · have g := hs_ok ok hh
      rw [← e]
      exact ⟨h.2.1, bg_in g.bg, bg_fro _ g.bg, .inr ⟨_, en_fro h hh, by have := g.hi; omega⟩⟩
/-! ### few rows -/
theorem fmc_len {α β : Type} {f : α → List β} {c : Nat} (l : List α) (h : ∀ x ∈ l, (f x).length ≤ c) : (l.flatMap f).length ≤ l.length * c := by
  induction l with
  | nil => exact Nat.zero_le _
  | cons x l ih =>
    rw [List.flatMap_cons, List.length_append, List.length_cons, Nat.succ_mul]
    have h1 := h x List.mem_cons_self
    have h2 := ih fun y hy => h y (List.mem_cons_of_mem _ hy)
    omega
theorem bs_len {m : Md} (ok : MdOk m) : (bsN m).length ≤ 15 ∧ (enN m).length ≤ 4 := by
  have l := ok.len
  have h := hs_len m.wd
  unfold bsN enN
  rw [List.length_cons, List.length_append, List.length_map]
  omega
theorem keys_len {ns es : List Str} (h1 : ns.length ≤ 15) (h2 : es.length ≤ 4) : (Se.keys ns es).length ≤ 285 := by
  have a := fmc_len (f := fun x => ns.map fun y => ((false, x, y) : Ky)) (c := 15) ns fun x _ => by rw [List.length_map]; exact h1
  have b := fmc_len (f := fun e => ns.map fun x => ((true, e, x) : Ky)) (c := 15) es fun x _ => by rw [List.length_map]; exact h1
  unfold Se.keys
  rw [List.length_append]
  omega
theorem bn_len {m : Md} (ok : MdOk m) : (bnT m).length ≤ 108 ∧ (ltT m).length ≤ 4 := by
  have l := ok.len
  have h := hs_len m.wd
  have a := fmc_len (f := mT m.last) (c := 2) m.own fun _ _ => Nat.le_refl _
  have b := fmc_len (f := h2T) (c := 2) (hs m.wd) fun _ _ => Nat.le_refl _
  have c := fmc_len (f := tieT m.wd) (c := 2) m.bd fun x _ => by
    unfold tieT
    rw [List.length_append]
    have : (topT (offW x.one m.wd) (offW x.oth m.wd) x.top).length ≤ 1 := by cases x.top <;> simp [topT]
    have : (botT (offW x.one m.wd) (offW x.oth m.wd) x.bot).length ≤ 1 := by cases x.bot <;> simp [botT]
    omega
  unfold bnT ltT
  rw [List.length_append, List.length_append, List.length_map]
  omega
def mgM (m : Md) : Mg := ⟨2000, 2000, 2000, bnT m, ltT m⟩
theorem most_ok {m : Md} (ok : MdOk m) : Se.most (bsN m) (enN m) (mgM m).B (mgM m).M (mgM m).F (mgM m).bn (mgM m).lt < 8000000 := by
  obtain ⟨h1, h2⟩ := bs_len ok
  have h3 := keys_len h1 h2
  obtain ⟨h4, h5⟩ := bn_len ok
  have h6 : (bsN m).length * ((bsN m).length * ((bsN m).length * 1)) ≤ 15 * (15 * (15 * 1)) := Nat.mul_le_mul h1 (Nat.mul_le_mul h1 (Nat.mul_le_mul h1 (Nat.le_refl _)))
  have h7 : (enN m).length * ((bsN m).length * ((bsN m).length * 1)) ≤ 4 * (15 * (15 * 1)) := Nat.mul_le_mul h2 (Nat.mul_le_mul h1 (Nat.mul_le_mul h1 (Nat.le_refl _)))
  have h8 : Se.much (bsN m) (enN m) ≤ 5130 := by
    unfold Se.much
    omega
  show ((bnT m).length : Int) + (ltT m).length + 2 * Se.much (bsN m) (enN m) + (Se.keys (bsN m) (enN m)).length * (4 * (2000 : Nat)) + (Se.keys (bsN m) (enN m)).length * ((2000 : Nat) + 4 * (2000 : Nat) + (2000 : Nat)) < 8000000
  omega
/-- the state of a web that is told, and what follows of it -/
theorem told_all {m : Md} (ok : MdOk m) : (tellM m (Se.init (bsN m))).rows.length < 8000000 ∧ RsM m (mgM m) (tellM m (Se.init (bsN m))) ∧ ((tellM m (Se.init (bsN m))).fault = none → OkM m (mgM m) (tellM m (Se.init (bsN m)))) := by
  obtain ⟨h4, h5⟩ := bn_len ok
  have e : tellM m (Se.init (bsN m)) = Se.tell (bsN m) (bnT m) (ltT m) := rfl
  rw [e]
  refine ⟨?_, Se.rs_tellL (fun _ h => h) (Se.rs_tellB (fun _ h => h) Se.init_rs), fun f => Se.tell_ok (by show (0 : Int) ≤ (2000 : Nat); omega) (bs_nodup ok) (tl_ok ok) f⟩
  have := Se.tell_len (ns := bsN m) (bn := bnT m) (lt := ltT m)
  omega
end Tw

set_option maxHeartbeats 4000000
namespace Tw
open PySem PySem.Spec PyProof.Rows L2
/-! laying.py: bases (as in TwX6) -/
def bsL (m : Md) : List Str := "start" :: (m.own ++ (hs m.wd).map (·.1))
section
variable {P : Program} {w : World} {K : PySem.W.Frag} {mg : Str → Option Value} {base : Heap}
def sp_bases (K : PySem.W.Frag) : Sp := fun vs H Q _ => ∃ (p : Addr) (m : Md), vs = [.ref p] ∧ WebAt (CW K) H p m ∧ ∀ (D : Addr) (H' : Hp), Same H H' → H D = none → H' D = some (.lst ((bsL m).map V.str)) → Q (.ref D) H'
theorem cal_bases (T : Tp K mg) : Cal P w K mg base 4 "bases" (sp_bases K) := by
  obtain ⟨fd, F⟩ := f_bases T
  refine cal_of F (g_bases T) (b_bases F) sc_bases (fun vs H Q E h => ?_) (fun cdv A outer s H vs Q E hr h => ?_)
  · obtain ⟨p, m, rfl, _⟩ := h
    rfl
  · obtain ⟨p, m, rfl, W, q⟩ := h
    have hlen := W.len
    refine ⟨_, (pss_cons (ps_setLc (i := 1) (own := [("span", 2)]) (g := gName 2) (tt := tYes) rfl sc_bases.nd rfl rfl (sw_true rfl rfl rfl (by decide +kernel)) (pi_list (C8.pe_c (cal_heard_spans T) hr (by decide) rfl (pa_cons (pv 0) pa_nil))) (blkOk_by (N := N_bases) (sc := defScope s_bases) (by decide +kernel)) (fun _ _ _ _ _ => (pg_name (i := 2) sc_bases.nd rfl (.inl rfl))) (fun _ _ _ _ _ => pts_nil) (fun _ _ _ _ _ => (pe_ix (ix_tupK (K := K) rfl) (pv 2) pe_int (fun _ _ => rfl))))
      (pss_one (ps_ret (pe_op op_cat (pe_op op_cat (pe_lst (pa_cons (C8.pe_gc (by rfl) (c_START T)) pa_nil)) (C8.pe_mt0 (met_Web_moments T) hr (by decide) (pv 0))) (pv 1))))), ?_⟩
    refine ⟨_, rfl, p, m, rfl, W, fun g H1 s1 ng R1 => ?_⟩
    obtain ⟨gs, hg, rg⟩ := R1
    have hsl := hs_len m.wd
    refine ⟨g, rfl, ⟨_, .inl (.inl hg)⟩, fun D nD => ?_⟩
    refine lc_list (K := K) (a := g) (xs := gs) (fun i H2 => Same H1 H2 ∧ H2 D = some (.lst ((((hs m.wd).take i).map (·.1)).map V.str))) ⟨same_upd nD, upd_same⟩ (fun i H2 _ ⟨s2, _⟩ => .inl (.inl (s2 _ _ hg))) ?_ ?_
    · rintro i x H2 hx ⟨s2, d2⟩
      obtain ⟨t, y, rfl, ey, ht⟩ := row_of rg hx
      have hi : i < (hs m.wd).length := (List.getElem?_eq_some_iff.mp ey).1
      refine ⟨rfl, yes_i (iteT ⟨_, rfl, t, _, 0, _, rfl, rfl, .inl (.inl (s2 _ _ ht)), atI_nat (j := 0) rfl, _, d2, ?_, same_put s2 nD, ?_⟩)⟩
      · rw [List.length_map, List.length_map, List.length_take]
        exact small1000 (by omega)
      · rw [upd_same, List.take_add_one, ey, List.map_append, List.map_append]
        rfl
    · rintro H2 ⟨s2, d2⟩
      have e0 : (hs m.wd).take gs.length = hs m.wd := List.take_of_length_le (by rw [rg.len, List.length_map]; exact Nat.le_refl _)
      rw [e0] at d2
      refine ⟨by show 1 ≤ sizeLine; decide, fun l nl => ?_⟩
      have s3 := same_upd (o := .lst [.str "start"]) nl
      have sA := (s1.trans s2).trans s3
      have W3 := W.same sA
      obtain ⟨dx, _, _, _, _, _, g1, _⟩ := W3.ex
      refine ⟨_, rfl, p, dx, _, rfl, g1, wf_no (by decide +kernel), p, m, rfl, W3, fun k nk => ?_⟩
      have s4 := same_upd (o := .lst (m.own.map V.str)) nk
      refine ⟨l, k, _, _, rfl, rfl, s4 _ _ upd_same, upd_same, ?_, fun u nu => ?_⟩
      · rw [List.length_map]
        exact Nat.le_of_lt (small1000 (by show 1 + _ ≤ 1000; omega))
      · have s5 := same_upd (o := .lst ([.str "start"] ++ m.own.map V.str)) nu
        refine ⟨_, rfl, u, D, _, _, rfl, rfl, upd_same, s5 _ _ (s4 _ _ (s3 _ _ d2)), ?_, fun x nx => ?_⟩
        · rw [List.length_append, List.length_map, List.length_map, List.length_map]
          exact Nat.le_of_lt (small1000 (by show 1 + _ + _ ≤ 1000; omega))
        · have s6 := same_upd (o := .lst ([.str "start"] ++ m.own.map V.str ++ ((hs m.wd).map (·.1)).map V.str)) nx
          have sB := (sA.trans s4).trans s5
          refine q x _ (sB.trans s6) (sB.free nx) ?_
          rw [upd_same]
          unfold bsL
          rw [List.map_cons, List.map_append]
          rfl
end
end Tw

set_option maxHeartbeats 4000000
namespace Tw
open PySem PySem.Spec PyProof.Rows L2
/-! making.py: a new Making -/
def fcR (c : Ky × Int) : List V := [.str (wdU c.1.1), .str c.1.2.1, .str c.1.2.2, .int c.2]
/-- what is made at first -/
def mkI (fs : List (Ky × Int)) : List (Ky × (Int × Option Nat)) := fs.foldl (fun l c => Se.put c.1 (c.2, none) l) []
theorem mkI_len (fs : List (Ky × Int)) : (mkI fs).length ≤ fs.length := by
  have gen : ∀ (fs : List (Ky × Int)) (l : List (Ky × (Int × Option Nat))), (fs.foldl (fun l c => Se.put c.1 (c.2, none) l) l).length ≤ l.length + fs.length := by
    intro fs
    induction fs with
    | nil => exact fun l => Nat.le_refl _
    | cons c fs ih =>
      intro l
      have h1 := ih (Se.put c.1 (c.2, none) l)
      have h2 : (Se.put c.1 ((c.2, none) : Int × Option Nat) l).length ≤ l.length + 1 := by
        unfold Se.put
        split
        · rw [List.length_map]; omega
        · rw [List.length_append]; exact Nat.le_refl _
      rw [List.foldl_cons, List.length_cons]
      omega
  have := gen fs []
  rw [List.length_nil, Nat.zero_add] at this
  exact this
theorem sb_kt {p : Addr} {H H' : Hp} {C dx : Addr} {f : List (Str × V)} (s : Sb p H H') (h : H p = some (.ins C dx f)) : Kt H H' := fun b xs e => s b _ e (ne_of e h (fun z => nomatch z))
theorem sb_same {p : Addr} {H H1 H2 : Hp} (s : Sb p H H1) (t : Same H1 H2) : Sb p H H2 := fun b o e n => t _ _ (s b o e n)
theorem sb_fld {p : Addr} {H H1 : Hp} {o : HO} (s : Sb p H H1) : Sb p H (upd H1 p o) := fun b x e n => by
  rw [upd_ne n]
  exact s b x e n
theorem sb_out {p M : Addr} {H H1 : Hp} (s : Sb p H H1) (n : H1 M = none) (np : M ≠ p) : H M = none := by
  cases e : H M with
  | none => rfl
  | some o => rw [s M o e np] at n; cases n
theorem WebAt.fld {K : PySem.W.Frag} {H H' : Hp} {p q dx : Addr} {C : Addr} {f : List (Str × V)} {m : Md} (W : WebAt (CW K) H q m) (s : Sb p H H') (h : H p = some (.ins C dx f)) (n : q ≠ p) : WebAt (CW K) H' q m := W.keep (fun _ _ e => s _ _ e n) (sb_kt s h)
theorem pm_names {x v0 : V} : putF "names" x ([("web", v0)] : List (Str × V)) = ([("web", v0), ("names", x)] : List (Str × V)) := by
  simp only [putF, if_neg (show ¬ (("web" : Str) = "names") by decide +kernel)]
theorem pm_ends {x v0 v1 : V} : putF "ends" x ([("web", v0), ("names", v1)] : List (Str × V)) = ([("web", v0), ("names", v1), ("ends", x)] : List (Str × V)) := by
  simp only [putF, if_neg (show ¬ (("web" : Str) = "ends") by decide +kernel), if_neg (show ¬ (("names" : Str) = "ends") by decide +kernel)]
theorem pm_heard {x v0 v1 v2 : V} : putF "heard" x ([("web", v0), ("names", v1), ("ends", v2)] : List (Str × V)) = ([("web", v0), ("names", v1), ("ends", v2), ("heard", x)] : List (Str × V)) := by
  simp only [putF, if_neg (show ¬ (("web" : Str) = "heard") by decide +kernel), if_neg (show ¬ (("names" : Str) = "heard") by decide +kernel), if_neg (show ¬ (("ends" : Str) = "heard") by decide +kernel)]
theorem pm_made {x v0 v1 v2 v3 : V} : putF "made" x ([("web", v0), ("names", v1), ("ends", v2), ("heard", v3)] : List (Str × V)) = ([("web", v0), ("names", v1), ("ends", v2), ("heard", v3), ("made", x)] : List (Str × V)) := by
  simp only [putF, if_neg (show ¬ (("web" : Str) = "made") by decide +kernel), if_neg (show ¬ (("names" : Str) = "made") by decide +kernel), if_neg (show ¬ (("ends" : Str) = "made") by decide +kernel), if_neg (show ¬ (("heard" : Str) = "made") by decide +kernel)]
theorem pm_rows {x v0 v1 v2 v3 v4 : V} : putF "rows" x ([("web", v0), ("names", v1), ("ends", v2), ("heard", v3), ("made", v4)] : List (Str × V)) = ([("web", v0), ("names", v1), ("ends", v2), ("heard", v3), ("made", v4), ("rows", x)] : List (Str × V)) := by
  simp only [putF, if_neg (show ¬ (("web" : Str) = "rows") by decide +kernel), if_neg (show ¬ (("names" : Str) = "rows") by decide +kernel), if_neg (show ¬ (("ends" : Str) = "rows") by decide +kernel), if_neg (show ¬ (("heard" : Str) = "rows") by decide +kernel), if_neg (show ¬ (("made" : Str) = "rows") by decide +kernel)]
theorem pm_fault {x v0 v1 v2 v3 v4 v5 : V} : putF "fault" x ([("web", v0), ("names", v1), ("ends", v2), ("heard", v3), ("made", v4), ("rows", v5)] : List (Str × V)) = ([("web", v0), ("names", v1), ("ends", v2), ("heard", v3), ("made", v4), ("rows", v5), ("fault", x)] : List (Str × V)) := by
  simp only [putF, if_neg (show ¬ (("web" : Str) = "fault") by decide +kernel), if_neg (show ¬ (("names" : Str) = "fault") by decide +kernel), if_neg (show ¬ (("ends" : Str) = "fault") by decide +kernel), if_neg (show ¬ (("heard" : Str) = "fault") by decide +kernel), if_neg (show ¬ (("made" : Str) = "fault") by decide +kernel), if_neg (show ¬ (("rows" : Str) = "fault") by decide +kernel)]
section
variable {P : Program} {w : World} {K : PySem.W.Frag} {mg : Str → Option Value} {base : Heap}
def sp_mki (K : PySem.W.Frag) : Sp := fun vs H Q _ => ∃ (p dx q l : Addr) (m : Md) (fs : List (Ky × Int)) (xs : List V), vs = [.ref p, .ref q, .ref l] ∧ H p = some (.ins (CM K) dx []) ∧ WebAt (CW K) H q m ∧ H l = some (.lst xs) ∧ Rows H xs (fs.map fcR) ∧ fs.length ≤ 1000 ∧
  ∀ (a : MkA) (H' : Hp), a.p = p → H a.D = none ∧ H a.L = none → Sb p H H' → MkAt K H' a m ⟨mkI fs, [], none⟩ → Q .non H'
theorem fn_mki (T : Tp K mg) {fd : FuncData} (F : FunD K "__init__" "Making.__init__" (defArgs s_Making_UinitU) (defBody s_Making_UinitU) (defScope s_Making_UinitU) [] [] (He.ma K (He.ga K "Making") "__init__") fd) :
    FnOk P w K mg base CX0 9 (He.ma K (He.ga K "Making") "__init__") fd ["self", "web", "facts"] (sp_mki K) := by
  refine fnok_of F sc_Making_UinitU (fun vs H Q E h => ?_) (fun cdv A outer s H vs Q E hr h => ?_)
  · obtain ⟨p, dx, q, l, m, fs, xs, rfl, _⟩ := h
    rfl
  · obtain ⟨p, dx, q, l, m, fs, xs, rfl, hp, W, hl, R, few, qq⟩ := h
    have hu := hu_of hr
    have nqp : q ≠ p := fun e => by
      obtain ⟨_, _, _, _, _, _, h1, _⟩ := W.ex
      rw [e, hp] at h1
      have h2 := (HO.ins.inj (Option.some.inj h1)).2.2
      unfold wf at h2
      cases h2
    refine ⟨_, (pss_cons (ps_fld (pv 0) (pv 1) rfl)
      (pss_cons (ps_fld (pv 0) (C8.pe_c (cal_bases T) hr (by decide) rfl (pa_cons (pv 1) pa_nil)) rfl)
      (pss_cons (ps_fld (pv 0) (pe_lc (own := [("span", 3)]) (g := gName 3) (tt := tYes) rfl sc_Making_UinitU.nd (pi_list (C8.pe_c (cal_heard_spans T) hr (by decide) rfl (pa_cons (pv 1) pa_nil))) (blkOk_by (N := N_Making_UinitU) (sc := defScope s_Making_UinitU) (by decide +kernel)) (fun _ _ _ _ _ => (pg_name (i := 3) sc_Making_UinitU.nd rfl (.inl rfl))) (fun _ _ _ _ _ => pts_nil) (fun _ _ _ _ _ => (pe_ix (ix_tupK (K := K) rfl) (pv 3) pe_int (fun _ _ => rfl)))) rfl)
      (pss_cons (ps_fld (pv 0) (C8.pe_c (cal_heard_begins T) hr (by decide) rfl (pa_cons (pv 1) pa_nil)) rfl)
      (pss_cons (ps_fld (pv 0) (pe_dcT (own := [("fact", 4)]) (g := gName 4) (tt := tYes) hu rfl sc_Making_UinitU.nd (pi_list (pv 2)) (blkOk_by (N := N_Making_UinitU) (sc := defScope s_Making_UinitU) (by decide +kernel)) (fun _ _ _ _ _ => (pg_name (i := 4) sc_Making_UinitU.nd rfl (.inl rfl))) (fun _ _ _ _ _ => pts_nil) (fun _ _ _ _ _ => (pe_slice (sl_tupK (K := K) rfl) (pv 4) po_none (po_some pe_int))) (fun _ _ _ _ _ => (pe_tup (pa_cons (pe_ix (ix_tupK (K := K) rfl) (pv 4) pe_int (fun _ _ => rfl)) (pa_cons pe_non pa_nil))))) rfl)
      (pss_cons (ps_fld (pv 0) (pe_lst pa_nil) rfl)
      (pss_one (ps_fld (pv 0) pe_non rfl)))))))), ?_⟩
    refine ⟨_, rfl, _, rfl, p, CM K, dx, [], rfl, hp, cl_Making T, na_Making_web T, (by show 0 < 1000; decide), ?_⟩
    have sb1 : Sb p H (upd H p (.ins (CM K) dx (putF "web" (.ref q) []))) := sb_fld (fun _ _ e _ => e)
    have hp1 : upd H p (.ins (CM K) dx (putF "web" (.ref q) [])) p = some (.ins (CM K) dx [("web", .ref q)]) := upd_same
    generalize upd H p (.ins (CM K) dx (putF "web" (.ref q) [])) = H1 at sb1 hp1 ⊢
    refine ⟨_, rfl, q, m, rfl, W.fld sb1 hp nqp, fun n1 H2 s2 nn1 hn1 => ⟨_, rfl, p, CM K, dx, _, rfl, s2 _ _ hp1, cl_Making T, na_Making_names T, (by show 1 < 1000; decide), ?_⟩⟩
    have sb2 : Sb p H (upd H2 p (.ins (CM K) dx (putF "names" (.ref n1) [("web", .ref q)]))) := sb_fld (sb_same sb1 s2)
    have hp2 : upd H2 p (.ins (CM K) dx (putF "names" (.ref n1) [("web", .ref q)])) p = some (.ins (CM K) dx [("web", .ref q), ("names", .ref n1)]) := up_eq (by rw [pm_names])
    have np1 : n1 ≠ p := (ne_of_none hp1 nn1).symm
    have hn2 : upd H2 p (.ins (CM K) dx (putF "names" (.ref n1) [("web", .ref q)])) n1 = some (.lst ((bsN m).map V.str)) := by rw [upd_ne np1]; exact hn1
    generalize upd H2 p (.ins (CM K) dx (putF "names" (.ref n1) [("web", .ref q)])) = H3 at sb2 hp2 hn2 ⊢
    -- ends
    refine ⟨_, rfl, q, m, rfl, W.fld sb2 hp nqp, fun g H4 s4 ng ⟨gs, hg, rg⟩ => ⟨g, rfl, ⟨_, .inl (.inl hg)⟩, fun D nD => ?_⟩⟩
    have hsl := hs_len m.wd
    have hlen := W.len
    refine lc_list (K := K) (a := g) (xs := gs) (fun i H5 => Same H4 H5 ∧ H5 D = some (.lst ((((hs m.wd).take i).map (·.1)).map V.str))) ⟨same_upd nD, upd_same⟩ (fun i H5 _ ⟨s5, _⟩ => .inl (.inl (s5 _ _ hg))) ?_ ?_
    · rintro i x H5 hx ⟨s5, d5⟩
      obtain ⟨t, y, rfl, ey, ht⟩ := row_of rg hx
      have hi : i < (hs m.wd).length := (List.getElem?_eq_some_iff.mp ey).1
      refine ⟨rfl, yes_i (iteT ⟨_, rfl, t, _, 0, _, rfl, rfl, .inl (.inl (s5 _ _ ht)), atI_nat (j := 0) rfl, _, d5, ?_, same_put s5 nD, ?_⟩)⟩
      · rw [List.length_map, List.length_map, List.length_take]
        exact small1000 (by omega)
      · rw [upd_same, List.take_add_one, ey, List.map_append, List.map_append]
        rfl
    · rintro H5 ⟨s5, d5⟩
      have e0 : (hs m.wd).take gs.length = hs m.wd := List.take_of_length_le (by rw [rg.len, List.length_map]; exact Nat.le_refl _)
      rw [e0] at d5
      have s35 := s4.trans s5
      have hp5 := s35 _ _ hp2
      refine ⟨_, rfl, p, CM K, dx, _, rfl, hp5, cl_Making T, na_Making_ends T, (by show 2 < 1000; decide), ?_⟩
      have nD3 : H3 D = none := s4.free nD
      have npD : D ≠ p := (ne_of_none hp2 nD3).symm
      have n1D : n1 ≠ D := ne_of_none hn2 nD3
      have sb6 : Sb p H (upd H5 p (.ins (CM K) dx (putF "ends" (.ref D) [("web", .ref q), ("names", .ref n1)]))) := sb_fld (sb_same sb2 s35)
      have hp6 : upd H5 p (.ins (CM K) dx (putF "ends" (.ref D) [("web", .ref q), ("names", .ref n1)])) p = some (.ins (CM K) dx [("web", .ref q), ("names", .ref n1), ("ends", .ref D)]) := up_eq (by rw [pm_ends])
      have hn6 : upd H5 p (.ins (CM K) dx (putF "ends" (.ref D) [("web", .ref q), ("names", .ref n1)])) n1 = some (.lst ((bsN m).map V.str)) := by rw [upd_ne np1]; exact s35 _ _ hn2
      have he6 : upd H5 p (.ins (CM K) dx (putF "ends" (.ref D) [("web", .ref q), ("names", .ref n1)])) D = some (.lst ((enN m).map V.str)) := by rw [upd_ne npD]; exact d5
      generalize upd H5 p (.ins (CM K) dx (putF "ends" (.ref D) [("web", .ref q), ("names", .ref n1)])) = H6 at sb6 hp6 hn6 he6 ⊢
      -- heard
      refine ⟨_, rfl, q, m, rfl, W.fld sb6 hp nqp, fun hd H7 s7 nhd hhd => ⟨_, rfl, p, CM K, dx, _, rfl, s7 _ _ hp6, cl_Making T, na_Making_heard T, (by show 3 < 1000; decide), ?_⟩⟩
      have nph : hd ≠ p := (ne_of_none hp6 nhd).symm
      have k8 : Kt H7 (upd H7 p (.ins (CM K) dx (putF "heard" (.ref hd) [("web", .ref q), ("names", .ref n1), ("ends", .ref D)]))) := Kt.upd fun _ e => by rw [s7 _ _ hp6] at e; cases e
      have sb8 : Sb p H (upd H7 p (.ins (CM K) dx (putF "heard" (.ref hd) [("web", .ref q), ("names", .ref n1), ("ends", .ref D)]))) := sb_fld (sb_same sb6 s7)
      have hp8 : upd H7 p (.ins (CM K) dx (putF "heard" (.ref hd) [("web", .ref q), ("names", .ref n1), ("ends", .ref D)])) p = some (.ins (CM K) dx [("web", .ref q), ("names", .ref n1), ("ends", .ref D), ("heard", .ref hd)]) := up_eq (by rw [pm_heard])
      have hn8 : upd H7 p (.ins (CM K) dx (putF "heard" (.ref hd) [("web", .ref q), ("names", .ref n1), ("ends", .ref D)])) n1 = some (.lst ((bsN m).map V.str)) := by rw [upd_ne np1]; exact s7 _ _ hn6
      have he8 : upd H7 p (.ins (CM K) dx (putF "heard" (.ref hd) [("web", .ref q), ("names", .ref n1), ("ends", .ref D)])) D = some (.lst ((enN m).map V.str)) := by rw [upd_ne npD]; exact s7 _ _ he6
      have hh8 : HdD (upd H7 p (.ins (CM K) dx (putF "heard" (.ref hd) [("web", .ref q), ("names", .ref n1), ("ends", .ref D)]))) hd (hkOf (hs m.wd)) := by
        obtain ⟨kvs, h1, h2⟩ := hhd
        exact ⟨kvs, by rw [upd_ne nph]; exact h1, h2.keep k8⟩
      generalize upd H7 p (.ins (CM K) dx (putF "heard" (.ref hd) [("web", .ref q), ("names", .ref n1), ("ends", .ref D)])) = H8 at sb8 hp8 hn8 he8 hh8 ⊢
      have nlp : l ≠ p := ne_of hl hp (fun z => nomatch z)
      have hl8 := sb8 _ _ hl nlp
      have R8 := R.keep (sb_kt sb8 hp)
      -- made
      refine ⟨_, rfl, l, rfl, ⟨_, .inl (.inl hl8)⟩, fun M nM => ?_⟩
      have lx : xs.length = fs.length := by rw [R.len, List.length_map]
      refine dcT_walk (walk_list (K := K) (a := l) (xs := xs)) (fun i H9 => Same H8 H9 ∧ ∃ kvs, H9 M = some (.dT kvs) ∧ MdV H9 kvs (mkI (fs.take i))) ⟨same_upd nM, [], upd_same, .nil⟩ (fun i H9 _ h => .inl (.inl (h.1 _ _ hl8))) ?_ ?_
      · rintro i v H9' H9 hi ⟨s9, kvs, d9, v9⟩ ⟨rfl, hv⟩
        obtain ⟨t, c, rfl, ec, ht⟩ := row_of R8 hv
        have ht9 := s9 _ _ ht
        have lk := v9.len
        have lm := mkI_len (fs.take i)
        have lt : (fs.take i).length ≤ 1000 := by rw [List.length_take]; omega
        refine ⟨rfl, yes_i (iteT ⟨_, rfl, 3, rfl, t, _, rfl, .inl (.inl ht9), (fun z => (show ¬ HT.sIx 4 4 (some 3) = 4 by decide) z.2), fun k nk => ?_⟩)⟩
        rw [show cutV (fcR c) none (some 3) = kyR c.1 from rfl]
        have sk := same_upd (o := .tup (kyR c.1)) nk
        have hk : upd H9 k (.tup (kyR c.1)) k = some (.tup ((kyL c.1).map kV)) := upd_same
        refine ⟨_, rfl, t, _, 3, _, rfl, rfl, .inl (.inl (sk _ _ ht9)), atI_nat (j := 3) rfl, (by show 2 ≤ sizeLine; decide), fun u nu => ?_⟩
        have su := sk.trans (same_upd (o := .tup (vlR (c.2, none))) nu)
        have dM := su _ _ d9
        refine ⟨kvs, kyL c.1, k, rfl, same_upd nu _ _ hk, dM, small1000 (by omega), same_put (s9.trans su) nM, _, upd_same, ?_⟩
        have kM : Kt (upd (upd H9 k (.tup (kyR c.1))) u (.tup (vlR (c.2, none)))) (upd (upd (upd H9 k (.tup (kyR c.1))) u (.tup (vlR (c.2, none)))) M (.dT (putK kvs (kyL c.1) (.ref u)))) := Kt.upd fun _ e => by rw [dM] at e; cases e
        have et : mkI (fs.take (i + 1)) = Se.put c.1 (c.2, none) (mkI (fs.take i)) := by
          unfold mkI
          rw [List.take_add_one, ec, List.foldl_append]
          rfl
        rw [et]
        exact ((v9.keep (.of su)).put upd_same).keep kM
      · rintro H9 ⟨s9, kvs, d9, v9⟩
        rw [lx, List.take_length] at v9
        refine ⟨_, rfl, p, CM K, dx, _, rfl, s9 _ _ hp8, cl_Making T, na_Making_made T, (by show 4 < 1000; decide), ?_⟩
        have npM : M ≠ p := (ne_of_none hp8 nM).symm
        have k10 : Kt H9 (upd H9 p (.ins (CM K) dx (putF "made" (.ref M) [("web", .ref q), ("names", .ref n1), ("ends", .ref D), ("heard", .ref hd)]))) := Kt.upd fun _ e => by rw [s9 _ _ hp8] at e; cases e
        have sb10 : Sb p H (upd H9 p (.ins (CM K) dx (putF "made" (.ref M) [("web", .ref q), ("names", .ref n1), ("ends", .ref D), ("heard", .ref hd)]))) := sb_fld (sb_same sb8 s9)
        have hp10 : upd H9 p (.ins (CM K) dx (putF "made" (.ref M) [("web", .ref q), ("names", .ref n1), ("ends", .ref D), ("heard", .ref hd)])) p = some (.ins (CM K) dx [("web", .ref q), ("names", .ref n1), ("ends", .ref D), ("heard", .ref hd), ("made", .ref M)]) := up_eq (by rw [pm_made])
        have hn10 : upd H9 p (.ins (CM K) dx (putF "made" (.ref M) [("web", .ref q), ("names", .ref n1), ("ends", .ref D), ("heard", .ref hd)])) n1 = some (.lst ((bsN m).map V.str)) := by rw [upd_ne np1]; exact s9 _ _ hn8
        have he10 : upd H9 p (.ins (CM K) dx (putF "made" (.ref M) [("web", .ref q), ("names", .ref n1), ("ends", .ref D), ("heard", .ref hd)])) D = some (.lst ((enN m).map V.str)) := by rw [upd_ne npD]; exact s9 _ _ he8
        have hh10 : HdD (upd H9 p (.ins (CM K) dx (putF "made" (.ref M) [("web", .ref q), ("names", .ref n1), ("ends", .ref D), ("heard", .ref hd)]))) hd (hkOf (hs m.wd)) := by
          obtain ⟨kvs, h1, h2⟩ := hh8.same s9
          exact ⟨kvs, by rw [upd_ne nph]; exact h1, h2.keep k10⟩
        have hM10 : upd H9 p (.ins (CM K) dx (putF "made" (.ref M) [("web", .ref q), ("names", .ref n1), ("ends", .ref D), ("heard", .ref hd)])) M = some (.dT kvs) := by rw [upd_ne npM]; exact d9
        have v10 := v9.keep k10
        generalize upd H9 p (.ins (CM K) dx (putF "made" (.ref M) [("web", .ref q), ("names", .ref n1), ("ends", .ref D), ("heard", .ref hd)])) = H10 at sb10 hp10 hn10 he10 hh10 hM10 v10 ⊢
        -- rows, fault
        refine ⟨Nat.zero_le _, fun L nL => ?_⟩
        have s11 : Same H10 (upd H10 L (.lst [])) := same_upd nL
        have hL11 : upd H10 L (.lst []) L = some (.lst []) := upd_same
        have nLp : L ≠ p := (ne_of_none hp10 nL).symm
        have nL1 : n1 ≠ L := ne_of_none hn10 nL
        have nL2 : D ≠ L := ne_of_none he10 nL
        generalize upd H10 L (.lst []) = H11 at s11 hL11 ⊢
        refine ⟨_, rfl, p, CM K, dx, _, rfl, s11 _ _ hp10, cl_Making T, na_Making_rows T, (by show 5 < 1000; decide), ?_⟩
        refine ⟨_, rfl, p, CM K, dx, _, rfl, upd_same, cl_Making T, na_Making_fault T, (by rw [pm_rows]; show 6 < 1000; decide), ?_⟩
        have hPz : ∀ o : HO, ∀ b x, H11 b = some x → b ≠ p → upd (upd H11 p (.ins (CM K) dx (putF "rows" (.ref L) [("web", .ref q), ("names", .ref n1), ("ends", .ref D), ("heard", .ref hd), ("made", .ref M)]))) p o b = some x := fun o b x e n => by rw [upd_ne n, upd_ne n]; exact e
        have kz : ∀ f : List (Str × V), Kt H11 (upd (upd H11 p (.ins (CM K) dx (putF "rows" (.ref L) [("web", .ref q), ("names", .ref n1), ("ends", .ref D), ("heard", .ref hd), ("made", .ref M)]))) p (.ins (CM K) dx f)) := fun f b ys e => hPz _ b _ e (ne_of e (s11 _ _ hp10) (fun z => nomatch z))
        refine qq ⟨p, dx, q, n1, D, hd, M, L⟩ _ rfl ⟨sb_out sb8 nM npM, sb_out sb10 nL nLp⟩ (fun b o e n => hPz _ b o (s11 _ _ (sb10 b o e n)) n) ⟨up_eq (by rw [pm_rows, pm_fault]; rfl), ⟨kvs, hPz _ _ _ (s11 _ _ hM10) npM, (v10.keep (.of s11)).keep (kz _)⟩, ⟨[], hPz _ _ _ hL11 nLp, .nil⟩, hPz _ _ _ (s11 _ _ hn10) np1, hPz _ _ _ (s11 _ _ he10) npD, ?_, ?_, ⟨nL1, nL2, nqp⟩, ?_⟩
        · obtain ⟨kvs, h1, h2⟩ := hh10.same s11
          exact ⟨kvs, hPz _ _ _ h1 nph, h2.keep (kz _)⟩
        · exact W.fld (sb_fld (sb_fld (sb_same sb10 s11))) hp nqp
        · show (mkI fs).length ≤ 0 + 1000
          have := mkI_len fs
          omega
theorem mak_Making (T : Tp K mg) : Mak P w K mg base 9 "Making" (CM K) (sp_mki K) [] := by
  obtain ⟨fd, F⟩ := f_Making_UinitU T
  exact ⟨_, fd, ["self", "web", "facts"], [], mk_Making T, fn_mki T F, g_Making T, b_Making_UinitU F, .nil⟩
end
end Tw

set_option maxHeartbeats 4000000
namespace Tw
open PySem PySem.Spec PyProof.Rows L2
/-! rows that are read lie above a closed table -/
def Ft.ky (f : Ft) : Ky := (f.u, f.a, f.b)
theorem lt_of {l : List Ft} {k : Str} {f : Ft} (h : ltOf l k = some f) : f ∈ l := by
  have gen : ∀ (l : List Ft) (g : Str → Option Ft), l.foldl ltS g k = some f → f ∈ l ∨ g k = some f := by
    intro l
    induction l with
    | nil => exact fun g h => .inr h
    | cons x l ih =>
      intro g h
      rcases ih (ltS g x) h with h | h
      · exact .inl (List.mem_cons_of_mem _ h)
      · unfold ltS at h
        split at h
        · cases h
          exact .inl List.mem_cons_self
        · exact .inr h
  exact (gen l _ h).resolve_right (fun z => nomatch z)
theorem sg_one {z : Str} (hz : z = "sure" ∨ z = "soon" ∨ z = "ahead") (g : Hk) (o : Ft) : ∃ j, j < 3 ∧ rSg z g o = (Se.one g j o.ky o.n).map ftO := by
  rcases hz with rfl | rfl | rfl
  · refine ⟨0, by decide, ?_⟩
    unfold rSg
    rw [if_pos rfl]
    unfold rSure
    show (if o.u = true then (g o.a).map _ else none) = (if o.u = true then (g o.a).map _ else none).map ftO
    split
    · rw [Option.map_map]; rfl
    · rfl
  · refine ⟨1, by decide, ?_⟩
    unfold rSg
    rw [if_neg (by decide +kernel), if_pos rfl]
    unfold rSoon
    show (if o.u = false ∧ o.n < 0 then (g o.a).map _ else none) = (if o.u = false ∧ o.n < 0 then (g o.a).map _ else none).map ftO
    split
    · rw [Option.map_map]; rfl
    · rfl
  · refine ⟨2, by decide, ?_⟩
    unfold rSg
    rw [if_neg (by decide +kernel), if_neg (by decide +kernel)]
    unfold rAhead
    show (if o.u = true ∧ ¬ o.a = o.b ∧ o.n < 0 then (g o.b).map _ else none) = (if o.u = true ∧ ¬ o.a = o.b ∧ o.n < 0 then (g o.b).map _ else none).map ftO
    split
    · rw [Option.map_map]; rfl
    · rfl
theorem step_le {m : Md} {t : Se.MS Str} (C : ClM m t) (J : Se.Just (Se.keys (bsN m) (enN m)) t) (Tl : Se.Told (bnT m) (ltT m) t) {prev : List Ft} (hp : ∀ o ∈ prev, Se.Le t o.ky o.n) {f : Ft} {r : Rw} (h : Step m prev f r) : Se.Le t f.ky f.n := by
  cases r with
  | told x y n =>
    obtain ⟨h1, rfl⟩ := h
    rw [bn_tr] at h1
    obtain ⟨b, hb, e⟩ := List.mem_map.1 h1
    unfold trR at e
    cases e
    exact Tl.bound b hb
  | late k =>
    have := lt_of h
    obtain ⟨x, hx, rfl⟩ := List.mem_map.1 this
    exact Tl.late (x.1, -x.2.2.2) (List.mem_map.2 ⟨x, hx, rfl⟩)
  | pr z i j =>
    obtain ⟨hz, o, p, ho, hpp, e⟩ := h
    have lo := hp o (List.mem_of_getElem? ho)
    have lp := hp p (List.mem_of_getElem? hpp)
    unfold rPr at e
    split at e
    · unfold rAlong at e
      split at e
      · rename_i c
        cases e
        obtain ⟨ou, oa, ob, on⟩ := o
        obtain ⟨pu, pa, pb, pn⟩ := p
        obtain ⟨c1, c2, c3⟩ := c
        have c1 : ou = false := c1
        have c2 : pu = false := c2
        have c3 : ob = pa := c3
        subst c1 c2 c3
        exact Se.le_along C J lo lp
      · cases e
    · unfold rWait at e
      split at e
      · rename_i c
        cases e
        obtain ⟨ou, oa, ob, on⟩ := o
        obtain ⟨pu, pa, pb, pn⟩ := p
        obtain ⟨c1, c2, c3⟩ := c
        have c1 : ou = false := c1
        have c2 : pu = true := c2
        have c3 : ob = pb := c3
        subst c1 c2 c3
        exact Se.le_wait C J lo lp
      · cases e
  | sg z i =>
    obtain ⟨hz, o, ho, _, e⟩ := h
    obtain ⟨j, hj, ej⟩ := sg_one hz (hkOf (hs m.wd)) o
    rw [ej] at e
    obtain ⟨r, hr, e⟩ := Option.map_eq_some_iff.1 e
    rw [← e]
    exact Se.le_one C hj (hp o (List.mem_of_getElem? ho)) hr
theorem red_le {m : Md} {t : Se.MS Str} (C : ClM m t) (J : Se.Just (Se.keys (bsN m) (enN m)) t) (Tl : Se.Told (bnT m) (ltT m) t) {rws : List Rw} {fs : List Ft} (R : Red m rws fs) : ∀ f ∈ fs, Se.Le t f.ky f.n := by
  have gen : ∀ n, ∀ f ∈ fs.take n, Se.Le t f.ky f.n := by
    intro n
    induction n with
    | zero => exact fun f h => absurd h List.not_mem_nil
    | succ n ih =>
      intro f hf
      rw [List.take_add_one] at hf
      rcases List.mem_append.1 hf with h | h
      · exact ih f h
      · cases e : fs[n]? with
        | none => rw [e] at h; exact absurd h List.not_mem_nil
        | some g =>
          rw [e] at h
          have eg : f = g := List.mem_singleton.1 h
          have ln : n < rws.length := by
            rw [← R.len]
            exact (List.getElem?_eq_some_iff.1 e).1
          obtain ⟨g', h1, h2⟩ := R.st n _ (List.getElem?_eq_getElem ln)
          rw [e] at h1
          cases h1
          rw [eg]
          exact step_le C J Tl ih h2
  intro f hf
  obtain ⟨n, hn, e⟩ := List.mem_iff_getElem.1 hf
  exact gen (n + 1) f (by
    rw [List.take_add_one, List.getElem?_eq_getElem hn]
    exact List.mem_append.2 (.inr (List.mem_singleton.2 e.symm)))
/-- an arrow below nought: a bound of the table below nought -/
theorem arrow_le {m : Md} {F : Int} {t : Se.MS Str} (SO : SgOk m F) (C : ClM m t) {f : Ft} (h : Se.Le t f.ky f.n) (nn : f.n < 0) : (f.u = false → Se.Le t (false, f.a, f.b) (-1)) ∧ (f.u = true → ∀ r, hkOf (hs m.wd) f.a = some r → Se.Le t (false, f.b, r.1) (-1)) := by
  obtain ⟨u, a, b, n⟩ := f
  refine ⟨fun e => ?_, fun e r hr => ?_⟩
  · have e : u = false := e
    subst e
    exact h.up (by have : n < 0 := nn; show n ≤ -1; omega)
  · have e : u = true := e
    subst e
    exact Se.le_sure SO.wb C hr h nn
/-- the first state of a web -/
theorem mkI_init {m : Md} (ok : MdOk m) : (⟨mkI ((bsN m).map fun x => ((false, x, x), 0)), [], none⟩ : Se.MS Str) = Se.init (bsN m) := by
  have gen : ∀ (l done : List Str), (done ++ l).Nodup → (l.map fun x => (((false, x, x), 0) : Ky × Int)).foldl (fun l c => Se.put c.1 (c.2, none) l) (done.map fun x => (((false, x, x), (0, none)) : Ky × (Int × Option Nat))) = (done ++ l).map fun x => (((false, x, x), (0, none)) : Ky × (Int × Option Nat)) := by
    intro l
    induction l with
    | nil => intro done _; rw [List.append_nil]; rfl
    | cons x l ih =>
      intro done nd
      have no : ((done.map fun x => (((false, x, x), (0, none)) : Ky × (Int × Option Nat))).any fun c => decide (c.1 = ((false, x, x) : Ky))) = false := by
        rw [List.any_eq_false]
        intro c hc
        obtain ⟨y, hy, rfl⟩ := List.mem_map.1 hc
        have : y ≠ x := (List.nodup_append.1 nd).2.2 y hy x List.mem_cons_self
        simpa using fun z : y = x => this z
      have e : Se.put ((false, x, x) : Ky) ((0, none) : Int × Option Nat) (done.map fun x => (((false, x, x), (0, none)) : Ky × (Int × Option Nat))) = (done ++ [x]).map fun x => (((false, x, x), (0, none)) : Ky × (Int × Option Nat)) := by
        unfold Se.put
        rw [no, if_neg (by simp), List.map_append]
        rfl
      rw [List.map_cons, List.foldl_cons]
      show List.foldl _ (Se.put (false, x, x) (0, none) _) _ = _
      rw [e, ih (done ++ [x]) (by rw [List.append_assoc]; exact nd), List.append_assoc]
      rfl
  unfold mkI Se.init
  rw [show ([] : List (Ky × (Int × Option Nat))) = ([] : List Str).map fun x => (((false, x, x), (0, none)) : Ky × (Int × Option Nat)) from rfl, gen (bsN m) [] (by rw [List.nil_append]; exact bs_nodup ok), List.nil_append]
end Tw

set_option maxHeartbeats 4000000
namespace Tw
open PySem PySem.Spec PyProof.Rows L2
/-! table.py: a table in the heap, its bounds and waits told -/
abbrev Pr : Type := (Str × Str) × Int
def prL (k : Str × Str) : List Key := [kS k.1, kS k.2]
def tvL (l : List Pr) : List (List Key × V) := l.map fun c => (prL c.1, .int c.2)
theorem prL_inj {a b : Str × Str} (h : prL a = prL b) : a = b := by
  obtain ⟨x, y⟩ := a
  obtain ⟨x', y'⟩ := b
  unfold prL at h
  obtain ⟨h1, h⟩ := List.cons.inj h
  obtain ⟨h2, _⟩ := List.cons.inj h
  have e1 : x = x' := Sum.inr.inj h1
  have e2 : y = y' := Sum.inr.inj h2
  rw [e1, e2]
theorem tv_nodup {l : List Pr} (h : (l.map (·.1)).Nodup) : ((tvL l).map (·.1)).Nodup := by
  induction l with
  | nil => exact List.nodup_nil
  | cons c l ih =>
    have h' := List.nodup_cons.1 h
    refine List.nodup_cons.2 ⟨fun z => h'.1 ?_, ih h'.2⟩
    unfold tvL at z
    rw [List.map_map] at z
    obtain ⟨d, hd, e⟩ := List.mem_map.1 z
    exact List.mem_map.2 ⟨d, hd, prL_inj e⟩
theorem tv_val {l : List Pr} (h : (l.map (·.1)).Nodup) {k : Str × Str} {n : Int} (hm : (k, n) ∈ l) : valV (tvL l) (prL k) = some (.int n) := by
  obtain ⟨i, hi, e⟩ := List.mem_iff_getElem.1 hm
  refine valV_at (i := i) (tv_nodup h) ?_
  unfold tvL
  rw [List.getElem?_map, List.getElem?_eq_getElem hi, e]
  rfl
structure TbA where
  p : Addr
  dx : Addr
  d1 : Addr
  d2 : Addr
  d3 : Addr
  d4 : Addr
def tbF (a : TbA) : List (Str × V) := [("bound_amounts", .ref a.d1), ("wait_amounts", .ref a.d2), ("base_names", .ref a.d3), ("span_names", .ref a.d4)]
theorem tb_1 {a : TbA} : (tbF a).lookup ("bound_amounts" : Str) = some (.ref a.d1) := by
  unfold tbF
  rw [List.lookup_cons_self]
theorem tb_2 {a : TbA} : (tbF a).lookup ("wait_amounts" : Str) = some (.ref a.d2) := by
  unfold tbF
  rw [List.lookup_cons, show (("wait_amounts" : Str) == "bound_amounts") = false by decide +kernel, List.lookup_cons_self]
theorem tb_3 {a : TbA} : (tbF a).lookup ("base_names" : Str) = some (.ref a.d3) := by
  unfold tbF
  rw [List.lookup_cons, show (("base_names" : Str) == "bound_amounts") = false by decide +kernel, List.lookup_cons, show (("base_names" : Str) == "wait_amounts") = false by decide +kernel, List.lookup_cons_self]
theorem tb_4 {a : TbA} : (tbF a).lookup ("span_names" : Str) = some (.ref a.d4) := by
  unfold tbF
  rw [List.lookup_cons, show (("span_names" : Str) == "bound_amounts") = false by decide +kernel, List.lookup_cons, show (("span_names" : Str) == "wait_amounts") = false by decide +kernel, List.lookup_cons, show (("span_names" : Str) == "base_names") = false by decide +kernel, List.lookup_cons_self]
abbrev CT (K : PySem.W.Frag) : Addr := He.ga K "Table"
/-- a table with the bounds l1 and the waits l2 -/
structure TbAt (K : PySem.W.Frag) (H : Hp) (a : TbA) (l1 l2 : List Pr) : Prop where
  obj : H a.p = some (.ins (CT K) a.dx (tbF a))
  b : H a.d1 = some (.dT (tvL l1))
  w : H a.d2 = some (.dT (tvL l2))
  bn : ∃ kb, H a.d3 = some (.dK kb) ∧ (∀ c ∈ l1, (valV kb (kS c.1.1)).isSome = true ∧ (valV kb (kS c.1.2)).isSome = true) ∧ ∀ c ∈ l2, (valV kb (kS c.1.2)).isSome = true
  sn : ∃ ks, H a.d4 = some (.dK ks) ∧ ∀ c ∈ l2, (valV ks (kS c.1.1)).isSome = true
  nd1 : (l1.map (·.1)).Nodup
  nd2 : (l2.map (·.1)).Nodup
theorem TbAt.same {K : PySem.W.Frag} {H H' : Hp} {a : TbA} {l1 l2 : List Pr} (h : TbAt K H a l1 l2) (s : Same H H') : TbAt K H' a l1 l2 := by
  obtain ⟨kb, h1, h2⟩ := h.bn
  obtain ⟨ks, h3, h4⟩ := h.sn
  exact ⟨s _ _ h.obj, s _ _ h.b, s _ _ h.w, ⟨kb, s _ _ h1, h2⟩, ⟨ks, s _ _ h3, h4⟩, h.nd1, h.nd2⟩
section
variable {P : Program} {w : World} {K : PySem.W.Frag} {mg : Str → Option Value} {base : Heap}
def sp_nbase (K : PySem.W.Frag) : Sp := fun vs H Q _ => ∃ (a : TbA) (z : Str) (kb : List (Key × V)), vs = [.ref a.p, .str z] ∧ H a.p = some (.ins (CT K) a.dx (tbF a)) ∧ H a.d3 = some (.dK kb) ∧ (valV kb (kS z)).isSome = true ∧ Q .non H
theorem cal_need_base (T : Tp K mg) : Cal P w K mg base 3 "need_base" (sp_nbase K) := by
  obtain ⟨fd, F⟩ := f_need_base T
  refine cal_of F (g_need_base T) (b_need_base F) sc_need_base (fun vs H Q E h => ?_) (fun cdv A outer s H vs Q E hr h => ?_)
  · obtain ⟨a, z, kb, rfl, _⟩ := h
    rfl
  · obtain ⟨a, z, kb, rfl, hp, hd, hz, q⟩ := h
    refine ⟨_, (pss_one (ps_if (pt_not (pt_val (C8.pe_c (cal_one_ofD T) hr (by decide) rfl (pa_cons (pv 1) (pa_cons (pe_fld (pv 0) rfl) pa_nil))))) (pss_one ps_never) pss_nil)), ?_⟩
    refine ⟨_, rfl, _, rfl, a.p, CT K, a.dx, _, _, rfl, hp, cl_Table T, na_Table_base_names T, tb_3, z, a.d3, kb, rfl, hd, _, rfl, ?_⟩
    rw [hz]
    exact iteF q
def sp_between (K : PySem.W.Frag) : Sp := fun vs H Q _ => ∃ (a : TbA) (l1 l2 : List Pr) (x y : Str) (n : Int), vs = [.ref a.p, .str x, .str y] ∧ TbAt K H a l1 l2 ∧ ((x, y), n) ∈ l1 ∧ ∀ H', Same H H' → Q (.int n) H'
def sp_until (K : PySem.W.Frag) : Sp := fun vs H Q _ => ∃ (a : TbA) (l1 l2 : List Pr) (e x : Str) (n : Int), vs = [.ref a.p, .str e, .str x] ∧ TbAt K H a l1 l2 ∧ ((e, x), n) ∈ l2 ∧ ∀ H', Same H H' → Q (.int n) H'
theorem met_Table_until (T : Tp K mg) : Met P w K mg base 4 (CT K) "until" (sp_until K) := by
  obtain ⟨fd, F⟩ := f_Table_until T
  refine met_of F (cl_Table T) (me_Table_until T) (b_Table_until F) sc_Table_until (fun vs H Q E h => ?_) (fun cdv A outer s H vs Q E hr h => ?_)
  · obtain ⟨a, l1, l2, e, x, n, rfl, _⟩ := h
    rfl
  · obtain ⟨a, l1, l2, e, x, n, rfl, B, hm, q⟩ := h
    have hu := hu_of hr
    obtain ⟨kb, h3, _, h5⟩ := B.bn
    obtain ⟨ks, h6, h7⟩ := B.sn
    have g5 := h5 _ hm
    have g7 := h7 _ hm
    refine ⟨_, (pss_cons (ps_if (pt_not (pt_val (C8.pe_c (cal_one_ofD T) hr (by decide) rfl (pa_cons (pv 1) (pa_cons (pe_fld (pv 0) rfl) pa_nil))))) (pss_one ps_never) pss_nil)
      (pss_cons (ps_expr (C8.pe_c (cal_need_base T) hr (by decide) rfl (pa_cons (pv 0) (pa_cons (pv 2) pa_nil))))
      (pss_one (ps_ret (pe_dget hu (pe_fld (pv 0) rfl) (pe_tup (pa_cons (pv 1) (pa_cons (pv 2) pa_nil))) (fun _ _ => rfl)))))), ?_⟩
    refine ⟨_, rfl, _, rfl, a.p, CT K, a.dx, _, _, rfl, B.obj, cl_Table T, na_Table_span_names T, tb_4, e, a.d4, ks, rfl, h6, _, rfl, ?_⟩
    rw [show (valV ks (kS e)).isSome = true from g7]
    refine iteF ⟨_, rfl, _, rfl, a, x, kb, rfl, B.obj, h3, g5, ?_⟩
    refine ⟨_, rfl, a.p, CT K, a.dx, _, _, rfl, B.obj, cl_Table T, na_Table_wait_amounts T, tb_2, _, rfl, _, rfl, (by show 2 ≤ sizeLine; decide), fun t nt => ⟨a.d2, .int n, rfl, ?_, ?_⟩⟩
    · have s1 := same_upd (o := .tup [.str e, .str x]) nt
      rw [← tv_val B.nd2 hm]
      exact DGet.t (k := prL (e, x)) (s1 _ _ B.w) upd_same
    · exact q _ (same_upd nt)
end
end Tw

set_option maxHeartbeats 4000000
namespace Tw
open PySem PySem.Spec PyProof.Rows L2
/-! papers.py: arrows of facts -/
/-- the pair of bases of a fact -/
def arOf (g : Hk) (f : Ft) : Str × Str := if f.u = true then (f.b, ((g f.a).getD ("", 0)).1) else (f.a, f.b)
section
variable {P : Program} {w : World} {K : PySem.W.Frag} {mg : Str → Option Value} {base : Heap}
def sp_arrow : Sp := fun vs H Q _ => ∃ (d t : Addr) (g : Hk) (f : Ft), vs = [.ref d, .ref t] ∧ HdD H d g ∧ H t = some (.tup f.row) ∧ okSure g f ∧ ∀ u, H u = none → Q (.ref u) (upd H u (.tup [.str (arOf g f).1, .str (arOf g f).2]))
end
/-! rings of facts that lie above a closed table: there are none -/
/-- arrow i begins where the one ahead of it ends, the last one ahead of the first -/
def chB (as : List (Str × Str)) : Bool := (List.range as.length).all fun i => decide ((as.getD (if i = 0 then as.length - 1 else i - 1) ("", "")).2 = (as.getD i ("", "")).1)
theorem ring_no {m : Md} {t : Se.MS Str} {F : Int} (SO : SgOk m F) (C : ClM m t) (J : Se.Just (Se.keys (bsN m) (enN m)) t) (D : Se.Dg (bsN m) t) {fs : List Ft} (hne : fs ≠ []) (hf : ∀ f ∈ fs, f.n < 0 ∧ Se.Le t f.ky f.n ∧ okSure (hkOf (hs m.wd)) f) : chB (fs.map (arOf (hkOf (hs m.wd)))) = false := by
  cases hc : chB (fs.map (arOf (hkOf (hs m.wd)))) with
  | false => rfl
  | true =>
    exfalso
    have hp : 0 < fs.length := List.length_pos_iff.2 hne
    unfold chB at hc
    rw [List.all_eq_true] at hc
    have at_ : ∀ i, i < fs.length → ∃ f ∈ fs, (fs.map (arOf (hkOf (hs m.wd)))).getD i ("", "") = arOf (hkOf (hs m.wd)) f := fun i hi => by
      refine ⟨fs[i], List.getElem_mem hi, ?_⟩
      rw [List.getD_eq_getElem?_getD, List.getElem?_map, List.getElem?_eq_getElem hi]
      rfl
    refine Se.no_ring C J D (a := fun i => ((fs.map (arOf (hkOf (hs m.wd)))).getD i ("", "")).1) (b := fun i => ((fs.map (arOf (hkOf (hs m.wd)))).getD i ("", "")).2) (m := fs.length - 1) (fun i hi => ?_) (fun i hi => ?_) ?_
    · obtain ⟨f, hm, e⟩ := at_ i (by omega)
      obtain ⟨h1, h2, h3⟩ := hf f hm
      have g := arrow_le SO C h2 h1
      show Se.Le t (false, ((fs.map (arOf (hkOf (hs m.wd)))).getD i (("" : Str), ("" : Str))).1, ((fs.map (arOf (hkOf (hs m.wd)))).getD i (("" : Str), ("" : Str))).2) (-1)
      rw [e]
      unfold arOf
      cases eu : f.u with
      | false =>
        rw [if_neg (by simp)]
        exact g.1 eu
      | true =>
        rw [if_pos rfl]
        obtain ⟨r, er⟩ := Option.isSome_iff_exists.1 (h3 eu)
        rw [er]
        exact g.2 eu r er
    · have := of_decide_eq_true (hc (i + 1) (List.mem_range.2 (by rw [List.length_map]; omega)))
      rw [if_neg (by omega), Nat.add_sub_cancel] at this
      exact this
    · have := of_decide_eq_true (hc 0 (List.mem_range.2 (by rw [List.length_map]; omega)))
      rw [if_pos rfl, List.length_map] at this
      exact this
end Tw

set_option maxHeartbeats 4000000
namespace Tw
open PySem PySem.Spec PyProof.Rows L2
/-! table.py: a new Table -/
/-- all but a locked dict -/
def Lk (d : Addr) (f : HO) (H Hc : Hp) : Prop := (∀ b o, H b = some o → b ≠ d → Hc b = some o) ∧ Hc d = some f
theorem Lk.new {d : Addr} {f : HO} {H : Hp} : Lk d f H (upd H d f) := ⟨fun b o e n => by rw [upd_ne n]; exact e, upd_same⟩
theorem Lk.put {d D : Addr} {f o : HO} {H Hc : Hp} (h : Lk d f H Hc) (nD : H D = none) (nd : D ≠ d) : Lk d f H (upd Hc D o) := ⟨fun b x e n => by rw [upd_ne (ne_of_none e nD)]; exact h.1 b x e n, by rw [upd_ne nd.symm]; exact h.2⟩
theorem Lk.out {d : Addr} {f u : HO} {H Hc : Hp} (h : Lk d f H Hc) (hd : H d = some u) : Same H (upd Hc d u) := fun b o e => by
  by_cases c : b = d
  · rw [c, upd_same, ← hd, ← c, e]
  · rw [upd_ne c]; exact h.1 b o e c
theorem Lk.same {d : Addr} {f : HO} {H Hc H' : Hp} (h : Lk d f H Hc) (s : Same Hc H') : Lk d f H H' := ⟨fun b o e n => s _ _ (h.1 b o e n), s _ _ h.2⟩
theorem tv_len (l : List Pr) : (tvL l).length = l.length := by unfold tvL; rw [List.length_map]
theorem tv_at {l : List Pr} {i : Nat} {k : List Key} {v : V} (h : (tvL l)[i]? = some (k, v)) : ∃ c, l[i]? = some c ∧ k = prL c.1 ∧ v = .int c.2 := by
  unfold tvL at h
  rw [List.getElem?_map] at h
  obtain ⟨c, hc, e⟩ := Option.map_eq_some_iff.1 h
  cases e
  exact ⟨c, hc, rfl, rfl⟩
def nmL (l : List Pr) : List V := l.flatMap fun c => [V.str c.1.1, V.str c.1.2]
theorem nmL_len (l : List Pr) : (nmL l).length = 2 * l.length := by
  unfold nmL
  induction l with
  | nil => rfl
  | cons c l ih =>
    rw [List.flatMap_cons, List.length_append, ih]
    show 2 + 2 * l.length = 2 * (l.length + 1)
    omega
theorem nmL_snoc {l : List Pr} {i : Nat} {c : Pr} (h : l[i]? = some c) : nmL (l.take (i + 1)) = nmL (l.take i) ++ [V.str c.1.1, V.str c.1.2] := by
  unfold nmL
  rw [List.take_add_one, h, List.flatMap_append]
  rfl
theorem names_dT {K : PySem.W.Frag} {σ : L2.St} {H : Hp} {Q : VK} {d : Addr} {l : List Pr} {j g g1 : Nat} {vs vs1 : List Nat} (hd : H d = some (.dT (tvL l))) (few : l.length ≤ 300) (h1 : σ[j]? = some (some (.ref d))) (h2 : ∀ x, (List.set (wipe σ vs) g (some x))[g]? = some (some x)) (h3 : ∀ x, wipe (List.set (wipe σ vs) g (some x)) vs = wipe σ vs)
    (h4 : ∀ x y, (List.set (wipe (List.set (wipe σ vs) g (some x)) vs1) g1 (some y))[g1]? = some (some y)) (h5 : ∀ x y, wipe (List.set (wipe (List.set (wipe σ vs) g (some x)) vs1) g1 (some y)) vs1 = wipe (List.set (wipe σ vs) g (some x)) vs1)
    (q : ∀ D H', Same H H' → H D = none → H' D = some (.lst (nmL l)) → Q (.ref D) H') : tLockE (tLc2 (iKeys (tVar j)) (gName g) tYes (iTup K (tVar g)) (gName g1) tYes (tVar g1) vs vs1) σ H Q := by
  refine ⟨d, .dT (tvL l), hd, True.intro, fun od => ⟨.ref d, h1, d, od, rfl, .inr ⟨tvL l, upd_same, fun D nD => ?_⟩⟩⟩
  have nDd : D ≠ d := fun e => by rw [e, upd_same] at nD; cases nD
  have nD0 : H D = none := by rw [← nD, upd_ne nDd]
  have lt := tv_len l
  refine ⟨fun i n Hc => i + n = l.length ∧ Lk d (.frz od (.dT (tvL l))) H Hc ∧ Hc D = some (.lst (nmL (l.take i))), ⟨l.length, Nat.zero_add _, Lk.new.put nD0 nDd, upd_same⟩, ?_⟩
  rintro i n Hc ⟨hn, lk, hD⟩
  cases n with
  | zero =>
    refine .inl ⟨⟨lk.2, by omega⟩, lk.2, q D _ (lk.out hd) nD0 ?_⟩
    rw [upd_ne nDd, hD, show i = l.length from hn, List.take_length]
  | succ n =>
    refine .inr ⟨⟨lk.2, by omega⟩, fun Hn => Lk d (.frz od (.dT (tvL l))) H Hn ∧ Hn D = some (.lst (nmL (l.take (i + 1)))), fun Hn z => ⟨n, Nat.lt_succ_self n, by omega, z⟩, ?_⟩
    rintro x Hx ⟨rfl, k, v, b, ekv, rfl, hb⟩
    obtain ⟨c, ec, rfl, rfl⟩ := tv_at ekv
    have hb : Hx b = some (.tup [V.str c.1.1, V.str c.1.2]) := hb
    have nDb : D ≠ b := ne_of hD hb (fun z => nomatch z)
    have W := walk_tup (K := K) (a := b) (xs := [V.str c.1.1, V.str c.1.2])
    have lnm := nmL_len (l.take i)
    have ltk : (l.take i).length ≤ 300 := by rw [List.length_take]; omega
    refine ⟨h3 _, yes_i (iteT ⟨.ref b, h2 _, b, rfl, ⟨_, .inl (.inl hb)⟩, fun jj kk H2 => jj + kk = 2 ∧ Lk d (.frz od (.dT (tvL l))) H H2 ∧ H2 b = some (.tup [V.str c.1.1, V.str c.1.2]) ∧ H2 D = some (.lst (nmL (l.take i) ++ [V.str c.1.1, V.str c.1.2].take jj)), ⟨2, rfl, lk, hb, by rw [List.take_zero, List.append_nil]; exact hD⟩, ?_⟩)⟩
    rintro jj kk H2 ⟨hk, lk2, hb2, hD2⟩
    cases kk with
    | zero =>
      have ej : jj = 2 := hk
      subst ej
      refine .inl ⟨W.stops H2 (.inl (.inl hb2)), lk2, ?_⟩
      rw [hD2, nmL_snoc ec]
      rfl
    | succ kk =>
      have lj : jj < ([V.str c.1.1, V.str c.1.2] : List V).length := by show jj < 2; omega
      refine .inr ⟨W.goes jj H2 lj (.inl (.inl hb2)), fun Hn => Lk d (.frz od (.dT (tvL l))) H Hn ∧ Hn b = some (.tup [V.str c.1.1, V.str c.1.2]) ∧ Hn D = some (.lst (nmL (l.take i) ++ [V.str c.1.1, V.str c.1.2].take (jj + 1))), fun Hn z => ⟨kk, Nat.lt_succ_self kk, by omega, z⟩, fun x Hx y => ?_⟩
      obtain ⟨rfl, hx⟩ := W.yields jj H2 x Hx lj (.inl (.inl hb2)) y
      refine ⟨h5 _ _, yes_i (iteT ⟨_, h4 _ _, _, hD2, ?_, lk2.put nD0 nDd, by rw [upd_ne nDb.symm]; exact hb2, ?_⟩)⟩
      · rw [List.length_append, List.length_take]
        exact small1000 (by omega)
      · rw [upd_same, List.take_add_one, hx, List.append_assoc]
        rfl
def sdL (l : List Pr) : List V := l.map fun c => V.str c.1.2
theorem snds_dT {K : PySem.W.Frag} {σ : L2.St} {H : Hp} {Q : VK} {d : Addr} {l : List Pr} {j g : Nat} {vs : List Nat} (hd : H d = some (.dT (tvL l))) (few : l.length ≤ 300) (h1 : σ[j]? = some (some (.ref d))) (h2 : ∀ x, (List.set (wipe σ vs) g (some x))[g]? = some (some x)) (h3 : ∀ x, wipe (List.set (wipe σ vs) g (some x)) vs = wipe σ vs)
    (q : ∀ D H', Same H H' → H D = none → H' D = some (.lst (sdL l)) → Q (.ref D) H') : tLockE (tLc (iKeys (tVar j)) (gName g) tYes (tOp (rIxT K) (tVar g) (tC (.int 1))) vs) σ H Q := by
  refine ⟨d, .dT (tvL l), hd, True.intro, fun od => ⟨.ref d, h1, d, od, rfl, .inr ⟨tvL l, upd_same, fun D nD => ?_⟩⟩⟩
  have nDd : D ≠ d := fun e => by rw [e, upd_same] at nD; cases nD
  have nD0 : H D = none := by rw [← nD, upd_ne nDd]
  have lt := tv_len l
  refine lc_it (walk_keysT (d := d) (o := od) (kvs := tvL l)) (fun i Hc => Lk d (.frz od (.dT (tvL l))) H Hc ∧ Hc D = some (.lst (sdL (l.take i)))) ⟨Lk.new.put nD0 nDd, upd_same⟩ (fun i Hc _ h => h.1.2) ?_ ?_
  · rintro i x Hc Hx hi ⟨lk, hD⟩ ⟨rfl, k, v, b, ekv, rfl, hb⟩
    obtain ⟨c, ec, rfl, rfl⟩ := tv_at ekv
    refine ⟨h3 _, yes_i (iteT ⟨_, h2 _, b, [V.str c.1.1, V.str c.1.2], 1, _, rfl, rfl, .inl (.inl hb), atI_nat (j := 1) rfl, _, hD, ?_, lk.put nD0 nDd, ?_⟩)⟩
    · unfold sdL
      rw [List.length_map, List.length_take]
      exact small1000 (by omega)
    · unfold sdL
      rw [upd_same, List.take_add_one, ec, List.map_append]
      rfl
  · rintro Hc ⟨lk, hD⟩
    refine ⟨lk.2, q D _ (lk.out hd) nD0 ?_⟩
    rw [upd_ne nDd, hD, lt, List.take_length]
theorem ends_dT {K : PySem.W.Frag} {σ : L2.St} {H : Hp} {Q : VK} {d : Addr} {l : List Pr} {j g : Nat} {vs : List Nat} (hd : H d = some (.dT (tvL l))) (few : l.length ≤ 300) (h1 : σ[j]? = some (some (.ref d))) (h2 : ∀ x, (List.set (wipe σ vs) g (some x))[g]? = some (some x)) (h3 : ∀ x, wipe (List.set (wipe σ vs) g (some x)) vs = wipe σ vs)
    (q : ∀ D H' ks, Same H H' → H D = none → H' D = some (.dK ks) → (∀ c ∈ l, (valV ks (kS c.1.1)).isSome = true) → Q (.ref D) H') : tLockE (tDc (iKeys (tVar j)) (gName g) tYes (tOp (rIxT K) (tVar g) (tC (.int 0))) (tC (.bl true)) vs) σ H Q := by
  refine ⟨d, .dT (tvL l), hd, True.intro, fun od => ⟨.ref d, h1, d, od, rfl, .inr ⟨tvL l, upd_same, fun D nD => ?_⟩⟩⟩
  have nDd : D ≠ d := fun e => by rw [e, upd_same] at nD; cases nD
  have nD0 : H D = none := by rw [← nD, upd_ne nDd]
  have lt := tv_len l
  refine dc_walk (walk_keysT (d := d) (o := od) (kvs := tvL l)) (fun i Hc => Lk d (.frz od (.dT (tvL l))) H Hc ∧ ∃ ks, Hc D = some (.dK ks) ∧ ks.length ≤ i ∧ ∀ c ∈ l.take i, (valV ks (kS c.1.1)).isSome = true) ⟨Lk.new.put nD0 nDd, [], upd_same, Nat.le_refl _, fun c h => absurd h (by rw [List.take_zero]; exact List.not_mem_nil)⟩ (fun i Hc _ h => h.1.2) ?_ ?_
  · rintro i x Hc Hx hi ⟨lk, ks, hD, lks, hk⟩ ⟨rfl, k, v, b, ekv, rfl, hb⟩
    obtain ⟨c, ec, rfl, rfl⟩ := tv_at ekv
    refine ⟨h3 _, yes_i (iteT ⟨_, h2 _, b, [V.str c.1.1, V.str c.1.2], 0, _, rfl, rfl, .inl (.inl hb), atI_nat (j := 0) rfl, ks, kS c.1.1, rfl, hD, small1000 (by omega), lk.put nD0 nDd, _, upd_same, ?_, fun c' hc' => ?_⟩)⟩
    · have := length_putK ks (kS c.1.1) (.bl true)
      omega
    · rw [valV_put]
      rw [List.take_add_one, ec] at hc'
      split
      · rfl
      · rename_i ne
        rcases List.mem_append.1 hc' with h | h
        · exact hk c' h
        · exact absurd (by rw [List.mem_singleton.1 h]) ne
  · rintro Hc ⟨lk, ks, hD, lks, hk⟩
    rw [lt, List.take_length] at hk
    exact ⟨lk.2, q D _ ks (lk.out hd) nD0 (by rw [upd_ne nDd, hD]) hk⟩
theorem pt_1 {x : V} : putF "bound_amounts" x ([] : List (Str × V)) = ([("bound_amounts", x)] : List (Str × V)) := rfl
theorem pt_2 {x v0 : V} : putF "wait_amounts" x ([("bound_amounts", v0)] : List (Str × V)) = ([("bound_amounts", v0), ("wait_amounts", x)] : List (Str × V)) := by
  simp only [putF, if_neg (show ¬ (("bound_amounts" : Str) = "wait_amounts") by decide +kernel)]
theorem pt_3 {x v0 v1 : V} : putF "base_names" x ([("bound_amounts", v0), ("wait_amounts", v1)] : List (Str × V)) = ([("bound_amounts", v0), ("wait_amounts", v1), ("base_names", x)] : List (Str × V)) := by
  simp only [putF, if_neg (show ¬ (("bound_amounts" : Str) = "base_names") by decide +kernel), if_neg (show ¬ (("wait_amounts" : Str) = "base_names") by decide +kernel)]
theorem pt_4 {x v0 v1 v2 : V} : putF "span_names" x ([("bound_amounts", v0), ("wait_amounts", v1), ("base_names", v2)] : List (Str × V)) = ([("bound_amounts", v0), ("wait_amounts", v1), ("base_names", v2), ("span_names", x)] : List (Str × V)) := by
  simp only [putF, if_neg (show ¬ (("bound_amounts" : Str) = "span_names") by decide +kernel), if_neg (show ¬ (("wait_amounts" : Str) = "span_names") by decide +kernel), if_neg (show ¬ (("base_names" : Str) = "span_names") by decide +kernel)]
/-- a field set: all else stays -/
theorem fld_set {C dx p : Addr} {H H1 : Hp} {f f' : List (Str × V)} (e : f = f') (sb : Sb p H H1) : Sb p H (upd H1 p (.ins C dx f)) ∧ upd H1 p (.ins C dx f) p = some (.ins C dx f') ∧ Sb p H1 (upd H1 p (.ins C dx f)) := ⟨sb_fld sb, up_eq (by rw [e]), sb_fld fun _ _ e _ => e⟩
section
variable {P : Program} {w : World} {K : PySem.W.Frag} {mg : Str → Option Value} {base : Heap}
def sp_tbi (K : PySem.W.Frag) : Sp := fun vs H Q _ => ∃ (p dx d1 d2 : Addr) (l1 l2 : List Pr), vs = [.ref p, .ref d1, .ref d2] ∧ H p = some (.ins (CT K) dx []) ∧ H d1 = some (.dT (tvL l1)) ∧ H d2 = some (.dT (tvL l2)) ∧ (l1.map (·.1)).Nodup ∧ (l2.map (·.1)).Nodup ∧ l1.length ≤ 300 ∧ l2.length ≤ 300 ∧
  ∀ (a : TbA) (H' : Hp), a.p = p → Sb p H H' → TbAt K H' a l1 l2 → Q .non H'
theorem fn_tbi (T : Tp K mg) {fd : FuncData} (F : FunD K "__init__" "Table.__init__" (defArgs s_Table_UinitU) (defBody s_Table_UinitU) (defScope s_Table_UinitU) [] [] (He.ma K (He.ga K "Table") "__init__") fd) :
    FnOk P w K mg base CX0 3 (He.ma K (He.ga K "Table") "__init__") fd ["self", "betweens", "untils"] (sp_tbi K) := by
  refine fnok_of F sc_Table_UinitU (fun vs H Q E h => ?_) (fun cdv A outer s H vs Q E hr h => ?_)
  · obtain ⟨p, dx, d1, d2, l1, l2, rfl, _⟩ := h
    rfl
  · obtain ⟨p, dx, d1, d2, l1, l2, rfl, hp, h1, h2, nd1, nd2, few1, few2, qq⟩ := h
    have hu := hu_of hr
    have n1p : d1 ≠ p := ne_of h1 hp (fun z => nomatch z)
    have n2p : d2 ≠ p := ne_of h2 hp (fun z => nomatch z)
    refine ⟨_, (pss_cons (ps_fld (pv 0) (pe_lock (pe_dcT (own := [("pair", 4)]) (g := gName 4) (tt := tYes) hu rfl sc_Table_UinitU.nd (pi_keys (pv 1)) (blkOk_by (N := N_Table_UinitU) (sc := defScope s_Table_UinitU) (by decide +kernel)) (fun _ _ _ _ _ => (pg_name (i := 4) sc_Table_UinitU.nd rfl (.inl rfl))) (fun _ _ _ _ _ => pts_nil) (fun _ _ _ _ _ => (pv 4)) (fun _ _ _ _ _ => (pe_dget hu (pv 1) (pv 4) (fun _ _ => rfl))))) rfl)
      (pss_cons (ps_fld (pv 0) (pe_lock (pe_dcT (own := [("pair", 4)]) (g := gName 4) (tt := tYes) hu rfl sc_Table_UinitU.nd (pi_keys (pv 2)) (blkOk_by (N := N_Table_UinitU) (sc := defScope s_Table_UinitU) (by decide +kernel)) (fun _ _ _ _ _ => (pg_name (i := 4) sc_Table_UinitU.nd rfl (.inl rfl))) (fun _ _ _ _ _ => pts_nil) (fun _ _ _ _ _ => (pv 4)) (fun _ _ _ _ _ => (pe_dget hu (pv 2) (pv 4) (fun _ _ => rfl))))) rfl)
      (pss_cons (ps_set (i := 3) sc_Table_UinitU.nd rfl (.inl rfl) (pe_op op_cat (pe_lock (pe_lc2 (own := [("pair", 4), ("name", 5)]) (vs1 := [5]) (g := gName 4) (g1 := gName 5) (tt := tYes) (tt1 := tYes) rfl sc_Table_UinitU.nd (pi_keys (pv 1)) (blkOk_by (N := N_Table_UinitU) (sc := defScope s_Table_UinitU) (by decide +kernel)) (by decide) (fun _ _ _ _ _ => (pg_name (i := 4) sc_Table_UinitU.nd rfl (.inl rfl))) (fun _ _ _ _ _ => pts_nil) (fun _ _ _ _ _ => ((pi_tupK (K := K) rfl) (pv 4))) (fun _ _ _ _ _ => (pg_name (i := 5) sc_Table_UinitU.nd rfl (.inl rfl))) (fun _ _ _ _ _ => pts_nil) (fun _ _ _ _ _ => (pv 5)))) (pe_lock (pe_lc (own := [("pair", 4)]) (g := gName 4) (tt := tYes) rfl sc_Table_UinitU.nd (pi_keys (pv 2)) (blkOk_by (N := N_Table_UinitU) (sc := defScope s_Table_UinitU) (by decide +kernel)) (fun _ _ _ _ _ => (pg_name (i := 4) sc_Table_UinitU.nd rfl (.inl rfl))) (fun _ _ _ _ _ => pts_nil) (fun _ _ _ _ _ => (pe_ix (ix_tupK (K := K) rfl) (pv 4) pe_int (fun _ _ => rfl)))))))
      (pss_cons (ps_fld (pv 0) (pe_dc (own := [("name", 5)]) (g := gName 5) (tt := tYes) rfl sc_Table_UinitU.nd (pi_list (pv 3)) (blkOk_by (N := N_Table_UinitU) (sc := defScope s_Table_UinitU) (by decide +kernel)) (fun _ _ _ _ _ => (pg_name (i := 5) sc_Table_UinitU.nd rfl (.inl rfl))) (fun _ _ _ _ _ => pts_nil) (fun _ _ _ _ _ => (pv 5)) (fun _ _ _ _ _ => pe_bl)) rfl)
      (pss_one (ps_fld (pv 0) (pe_lock (pe_dc (own := [("pair", 4)]) (g := gName 4) (tt := tYes) rfl sc_Table_UinitU.nd (pi_keys (pv 2)) (blkOk_by (N := N_Table_UinitU) (sc := defScope s_Table_UinitU) (by decide +kernel)) (fun _ _ _ _ _ => (pg_name (i := 4) sc_Table_UinitU.nd rfl (.inl rfl))) (fun _ _ _ _ _ => pts_nil) (fun _ _ _ _ _ => (pe_ix (ix_tupK (K := K) rfl) (pv 4) pe_int (fun _ _ => rfl))) (fun _ _ _ _ _ => pe_bl))) rfl)))))), ?_⟩
    -- the bounds
    unfold tSeq sFld tAsg tOp
    refine copy_dT (σ := [some (.ref p), some (.ref d1), some (.ref d2), none, none, none]) (j := 1) (g := 4) (vs := [4]) h1 (tv_nodup nd1) (by rw [tv_len]; exact small1000 (by omega)) rfl (fun _ => rfl) (fun _ => rfl) (fun _ => rfl) fun D1 H1 s1 nD1 e1 => ?_
    refine ⟨_, rfl, p, CT K, dx, _, rfl, s1 _ _ hp, cl_Table T, na_Table_bound_amounts T, (by show 0 < 1000; decide), ?_⟩
    have np1 : D1 ≠ p := (ne_of_none hp nD1).symm
    obtain ⟨sb2, hp2, t2⟩ := fld_set (C := CT K) (dx := dx) (pt_1 (x := .ref D1)) (sb_same (p := p) (fun _ _ e _ => e) s1)
    have e2 := t2 _ _ e1 np1
    generalize upd H1 p (.ins (CT K) dx (putF "bound_amounts" (.ref D1) [])) = H2 at sb2 hp2 e2 ⊢
    clear t2
    -- the waits
    dsimp only
    refine copy_dT (σ := [some (.ref p), some (.ref d1), some (.ref d2), none, none, none]) (j := 2) (g := 4) (vs := [4]) (sb2 _ _ h2 n2p) (tv_nodup nd2) (by rw [tv_len]; exact small1000 (by omega)) rfl (fun _ => rfl) (fun _ => rfl) (fun _ => rfl) fun D2 H3 s3 nD2 e3 => ?_
    refine ⟨_, rfl, p, CT K, dx, _, rfl, s3 _ _ hp2, cl_Table T, na_Table_wait_amounts T, (by show 1 < 1000; decide), ?_⟩
    have np2 : D2 ≠ p := (ne_of_none hp2 nD2).symm
    obtain ⟨sb4, hp4, t4⟩ := fld_set (C := CT K) (dx := dx) (pt_2 (x := .ref D2) (v0 := .ref D1)) (sb_same sb2 s3)
    have f1 := t4 _ _ (s3 _ _ e2) np1
    have f2 := t4 _ _ e3 np2
    generalize upd H3 p (.ins (CT K) dx (putF "wait_amounts" (.ref D2) [("bound_amounts", .ref D1)])) = H4 at sb4 hp4 f1 f2 ⊢
    clear t4
    -- the names
    try dsimp only
    refine names_dT (K := K) (σ := [some (.ref p), some (.ref d1), some (.ref d2), none, none, none]) (j := 1) (g := 4) (g1 := 5) (vs := [4, 5]) (vs1 := [5]) (sb4 _ _ h1 n1p) few1 rfl (fun _ => rfl) (fun _ => rfl) (fun _ _ => rfl) (fun _ _ => rfl) fun A1 H5 s5 nA1 a5 => ?_
    refine snds_dT (K := K) (σ := [some (.ref p), some (.ref d1), some (.ref d2), none, none, none]) (j := 2) (g := 4) (vs := [4]) (s5 _ _ (sb4 _ _ h2 n2p)) few2 rfl (fun _ => rfl) (fun _ => rfl) fun A2 H6 s6 nA2 a6 => ?_
    have lA : (nmL l1 ++ sdL l2).length ≤ 900 := by
      have := nmL_len l1
      unfold sdL
      rw [List.length_append, List.length_map]
      omega
    refine ⟨A1, A2, _, _, rfl, rfl, s6 _ _ a5, a6, ?_, fun A nA => ?_⟩
    · rw [← List.length_append]
      exact Nat.le_of_lt (small1000 (by omega))
    have sA := (s5.trans s6).trans (same_upd (o := .lst (nmL l1 ++ sdL l2)) nA)
    have hA : upd H6 A (.lst (nmL l1 ++ sdL l2)) A = some (.lst (nmL l1 ++ sdL l2)) := upd_same
    generalize upd H6 A (.lst (nmL l1 ++ sdL l2)) = H7 at sA hA ⊢
    refine ⟨_, rfl, A, rfl, ⟨_, .inl (.inl hA)⟩, fun D3 nD3 => ?_⟩
    refine dc_walk (walk_list (K := K) (a := A) (xs := nmL l1 ++ sdL l2)) (fun i Hc => Same H7 Hc ∧ ∃ ks, Hc D3 = some (.dK ks) ∧ ks.length ≤ i ∧ ∀ z, V.str z ∈ (nmL l1 ++ sdL l2).take i → (valV ks (kS z)).isSome = true) ⟨same_upd nD3, [], upd_same, Nat.le_refl _, fun z h => absurd h (by rw [List.take_zero]; exact List.not_mem_nil)⟩ (fun i Hc _ h => .inl (.inl (h.1 _ _ hA))) ?_ ?_
    · rintro i x Hc Hx hi ⟨s8, ks, d8, lk8, k8⟩ ⟨rfl, hx⟩
      have hm := List.mem_of_getElem? hx
      obtain ⟨z, rfl⟩ : ∃ z, x = V.str z := by
        rcases List.mem_append.1 hm with h | h
        · obtain ⟨c, _, h⟩ := List.mem_flatMap.1 h
          rcases List.mem_cons.1 h with h | h
          · exact ⟨_, h⟩
          · exact ⟨_, List.mem_singleton.1 h⟩
        · obtain ⟨c, _, h⟩ := List.mem_map.1 h
          exact ⟨_, h.symm⟩
      refine ⟨rfl, yes_i (iteT ⟨_, rfl, ks, kS z, rfl, d8, small1000 (by omega), same_put s8 nD3, _, upd_same, ?_, fun z' hz' => ?_⟩)⟩
      · have := length_putK ks (kS z) (.bl true)
        omega
      · rw [valV_put]
        rw [List.take_add_one, hx] at hz'
        split
        · rfl
        · rename_i ne
          rcases List.mem_append.1 hz' with h | h
          · exact k8 z' h
          · exact absurd (by rw [V.str.inj (List.mem_singleton.1 h)]) ne
    · rintro H8 ⟨s8, ks, d8, _, k8⟩
      rw [List.take_length] at k8
      have s48 := sA.trans s8
      refine ⟨_, rfl, p, CT K, dx, _, rfl, s48 _ _ hp4, cl_Table T, na_Table_base_names T, (by show 2 < 1000; decide), ?_⟩
      have np3 : D3 ≠ p := (ne_of_none (sA _ _ hp4) nD3).symm
      obtain ⟨sb9, hp9, t9⟩ := fld_set (C := CT K) (dx := dx) (pt_3 (x := .ref D3) (v0 := .ref D1) (v1 := .ref D2)) (sb_same sb4 s48)
      have g1 := t9 _ _ (s48 _ _ f1) np1
      have g2 := t9 _ _ (s48 _ _ f2) np2
      have g3 := t9 _ _ d8 np3
      generalize upd H8 p (.ins (CT K) dx (putF "base_names" (.ref D3) [("bound_amounts", .ref D1), ("wait_amounts", .ref D2)])) = H9 at sb9 hp9 g1 g2 g3 ⊢
      try dsimp only
      refine ends_dT (K := K) (σ := [some (.ref p), some (.ref d1), some (.ref d2), some (.ref A), none, none]) (j := 2) (g := 4) (vs := [4]) (sb9 _ _ h2 n2p) few2 rfl (fun _ => rfl) (fun _ => rfl) fun D4 H10 ke s10 nD4 e10 k10 => ?_
      refine ⟨_, rfl, p, CT K, dx, _, rfl, s10 _ _ hp9, cl_Table T, na_Table_span_names T, (by show 3 < 1000; decide), ?_⟩
      have np4 : D4 ≠ p := (ne_of_none hp9 nD4).symm
      obtain ⟨sb11, hp11, t11⟩ := fld_set (C := CT K) (dx := dx) (pt_4 (x := .ref D4) (v0 := .ref D1) (v1 := .ref D2) (v2 := .ref D3)) (sb_same sb9 s10)
      refine qq ⟨p, dx, D1, D2, D3, D4⟩ _ rfl sb11 ⟨hp11, t11 _ _ (s10 _ _ g1) np1, t11 _ _ (s10 _ _ g2) np2, ⟨ks, t11 _ _ (s10 _ _ g3) np3, fun c hc => ⟨k8 _ ?_, k8 _ ?_⟩, fun c hc => k8 _ ?_⟩, ⟨ke, t11 _ _ e10 np4, k10⟩, nd1, nd2⟩
      · exact List.mem_append.2 (.inl (List.mem_flatMap.2 ⟨c, hc, List.mem_cons_self⟩))
      · exact List.mem_append.2 (.inl (List.mem_flatMap.2 ⟨c, hc, List.mem_cons_of_mem _ List.mem_cons_self⟩))
      · exact List.mem_append.2 (.inr (List.mem_map.2 ⟨c, hc, rfl⟩))
theorem mak_Table (T : Tp K mg) : Mak P w K mg base 3 "Table" (CT K) (sp_tbi K) [] := by
  obtain ⟨fd, F⟩ := f_Table_UinitU T
  exact ⟨_, fd, ["self", "betweens", "untils"], [], mk_Table T, fn_tbi T F, g_Table T, b_Table_UinitU F, .nil⟩
end
end Tw

set_option maxHeartbeats 4000000
namespace Tw
open PySem PySem.Spec PyProof.Rows L2
/-! settle.py: the table of what was made -/
abbrev Mv : Type := Ky × (Int × Option Nat)
def tOf (u : Bool) (l : List Mv) : List Pr := l.filterMap fun c => if c.1.1 = u then some (c.1.2, c.2.1) else none
theorem tOf_mem {u : Bool} {l : List Mv} {k : Str × Str} {n : Int} : (k, n) ∈ tOf u l ↔ ∃ p, ((u, k), (n, p)) ∈ l := by
  unfold tOf
  rw [List.mem_filterMap]
  constructor
  · rintro ⟨⟨⟨v, k'⟩, n', p⟩, hc, e⟩
    split at e
    · rename_i h
      have h : v = u := h
      subst h
      cases e
      exact ⟨p, hc⟩
    · cases e
  · rintro ⟨p, h⟩
    exact ⟨_, h, by rw [if_pos rfl]⟩
theorem tOf_nodup {u : Bool} {l : List Mv} (nd : (l.map (·.1)).Nodup) : ((tOf u l).map (·.1)).Nodup := by
  induction l with
  | nil => exact List.nodup_nil
  | cons c l ih =>
    have h := List.nodup_cons.1 nd
    unfold tOf
    rw [List.filterMap_cons]
    split
    · exact ih h.2
    · rename_i b e
      split at e
      · rename_i hu
        cases e
        refine List.nodup_cons.2 ⟨fun z => h.1 ?_, ih h.2⟩
        obtain ⟨⟨k, n⟩, hd, ek⟩ := List.mem_map.1 z
        have ek : k = c.1.2 := ek
        subst ek
        obtain ⟨p, hp⟩ := tOf_mem.1 hd
        exact List.mem_map.2 ⟨_, hp, by rw [← hu]⟩
      · cases e
theorem tOf_yes {u : Bool} {l : List Mv} {i : Nat} {c : Mv} (h : l[i]? = some c) (e : c.1.1 = u) : tOf u (l.take (i + 1)) = tOf u (l.take i) ++ [(c.1.2, c.2.1)] := by
  unfold tOf
  rw [List.take_add_one, h, List.filterMap_append]
  show _ ++ List.filterMap _ [c] = _
  rw [List.filterMap_cons, if_pos e]
  rfl
theorem tOf_no {u : Bool} {l : List Mv} {i : Nat} {c : Mv} (h : l[i]? = some c) (e : ¬ c.1.1 = u) : tOf u (l.take (i + 1)) = tOf u (l.take i) := by
  unfold tOf
  rw [List.take_add_one, h, List.filterMap_append]
  show _ ++ List.filterMap _ [c] = _
  rw [List.filterMap_cons, if_neg e]
  exact List.append_nil _
theorem tOf_put {u : Bool} {l : List Mv} {i : Nat} {c : Mv} (nd : (l.map (·.1)).Nodup) (h : l[i]? = some c) (e : c.1.1 = u) : putK (tvL (tOf u (l.take i))) (prL c.1.2) (.int c.2.1) = tvL (tOf u (l.take (i + 1))) := by
  have nd' : ((tOf u (l.take (i + 1))).map (·.1)).Nodup := tOf_nodup (by rw [List.map_take]; exact nd.sublist (List.take_sublist _ _))
  rw [tOf_yes h e, List.map_append] at nd'
  rw [tOf_yes h e, putK_new]
  · unfold tvL
    rw [List.map_append]
    rfl
  · refine valV_off fun z => ?_
    unfold tvL at z
    rw [List.map_map] at z
    obtain ⟨d, hd, ed⟩ := List.mem_map.1 z
    exact (List.nodup_append.1 nd').2.2 d.1 (List.mem_map.2 ⟨d, hd, rfl⟩) c.1.2 (List.mem_singleton.2 rfl) (prL_inj ed)
theorem tOf_len (u : Bool) (l : List Mv) : (tOf u l).length ≤ l.length := List.length_filterMap_le _ _
theorem MdV.keys {H : Hp} {kvs : List (List Key × V)} {l : List Mv} (h : MdV H kvs l) : kvs.map (·.1) = l.map fun c => kyL c.1 := by
  unfold MdV at h
  induction h with
  | nil => rfl
  | cons hc _ ih => rw [List.map_cons, List.map_cons, ih, hc.1]
theorem MdV.nodup {H : Hp} {kvs : List (List Key × V)} {l : List Mv} (h : MdV H kvs l) (nd : (l.map (·.1)).Nodup) : (kvs.map (·.1)).Nodup := by
  rw [h.keys]
  clear h
  induction l with
  | nil => exact List.nodup_nil
  | cons c l ih =>
    have h := List.nodup_cons.1 nd
    refine List.nodup_cons.2 ⟨fun z => h.1 ?_, ih h.2⟩
    obtain ⟨d, hd, e⟩ := List.mem_map.1 z
    exact List.mem_map.2 ⟨d, hd, kyL_inj e⟩
theorem MdV.at {H : Hp} {kvs : List (List Key × V)} {l : List Mv} (h : MdV H kvs l) {i : Nat} {k : List Key} {v : V} (e : kvs[i]? = some (k, v)) : ∃ c, l[i]? = some c ∧ k = kyL c.1 ∧ ∃ t, v = .ref t ∧ H t = some (.tup (vlR c.2)) := by
  unfold MdV at h
  induction h generalizing i with
  | nil => cases e
  | cons hc _ ih =>
    cases i with
    | zero =>
      cases e
      exact ⟨_, rfl, hc.1, hc.2⟩
    | succ i => exact ih e
theorem dU_until (u : Bool) : decide (V.str (wdU u) = V.str "until") = u := by
  cases u
  · exact decide_eq_false (fun z => absurd (V.str.inj z) (by decide +kernel))
  · exact decide_eq_true rfl
section
variable {P : Program} {w : World} {K : PySem.W.Frag} {mg : Str → Option Value} {base : Heap}
def sp_tabof (K : PySem.W.Frag) : Sp := fun vs H Q _ => ∃ (a : MkA) (m : Md) (s : Se.MS Str), vs = [.ref a.p] ∧ MkAt K H a m s ∧ Se.Nd s ∧ s.made.length ≤ 300 ∧ ∀ (b : TbA) (H' : Hp), Same H H' → TbAt K H' b (tOf false s.made) (tOf true s.made) → Q (.ref b.p) H'
theorem cal_table_of (T : Tp K mg) : Cal P w K mg base 5 "table_of" (sp_tabof K) := by
  obtain ⟨fd, F⟩ := f_table_of T
  refine cal_of F (g_table_of T) (b_table_of F) sc_table_of (fun vs H Q E h => ?_) (fun cdv A outer s H vs Q E hr h => ?_)
  · obtain ⟨a, m, s, rfl, _⟩ := h
    rfl
  · obtain ⟨a, m, st, rfl, M, nd, few, q⟩ := h
    have hu := hu_of hr
    obtain ⟨kvs, hD, hV⟩ := M.dict
    have nk := hV.nodup nd
    have lk := hV.len
    refine ⟨_, (pss_cons (ps_set (i := 1) sc_table_of.nd rfl (.inr rfl) (pe_fld (pv 0) rfl))
      (pss_cons (ps_lock (ps_dcsT (i := 2) (own := [("kind", 4), ("x", 5), ("y", 6)]) hu ⟨rfl, rfl, rfl, rfl, by decide +kernel⟩ ⟨rfl, sc_table_of.nd, (pi_keys (pv 1)), blkOk_by (N := N_table_of) (sc := defScope s_table_of) (by decide +kernel), fun _ _ _ _ _ => (pg_tupK (K := K) (n := 3) rfl rfl (pgs_cons (pg_name (i := 4) sc_table_of.nd rfl (.inl rfl)) (pgs_cons (pg_name (i := 5) sc_table_of.nd rfl (.inl rfl)) (pgs_cons (pg_name (i := 6) sc_table_of.nd rfl (.inl rfl)) pgs_nil)))), fun _ _ _ _ _ => (pts_one (pt_cmpR op_eq (pv 4) (C8.pe_gc (by rfl) (c_MOST T)) (nomark _))), fun _ _ _ _ _ => (pe_tup (pa_cons (pv 5) (pa_cons (pv 6) pa_nil))), fun _ _ _ _ _ => (pe_ix (ix_tupK (K := K) rfl) (pe_dget hu (pv 1) (pe_tup (pa_cons (pv 4) (pa_cons (pv 5) (pa_cons (pv 6) pa_nil)))) (fun _ _ => rfl)) pe_int (fun _ _ => rfl)), fun _ => rfl⟩))
      (pss_cons (ps_lock (ps_dcsT (i := 3) (own := [("kind", 4), ("end", 7), ("x", 5)]) hu ⟨rfl, rfl, rfl, rfl, by decide +kernel⟩ ⟨rfl, sc_table_of.nd, (pi_keys (pv 1)), blkOk_by (N := N_table_of) (sc := defScope s_table_of) (by decide +kernel), fun _ _ _ _ _ => (pg_tupK (K := K) (n := 3) rfl rfl (pgs_cons (pg_name (i := 4) sc_table_of.nd rfl (.inl rfl)) (pgs_cons (pg_name (i := 7) sc_table_of.nd rfl (.inl rfl)) (pgs_cons (pg_name (i := 5) sc_table_of.nd rfl (.inl rfl)) pgs_nil)))), fun _ _ _ _ _ => (pts_one (pt_cmpR op_eq (pv 4) (C8.pe_gc (by rfl) (c_UNTIL T)) (nomark _))), fun _ _ _ _ _ => (pe_tup (pa_cons (pv 7) (pa_cons (pv 5) pa_nil))), fun _ _ _ _ _ => (pe_ix (ix_tupK (K := K) rfl) (pe_dget hu (pv 1) (pe_tup (pa_cons (pv 4) (pa_cons (pv 7) (pa_cons (pv 5) pa_nil)))) (fun _ _ => rfl)) pe_int (fun _ _ => rfl)), fun _ => rfl⟩))
      (pss_one (ps_ret (C8.pe_mk (mak_Table T) hr (by decide) rfl (pa_cons (pv 2) (pa_cons (pv 3) pa_nil)))))))), ?_⟩
    refine ⟨_, rfl, a.p, CM K, a.dx, _, _, rfl, M.obj, cl_Making T, na_Making_made T, mf_made, ?_⟩
    refine ⟨a.D, .dT kvs, hD, True.intro, fun od => ⟨_, rfl, a.D, od, rfl, .inr ⟨kvs, upd_same, fun D1 nD1 => ?_⟩⟩⟩
    have n1 : D1 ≠ a.D := fun e => by rw [e, upd_same] at nD1; cases nD1
    have nD10 : H D1 = none := by rw [← nD1, upd_ne n1]
    refine dcT_walk (walk_keysT (d := a.D) (o := od) (kvs := kvs)) (fun i Hc => Lk a.D (.frz od (.dT kvs)) H Hc ∧ Hc D1 = some (.dT (tvL (tOf false (st.made.take i))))) ⟨Lk.new.put nD10 n1, upd_same⟩ (fun i Hc _ h => h.1.2) ?_ ?_
    · rintro i x Hc Hx hi ⟨k1, d1⟩ ⟨rfl, k, v, b, ekv, rfl, hb⟩
      obtain ⟨c, ec, rfl, t, rfl, ht⟩ := hV.at ekv
      have ht1 := k1.1 _ _ ht (ne_of ht hD (fun z => nomatch z))
      refine ⟨b, kyR c.1, rfl, .inl (.inl hb), rfl, _, _, rfl, _, _, rfl, _, _, rfl, rfl, rfl, ?_⟩
      refine ⟨_, rfl, rfl, _, rfl, ?_⟩
      show if decide (V.str (wdU c.1.1) = V.str "most") = true then _ else _
      by_cases cu : c.1.1 = false
      · rw [show decide (V.str (wdU c.1.1) = V.str "most") = true by rw [dU_most, cu]; rfl]
        refine iteT ?_
        refine ⟨_, rfl, _, rfl, (by show 2 ≤ sizeLine; decide), fun y ny => ?_⟩
        have sy := same_upd (o := .tup [.str c.1.2.1, .str c.1.2.2]) ny
        refine ⟨_, rfl, _, rfl, _, rfl, _, rfl, (by show 3 ≤ sizeLine; decide), fun z nz => ?_⟩
        have sz := sy.trans (same_upd (o := .tup (kyR c.1)) nz)
        have k2 := k1.same sz
        refine ⟨a.D, .ref t, rfl, ?_, t, _, 0, _, rfl, rfl, .inl (.inl (sz _ _ ht1)), atI_nat (j := 0) rfl, _, prL c.1.2, y, rfl, same_upd nz _ _ upd_same, sz _ _ d1, ?_, k2.put nD10 n1, ?_⟩
        · rw [← valV_at nk ekv]
          exact .inr ⟨kvs, kyL c.1, z, .inr ⟨od, k2.2⟩, rfl, upd_same, rfl⟩
        · rw [tv_len]
          have := tOf_len false (st.made.take i)
          rw [List.length_take] at this
          exact small1000 (by omega)
        · rw [upd_same, tOf_put nd ec cu]
      · rw [show decide (V.str (wdU c.1.1) = V.str "most") = false by rw [dU_most]; cases e : c.1.1 with | false => exact absurd e cu | true => rfl]
        refine iteF ?_
        exact ⟨k1, by rw [tOf_no ec cu]; exact d1⟩
    rintro Hc ⟨k1, d1⟩
    rw [lk, List.take_length] at d1
    refine ⟨k1.2, ?_⟩
    have s1 := k1.out hD
    have e1 : upd Hc a.D (.dT kvs) D1 = some (.dT (tvL (tOf false st.made))) := by rw [upd_ne n1]; exact d1
    have hD1 : upd Hc a.D (.dT kvs) a.D = some (.dT kvs) := upd_same
    have V1 := hV.keep (Kt.of s1)
    generalize upd Hc a.D (.dT kvs) = H1 at s1 e1 hD1 V1 ⊢
    refine ⟨a.D, .dT kvs, hD1, True.intro, fun od => ⟨_, rfl, a.D, od, rfl, .inr ⟨kvs, upd_same, fun D2 nD2 => ?_⟩⟩⟩
    have n2 : D2 ≠ a.D := fun e => by rw [e, upd_same] at nD2; cases nD2
    have nD20 : H1 D2 = none := by rw [← nD2, upd_ne n2]
    refine dcT_walk (walk_keysT (d := a.D) (o := od) (kvs := kvs)) (fun i Hc => Lk a.D (.frz od (.dT kvs)) H1 Hc ∧ Hc D2 = some (.dT (tvL (tOf true (st.made.take i))))) ⟨Lk.new.put nD20 n2, upd_same⟩ (fun i Hc _ h => h.1.2) ?_ ?_
    · rintro i x Hc Hx hi ⟨k1, d1⟩ ⟨rfl, k, v, b, ekv, rfl, hb⟩
      obtain ⟨c, ec, rfl, t, rfl, ht⟩ := V1.at ekv
      have ht1 := k1.1 _ _ ht (ne_of ht hD1 (fun z => nomatch z))
      refine ⟨b, kyR c.1, rfl, .inl (.inl hb), rfl, _, _, rfl, _, _, rfl, _, _, rfl, rfl, rfl, ?_⟩
      refine ⟨_, rfl, rfl, _, rfl, ?_⟩
      show if decide (V.str (wdU c.1.1) = V.str "until") = true then _ else _
      by_cases cu : c.1.1 = true
      · rw [show decide (V.str (wdU c.1.1) = V.str "until") = true by rw [dU_until, cu]]
        refine iteT ?_
        refine ⟨_, rfl, _, rfl, (by show 2 ≤ sizeLine; decide), fun y ny => ?_⟩
        have sy := same_upd (o := .tup [.str c.1.2.1, .str c.1.2.2]) ny
        refine ⟨_, rfl, _, rfl, _, rfl, _, rfl, (by show 3 ≤ sizeLine; decide), fun z nz => ?_⟩
        have sz := sy.trans (same_upd (o := .tup (kyR c.1)) nz)
        have k2 := k1.same sz
        refine ⟨a.D, .ref t, rfl, ?_, t, _, 0, _, rfl, rfl, .inl (.inl (sz _ _ ht1)), atI_nat (j := 0) rfl, _, prL c.1.2, y, rfl, same_upd nz _ _ upd_same, sz _ _ d1, ?_, k2.put nD20 n2, ?_⟩
        · rw [← valV_at nk ekv]
          exact .inr ⟨kvs, kyL c.1, z, .inr ⟨od, k2.2⟩, rfl, upd_same, rfl⟩
        · rw [tv_len]
          have := tOf_len true (st.made.take i)
          rw [List.length_take] at this
          exact small1000 (by omega)
        · rw [upd_same, tOf_put nd ec cu]
      · rw [show decide (V.str (wdU c.1.1) = V.str "until") = false by rw [dU_until]; cases e : c.1.1 with | false => rfl | true => exact absurd e cu]
        refine iteF ?_
        exact ⟨k1, by rw [tOf_no ec cu]; exact d1⟩
    rintro Hc ⟨k2, d2⟩
    rw [lk, List.take_length] at d2
    refine ⟨k2.2, ?_⟩
    have s2 := k2.out hD1
    have e2 : upd Hc a.D (.dT kvs) D2 = some (.dT (tvL (tOf true st.made))) := by rw [upd_ne n2]; exact d2
    generalize upd Hc a.D (.dT kvs) = H2 at s2 e2 ⊢
    refine ⟨_, rfl, _, rfl, fun p dx np ndx ne => ?_⟩
    have sm : ∀ (o : HO) b x, H2 b = some x → b ≠ p ∧ upd (upd H2 dx (.own p)) p o b = some x := fun o b x e => ⟨ne_of_none e np, by rw [upd_ne (ne_of_none e np), upd_ne (ne_of_none e ndx)]; exact e⟩
    refine ⟨p, dx, D1, D2, _, _, rfl, upd_same, (sm _ _ _ (s2 _ _ e1)).2, (sm _ _ _ e2).2, tOf_nodup nd, tOf_nodup nd, Nat.le_trans (tOf_len _ _) few, Nat.le_trans (tOf_len _ _) few, fun b H' eb sb B => ⟨rfl, ?_⟩⟩
    rw [← eb]
    exact q b H' (fun c x e => sb c x (sm _ c x (s2 _ _ (s1 _ _ e))).2 (sm (.own p) c x (s2 _ _ (s1 _ _ e))).1) B
end
end Tw

set_option maxHeartbeats 4000000
namespace Tw
open PySem PySem.Spec PyProof.Rows L2
/-! settle.py: the paper of a fault -/
abbrev Row : Type := Se.Rr Str
def ivN (n : Nat) : V := .int (n : Nat)
/-- the places of a row -/
def plR : Row → List Nat
  | .told _ _ _ => []
  | .late _ => []
  | .along i j => [i.getD 0, j.getD 0]
  | .wait i j => [i.getD 0, j.getD 0]
  | .sg _ i => [i.getD 0]
def mvR (f : Nat → Nat) : Row → Row
  | .told x y n => .told x y n
  | .late e => .late e
  | .along i j => .along (i.map f) (j.map f)
  | .wait i j => .wait (i.map f) (j.map f)
  | .sg w i => .sg w (i.map f)
/-- its places are there, and lie ahead of k -/
def RowOk (k : Nat) : Row → Prop
  | .told _ _ _ => True
  | .late _ => True
  | .along i j => ∃ a b, i = some a ∧ j = some b ∧ a < k ∧ b < k
  | .wait i j => ∃ a b, i = some a ∧ j = some b ∧ a < k ∧ b < k
  | .sg _ i => ∃ a, i = some a ∧ a < k
def mdW : List Str := ["along", "wait", "sure", "soon", "ahead"]
theorem sgW_in (w : Nat) : sgW w ∈ mdW := by
  unfold sgW mdW
  split
  · decide +kernel
  · split <;> decide +kernel
theorem row_form {k : Nat} {r : Row} (h : RowOk k r) : (∃ z t, rrV r = .str z :: t ∧ (z = "told" ∨ z = "late") ∧ plR r = [] ∧ ∀ f, mvR f r = r) ∨ ∃ z, rrV r = .str z :: (plR r).map ivN ∧ z ∈ mdW ∧ (plR r).length ≤ 2 ∧ (∀ p ∈ plR r, p < k) ∧ ∀ f, rrV (mvR f r) = .str z :: (plR r).map fun n => ivN (f n) := by
  cases r with
  | told x y n => exact .inl ⟨_, _, rfl, .inl rfl, rfl, fun _ => rfl⟩
  | late e => exact .inl ⟨_, _, rfl, .inr rfl, rfl, fun _ => rfl⟩
  | along i j =>
    obtain ⟨a, b, rfl, rfl, ha, hb⟩ := h
    refine .inr ⟨_, rfl, by decide +kernel, Nat.le_refl _, fun p hp => ?_, fun _ => rfl⟩
    rcases List.mem_cons.1 hp with h | h
    · rw [h]; exact ha
    · rw [List.mem_singleton.1 h]; exact hb
  | wait i j =>
    obtain ⟨a, b, rfl, rfl, ha, hb⟩ := h
    refine .inr ⟨_, rfl, by decide +kernel, Nat.le_refl _, fun p hp => ?_, fun _ => rfl⟩
    rcases List.mem_cons.1 hp with h | h
    · rw [h]; exact ha
    · rw [List.mem_singleton.1 h]; exact hb
  | sg w i =>
    obtain ⟨a, rfl, ha⟩ := h
    refine .inr ⟨_, rfl, sgW_in w, by show 1 ≤ 2; decide, fun p hp => ?_, fun _ => rfl⟩
    rw [List.mem_singleton.1 hp]; exact ha
theorem in_leaf {z : Str} (h : z = "told" ∨ z = "late") : inV (.str z) [.str "told", .str "late"] = true := by
  rcases h with rfl | rfl <;> decide +kernel
theorem in_made {z : Str} (h : z ∈ mdW) : inV (.str z) [.str "told", .str "late"] = false := by
  unfold mdW at h
  simp only [List.mem_cons, List.not_mem_nil, or_false] at h
  rcases h with rfl | rfl | rfl | rfl | rfl <;> decide +kernel
theorem cut_2 {a : V} : ∀ {r : List V}, r.length ≤ 2 → cutV (a :: r) (some 1) none = r
  | [], _ => rfl
  | [_], _ => rfl
  | [_, _], _ => rfl
  | _ :: _ :: _ :: _, h => absurd h (by simp)
theorem bb_sorted : bootBuiltins "sorted" = some (.builtin "sorted") := by decide +kernel
section
variable {P : Program} {w : World} {K : PySem.W.Frag} {mg : Str → Option Value} {base : Heap}
def sp_rpl : Sp := fun vs H Q _ => ∃ (t : Addr) (r : Row) (k : Nat), vs = [.ref t] ∧ H t = some (.tup (rrV r)) ∧ RowOk k r ∧ ∀ (D : Addr) (H' : Hp), Same H H' → H' D = some (.lst ((plR r).map ivN)) → Q (.ref D) H'
theorem cal_row_places (T : Tp K mg) : Cal P w K mg base 1 "row_places" sp_rpl := by
  obtain ⟨fd, F⟩ := f_row_places T
  refine cal_of F (g_row_places T) (b_row_places F) sc_row_places (fun vs H Q E h => ?_) (fun cdv A outer s H vs Q E hr h => ?_)
  · obtain ⟨t, r, k, rfl, _⟩ := h
    rfl
  · obtain ⟨t, r, k, rfl, ht, ok, q⟩ := h
    have hu := hu_of hr
    refine ⟨_, (pss_cons (ps_if (pt_cmpR op_in_seq (pe_ix ix_tup (pv 0) pe_int (fun _ _ => rfl)) (pe_tup (pa_cons pe_str (pa_cons pe_str pa_nil))) (by rfl)) (pss_one (ps_ret (pe_lst pa_nil))) pss_nil)
      (pss_one (ps_ret (pe_callTy call_list_of (by rfl) (z_list T) bb_list (pa_cons (pe_slice sl_tupU (pv 0) (po_some pe_int) po_none) pa_nil))))), ?_⟩
    rcases row_form ok with ⟨z, r', e, hz, ep, _⟩ | ⟨z, e, hz, l2, _, _⟩
    · rw [e] at ht
      refine ⟨_, rfl, t, _, 0, .str z, rfl, rfl, .inl (.inl ht), atI_nat (j := 0) rfl, (by show 2 ≤ sizeLine; decide), fun g ng => ⟨g, [.str "told", .str "late"], rfl, .inr (.inl (.inl upd_same)), rfl, rfl, _, rfl, ?_⟩⟩
      show if inV (.str z) [.str "told", .str "late"] = true then _ else _
      rw [show inV (.str z) [.str "told", .str "late"] = true from in_leaf hz]
      refine iteT ⟨Nat.zero_le _, fun D nD => q D _ ((same_upd ng).trans (same_upd nD)) (by rw [upd_same, ep]; rfl)⟩
    · rw [e] at ht
      refine ⟨_, rfl, t, _, 0, .str z, rfl, rfl, .inl (.inl ht), atI_nat (j := 0) rfl, (by show 2 ≤ sizeLine; decide), fun g ng => ⟨g, [.str "told", .str "late"], rfl, .inr (.inl (.inl upd_same)), rfl, rfl, _, rfl, ?_⟩⟩
      show if inV (.str z) [.str "told", .str "late"] = true then _ else _
      rw [show inV (.str z) [.str "told", .str "late"] = false from in_made hz]
      refine iteF ⟨_, rfl, 1, rfl, t, _, rfl, same_upd ng _ _ ht, fun k2 H2 s2 e2 => ?_⟩
      rw [cut_2 (by rw [List.length_map]; exact l2)] at e2
      exact ⟨k2, _, rfl, .inr (.inl (.inl e2)), fun D nD => q D _ (((same_upd ng).trans s2).trans (same_upd nD)) upd_same⟩
def sp_mvr : Sp := fun vs H Q _ => ∃ (t d : Addr) (r : Row) (k : Nat) (kvs : List (Key × V)) (f : Nat → Nat), vs = [.ref t, .ref d] ∧ H t = some (.tup (rrV r)) ∧ RowOk k r ∧ H d = some (.dK kvs) ∧ (∀ p ∈ plR r, valV kvs (.inl (p : Nat)) = some (ivN (f p))) ∧ ∀ (u : Addr) (H' : Hp), Same H H' → H' u = some (.tup (rrV (mvR f r))) → Q (.ref u) H'
theorem cal_moved_row (T : Tp K mg) : Cal P w K mg base 1 "moved_row" sp_mvr := by
  obtain ⟨fd, F⟩ := f_moved_row T
  refine cal_of F (g_moved_row T) (b_moved_row F) sc_moved_row (fun vs H Q E h => ?_) (fun cdv A outer s H vs Q E hr h => ?_)
  · obtain ⟨t, d, r, k, kvs, f, rfl, _⟩ := h
    rfl
  · obtain ⟨t, d, r, k, kvs, f, rfl, ht, ok, hd, hf, q⟩ := h
    have hu := hu_of hr
    refine ⟨_, (pss_cons (ps_if (pt_cmpR op_in_seq (pe_ix ix_tup (pv 0) pe_int (fun _ _ => rfl)) (pe_tup (pa_cons pe_str (pa_cons pe_str pa_nil))) (by rfl)) (pss_one (ps_ret (pv 0))) pss_nil)
      (pss_cons (ps_setLc (i := 2) (own := [("place", 3)]) (g := gName 3) (tt := tYes) rfl sc_moved_row.nd rfl rfl (sw_true rfl rfl rfl (by decide +kernel)) (pi_tup (pe_slice sl_tupU (pv 0) (po_some pe_int) po_none)) (blkOk_by (N := N_moved_row) (sc := defScope s_moved_row) (by decide +kernel)) (fun _ _ _ _ _ => (pg_name (i := 3) sc_moved_row.nd rfl (.inl rfl))) (fun _ _ _ _ _ => pts_nil) (fun _ _ _ _ _ => (pe_dget hu (pv 1) (pv 3) (fun _ _ => rfl))))
      (pss_one (ps_ret (pe_tup (pa_cons (pe_ix ix_tup (pv 0) pe_int (fun _ _ => rfl)) (StX.pa_star (pv 2) pa_nil))))))), ?_⟩
    rcases row_form ok with ⟨z, r', e, hz, ep, em⟩ | ⟨z, e, hz, l2, _, em⟩
    · have ht0 := ht
      rw [e] at ht
      refine ⟨_, rfl, t, _, 0, .str z, rfl, rfl, .inl (.inl ht), atI_nat (j := 0) rfl, (by show 2 ≤ sizeLine; decide), fun g ng => ⟨g, [.str "told", .str "late"], rfl, .inr (.inl (.inl upd_same)), rfl, rfl, _, rfl, ?_⟩⟩
      show if inV (.str z) [.str "told", .str "late"] = true then _ else _
      rw [show inV (.str z) [.str "told", .str "late"] = true from in_leaf hz]
      refine iteT ⟨_, rfl, q t _ (same_upd ng) (same_upd ng _ _ (by rw [em]; exact ht0))⟩
    · rw [e] at ht
      refine ⟨_, rfl, t, _, 0, .str z, rfl, rfl, .inl (.inl ht), atI_nat (j := 0) rfl, (by show 2 ≤ sizeLine; decide), fun g ng => ⟨g, [.str "told", .str "late"], rfl, .inr (.inl (.inl upd_same)), rfl, rfl, _, rfl, ?_⟩⟩
      show if inV (.str z) [.str "told", .str "late"] = true then _ else _
      have sg := same_upd (o := .tup [.str "told", .str "late"]) ng
      rw [show inV (.str z) [.str "told", .str "late"] = false from in_made hz]
      refine iteF ⟨_, rfl, 1, rfl, t, _, rfl, sg _ _ ht, fun k2 H2 s2 e2 => ?_⟩
      rw [cut_2 (by rw [List.length_map]; exact l2)] at e2
      have s12 := sg.trans s2
      generalize upd H g (.tup [.str "told", .str "late"]) = H1 at *
      refine ⟨k2, rfl, ⟨_, .inl (.inl e2)⟩, fun D nD => ?_⟩
      refine lc_it (walk_tup (K := K) (a := k2) (xs := (plR r).map ivN)) (fun i Hc => Same H2 Hc ∧ Hc D = some (.lst (((plR r).take i).map fun n => ivN (f n)))) ⟨same_upd nD, upd_same⟩ (fun i Hc _ h => .inl (.inl (h.1 _ _ e2))) ?_ ?_
      · rintro i x Hc Hx hi ⟨s3, d3⟩ ⟨rfl, hx⟩
        rw [List.getElem?_map] at hx
        obtain ⟨n, hn, rfl⟩ := Option.map_eq_some_iff.1 hx
        have hd3 := s3 _ _ (s12 _ _ hd)
        refine ⟨rfl, yes_i (iteT ⟨_, rfl, _, rfl, d, ivN (f n), rfl, ?_, _, d3, ?_, same_put s3 nD, ?_⟩)⟩
        · rw [← hf n (List.mem_of_getElem? hn)]
          exact DGet.k (k := .inl (n : Int)) hd3
        · rw [List.length_map, List.length_take]
          exact small1000 (by omega)
        · rw [upd_same, List.take_add_one, hn, List.map_append]
          rfl
      · rintro Hc ⟨s3, d3⟩
        rw [List.length_map, List.take_length] at d3
        refine ⟨_, rfl, t, _, 0, .str z, rfl, rfl, .inl (.inl (s3 _ _ (s12 _ _ ht))), atI_nat (j := 0) rfl, _, rfl, D, _, rfl, .inr (.inl (.inl d3)), ?_, fun u nu => ?_⟩
        · rw [List.append_nil]
          show ((plR r).map fun n => ivN (f n)).length + 1 ≤ sizeLine
          rw [List.length_map]
          exact Nat.le_of_lt (small1000 (by omega))
        · refine q u _ ((s12.trans s3).trans (same_upd nu)) ?_
          rw [upd_same, em, List.append_nil]
end
end Tw

set_option maxHeartbeats 4000000
namespace Tw
open PySem PySem.Spec PyProof.Rows L2
/-! settle.py: paper_of -/
def rowAt (rows : List Row) (n : Nat) : Row := rows[n]?.getD (.late "")
theorem rowAt_eq {rows : List Row} {n : Nat} {r : Row} (h : rows[n]? = some r) : rowAt rows n = r := by
  unfold rowAt
  rw [h]
  rfl
def encN (ns : List Nat) : List (Key × V) := ns.map fun n : Nat => ((.inl (n : Int) : Key), V.bl true)
def addN (ns : List Nat) (p : Nat) : List Nat := if p ∈ ns then ns else ns ++ [p]
theorem mem_addN {ns : List Nat} {p q : Nat} : q ∈ addN ns p ↔ q ∈ ns ∨ q = p := by
  unfold addN
  split
  · rename_i h
    exact ⟨.inl, fun z => z.elim id fun e => e ▸ h⟩
  · rw [List.mem_append, List.mem_singleton]
theorem nd_addN {ns : List Nat} {p : Nat} (h : ns.Nodup) : (addN ns p).Nodup := by
  unfold addN
  split
  · exact h
  · rename_i c
    exact List.nodup_append.2 ⟨h, List.nodup_cons.2 ⟨List.not_mem_nil, List.nodup_nil⟩, fun a ha b hb e => c (by rw [← List.mem_singleton.1 hb, ← e]; exact ha)⟩
theorem enc_any (ns : List Nat) (p : Nat) : ((encN ns).any fun kv => decide (kv.1 = (.inl (p : Int) : Key))) = decide (p ∈ ns) := by
  rw [Bool.eq_iff_iff, List.any_eq_true, decide_eq_true_iff]
  unfold encN
  constructor
  · rintro ⟨kv, hk, e⟩
    obtain ⟨n, hn, rfl⟩ := List.mem_map.1 hk
    have := Sum.inl.inj (of_decide_eq_true e)
    have e : n = p := by omega
    rw [← e]
    exact hn
  · intro h
    exact ⟨_, List.mem_map.2 ⟨p, h, rfl⟩, decide_eq_true rfl⟩
theorem enc_put (ns : List Nat) (p : Nat) : putK (encN ns) (.inl (p : Int)) (.bl true) = encN (addN ns p) := by
  unfold putK
  rw [enc_any]
  by_cases c : p ∈ ns
  · rw [decide_eq_true c, if_pos rfl]
    unfold addN
    rw [if_pos c]
    unfold encN
    rw [List.map_map]
    refine List.map_congr_left fun n _ => ?_
    show (if _ then _ else _) = _
    split <;> rfl
  · rw [decide_eq_false c, if_neg (by simp)]
    unfold addN
    rw [if_neg c]
    unfold encN
    rw [List.map_append]
    rfl
theorem enc_val (ns : List Nat) (p : Nat) : (valV (encN ns) (.inl (p : Int))).isSome = decide (p ∈ ns) := by
  rw [← valV_any, enc_any]
theorem sorted_nat {ns : List Nat} {zs : List Int} (h : zs.Perm (ns.map fun n : Nat => (n : Int))) (hp : zs.Pairwise (· ≤ ·)) (nd : ns.Nodup) : ∃ ms : List Nat, zs = ms.map (fun n : Nat => (n : Int)) ∧ ms.Perm ns ∧ ms.Pairwise (· < ·) := by
  have e0 : zs = (zs.map Int.toNat).map (fun n : Nat => (n : Int)) := by
    rw [List.map_map]
    conv => lhs; rw [← List.map_id zs]
    refine List.map_congr_left fun z hz => ?_
    obtain ⟨n, _, rfl⟩ := List.mem_map.1 (h.mem_iff.1 hz)
    rfl
  have e1 : (zs.map Int.toNat).Perm ns := by
    have := h.map Int.toNat
    rw [List.map_map] at this
    have e : ns.map (Int.toNat ∘ fun n : Nat => (n : Int)) = ns := by
      conv => rhs; rw [← List.map_id ns]
      exact List.map_congr_left fun n _ => rfl
    rw [e] at this
    exact this
  refine ⟨zs.map Int.toNat, e0, e1, ?_⟩
  have nd' : (zs.map Int.toNat).Pairwise (· ≠ ·) := e1.nodup_iff.2 nd
  rw [e0, List.pairwise_map] at hp
  refine (hp.and nd').imp fun {a b} z => ?_
  have := z.1
  have := z.2
  omega
def ixOf : List Nat → Nat → Nat
  | [], _ => 0
  | n :: ns, p => if n = p then 0 else ixOf ns p + 1
theorem ixOf_at : ∀ {ms : List Nat} {i n : Nat}, ms.Pairwise (· < ·) → ms[i]? = some n → ixOf ms n = i
  | [], _, _, _, h => nomatch h
  | m :: ms, 0, n, _, h => by
    cases h
    unfold ixOf
    rw [if_pos rfl]
  | m :: ms, i + 1, n, hp, h => by
    have h : ms[i]? = some n := h
    have lt := (List.pairwise_cons.1 hp).1 n (List.mem_of_getElem? h)
    unfold ixOf
    rw [if_neg (by omega), ixOf_at (List.pairwise_cons.1 hp).2 h]
/-- which rows are kept -/
structure Kept (rows : List Row) (fault : Nat) (ms : List Nat) : Prop where
  fl : fault ∈ ms
  le : ∀ n ∈ ms, n ≤ fault
  lt : ms.Pairwise (· < ·)
  cl : ∀ n ∈ ms, ∀ p ∈ plR (rowAt rows n), p ∈ ms
def keptR (rows : List Row) (ms : List Nat) : List Row := ms.map fun n => mvR (ixOf ms) (rowAt rows n)
theorem few_le {ns : List Nat} {k : Nat} (nd : ns.Nodup) (h : ∀ n ∈ ns, n ≤ k) : ns.length ≤ k + 1 := by
  have := Se.nodup_len ns (List.range (k + 1)) nd fun n hn => List.mem_range.2 (by have := h n hn; omega)
  rw [List.length_range] at this
  exact this
theorem sorted_ahead {ms : List Nat} {i n p : Nat} (hs : ms.Pairwise (· < ·)) (hn : ms[i]? = some n) (hp : p ∈ ms) (lt : p < n) : p ∈ ms.take i := by
  obtain ⟨j, hj, e⟩ := List.mem_iff_getElem.1 hp
  obtain ⟨hi, e'⟩ := List.getElem?_eq_some_iff.1 hn
  have lj : j < i := by
    by_cases c : j < i
    · exact c
    · by_cases c2 : i = j
      · subst c2
        omega
      · have := List.pairwise_iff_getElem.1 hs i j hi hj (by omega)
        omega
  rw [← e]
  exact List.mem_take_iff_getElem.2 ⟨j, by omega, rfl⟩
section
variable {P : Program} {w : World} {K : PySem.W.Frag} {mg : Str → Option Value} {base : Heap}
def sp_paper : Sp := fun vs H Q _ => ∃ (a : Addr) (xs : List V) (rows : List Row) (fault : Nat), vs = [.ref a, .int (fault : Nat)] ∧ H a = some (.lst xs) ∧ Rows H xs (rows.map rrV) ∧ (∀ i r, rows[i]? = some r → RowOk i r) ∧ fault < rows.length ∧ rows.length < 8000000 ∧
  ∀ (t L R : Addr) (ys : List V) (ms : List Nat) (H' : Hp), Kept rows fault ms → Same H H' → H L = none ∧ H R = none ∧ L ≠ R → H' t = some (.tup [.ref L, .ref R]) → H' L = some (.lst ys) → Rows H' ys ((keptR rows ms).map rrV) → H' R = some (.lst [ivN (ixOf ms fault)]) → Q (.ref t) H'
theorem cal_paper_of (T : Tp K mg) : Cal P w K mg base 2 "paper_of" sp_paper := by
  obtain ⟨fd, F⟩ := f_paper_of T
  refine cal_of F (g_paper_of T) (b_paper_of F) sc_paper_of (fun vs H Q E h => ?_) (fun cdv A outer s H vs Q E hr h => ?_)
  · obtain ⟨a, xs, rows, fault, rfl, _⟩ := h
    rfl
  · obtain ⟨a, xs, rows, fault, rfl, ha, R, ok, hf, few, q⟩ := h
    have hu := hu_of hr
    have hsz : sizeLine = 16777216 := rfl
    refine ⟨_, (pss_cons (ps_set (i := 2) sc_paper_of.nd rfl (.inl rfl) (pe_disp (pps_cons (pv 1) pe_bl pps_nil) (by rfl) (by rfl) (fun z => by cases z) (by decide)))
      (pss_cons (ps_for PassesOwn.never rfl (pi_revR (by rfl) (z_reversed T) (prg_1 (by rfl) (z_range T) (pe_op op_add (pv 1) pe_int))) (pg_name (i := 3) sc_paper_of.nd rfl (.inl rfl))
        (pss_one (ps_if (pt_cmp (pc_din hu (pv 3) (pv 2)) (by rfl)) (pss_one (ps_for PassesOwn.never rfl (pi_list (C8.pe_c (cal_row_places T) hr (by decide) rfl (pa_cons (pe_ix ix_list (pv 0) (pv 3) (fun _ _ => rfl)) pa_nil))) (pg_name (i := 4) sc_paper_of.nd rfl (.inl rfl))
            (pss_one (ps_asg pe_bl (pg_sub (pv 2) (pv 4) (set_dict hu)))))) pss_nil)))
      (pss_cons (ps_set (i := 5) sc_paper_of.nd rfl (.inl rfl) (pe_lst pa_nil))
      (pss_cons (ps_set (i := 6) sc_paper_of.nd rfl (.inl rfl) pe_dnewK)
      (pss_cons (ps_for PassesOwn.never rfl (pi_list (pe_callB cr_sortedI (by rfl) (z_sorted T) bb_sorted (pa_cons (pe_callTy (call_list_dK rfl) (by rfl) (z_list T) bb_list (pa_cons (pv 2) pa_nil)) pa_nil))) (pg_name (i := 3) sc_paper_of.nd rfl (.inl rfl))
        (pss_cons (ps_asg (pe_callB call_len_seq (by rfl) (z_len T) bb_len (pa_cons (pv 5) pa_nil)) (pg_sub (pv 6) (pv 3) (set_dict hu)))
        (pss_one (ps_expr (pe_bm PySem.F.plainAttrs_list PySem.F.slot_list_append PySem.F.type_list_append mt_append (pv 5) (pa_cons (C8.pe_c (cal_moved_row T) hr (by decide) rfl (pa_cons (pe_ix ix_list (pv 0) (pv 3) (fun _ _ => rfl)) (pa_cons (pv 6) pa_nil))) pa_nil))))))
      (pss_one (ps_ret (pe_tup (pa_cons (pv 5) (pa_cons (pe_lst (pa_cons (pe_dget hu (pv 6) (pv 1) (fun _ _ => rfl)) pa_nil)) pa_nil)))))))))), ?_⟩
    refine fun N nN => ⟨_, rfl, upd_same, [(.inl (fault : Int), .bl true)], rfl, (by show 1 ≤ 15; decide), ?_⟩
    have nNa : a ≠ N := ne_of_none ha nN
    have sN : Same H (upd (upd H N (.dK [])) N (.dK (mergeK [] [(.inl (fault : Int), .bl true)]))) := same_put (same_upd nN) nN
    have eN : upd (upd H N (.dK [])) N (.dK (mergeK [] [(.inl (fault : Int), .bl true)])) N = some (.dK (encN [fault])) := upd_same
    generalize upd (upd H N (.dK [])) N (.dK (mergeK [] [(.inl (fault : Int), .bl true)])) = H1 at sN eN ⊢
    -- which rows are needed
    refine ⟨_, rfl, _, 1, rfl, rfl, _, rfl, by decide, by decide, by omega, by omega, ?_⟩
    refine for_rangeC (fun i σ H2 => ∃ (y3 y4 : Option V) (ns : List Nat), σ = [some (.ref a), some (.int (fault : Nat)), some (.ref N), y3, y4, none, none] ∧ Same H H2 ∧ H2 N = some (.dK (encN ns)) ∧ fault ∈ ns ∧ (∀ n ∈ ns, n ≤ fault) ∧ ns.Nodup ∧ ∀ n ∈ ns, fault < n + i → ∀ p ∈ plR (rowAt rows n), p ∈ ns) ⟨none, none, [fault], rfl, sN, eN, List.mem_singleton.2 rfl, fun n hn => by rw [List.mem_singleton.1 hn]; exact Nat.le_refl _, List.nodup_cons.2 ⟨List.not_mem_nil, List.nodup_nil⟩, fun n hn l => by rw [List.mem_singleton.1 hn] at l; omega⟩ ?_ ?_
    · rintro i σ H2 hi ⟨y3, y4, ns, rfl, s2, e2, fl, le, nd, cl⟩
      have hi' : i ≤ fault := by
        have : i < ((fault : Int) + 1 - 0).toNat := hi
        omega
      obtain ⟨n, hn⟩ : ∃ n, n + i = fault := ⟨fault - i, by omega⟩
      have en : (0 + ((((fault : Int) + 1 - 0).toNat : Nat) : Int) - 1 + (i : Nat) * (-1)) = (n : Nat) := by omega
      rw [en]
      have g := enc_val ns n
      refine ⟨_, rfl, _, rfl, N, _, rfl, DGet.k (k := .inl (n : Int)) e2, _, rfl, ?_⟩
      show if (valV (encN ns) (.inl (n : Int))).isSome = true then _ else _
      rw [g]
      by_cases c : n ∈ ns
      · rw [decide_eq_true c]
        have hr0 : n < rows.length := by omega
        obtain ⟨r, er⟩ : ∃ r, rows[n]? = some r := ⟨_, List.getElem?_eq_getElem hr0⟩
        obtain ⟨x, ex⟩ : ∃ x, xs[n]? = some x := ⟨_, List.getElem?_eq_getElem (by rw [R.len, List.length_map]; exact hr0)⟩
        obtain ⟨t, r', rfl, er', ht⟩ := row_of R ex
        rw [er] at er'
        cases er'
        have okr := ok n r er
        refine iteT ⟨_, rfl, _, rfl, a, xs, _, _, rfl, rfl, .inl (.inl (s2 _ _ ha)), atI_nat (j := n) ex, t, r, n, rfl, s2 _ _ ht, okr, fun D H3 s3 hD => ⟨D, rfl, ⟨_, .inl (.inl hD)⟩, ?_⟩⟩
        have hD0 : D ≠ N := ne_of hD (s3 _ _ e2) (fun z => nomatch z)
        have ltp : ∀ p ∈ plR r, p < n := fun p hp => by
          rcases row_form okr with ⟨_, _, _, _, ep, _⟩ | ⟨_, _, _, _, lp, _⟩
          · rw [ep] at hp; exact absurd hp List.not_mem_nil
          · exact lp p hp
        refine for_list (K := K) (a := D) (xs := (plR r).map ivN) (fun j σ H4 => ∃ (y4 : Option V) (ns' : List Nat), σ = [some (.ref a), some (.int (fault : Nat)), some (.ref N), some (.int (n : Nat)), y4, none, none] ∧ Same H H4 ∧ H4 D = some (.lst ((plR r).map ivN)) ∧ H4 N = some (.dK (encN ns')) ∧ (∀ k ∈ ns, k ∈ ns') ∧ (∀ k ∈ ns', k ∈ ns ∨ k < n) ∧ ns'.Nodup ∧ ∀ p ∈ (plR r).take j, p ∈ ns') ⟨y4, ns, rfl, s2.trans s3, hD, s3 _ _ e2, fun _ h => h, fun _ h => .inl h, nd, fun p hp => absurd hp (by rw [List.take_zero]; exact List.not_mem_nil)⟩ (fun j σ H4 _ ⟨_, _, _, _, h, _⟩ => .inl (.inl h)) ?_ ?_
        · rintro j x σ H4 hx ⟨y4, ns', rfl, s4, hD4, e4, sub, lo, nd', al⟩
          rw [List.getElem?_map] at hx
          obtain ⟨p, hp, rfl⟩ := Option.map_eq_some_iff.1 hx
          have hpm := List.mem_of_getElem? hp
          have ln : ns'.length ≤ fault + 1 := few_le nd' fun k hk => (lo k hk).elim (le k) fun z => by omega
          refine ⟨_, rfl, _, rfl, N, _, rfl, DPut.k (k := .inl (p : Int)) e4 (by unfold encN; rw [List.length_map]; omega), ?_⟩
          refine ⟨_, addN ns' p, rfl, same_put s4 nN, by rw [upd_ne hD0]; exact hD4, by rw [upd_same, enc_put], fun k hk => mem_addN.2 (.inl (sub k hk)), fun k hk => ?_, nd_addN nd', fun k hk => ?_⟩
          · rcases mem_addN.1 hk with h | h
            · exact lo k h
            · exact .inr (by rw [h]; exact ltp p hpm)
          · rw [List.take_add_one, hp] at hk
            rcases List.mem_append.1 hk with h | h
            · exact mem_addN.2 (.inl (al k h))
            · exact mem_addN.2 (.inr (List.mem_singleton.1 h))
        · rintro σ H4 ⟨y4, ns', rfl, s4, hD4, e4, sub, lo, nd', al⟩
          rw [List.length_map, List.take_length] at al
          refine ⟨_, _, ns', rfl, s4, e4, sub _ fl, fun k hk => (lo k hk).elim (le k) fun z => by omega, nd', fun k hk l p hp => ?_⟩
          by_cases ck : k = n
          · rw [ck, rowAt_eq er] at hp
            exact al p hp
          · rcases lo k hk with h | h
            · exact sub _ (cl k h (by omega) p hp)
            · omega
      · rw [decide_eq_false c]
        refine iteF ⟨_, _, ns, rfl, s2, e2, fl, le, nd, fun k hk l p hp => cl k hk ?_ p hp⟩
        have : k ≠ n := fun e => c (e ▸ hk)
        omega
    · rintro σ H2 ⟨y3, y4, ns, rfl, s2, e2, fl, le, nd, cl⟩
      have cl : ∀ n ∈ ns, ∀ p ∈ plR (rowAt rows n), p ∈ ns := fun n hn p hp => cl n hn (by show fault < n + ((fault : Int) + 1 - 0).toNat; omega) p hp
      have lns := few_le nd le
      -- kept, moved
      refine ⟨Nat.zero_le _, fun L nL => ?_⟩
      refine fun M nM => ?_
      have nML : M ≠ L := fun e => by rw [e, upd_same] at nM; cases nM
      have sM := (same_upd (o := .lst []) nL).trans (same_upd (o := .dK []) nM)
      have eL : upd (upd H2 L (.lst [])) M (.dK []) L = some (.lst []) := by rw [upd_ne nML.symm, upd_same]
      have eM : upd (upd H2 L (.lst [])) M (.dK []) M = some (.dK []) := upd_same
      have nL0 : H L = none := s2.free nL
      have nM0 : H M = none := s2.free ((same_upd nL).free nM)
      generalize upd (upd H2 L (.lst [])) M (.dK []) = H3 at sM eL eM ⊢
      have s3 := s2.trans sM
      refine ⟨_, rfl, N, _, rfl, sM _ _ e2, fun q1 nq1 => ?_⟩
      have hq : upd H3 q1 (.lst ((encN ns).map fun kv => kV kv.1)) q1 = some (.lst ((ns.map fun n : Nat => (n : Int)).map V.int)) := by
        rw [upd_same]
        unfold encN
        rw [List.map_map, List.map_map]
        rfl
      have s4 := same_upd (o := .lst ((encN ns).map fun kv => kV kv.1)) nq1
      generalize upd H3 q1 (.lst ((encN ns).map fun kv => kV kv.1)) = H4 at hq s4 ⊢
      refine ⟨q1, _, rfl, .inl (.inl hq), fun zs S hz hp nS => ?_⟩
      obtain ⟨ms, rfl, pm, lt⟩ := sorted_nat hz hp nd
      have kp : Kept rows fault ms := ⟨pm.mem_iff.2 fl, fun n hn => le n (pm.mem_iff.1 hn), lt, fun n hn p hp => pm.mem_iff.2 (cl n (pm.mem_iff.1 hn) p hp)⟩
      have lms : ms.length = ns.length := pm.length_eq
      have s5 := s4.trans (same_upd (o := .lst ((ms.map fun n : Nat => (n : Int)).map V.int)) nS)
      have hS : upd H4 S (.lst ((ms.map fun n : Nat => (n : Int)).map V.int)) S = some (.lst ((ms.map fun n : Nat => (n : Int)).map V.int)) := upd_same
      have nSL : S ≠ L := fun e => by rw [e, s4 _ _ eL] at nS; cases nS
      have nSM : S ≠ M := fun e => by rw [e, s4 _ _ eM] at nS; cases nS
      generalize upd H4 S (.lst ((ms.map fun n : Nat => (n : Int)).map V.int)) = H5 at s5 hS ⊢
      have sH5 := s3.trans s5
      refine ⟨S, rfl, ⟨_, .inl (.inl hS)⟩, ?_⟩
      refine for_list (K := K) (a := S) (xs := (ms.map fun n : Nat => (n : Int)).map V.int) (fun i σ H6 => ∃ (y3 : Option V) (ks : List V) (kvs : List (Key × V)), σ = [some (.ref a), some (.int (fault : Nat)), some (.ref N), y3, y4, some (.ref L), some (.ref M)] ∧ Same H H6 ∧ H6 S = some (.lst ((ms.map fun n : Nat => (n : Int)).map V.int)) ∧ H6 L = some (.lst ks) ∧ Rows H6 ks (((ms.take i).map fun n => mvR (ixOf ms) (rowAt rows n)).map rrV) ∧ H6 M = some (.dK kvs) ∧ kvs.length ≤ i ∧ ∀ n ∈ ms.take i, valV kvs (.inl (n : Int)) = some (ivN (ixOf ms n))) ⟨y3, [], [], rfl, sH5, hS, s5 _ _ eL, .nil, s5 _ _ eM, Nat.le_refl _, fun n h => absurd h (by rw [List.take_zero]; exact List.not_mem_nil)⟩ (fun i σ H6 _ ⟨_, _, _, _, _, h, _⟩ => .inl (.inl h)) ?_ ?_
      · rintro i x σ H6 hx ⟨y3, ks, kvs, rfl, s6, hS6, hL6, RL, hM6, lk, hv⟩
        rw [List.map_map, List.getElem?_map] at hx
        obtain ⟨n, hn, rfl⟩ := Option.map_eq_some_iff.1 hx
        have hnm := List.mem_of_getElem? hn
        have hix := ixOf_at lt hn
        have hi : i < ms.length := (List.getElem?_eq_some_iff.1 hn).1
        have lks : ks.length = i := by
          rw [RL.len, List.length_map, List.length_map, List.length_take]
          omega
        have ln := kp.le n hnm
        have hr0 : n < rows.length := by omega
        obtain ⟨r, er⟩ : ∃ r, rows[n]? = some r := ⟨_, List.getElem?_eq_getElem hr0⟩
        obtain ⟨x, ex⟩ : ∃ x, xs[n]? = some x := ⟨_, List.getElem?_eq_getElem (by rw [R.len, List.length_map]; exact hr0)⟩
        obtain ⟨t, r', rfl, er', ht⟩ := row_of R ex
        rw [er] at er'
        cases er'
        have okr := ok n r er
        refine ⟨_, rfl, L, ks, rfl, .inl (.inl (.inl hL6)), _, rfl, _, rfl, M, _, rfl, DPut.k (k := .inl (n : Int)) hM6 (by omega), ?_⟩
        have s7 : Same H (upd H6 M (.dK (putK kvs (.inl (n : Int)) (.int (ks.length : Nat))))) := same_put s6 nM0
        have k7 : Kt H6 (upd H6 M (.dK (putK kvs (.inl (n : Int)) (.int (ks.length : Nat))))) := Kt.upd fun _ e => by rw [hM6] at e; cases e
        have hS7 : upd H6 M (.dK (putK kvs (.inl (n : Int)) (.int (ks.length : Nat)))) S = some (.lst ((ms.map fun n : Nat => (n : Int)).map V.int)) := by rw [upd_ne nSM]; exact hS6
        have hL7 : upd H6 M (.dK (putK kvs (.inl (n : Int)) (.int (ks.length : Nat)))) L = some (.lst ks) := by rw [upd_ne nML.symm]; exact hL6
        have hM7 : upd H6 M (.dK (putK kvs (.inl (n : Int)) (.int (ks.length : Nat)))) M = some (.dK (putK kvs (.inl (n : Int)) (.int (ks.length : Nat)))) := upd_same
        generalize upd H6 M (.dK (putK kvs (.inl (n : Int)) (.int (ks.length : Nat)))) = H7 at s7 k7 hS7 hL7 hM7 ⊢
        have hv7 : ∀ k ∈ ms.take (i + 1), valV (putK kvs (.inl (n : Int)) (.int (ks.length : Nat))) (.inl (k : Int)) = some (ivN (ixOf ms k)) := fun k hk => by
          rw [valV_put]
          split
          · rename_i e
            have e := Sum.inl.inj e
            have e : k = n := by omega
            rw [e, hix, lks]
            rfl
          · rename_i e
            rw [List.take_add_one, hn] at hk
            rcases List.mem_append.1 hk with h | h
            · exact hv k h
            · exact absurd (by rw [List.mem_singleton.1 h]) e
        refine ⟨_, rfl, .inl ⟨rfl, _, .inl (.inl hL7)⟩, _, rfl, _, rfl, a, xs, _, _, rfl, rfl, .inl (.inl (s7 _ _ ha)), atI_nat (j := n) ex, _, rfl, t, M, r, n, _, ixOf ms, rfl, s7 _ _ ht, okr, hM7, fun p hp => hv7 p ?_, fun u H8 s8 e8 => ?_⟩
        · rw [List.take_add_one]
          refine List.mem_append.2 (.inl (sorted_ahead lt hn (kp.cl n hnm p (by rw [rowAt_eq er]; exact hp)) ?_))
          rcases row_form okr with ⟨_, _, _, _, ep, _⟩ | ⟨_, _, _, _, lp, _⟩
          · rw [ep] at hp; exact absurd hp List.not_mem_nil
          · exact lp p hp
        · have hL8 := s8 _ _ hL7
          have kL : Kt H8 (upd H8 L (.lst (ks ++ [.ref u]))) := Kt.upd fun _ e => by rw [hL8] at e; cases e
          refine ⟨L, _, _, rfl, rfl, hL8, by omega, _, ks ++ [.ref u], _, rfl, same_put (s7.trans s8) nL0, by rw [upd_ne nSL]; exact s8 _ _ hS7, upd_same, ?_, by rw [upd_ne nML]; exact s8 _ _ hM7, ?_, hv7⟩
          · rw [List.take_add_one, hn, List.map_append, List.map_append]
            have RL8 := RL.keep (k7.trans (Kt.of s8))
            refine (RL8.snoc (r := rrV (mvR (ixOf ms) (rowAt rows n))) (by rw [rowAt_eq er]; exact e8)).keep kL
          · have := length_putK kvs (.inl (n : Int)) (.int (ks.length : Nat))
            omega
      · rintro σ H6 ⟨y3, ks, kvs, rfl, s6, hS6, hL6, RL, hM6, lk, hv⟩
        rw [List.length_map, List.length_map, List.take_length] at RL hv
        refine ⟨_, rfl, _, rfl, _, rfl, M, ivN (ixOf ms fault), rfl, ?_, (by show 1 ≤ sizeLine; decide), fun R1 nR1 => ⟨(by show 2 ≤ sizeLine; decide), fun t nt => ?_⟩⟩
        · rw [← hv fault kp.fl]
          exact DGet.k (k := .inl (fault : Int)) hM6
        · have sa := (same_upd (o := .lst [ivN (ixOf ms fault)]) nR1).trans (same_upd (o := .tup [.ref L, .ref R1]) nt)
          exact q t L R1 ks ms _ kp (s6.trans sa) ⟨nL0, s6.free nR1, ne_of_none hL6 nR1⟩ upd_same (sa _ _ hL6) (RL.keep (Kt.of sa)) (same_upd nt _ _ upd_same)
end
end Tw

set_option maxHeartbeats 4000000
namespace Tw
open PySem PySem.Spec PyProof.Rows L2
/-! papers.py: is_ring of places, paper_fits of good rows -/
def ftAt (fs : List Ft) (k : Nat) : Ft := fs[k]?.getD ⟨false, "", "", 0⟩
theorem ftAt_eq {fs : List Ft} {k : Nat} {f : Ft} (h : fs[k]? = some f) : ftAt fs k = f := by
  unfold ftAt
  rw [h]
  rfl
theorem ftAt_in {fs : List Ft} {k : Nat} (h : k < fs.length) : ftAt fs k ∈ fs := by
  rw [ftAt_eq (List.getElem?_eq_getElem h)]
  exact List.getElem_mem h
/-- whether places are a ring of facts -/
def ringB (g : Hk) (fs : List Ft) (ks : List Nat) : Bool := (ks.map (ftAt fs)).all (fun f => decide (f.n < 0)) && chB ((ks.map (ftAt fs)).map (arOf g))
theorem atI_prev {xs : List V} {i : Nat} {v : V} (hi : i < xs.length) (h : xs[if i = 0 then xs.length - 1 else i - 1]? = some v) : atI xs ((i : Int) - 1) = some v := by
  by_cases c : i = 0
  · subst c
    rw [if_pos rfl] at h
    have hne : xs ≠ [] := fun e => by rw [e] at hi; exact absurd hi (by decide)
    have e := List.dropLast_concat_getLast hne
    have ev : xs.getLast hne = v := by
      rw [List.getLast_eq_getElem]
      rw [List.getElem?_eq_getElem (by omega)] at h
      exact Option.some.inj h
    rw [← e, ev]
    exact atI_last _ _
  · rw [if_neg c] at h
    rw [show (i : Int) - 1 = ((i - 1 : Nat) : Int) by omega]
    exact atI_nat h
theorem iv_in {lo hi : Int} {n : Int} (h1 : lo ≤ n) (h2 : n ≤ hi) : whB lo hi (.int n) = true := by
  unfold whB
  simp [h1, h2]
def arR (a : Str × Str) : List V := [.str a.1, .str a.2]
section
variable {P : Program} {w : World} {K : PySem.W.Frag} {mg : Str → Option Value} {base : Heap}
def sp_ringN (K : PySem.W.Frag) : Sp := fun vs H Q _ => ∃ (p M G : Addr) (m : Md) (fs : List Ft) (xs : List V) (ks : List Nat), vs = [.ref p, .ref M, .ref G] ∧ WebAt (CW K) H p m ∧ H M = some (.lst xs) ∧ Rows H xs (fs.map Ft.row) ∧ (∀ f ∈ fs, okSure (hkOf (hs m.wd)) f) ∧ H G = some (.lst (ks.map ivN)) ∧ ks ≠ [] ∧ ks.length ≤ 1000 ∧ (∀ k ∈ ks, k < fs.length) ∧ ∀ H', Same H H' → Q (.bl (ringB (hkOf (hs m.wd)) fs ks)) H'
end
end Tw

set_option maxHeartbeats 4000000
namespace Tw
open PySem PySem.Spec PyProof.Rows L2
/-! settle.py: settled -/
theorem rs_rows {m : Md} {g : Mg} {s : Se.MS Str} {fs : List (Ky × Int)} (h : Se.Rs (hkOf (hs m.wd)) g.bn g.lt s fs) : ∀ i r, s.rows[i]? = some r → RowOk i r := by
  intro i r hr
  obtain ⟨g', hg, rd⟩ := h.row i r hr
  have lt : ∀ {a : Nat} {x : Ky × Int}, (fs.take i)[a]? = some x → a < i := fun e => by
    have := (List.getElem?_eq_some_iff.1 e).1
    rw [List.length_take] at this
    omega
  cases r with
  | told x y n => exact True.intro
  | late e => exact True.intro
  | along p q =>
    obtain ⟨a, b, x, y, z, o, p', rfl, rfl, h1, h2, _⟩ := rd
    exact ⟨a, b, rfl, rfl, lt h1, lt h2⟩
  | wait p q =>
    obtain ⟨a, b, e, x, y, o, p', rfl, rfl, h1, h2, _⟩ := rd
    exact ⟨a, b, rfl, rfl, lt h1, lt h2⟩
  | sg w p =>
    obtain ⟨a, k, n, rfl, _, h1, _⟩ := rd
    exact ⟨a, rfl, lt h1⟩
/-- a yes: the table of a state that is closed -/
def SetYes (K : PySem.W.Frag) (m : Md) (H : Hp) (t : Addr) : Prop := ∃ (b : TbA) (st : Se.MS Str), H t = some (.tup [.str "yes", .ref b.p]) ∧ TbAt K H b (tOf false st.made) (tOf true st.made) ∧ st.fault = none ∧ OkM m (mgM m) st ∧ ClM m st ∧ RsM m (mgM m) st
/-- a no: the rows by which a fault was made -/
def SetNo (m : Md) (H0 H : Hp) (t : Addr) : Prop := ∃ (u L R : Addr) (ys : List V) (ms : List Nat) (st : Se.MS Str) (j : Nat), H t = some (.tup [.str "no", .ref u]) ∧ H u = some (.tup [.ref L, .ref R]) ∧ H L = some (.lst ys) ∧ Rows H ys ((keptR st.rows ms).map rrV) ∧ H R = some (.lst [ivN (ixOf ms j)]) ∧ st.fault = some j ∧ RsM m (mgM m) st ∧ Kept st.rows j ms ∧ st.rows.length < 8000000 ∧ H0 L = none ∧ H0 R = none ∧ L ≠ R
section
variable {P : Program} {w : World} {K : PySem.W.Frag} {mg : Str → Option Value} {base : Heap}
def sp_settled (K : PySem.W.Frag) : Sp := fun vs H Q _ => ∃ (p : Addr) (m : Md), vs = [.ref p] ∧ WebAt (CW K) H p m ∧ MdOk m ∧ ∀ (t : Addr) (H' : Hp), Same H H' → (SetYes K m H' t ∨ SetNo m H H' t) → Q (.ref t) H'
theorem cal_settled (T : Tp K mg) (TO : Tbo w K) : Cal P w K mg base 11 "settled" (sp_settled K) := by
  obtain ⟨fd, F⟩ := f_settled T
  refine cal_of F (g_settled T) (b_settled F) sc_settled (fun vs H Q E h => ?_) (fun cdv A outer s H vs Q E hr h => ?_)
  · obtain ⟨p, m, rfl, _⟩ := h
    rfl
  · obtain ⟨p, m, rfl, W, ok, q⟩ := h
    have hu := hu_of hr
    have lb := (bs_len ok).1
    refine ⟨_, (pss_cons (ps_set (i := 1) sc_settled.nd rfl (.inl rfl) (C8.pe_mk (mak_Making T) hr (by decide) rfl (pa_cons (pv 0) (pa_cons (pe_lc (own := [("base", 2)]) (g := gName 2) (tt := tYes) rfl sc_settled.nd (pi_list (C8.pe_c (cal_bases T) hr (by decide) rfl (pa_cons (pv 0) pa_nil))) (blkOk_by (N := N_settled) (sc := defScope s_settled) (by decide +kernel)) (fun _ _ _ _ _ => (pg_name (i := 2) sc_settled.nd rfl (.inl rfl))) (fun _ _ _ _ _ => pts_nil) (fun _ _ _ _ _ => (pe_tup (pa_cons (C8.pe_gc (by rfl) (c_MOST T)) (pa_cons (pv 2) (pa_cons (pv 2) (pa_cons pe_int pa_nil))))))) pa_nil))))
      (pss_cons (ps_expr (C8.pe_mt0 (met_Making_tell T) hr (by decide) (pv 1)))
      (pss_cons (ps_expr (C8.pe_c (cal_make_all T TO) hr (by decide) rfl (pa_cons (pv 1) pa_nil)))
      (pss_cons (ps_if (pt_cmpR op_isN (pe_fld (pv 1) rfl) pe_non (nomark _)) (pss_one (ps_ret (pe_tup (pa_cons pe_str (pa_cons (C8.pe_c (cal_table_of T) hr (by decide) rfl (pa_cons (pv 1) pa_nil)) pa_nil))))) pss_nil)
      (pss_one (ps_ret (pe_tup (pa_cons pe_str (pa_cons (C8.pe_c (cal_paper_of T) hr (by decide) rfl (pa_cons (pe_fld (pv 1) rfl) (pa_cons (pe_fld (pv 1) rfl) pa_nil))) pa_nil))))))))), ?_⟩
    refine ⟨_, rfl, _, rfl, p, m, rfl, W, fun g H1 s1 ng hg => ⟨g, rfl, ⟨_, .inl (.inl hg)⟩, fun D nD => ?_⟩⟩
    have hg : H1 g = some (.lst ((bsN m).map V.str)) := hg
    refine lc_pure (bsN m) (walk_listN (by rw [List.length_map])) (fun x => some (((false, x, x), 0) : Ky × Int)) (SR fcR) sr_k nD (by omega) (fun H s => .inl (.inl (s _ _ hg))) ?_ ?_
    · rintro i a x H2 _ ea s2 ⟨rfl, hx⟩ Good Bad kt kf
      rw [List.getElem?_map, ea] at hx
      cases hx
      exact ⟨rfl, yes_i (iteT ⟨_, rfl, _, rfl, (by show 4 ≤ sizeLine; decide), fun u nu => kt _ _ _ rfl (same_upd nu) ⟨u, rfl, upd_same⟩⟩)⟩
    intro H2 acc s2 d2 p2
    have RA := paired_rows p2
    rw [show ((bsN m).filterMap fun x => some (((false, x, x), 0) : Ky × Int)) = (bsN m).map fun x => (((false, x, x), 0) : Ky × Int) from List.filterMap_eq_map ▸ rfl] at RA
    have s12 := s1.trans s2
    refine fun x dx nx ndx nxd => ?_
    have sm : ∀ (o : HO) b y, H2 b = some y → b ≠ x ∧ upd (upd H2 dx (.own x)) x o b = some y := fun o b y e => ⟨ne_of_none e nx, by rw [upd_ne (ne_of_none e nx), upd_ne (ne_of_none e ndx)]; exact e⟩
    have sx : Same H2 (upd (upd H2 dx (.own x)) x (.ins (CM K) dx [])) := fun b y e => (sm _ b y e).2
    refine ⟨x, dx, p, D, m, _, acc, rfl, upd_same, (W.same s12).same sx, sx _ _ d2, RA.keep (Kt.of sx), ?_, fun a H3 ea hn sb M => ⟨rfl, ?_⟩⟩
    · rw [List.length_map]
      omega
    rw [mkI_init ok] at M
    obtain ⟨hnD, hnL⟩ := hn
    have s3 : Same H H3 := fun b y e => sb b y (sx _ _ (s12 _ _ e)) (sm (.own x) b y (s12 _ _ e)).1
    have out : ∀ b y, H b = some y → b ≠ a.p ∧ b ≠ a.D ∧ b ≠ a.L := fun b y e => ⟨by rw [ea]; exact (sm (.own x) b y (s12 _ _ e)).1, ne_of_none (sx _ _ (s12 _ _ e)) hnD, ne_of_none (sx _ _ (s12 _ _ e)) hnL⟩
    subst ea
    clear sb hnD hnL sx sm
    obtain ⟨few, RS, okT⟩ := told_all ok
    refine ⟨_, rfl, a.p, a.dx, _, rfl, M.obj, mf_no (by decide +kernel), a, m, _, rfl, M, fun x hx => ⟨(ok.bd x hx).one, (ok.bd x hx).oth⟩, few, fun H4 fr4 M4 => ?_⟩
    refine ⟨_, rfl, a, m, mgM m, _, rfl, sg_ok ok, most_ok ok, few, M4, RS, okT, fun st H5 fr5 M5 RS5 few5 cl5 => ?_⟩
    have s5 : Same H H5 := fun b y e => by
      obtain ⟨n1, n2, n3⟩ := out b y e
      exact (fr4.trans fr5) b y (s3 b y e) n1 n2 n3
    refine ⟨_, rfl, a.p, CM K, a.dx, _, _, rfl, M5.obj, cl_Making T, na_Making_fault T, mf_fault, rfl, _, rfl, ?_⟩
    cases ef : st.fault with
    | none =>
      obtain ⟨ok5, c5⟩ := cl5 ef
      have lk := keys_len (bs_len ok).1 (bs_len ok).2
      have lm := Se.made_len ok5.nd ok5.hd.just
      refine iteT ⟨_, rfl, a, m, st, rfl, M5, ok5.nd, by omega, fun b H6 s6 B => ⟨(by show 2 ≤ sizeLine; decide), fun t nt => ?_⟩⟩
      exact q t _ ((s5.trans s6).trans (same_upd nt)) (.inl ⟨b, st, upd_same, B.same (same_upd nt), ef, ok5, c5, RS5⟩)
    | some j =>
      obtain ⟨xs, hL, hR⟩ := M5.rows
      have RS6 := RS5
      obtain ⟨fs, rs⟩ := RS6
      obtain ⟨fx, fn, hfj, _⟩ := rs.fault j ef
      have lj : j < st.rows.length := by
        rw [← rs.len]
        exact (List.getElem?_eq_some_iff.1 hfj).1
      refine iteF ⟨_, rfl, a.p, CM K, a.dx, _, _, rfl, M5.obj, cl_Making T, na_Making_rows T, mf_rows, _, rfl, a.p, CM K, a.dx, _, _, rfl, M5.obj, cl_Making T, na_Making_fault T, mf_fault, a.L, xs, st.rows, j, by rw [ef]; rfl, hL, hR, rs_rows rs, lj, few5, fun u L R ys ms H6 kp s6 hn h1 h2 h3 h4 => ⟨(by show 2 ≤ sizeLine; decide), fun t nt => ?_⟩⟩
      have st' := same_upd (o := .tup [.str "no", .ref u]) nt
      exact q t _ ((s5.trans s6).trans st') (.inr ⟨u, L, R, ys, ms, st, j, upd_same, st' _ _ h1, st' _ _ h2, h3.keep (Kt.of st'), st' _ _ h4, ef, RS5, kp, few5, s5.free hn.1, s5.free hn.2.1, hn.2.2⟩)
end
end Tw

set_option maxHeartbeats 4000000
namespace Tw
open PySem PySem.Spec PyProof.Rows L2
/-! papers.py: paper_fits of rows that are read and a ring of places -/
theorem look_in {k : Ky} {v : Int × Option Nat} : ∀ {l : List Mv}, Se.look k l = some v → (k, v) ∈ l
  | [], h => nomatch h
  | c :: l, h => by
    unfold Se.look at h
    split at h
    · rename_i e
      cases h
      rw [← e]
      exact List.mem_cons_self
    · exact List.mem_cons_of_mem _ (look_in h)
/-- what lies above a table has an amount in it -/
theorem le_tab {s : Se.MS Str} {u : Bool} {a b : Str} {n : Int} (h : Se.Le s (u, a, b) n) : ∃ k, ((a, b), k) ∈ tOf u s.made ∧ k ≤ n := by
  obtain ⟨k, e, l⟩ := h
  obtain ⟨p, e⟩ := Se.of_at e
  exact ⟨k, tOf_mem.2 ⟨p, look_in e⟩, l⟩
def tbAttrs : List Str := ["bound_amounts", "wait_amounts", "base_names", "span_names"]
theorem tb_no {a : TbA} {x : Str} (h : tbAttrs.all (fun y => !(x == y)) = true) : (tbF a).lookup x = none := by
  unfold tbAttrs at h
  simp only [List.all_cons, List.all_nil, Bool.and_true, Bool.and_eq_true, Bool.not_eq_true'] at h
  obtain ⟨h1, h2, h3, h4⟩ := h
  unfold tbF
  rw [List.lookup_cons, h1, List.lookup_cons, h2, List.lookup_cons, h3, List.lookup_cons, h4]
  rfl
theorem TbAt.sb {K : PySem.W.Frag} {H H' : Hp} {a : TbA} {l1 l2 : List Pr} {f : Addr} {xs : List V} (h : TbAt K H a l1 l2) (s : Sb f H H') (hf : H f = some (.lst xs)) : TbAt K H' a l1 l2 := by
  obtain ⟨kb, h1, h2⟩ := h.bn
  obtain ⟨ks, h3, h4⟩ := h.sn
  exact ⟨s _ _ h.obj (ne_of h.obj hf (fun z => nomatch z)), s _ _ h.b (ne_of h.b hf (fun z => nomatch z)), s _ _ h.w (ne_of h.w hf (fun z => nomatch z)), ⟨kb, s _ _ h1 (ne_of h1 hf (fun z => nomatch z)), h2⟩, ⟨ks, s _ _ h3 (ne_of h3 hf (fun z => nomatch z)), h4⟩, h.nd1, h.nd2⟩
section
variable {P : Program} {w : World} {K : PySem.W.Frag} {mg : Str → Option Value} {base : Heap}
def sp_fitsN (K : PySem.W.Frag) : Sp := fun vs H Q _ => ∃ (p t L G : Addr) (m : Md) (rws : List Rw) (fs : List Ft) (xs : List V) (ks : List Nat), vs = [.ref p, .ref t] ∧ H t = some (.tup [.ref L, .ref G]) ∧ WebAt (CW K) H p m ∧ (∀ x ∈ m.bd, x.one ∈ m.pts ∧ x.oth ∈ m.pts) ∧ (∀ q ∈ bRows m, q.all okV = true) ∧ H L = some (.lst xs) ∧ Rows H xs (rws.map Rw.row) ∧ rws.length ≤ 8000000 ∧ Red m rws fs ∧ H G = some (.lst (ks.map ivN)) ∧ ks ≠ [] ∧ ks.length ≤ 1000 ∧ (∀ k ∈ ks, k < fs.length) ∧ ∀ H', Same H H' → Q (.bl (ringB (hkOf (hs m.wd)) fs ks)) H'
end
end Tw

set_option maxHeartbeats 4000000
namespace Tw
open PySem PySem.Spec PyProof.Rows L2
/-! a yes and a no: never both; the rows that are kept are read -/
theorem rs_ind {hk : Hk} {bn : List (Str × Str × Int)} {lt : List (Str × Int)} {s : Se.MS Str} {fs : List (Ky × Int)} (R : Se.Rs hk bn lt s fs) (P : Ky × Int → Prop) (h : ∀ prev g r, (∀ f ∈ prev, P f) → Se.RdOk hk bn lt prev g r → P g) : ∀ f ∈ fs, P f := by
  have gen : ∀ n, ∀ f ∈ fs.take n, P f := by
    intro n
    induction n with
    | zero => exact fun f h => absurd h (by rw [List.take_zero]; exact List.not_mem_nil)
    | succ n ih =>
      intro f hf
      rw [List.take_add_one] at hf
      rcases List.mem_append.1 hf with h1 | h1
      · exact ih f h1
      · cases e : fs[n]? with
        | none => rw [e] at h1; exact absurd h1 List.not_mem_nil
        | some g =>
          rw [e] at h1
          have eg : f = g := List.mem_singleton.1 h1
          have ln : n < s.rows.length := by
            rw [← R.len]
            exact (List.getElem?_eq_some_iff.1 e).1
          obtain ⟨g', h2, h3⟩ := R.row n _ (List.getElem?_eq_getElem ln)
          rw [e] at h2
          cases h2
          rw [eg]
          exact h _ _ _ ih h3
  intro f hf
  obtain ⟨n, hn, e⟩ := List.mem_iff_getElem.1 hf
  exact gen (n + 1) f (by
    rw [List.take_add_one, List.getElem?_eq_getElem hn]
    exact List.mem_append.2 (.inr (List.mem_singleton.2 e.symm)))
theorem rs_le {m : Md} {s t : Se.MS Str} {fs : List (Ky × Int)} (C : ClM m t) (J : Se.Just (Se.keys (bsN m) (enN m)) t) (Tl : Se.Told (bnT m) (ltT m) t) (R : Se.Rs (hkOf (hs m.wd)) (bnT m) (ltT m) s fs) : ∀ f ∈ fs, Se.Le t f.1 f.2 := by
  refine rs_ind R _ fun prev g r hp h => ?_
  have at_ : ∀ {a : Nat} {x : Ky × Int}, prev[a]? = some x → Se.Le t x.1 x.2 := fun e => hp _ (List.mem_of_getElem? e)
  cases r with
  | told x y n =>
    obtain ⟨h1, rfl⟩ := h
    exact Tl.bound _ h1
  | late e =>
    obtain ⟨n, h1, rfl⟩ := h
    exact Tl.late _ h1
  | along i j =>
    obtain ⟨a, b, x, y, z, o, p, _, _, h1, h2, rfl⟩ := h
    exact Se.le_along C J (at_ h1) (at_ h2)
  | wait i j =>
    obtain ⟨a, b, e, x, y, o, p, _, _, h1, h2, rfl⟩ := h
    exact Se.le_wait C J (at_ h1) (at_ h2)
  | sg w i =>
    obtain ⟨a, k, n, _, hw, h1, h2⟩ := h
    exact Se.le_one C hw (at_ h1) h2
/-- a web with a closed table -/
def Sy (m : Md) : Prop := ∃ st, OkM m (mgM m) st ∧ ClM m st
theorem yes_no {m : Md} {s : Se.MS Str} {j : Nat} (h : Sy m) (R : RsM m (mgM m) s) (ef : s.fault = some j) : False := by
  obtain ⟨t, O, C⟩ := h
  obtain ⟨fs, R⟩ := R
  obtain ⟨x, n, e, l⟩ := R.fault j ef
  obtain ⟨k, e', l'⟩ := rs_le C O.hd.just O.told R _ (List.mem_of_getElem? e)
  have := O.hd.dg.2 x k e'
  have l' : k ≤ n := l'
  omega
/-- waits are for heard ends -/
theorem rs_sure {m : Md} {s : Se.MS Str} {fs : List (Ky × Int)} (R : Se.Rs (hkOf (hs m.wd)) (bnT m) (ltT m) s fs) : ∀ f ∈ fs, okSure (hkOf (hs m.wd)) (ftO f) := by
  refine rs_ind R _ fun prev g r hp h => ?_
  have at_ : ∀ {a : Nat} {x : Ky × Int}, prev[a]? = some x → okSure (hkOf (hs m.wd)) (ftO x) := fun e => hp _ (List.mem_of_getElem? e)
  cases r with
  | told x y n =>
    obtain ⟨h1, rfl⟩ := h
    exact fun e => nomatch e
  | late e =>
    obtain ⟨n, h1, rfl⟩ := h
    intro _
    obtain ⟨h', hh, e'⟩ := List.mem_map.1 h1
    cases e'
    rcases hk_all (hs m.wd) h'.1 with ⟨_, z⟩ | ⟨h2, _, _, h3⟩
    · exact absurd (List.mem_map.2 ⟨h', hh, rfl⟩) z
    · show (hkOf (hs m.wd) h'.1).isSome = true
      rw [h3]; rfl
  | along i j =>
    obtain ⟨a, b, x, y, z, o, p, _, _, h1, h2, rfl⟩ := h
    exact fun e => nomatch e
  | wait i j =>
    obtain ⟨a, b, e, x, y, o, p, _, _, h1, h2, rfl⟩ := h
    intro _
    exact (at_ h2 : okSure (hkOf (hs m.wd)) (ftO ((true, e, y), p))) rfl
  | sg w i =>
    obtain ⟨a, k, n, _, hw, h1, h2⟩ := h
    have hu := Se.one_u h2
    intro e
    have e : g.1.1 = true := e
    by_cases c : w ≤ 1
    · rw [hu.1 c] at e; cases e
    · have ew : w = 2 := by omega
      subst ew
      unfold Se.one at h2
      obtain ⟨u, x, y⟩ := k
      have h2 : (if u = true ∧ ¬ x = y ∧ n < 0 then (hkOf (hs m.wd) y).map fun r => (((true, x, r.1), r.2 + n) : Ky × Int) else none) = some g := h2
      split at h2
      · rename_i cc
        obtain ⟨r, _, e2⟩ := Option.map_eq_some_iff.1 h2
        rw [← e2]
        exact (at_ h1 : okSure (hkOf (hs m.wd)) (ftO ((u, x, y), n))) cc.1
      · cases h2
def toRw : Row → Rw
  | .told x y n => .told x y n
  | .late e => .late e
  | .along i j => .pr "along" (i.getD 0) (j.getD 0)
  | .wait i j => .pr "wait" (i.getD 0) (j.getD 0)
  | .sg w i => .sg (sgW w) (i.getD 0)
theorem toRw_mv {k : Nat} {r : Row} (h : RowOk k r) (f : Nat → Nat) : (toRw (mvR f r)).row = rrV (mvR f r) := by
  cases r with
  | told x y n => rfl
  | late e => rfl
  | along i j =>
    obtain ⟨a, b, rfl, rfl, _⟩ := h
    rfl
  | wait i j =>
    obtain ⟨a, b, rfl, rfl, _⟩ := h
    rfl
  | sg w i =>
    obtain ⟨a, rfl, _⟩ := h
    rfl
theorem sg_w {w : Nat} (hw : w < 3) (g : Hk) (o : Ft) : (sgW w = "sure" ∨ sgW w = "soon" ∨ sgW w = "ahead") ∧ rSg (sgW w) g o = (Se.one g w o.ky o.n).map ftO := by
  match w, hw with
  | 0, _ =>
    refine ⟨.inl rfl, ?_⟩
    show (if o.u = true then (g o.a).map _ else none) = (if o.u = true then (g o.a).map _ else none).map ftO
    split
    · rw [Option.map_map]; rfl
    · rfl
  | 1, _ =>
    refine ⟨.inr (.inl rfl), ?_⟩
    show (if o.u = false ∧ o.n < 0 then (g o.a).map _ else none) = (if o.u = false ∧ o.n < 0 then (g o.a).map _ else none).map ftO
    split
    · rw [Option.map_map]; rfl
    · rfl
  | 2, _ =>
    refine ⟨.inr (.inr rfl), ?_⟩
    show (if o.u = true ∧ ¬ o.a = o.b ∧ o.n < 0 then (g o.b).map _ else none) = (if o.u = true ∧ ¬ o.a = o.b ∧ o.n < 0 then (g o.b).map _ else none).map ftO
    split
    · rw [Option.map_map]; rfl
    · rfl
def fcAt (fs : List (Ky × Int)) (n : Nat) : Ft := ftO (fs[n]?.getD ((false, "", ""), 0))
theorem fcAt_eq {fs : List (Ky × Int)} {n : Nat} {g : Ky × Int} (h : fs[n]? = some g) : fcAt fs n = ftO g := by
  unfold fcAt
  rw [h]
  rfl
theorem ix_get {ms : List Nat} {i p : Nat} (hs : ms.Pairwise (· < ·)) (h : p ∈ ms.take i) : ixOf ms p < i ∧ ms[ixOf ms p]? = some p := by
  obtain ⟨j, hj, e⟩ := List.mem_iff_getElem.1 h
  rw [List.length_take] at hj
  have e' : ms[j]? = some p := by
    rw [← e, List.getElem_take, List.getElem?_eq_getElem (by omega)]
  rw [ixOf_at hs e']
  exact ⟨by omega, e'⟩
theorem kept_red {m : Md} (ok : MdOk m) {s : Se.MS Str} {j : Nat} {fs : List (Ky × Int)} (R : Se.Rs (hkOf (hs m.wd)) (bnT m) (ltT m) s fs) (hj : j < s.rows.length) {ms : List Nat} (kp : Kept s.rows j ms) : Red m ((keptR s.rows ms).map toRw) (ms.map (fcAt fs)) := by
  have ndh := hs_nd ok
  refine ⟨by unfold keptR; rw [List.length_map, List.length_map, List.length_map], fun i r' hr' => ?_, fun o ho => ?_⟩
  · unfold keptR at hr'
    rw [List.map_map, List.getElem?_map] at hr'
    obtain ⟨n, hn, rfl⟩ := Option.map_eq_some_iff.1 hr'
    have hnm := List.mem_of_getElem? hn
    have ln := kp.le n hnm
    obtain ⟨r, er⟩ : ∃ r, s.rows[n]? = some r := ⟨_, List.getElem?_eq_getElem (by omega)⟩
    obtain ⟨g, hg, rd⟩ := R.row n r er
    have okr := rs_rows (g := mgM m) R n r er
    refine ⟨ftO g, by rw [List.getElem?_map, hn]; exact congrArg some (fcAt_eq hg), ?_⟩
    show Step m _ (ftO g) (toRw (mvR (ixOf ms) (rowAt s.rows n)))
    rw [rowAt_eq er]
    have src : ∀ {a : Nat} {x : Ky × Int}, a ∈ plR r → (fs.take n)[a]? = some x → ((ms.map (fcAt fs)).take i)[ixOf ms a]? = some (ftO x) := fun {a x} ha hx => by
      have la : a < n := by
        have := (List.getElem?_eq_some_iff.1 hx).1
        rw [List.length_take] at this
        omega
      rw [List.getElem?_take_of_lt la] at hx
      obtain ⟨l1, l2⟩ := ix_get kp.lt (sorted_ahead kp.lt hn (kp.cl n hnm a (by rw [rowAt_eq er]; exact ha)) la)
      rw [List.getElem?_take_of_lt l1, List.getElem?_map, l2]
      exact congrArg some (fcAt_eq hx)
    cases r with
    | told x y k =>
      obtain ⟨h1, rfl⟩ := rd
      exact ⟨by rw [bn_tr]; exact List.mem_map.2 ⟨_, h1, rfl⟩, rfl⟩
    | late e =>
      obtain ⟨k, h1, rfl⟩ := rd
      obtain ⟨h, hh, e'⟩ := List.mem_map.1 h1
      cases e'
      exact late_at ndh hh
    | along p q =>
      obtain ⟨a, b, x, y, z, o, p', rfl, rfl, h1, h2, rfl⟩ := rd
      refine ⟨.inl rfl, _, _, src List.mem_cons_self h1, src (List.mem_cons_of_mem _ List.mem_cons_self) h2, ?_⟩
      show rAlong _ _ = _
      unfold rAlong
      rw [if_pos ⟨rfl, rfl, rfl⟩]
      rfl
    | wait p q =>
      obtain ⟨a, b, e, x, y, o, p', rfl, rfl, h1, h2, rfl⟩ := rd
      refine ⟨.inr rfl, _, _, src List.mem_cons_self h1, src (List.mem_cons_of_mem _ List.mem_cons_self) h2, ?_⟩
      show rWait _ _ = _
      unfold rWait
      rw [if_pos ⟨rfl, rfl, rfl⟩]
      rfl
    | sg w p =>
      obtain ⟨a, k, n', rfl, hw, h1, h2⟩ := rd
      obtain ⟨z1, z2⟩ := sg_w hw (hkOf (hs m.wd)) (ftO (k, n'))
      have ho := rs_sure R _ (List.mem_of_mem_take (List.mem_of_getElem? h1))
      refine ⟨z1, _, src List.mem_cons_self h1, ho, z2.trans ?_⟩
      show (Se.one (hkOf (hs m.wd)) w k n').map ftO = _
      rw [h2]
      rfl
  · obtain ⟨n, hn, rfl⟩ := List.mem_map.1 ho
    have ln := kp.le n hn
    have lf : n < fs.length := by rw [R.len]; omega
    rw [fcAt_eq (List.getElem?_eq_getElem lf)]
    exact rs_sure R _ (List.getElem_mem lf)
/-- the place of the fault: a bound of a base to itself, below nought -/
theorem kept_fault {m : Md} {s : Se.MS Str} {j : Nat} {fs : List (Ky × Int)} (R : Se.Rs (hkOf (hs m.wd)) (bnT m) (ltT m) s fs) (ef : s.fault = some j) {ms : List Nat} (kp : Kept s.rows j ms) : ixOf ms j < ms.length ∧ ∃ x n, n < 0 ∧ ftAt (ms.map (fcAt fs)) (ixOf ms j) = ⟨false, x, x, n⟩ := by
  obtain ⟨x, n, e, l⟩ := R.fault j ef
  obtain ⟨h1, h2⟩ := ix_get (i := ms.length) kp.lt (by rw [List.take_length]; exact kp.fl)
  refine ⟨h1, x, n, l, ?_⟩
  rw [ftAt_eq (f := fcAt fs j) (by rw [List.getElem?_map, h2]; rfl), fcAt_eq e]
  rfl
section
variable {P : Program} {w : World} {K : PySem.W.Frag} {mg : Str → Option Value} {base : Heap}
def sp_steered (K : PySem.W.Frag) : Sp := fun vs H Q _ => ∃ (p : Addr) (m : Md), vs = [.ref p] ∧ WebAt (CW K) H p m ∧ MdOk m ∧ ∀ (H' : Hp), Same H H' → (Sy m → Q (.bl true) H') ∧ (¬ Sy m → Q (.bl false) H')
theorem cal_steered (T : Tp K mg) (TO : Tbo w K) : Cal P w K mg base 12 "steered" (sp_steered K) := by
  obtain ⟨fd, F⟩ := f_steered T
  refine cal_of F (g_steered T) (b_steered F) sc_steered (fun vs H Q E h => ?_) (fun cdv A outer s H vs Q E hr h => ?_)
  · obtain ⟨p, m, rfl, _⟩ := h
    rfl
  · obtain ⟨p, m, rfl, W, ok, q⟩ := h
    have hu := hu_of hr
    refine ⟨_, (pss_one (ps_ret (pe_cmpR op_eq (pe_ix ix_tup (C8.pe_c (cal_settled T TO) hr (by decide) rfl (pa_cons (pv 0) pa_nil)) pe_int (fun _ _ => rfl)) pe_str (nomark _)))), ?_⟩
    refine ⟨_, rfl, p, m, rfl, W, ok, fun t H1 s1 ans => ?_⟩
    rcases ans with ⟨b, st, ht, B, ef, O, C, RS⟩ | ⟨u, L, R, ys, ms, st, j, ht, _, _, _, _, ef, RS, _⟩
    · exact ⟨t, _, 0, _, rfl, rfl, .inl (.inl ht), atI_nat (j := 0) rfl, rfl, (q H1 s1).1 ⟨st, O, C⟩⟩
    · refine ⟨t, _, 0, _, rfl, rfl, .inl (.inl ht), atI_nat (j := 0) rfl, rfl, ?_⟩
      rw [decide_eq_false (show ¬ V.str "no" = V.str "yes" by decide +kernel)]
      exact (q H1 s1).2 fun h => yes_no h RS ef
end
end Tw

/-! settling once more, as the laws do it: all amounts stand from the start, and are made less -/
namespace Se
variable {α : Type} [DecidableEq α]
abbrev Sf (α : Type) : Type := Ky α → Int
def low (S : Sf α) (k : Ky α) (n : Int) : Sf α := if S k ≤ n then S else fun k' => if k' = k then n else S k'
def lowC (S : Sf α) (k : Ky α) (n : Int) : Int := if S k ≤ n then 0 else 1
theorem low_le (S : Sf α) (k : Ky α) (n : Int) (k' : Ky α) : low S k n k' ≤ S k' := by
  unfold low
  split
  · exact Int.le_refl _
  · rename_i c
    show (if k' = k then n else S k') ≤ S k'
    split
    · rename_i e
      rw [e]
      omega
    · exact Int.le_refl _
theorem low_at (S : Sf α) (k : Ky α) (n : Int) (k' : Ky α) : low S k n k' = S k' ∨ (k' = k ∧ low S k n k' = n ∧ n < S k') := by
  unfold low
  split
  · exact .inl rfl
  · rename_i c
    show (if k' = k then n else S k') = S k' ∨ _
    by_cases e : k' = k
    · refine .inr ⟨e, if_pos e, ?_⟩
      rw [e]
      omega
    · exact .inl (if_neg e)
def Bad (ns : List α) (S : Sf α) : Prop := ∃ x ∈ ns, S (false, x, x) < 0
theorem Bad.low {ns : List α} {S : Sf α} (h : Bad ns S) (k : Ky α) (n : Int) : Bad ns (low S k n) := by
  obtain ⟨x, hx, l⟩ := h
  have := low_le S k n (false, x, x)
  exact ⟨x, hx, by omega⟩
structure Mt (ns es : List α) (s : MS α) (S : Sf α) : Prop where
  fl : s.fault = none
  at_ : ∀ k ∈ keys ns es, s.at k = some (S k)
  jt : Just (keys ns es) s
  dg : ∀ x ∈ ns, 0 ≤ S (false, x, x)
section
variable {ns es : List α} {s : MS α} {S : Sf α} {k : Ky α} {n : Int} {r : Rr α}
theorem Mt.low (h : Mt ns es s S) (hk : k ∈ keys ns es) : (Mt ns es (offer s k n r) (low S k n) ∧ ((offer s k n r).rows.length : Int) = s.rows.length + lowC S k n) ∨ (∃ x ∈ ns, k = (false, x, x) ∧ n < 0) := by
  have ek := h.at_ k hk
  rcases offer_cases s k n r with ⟨e, c⟩ | ⟨f, nl, e⟩
  · have l : S k ≤ n := by
      rcases c with c | ⟨m, em, lm⟩
      · rw [h.fl] at c; cases c
      · rw [ek] at em
        cases em
        exact lm
    refine .inl ⟨?_, ?_⟩
    · rw [e]
      unfold Se.low
      rw [if_pos l]
      exact h
    · rw [e]
      unfold lowC
      rw [if_pos l]
      omega
  · have l : ¬ S k ≤ n := fun z => nl ⟨_, ek, z⟩
    by_cases c : k.1 = false ∧ k.2.1 = k.2.2 ∧ n < 0
    · obtain ⟨u, a, b⟩ := k
      obtain ⟨c1, c2, c3⟩ := c
      have c1 : u = false := c1
      have c2 : a = b := c2
      have e0 : (u, a, b) = (false, a, a) := by rw [c1, ← c2]
      exact .inr ⟨a, ((mem_most (ns := ns) (es := es)).1 (by rw [← e0]; exact hk)).1, e0, c3⟩
    · refine .inl ⟨⟨?_, fun k' hk' => ?_, just_offer h.jt hk, fun x hx => ?_⟩, ?_⟩
      · rw [e]
        exact if_neg c
      · rw [e, at_put]
        unfold Se.low
        rw [if_neg l]
        show (if k' = k then some n else s.at k') = some (if k' = k then n else S k')
        split
        · rfl
        · exact h.at_ k' hk'
      · rcases low_at S k n (false, x, x) with z | ⟨z1, z2, z3⟩
        · rw [z]; exact h.dg x hx
        · rw [z2]
          by_cases c' : n < 0
          · exact absurd ⟨by rw [← z1], by rw [← z1], c'⟩ c
          · omega
      · rw [e]
        unfold lowC
        rw [if_neg l]
        show ((s.rows ++ [r]).length : Int) = _
        rw [List.length_append]
        show ((s.rows.length + 1 : Nat) : Int) = _
        omega
/-- above all closed tables -/
def Ab (T : MS α → Prop) (s : MS α) : Prop := ∀ t, T t → ∀ k n, s.at k = some n → Le t k n
/-- amounts S, counted c, that a state follows; or a base behind itself, and no closed table -/
def Ic (ns es : List α) (T : MS α → Prop) (b : Int) (s : MS α) (p : Sf α × Int) : Prop := (Bad ns p.1 ∧ ∀ t, ¬ T t) ∨ (Mt ns es s p.1 ∧ Ab T s ∧ (s.rows.length : Int) = b + p.2)
def lowP (p : Sf α × Int) (k : Ky α) (n : Int) : Sf α × Int := (low p.1 k n, p.2 + lowC p.1 k n)
theorem Ic.low {T : MS α → Prop} {b : Int} {p : Sf α × Int} (h : Ic ns es T b s p) (hk : k ∈ keys ns es) (hT : ∀ t, T t → Dg ns t) (hn : Mt ns es s p.1 → Ab T s → ∀ t, T t → Le t k n) : Ic ns es T b (offer s k n r) (lowP p k n) := by
  rcases h with ⟨h1, h2⟩ | ⟨h1, h2, h3⟩
  · exact .inl ⟨h1.low k n, h2⟩
  · rcases h1.low (n := n) (r := r) hk with ⟨z1, z2⟩ | ⟨x, hx, e, l⟩
    · refine .inr ⟨z1, fun t ht k' m em => ?_, ?_⟩
      · rcases offer_at em with z | ⟨z, z'⟩
        · exact h2 t ht k' m z
        · rw [z, z']
          exact hn h1 h2 t ht
      · show _ = b + (p.2 + lowC p.1 k n)
        omega
    · refine .inl ⟨⟨x, hx, ?_⟩, fun t ht => ?_⟩
      · show Se.low p.1 k n (false, x, x) < 0
        have d := h1.dg x hx
        unfold Se.low
        rw [e] at *
        rw [if_neg (by omega)]
        show (if _ = _ then n else _) < 0
        rw [if_pos rfl]
        exact l
      · obtain ⟨m, em, lm⟩ := hn h1 h2 t ht
        rw [e] at em
        have := (hT t ht).2 x m em
        omega
end
/-- walks side by side -/
theorem walk_rel {β γ : Type} {R : γ → MS α → Prop} {f : γ → β → γ} {g : MS α → β → MS α} {l : List β} (h : ∀ p s, ∀ x ∈ l, R p s → R (f p x) (g s x)) {p : γ} {s : MS α} (h0 : R p s) : R (l.foldl f p) (walk g l s) := by
  induction l generalizing p s with
  | nil => exact h0
  | cons x l ih => exact ih (fun p s y hy => h p s y (List.mem_cons_of_mem _ hy)) (h p s x List.mem_cons_self h0)
theorem bad_fold {β : Type} {ns : List α} {f : Sf α × Int → β → Sf α × Int} (h : ∀ p x, Bad ns p.1 → Bad ns (f p x).1) {l : List β} {p : Sf α × Int} (h0 : Bad ns p.1) : Bad ns (l.foldl f p).1 := by
  induction l generalizing p with
  | nil => exact h0
  | cons x l ih => exact ih (h p x h0)
/-! ### along -/
def alS (v x : α) (p : Sf α × Int) (y : α) : Sf α × Int := lowP p (false, x, y) (p.1 (false, x, v) + p.1 (false, v, y))
def alP (ns : List α) (p : Sf α × Int) : Sf α × Int := ns.foldl (fun p v => ns.foldl (fun p x => ns.foldl (alS v x) p) p) p
/-- what closed tables are -/
structure Ts (ns es : List α) (hk : α → Option (α × Int)) (T : MS α → Prop) : Prop where
  cl : ∀ t, T t → Closed ns es hk t
  jt : ∀ t, T t → Just (keys ns es) t
  dg : ∀ t, T t → Dg ns t
section
variable {ns es : List α} {hk : α → Option (α × Int)} {F : Int} {T : MS α → Prop} {b : Int}
theorem along_ic (H : Ts ns es hk T) {x v : α} (hx : x ∈ ns) (hv : v ∈ ns) {p : Sf α × Int} {s : MS α} (h : Ic ns es T b s p) : Ic ns es T b (goAlong ns x v s) (ns.foldl (alS v x) p) := by
  rcases h with ⟨h1, h2⟩ | ⟨h1, h2, h3⟩
  · exact .inl ⟨bad_fold (fun p y z => z.low _ _) h1, h2⟩
  · obtain ⟨q, ho⟩ := of_at (h1.at_ (false, x, v) (mem_most.2 ⟨hx, hv⟩))
    unfold goAlong
    rw [ho]
    generalize en : p.1 (false, x, v) = n0 at ho
    have key := walk_rel (R := fun (p : Sf α × Int) (s' : MS α) => (Bad ns p.1 ∧ ∀ t, ¬ T t) ∨ (Mt ns es s' p.1 ∧ Ab T s' ∧ (s'.rows.length : Int) = b + p.2 ∧ p.1 (false, x, v) = n0)) (f := alS v x) (g := stAlong x v (n0, q)) (l := ns) (fun p s z hz R => ?_) (.inr ⟨h1, h2, h3, en⟩)
    · rcases key with z | ⟨z1, z2, z3, _⟩
      · exact .inl z
      · exact .inr ⟨z1, z2, z3⟩
    · rcases R with ⟨z1, z2⟩ | ⟨z1, z2, z3, z4⟩
      · exact .inl ⟨z1.low _ _, z2⟩
      · obtain ⟨q', hq⟩ := of_at (z1.at_ (false, v, z) (mem_most.2 ⟨hv, hz⟩))
        unfold stAlong
        rw [hq]
        have ic := Ic.low (n := n0 + p.1 (false, v, z)) (r := .along q q') (.inr ⟨z1, z2, z3⟩ : Ic ns es T b s p) (mem_most.2 ⟨hx, hz⟩ : ((false, x, z) : Ky α) ∈ keys ns es) H.dg fun m ab t ht => le_along (H.cl t ht) (H.jt t ht) (by rw [← z4]; exact ab t ht _ _ (m.at_ _ (mem_most.2 ⟨hx, hv⟩))) (ab t ht _ _ (m.at_ _ (mem_most.2 ⟨hv, hz⟩)))
        have ea : alS v x p z = lowP p (false, x, z) (n0 + p.1 (false, v, z)) := by unfold alS; rw [z4]
        rw [ea]
        rcases ic with c | ⟨c1, c2, c3⟩
        · exact .inl c
        · refine .inr ⟨c1, c2, c3, ?_⟩
          show low p.1 (false, x, z) (n0 + p.1 (false, v, z)) (false, x, v) = n0
          rcases low_at p.1 (false, x, z) (n0 + p.1 (false, v, z)) (false, x, v) with w | ⟨w1, w2, w3⟩
          · rw [w, z4]
          · have ez : v = z := congrArg (fun k : Ky α => k.2.2) w1
            rw [← ez] at w3
            have := z1.dg v hv
            omega
theorem alongs_ic (H : Ts ns es hk T) {p : Sf α × Int} {s : MS α} (h : Ic ns es T b s p) : Ic ns es T b (goAlongs ns s) (alP ns p) := walk_rel (R := fun (p : Sf α × Int) s => Ic ns es T b s p) (fun p s v hv h => walk_rel (R := fun (p : Sf α × Int) s => Ic ns es T b s p) (fun p s x hx h => along_ic H hx hv h) h) h
/-! ### waits -/
def waS (e x : α) (p : Sf α × Int) (y : α) : Sf α × Int := lowP p (true, e, x) (p.1 (false, x, y) + p.1 (true, e, y))
def waP (ns es : List α) (p : Sf α × Int) : Sf α × Int := es.foldl (fun p e => ns.foldl (fun p x => ns.foldl (waS e x) p) p) p
def vl (s : MS α) (k : Ky α) : Int := (s.at k).getD 0
theorem Mt.vl {s : MS α} {S : Sf α} (h : Mt ns es s S) {k : Ky α} (hk : k ∈ keys ns es) : Se.vl s k = S k := by
  unfold Se.vl
  rw [h.at_ k hk]
  rfl
def mWa (e x : α) (s : MS α) (y : α) : MS α := offer s (true, e, x) (vl s (false, x, y) + vl s (true, e, y)) (.wait none none)
def mWaP (ns es : List α) (s : MS α) : MS α := walk (fun s e => walk (fun s x => walk (mWa e x) ns s) ns s) es s
theorem wa_ic (H : Ts ns es hk T) {e x y : α} (he : e ∈ es) (hx : x ∈ ns) (hy : y ∈ ns) {p : Sf α × Int} {s : MS α} (h : Ic ns es T b s p) : Ic ns es T b (mWa e x s y) (waS e x p y) := by
  have k1 : ((true, e, x) : Ky α) ∈ keys ns es := mem_until.2 ⟨he, hx⟩
  have k2 : ((false, x, y) : Ky α) ∈ keys ns es := mem_most.2 ⟨hx, hy⟩
  have k3 : ((true, e, y) : Ky α) ∈ keys ns es := mem_until.2 ⟨he, hy⟩
  rcases h with ⟨h1, h2⟩ | h
  · exact .inl ⟨h1.low _ _, h2⟩
  · have ev : Se.vl s (false, x, y) + Se.vl s (true, e, y) = p.1 (false, x, y) + p.1 (true, e, y) := by rw [h.1.vl k2, h.1.vl k3]
    unfold mWa waS
    rw [ev]
    exact Ic.low (.inr h) k1 H.dg fun m ab t ht => le_wait (H.cl t ht) (H.jt t ht) (ab t ht _ _ (m.at_ _ k2)) (ab t ht _ _ (m.at_ _ k3))
theorem waits_ic (H : Ts ns es hk T) {p : Sf α × Int} {s : MS α} (h : Ic ns es T b s p) : Ic ns es T b (mWaP ns es s) (waP ns es p) := walk_rel (R := fun (p : Sf α × Int) s => Ic ns es T b s p) (fun p s e he h => walk_rel (R := fun (p : Sf α × Int) s => Ic ns es T b s p) (fun p s x hx h => walk_rel (R := fun (p : Sf α × Int) s => Ic ns es T b s p) (fun p s y hy h => wa_ic H he hx hy h) h) h) h
/-! ### ends -/
/-- an end, its begin, its least length -/
abbrev Wn (α : Type) : Type := α × α × Int
def enS (h : Wn α) (p : Sf α × Int) (x : α) : Sf α × Int :=
  if (lowP p (false, x, h.2.1) (max (p.1 (true, h.1, x)) (-h.2.2))).1 (false, h.1, x) < 0 then lowP (lowP p (false, x, h.2.1) (max (p.1 (true, h.1, x)) (-h.2.2))) (false, h.2.1, x) (h.2.2 + (lowP p (false, x, h.2.1) (max (p.1 (true, h.1, x)) (-h.2.2))).1 (false, h.1, x)) else lowP p (false, x, h.2.1) (max (p.1 (true, h.1, x)) (-h.2.2))
def ahS (h : Wn α) (p : Sf α × Int) (o : Wn α) : Sf α × Int := if ¬ o.1 = h.1 ∧ p.1 (true, o.1, h.1) < 0 then lowP p (true, o.1, h.2.1) (h.2.2 + p.1 (true, o.1, h.1)) else p
def enP (ns : List α) (ws : List (Wn α)) (p : Sf α × Int) : Sf α × Int := ws.foldl (fun p h => ws.foldl (ahS h) (ns.foldl (enS h) p)) p
def mEn1 (h : Wn α) (s : MS α) (x : α) : MS α := offer s (false, x, h.2.1) (max (vl s (true, h.1, x)) (-h.2.2)) (.sg 0 none)
def mEn2 (h : Wn α) (s : MS α) (x : α) : MS α := if vl s (false, h.1, x) < 0 then offer s (false, h.2.1, x) (h.2.2 + vl s (false, h.1, x)) (.sg 1 none) else s
def mEn (h : Wn α) (s : MS α) (x : α) : MS α := mEn2 h (mEn1 h s x) x
def mAh (h : Wn α) (s : MS α) (o : Wn α) : MS α := if ¬ o.1 = h.1 ∧ vl s (true, o.1, h.1) < 0 then offer s (true, o.1, h.2.1) (h.2.2 + vl s (true, o.1, h.1)) (.sg 2 none) else s
def mEnP (ns : List α) (ws : List (Wn α)) (s : MS α) : MS α := walk (fun s h => walk (mAh h) ws (walk (mEn h) ns s)) ws s
/-- the ends are those of the web -/
structure Ww (ns es : List α) (hk : α → Option (α × Int)) (ws : List (Wn α)) : Prop where
  at_ : ∀ h ∈ ws, hk h.1 = some (h.2.1, h.2.2)
  en : ∀ h ∈ ws, h.1 ∈ es
  fro : ∀ e ∈ es, ∃ h ∈ ws, h.1 = e
  all : ∀ e r, hk e = some r → (e, r.1, r.2) ∈ ws
theorem bad_en {h : Wn α} {p : Sf α × Int} {x : α} (z : Bad ns p.1) : Bad ns (enS h p x).1 := by
  unfold enS
  split
  · exact (z.low _ _).low _ _
  · exact z.low _ _
theorem bad_ah {h o : Wn α} {p : Sf α × Int} (z : Bad ns p.1) : Bad ns (ahS h p o).1 := by
  unfold ahS
  split
  · exact z.low _ _
  · exact z
theorem en_ic (B : Wb ns es hk F) {ws : List (Wn α)} (W : Ww ns es hk ws) (H : Ts ns es hk T) {h : Wn α} (hh : h ∈ ws) {x : α} (hx : x ∈ ns) {p : Sf α × Int} {s : MS α} (h0 : Ic ns es T b s p) : Ic ns es T b (mEn h s x) (enS h p x) := by
  have hr := W.at_ h hh
  have hb := (B.heard _ _ hr).1
  have hb : h.2.1 ∈ ns := hb
  have he := W.en h hh
  have hen := B.ends _ he
  have k1 : ((false, x, h.2.1) : Ky α) ∈ keys ns es := mem_most.2 ⟨hx, hb⟩
  have k2 : ((true, h.1, x) : Ky α) ∈ keys ns es := mem_until.2 ⟨he, hx⟩
  have k3 : ((false, h.1, x) : Ky α) ∈ keys ns es := mem_most.2 ⟨hen, hx⟩
  have k4 : ((false, h.2.1, x) : Ky α) ∈ keys ns es := mem_most.2 ⟨hb, hx⟩
  rcases h0 with ⟨h1, h2⟩ | h0
  · exact .inl ⟨bad_en h1, h2⟩
  · have ic1 : Ic ns es T b (mEn1 h s x) (lowP p (false, x, h.2.1) (max (p.1 (true, h.1, x)) (-h.2.2))) := by
      unfold mEn1
      rw [h0.1.vl k2]
      exact Ic.low (.inr h0) k1 H.dg fun m ab t ht => le_one (H.cl t ht) (w := 0) (by decide) (ab t ht _ _ (m.at_ _ k2)) (by
        unfold one
        rw [if_pos rfl, if_pos rfl, hr]
        rfl)
    unfold mEn mEn2 enS
    generalize lowP p (false, x, h.2.1) (max (p.1 (true, h.1, x)) (-h.2.2)) = p1 at ic1
    generalize mEn1 h s x = s1 at ic1
    rcases ic1 with ⟨z1, z2⟩ | z
    · refine .inl ⟨?_, z2⟩
      split
      · exact z1.low _ _
      · exact z1
    · rw [z.1.vl k3]
      split
      · rename_i c
        exact Ic.low (.inr z) k4 H.dg fun m ab t ht => le_one (H.cl t ht) (w := 1) (by decide) (ab t ht _ _ (m.at_ _ k3)) (by
          unfold one
          rw [if_neg (by decide), if_pos rfl, if_pos ⟨rfl, c⟩, hr]
          rfl)
      · exact .inr z
theorem ah_ic (B : Wb ns es hk F) {ws : List (Wn α)} (W : Ww ns es hk ws) (H : Ts ns es hk T) {h o : Wn α} (hh : h ∈ ws) (ho : o ∈ ws) {p : Sf α × Int} {s : MS α} (h0 : Ic ns es T b s p) : Ic ns es T b (mAh h s o) (ahS h p o) := by
  have hr := W.at_ h hh
  have hb : h.2.1 ∈ ns := (B.heard _ _ hr).1
  have hen := B.ends _ (W.en h hh)
  have ke := W.en o ho
  have k1 : ((true, o.1, h.1) : Ky α) ∈ keys ns es := mem_until.2 ⟨ke, hen⟩
  have k2 : ((true, o.1, h.2.1) : Ky α) ∈ keys ns es := mem_until.2 ⟨ke, hb⟩
  rcases h0 with ⟨h1, h2⟩ | h0
  · exact .inl ⟨bad_ah h1, h2⟩
  · unfold mAh ahS
    rw [h0.1.vl k1]
    split
    · rename_i c
      exact Ic.low (.inr h0) k2 H.dg fun m ab t ht => le_one (H.cl t ht) (w := 2) (by decide) (ab t ht _ _ (m.at_ _ k1)) (by
        unfold one
        rw [if_neg (by decide), if_neg (by decide), if_pos ⟨rfl, c.1, c.2⟩]
        show (hk h.1).map _ = _
        rw [hr]
        rfl)
    · exact .inr h0
theorem ends_ic (B : Wb ns es hk F) {ws : List (Wn α)} (W : Ww ns es hk ws) (H : Ts ns es hk T) {p : Sf α × Int} {s : MS α} (h : Ic ns es T b s p) : Ic ns es T b (mEnP ns ws s) (enP ns ws p) := walk_rel (R := fun (p : Sf α × Int) s => Ic ns es T b s p) (fun p s w hw h => walk_rel (R := fun (p : Sf α × Int) s => Ic ns es T b s p) (fun p s o ho h => ah_ic B W H hw ho h) (walk_rel (R := fun (p : Sf α × Int) s => Ic ns es T b s p) (fun p s x hx h => en_ic B W H hw hx h) h)) h
/-! ### a round -/
theorem dn_mWa (e x : α) (s : MS α) (y : α) : Dn s (mWa e x s y) := dn_offer ..
theorem dn_mEn1 (h : Wn α) (s : MS α) (x : α) : Dn s (mEn1 h s x) := dn_offer ..
theorem dn_mEn2 (h : Wn α) (s : MS α) (x : α) : Dn s (mEn2 h s x) := by
  unfold mEn2
  split
  · exact dn_offer ..
  · exact .refl s
theorem dn_mEn (h : Wn α) (s : MS α) (x : α) : Dn s (mEn h s x) := (dn_mEn1 h s x).trans (dn_mEn2 h _ x)
theorem dn_mAh (h : Wn α) (s : MS α) (o : Wn α) : Dn s (mAh h s o) := by
  unfold mAh
  split
  · exact dn_offer ..
  · exact .refl s
theorem dn_mWaP (ns es : List α) (s : MS α) : Dn s (mWaP ns es s) := dn_walk (fun s e => dn_walk (fun s x => dn_walk (dn_mWa e x) ns s) ns s) es s
theorem dn_wind (ns : List α) (ws : List (Wn α)) (s : MS α) (h : Wn α) : Dn s (walk (mAh h) ws (walk (mEn h) ns s)) := (dn_walk (dn_mEn h) ns s).trans (dn_walk (dn_mAh h) ws _)
theorem dn_mEnP (ns : List α) (ws : List (Wn α)) (s : MS α) : Dn s (mEnP ns ws s) := dn_walk (dn_wind ns ws) ws s
theorem full_dn {s t : MS α} {ks : List (Ky α)} (h : Full ks s) (d : Dn s t) : Full ks t := fun k hk => by
  obtain ⟨n, e⟩ := h k hk
  obtain ⟨m, em, _⟩ := d.le k n (.of e)
  exact ⟨m, em⟩
theorem vl_at {s : MS α} {k : Ky α} {n : Int} (h : s.at k = some n) : vl s k = n := by
  unfold vl
  rw [h]
  rfl
theorem at_vl {s : MS α} {ks : List (Ky α)} (h : Full ks s) {k : Ky α} (hk : k ∈ ks) : s.at k = some (vl s k) := by
  obtain ⟨n, e⟩ := h k hk
  rw [vl_at e]
  exact e
/-- at the head of a round -/
structure Hl (ns es : List α) (st : α) (B M : Int) (s : MS α) : Prop where
  full : Full (keys ns es) s
  just : Just (keys ns es) s
  dg : Dg ns s
  wy : Wy ns st B s
  wt : Wt M s
theorem wt_mWaP {M : Int} {s : MS α} (C : Cl ns (fun v => v ∈ ns) s) (fu : Full (keys ns es) s) (J : Just (keys ns es) s) (h : Wt M s) : Wt M (mWaP ns es s) ∧ Ku false s (mWaP ns es s) ∧ Just (keys ns es) (mWaP ns es s) := by
  have key := walk_keep (I := fun t => (Dn s t ∧ Ku false s t ∧ Just (keys ns es) t) ∧ Wt M t) (l := es) (f := fun s e => walk (fun s x => walk (mWa e x) ns s) ns s) (s := s) (fun t e he i => ?_) ⟨⟨.refl s, .refl _ _, J⟩, h⟩
  · exact ⟨key.2, key.1.2.1, key.1.2.2⟩
  · refine walk_keep (I := fun t => (Dn s t ∧ Ku false s t ∧ Just (keys ns es) t) ∧ Wt M t) (fun t x hx i => ?_) i
    refine walk_keep (I := fun t => (Dn s t ∧ Ku false s t ∧ Just (keys ns es) t) ∧ Wt M t) (fun t y hy i => ?_) i
    obtain ⟨⟨d, k, j⟩, w⟩ := i
    have ft := full_dn fu d
    have e1 := at_vl ft (mem_most.2 ⟨hx, hy⟩ : ((false, x, y) : Ky α) ∈ keys ns es)
    have e2 := at_vl ft (mem_until.2 ⟨he, hy⟩ : ((true, e, y) : Ky α) ∈ keys ns es)
    obtain ⟨z, b, h1, h2⟩ := w e y _ e2
    refine ⟨⟨d.trans (dn_mWa e x t y), k.trans (ku_offer fun z => Bool.noConfusion z), just_offer j (mem_until.2 ⟨he, hx⟩)⟩, wt_offer w ⟨z, vl t (false, x, y) + b, ?_, by omega⟩⟩
    have hz : z ∈ ns := by
      obtain ⟨b', e', _⟩ := h1
      exact (mem_most.1 (j _ _ e')).2
    exact (C.ku k).le hx hy hz (.of e1) h1
/-- a wind's own loop over the bases -/
theorem wind_x (B : Wb ns es hk F) {h : Wn α} (hr : hk h.1 = some (h.2.1, h.2.2)) (he : h.1 ∈ es) {M c : Int} (hc : F ≤ c) {s : MS α} (fu : Full (keys ns es) s) (J : Just (keys ns es) s) (D : Dg ns s) (w : Wt M s) (lo : Lo c s) (f : (walk (mEn h) ns s).fault = none) :
    Just (keys ns es) (walk (mEn h) ns s) ∧ Wt M (walk (mEn h) ns s) ∧ Lo c (walk (mEn h) ns s) ∧ ∀ y ∈ ns, ∀ n, (walk (mEn h) ns s).at (false, h.1, y) = some n → n < 0 → Le (walk (mEn h) ns s) (false, h.2.1, y) (h.2.2 + n) := by
  obtain ⟨hb, hnb, l1, l2⟩ := B.heard _ _ hr
  have hb : h.2.1 ∈ ns := hb
  have hnb : hk h.2.1 = none := hnb
  have l1 : 1 ≤ h.2.2 := l1
  have l2 : h.2.2 ≤ F := l2
  have hen := B.ends _ he
  have ne : ¬ h.1 = h.2.1 := fun z => by rw [← z, hr] at hnb; cases hnb
  have one : ∀ t x, x ∈ ns → (Dn s t ∧ Ku true s t ∧ Just (keys ns es) t ∧ Lo c t) → (Dn s (mEn h t x) ∧ Ku true s (mEn h t x) ∧ Just (keys ns es) (mEn h t x) ∧ Lo c (mEn h t x)) := fun t x hx i => by
    obtain ⟨d, k, j, l⟩ := i
    have ft := full_dn fu d
    have d1 := dn_mEn1 h t x
    have j1 : Just (keys ns es) (mEn1 h t x) := just_offer j (mem_most.2 ⟨hx, hb⟩)
    have k1 : Ku true t (mEn1 h t x) := ku_offer fun z => Bool.noConfusion z
    have lo1 : Lo c (mEn1 h t x) := fun a b n q => by
      rcases offer_at q with z | ⟨_, z⟩
      · exact l a b n z
      · rw [z]
        omega
    unfold mEn mEn2
    split
    · have e3 := at_vl (full_dn ft d1) (mem_most.2 ⟨hen, hx⟩ : ((false, h.1, x) : Ky α) ∈ keys ns es)
      refine ⟨(d.trans d1).trans (dn_offer ..), (k.trans k1).trans (ku_offer fun z => Bool.noConfusion z), just_offer j1 (mem_most.2 ⟨hb, hx⟩), fun a b n q => ?_⟩
      rcases offer_at q with z | ⟨_, z⟩
      · exact lo1 a b n z
      · rw [z]
        have := lo1 _ _ _ e3
        omega
    · exact ⟨d.trans d1, k.trans k1, j1, lo1⟩
  have all := walk_keep (I := fun t => Dn s t ∧ Ku true s t ∧ Just (keys ns es) t ∧ Lo c t) (l := ns) (f := mEn h) (s := s) (fun t x hx i => one t x hx i) ⟨.refl s, .refl _ _, J, lo⟩
  -- what stands at the end
  have eb := at_vl fu (mem_most.2 ⟨hen, hb⟩ : ((false, h.1, h.2.1) : Ky α) ∈ keys ns es)
  have stay : ∀ y ∈ ns, ¬ y = h.2.1 → ∀ t x, (mEn h t x).at (false, h.1, y) = t.at (false, h.1, y) := fun y hy ny t x => by
    have s1 : (mEn1 h t x).at (false, h.1, y) = t.at (false, h.1, y) := offer_other fun z => ny (congrArg (fun k : Ky α => k.2.2) z)
    unfold mEn mEn2
    split
    · exact (offer_other fun z => ne (congrArg (fun k : Ky α => k.2.1) z)).trans s1
    · exact s1
  have kb := walk_keep (I := fun t => ∀ n, t.at (false, h.1, h.2.1) = some n → n = vl s (false, h.1, h.2.1) ∨ -h.2.2 ≤ n) (l := ns) (f := mEn h) (s := s) (fun t x hx i n q => by
    have q1 : (mEn1 h t x).at (false, h.1, h.2.1) = some n := by
      unfold mEn mEn2 at q
      split at q
      · rw [offer_other fun z => ne (congrArg (fun k : Ky α => k.2.1) z)] at q
        exact q
      · exact q
    rcases offer_at q1 with z | ⟨_, z⟩
    · exact i n z
    · rw [z]
      exact .inr (by omega)) (fun n q => .inl (by rw [vl_at q]))
  refine ⟨all.2.2.1, w.ku all.1 all.2.1, all.2.2.2, fun y hy n q nn => ?_⟩
  by_cases cy : y = h.2.1
  · subst cy
    have jb := walk_each (dn_mEn h) (fun t => Dn s t) (fun x t => x = h.2.1 → (vl s (false, h.1, h.2.1) < 0 → Le t (false, h.2.1, h.2.1) (h.2.2 + vl s (false, h.1, h.2.1))) ∨ Le t (false, h.1, h.2.1) (vl s (false, h.1, h.2.1) - 1)) (fun t x _ i _ => i.trans (dn_mEn h t x)) (fun t x hx i ft ex => by
        subst ex
        have e3 := at_vl (full_dn fu (i.trans (dn_mEn1 h t h.2.1))) (mem_most.2 ⟨hen, hb⟩ : ((false, h.1, h.2.1) : Ky α) ∈ keys ns es)
        obtain ⟨m, em, lm⟩ := (i.trans (dn_mEn1 h t h.2.1)).le _ _ (.of eb)
        rw [e3] at em
        have em := Option.some.inj em
        by_cases cm : vl (mEn1 h t h.2.1) (false, h.1, h.2.1) = vl s (false, h.1, h.2.1)
        · refine .inl fun nn => ?_
          unfold mEn mEn2 at ft ⊢
          rw [if_pos (by rw [cm]; exact nn)] at ft ⊢
          rw [cm] at ft ⊢
          exact offer_le ft
        · exact .inr ((dn_mEn2 h _ _).le _ _ ⟨_, e3, by omega⟩)) (fun t u x d j ex => (j ex).imp (fun z nn => d.le _ _ (z nn)) (fun z => d.le _ _ z)) (.refl s) f h.2.1 hb rfl
    rcases kb n q with z | z
    · rcases jb with jb | ⟨m, em, lm⟩
      · rw [z] at nn ⊢
        exact jb nn
      · rw [q] at em
        have := Option.some.inj em
        omega
    · exact ((D.dn all.1 f).1 h.2.1 hb).up (by omega)
  · have sy : ∀ t, Dn s t → True := fun _ _ => True.intro
    have fin : (walk (mEn h) ns s).at (false, h.1, y) = s.at (false, h.1, y) := walk_keep (I := fun t => t.at (false, h.1, y) = s.at (false, h.1, y)) (fun t x _ i => (stay y hy cy t x).trans i) rfl
    rw [fin] at q
    refine walk_each (dn_mEn h) (fun t => t.at (false, h.1, y) = some n) (fun x t => x = y → Le t (false, h.2.1, y) (h.2.2 + n)) (fun t x _ i _ => (stay y hy cy t x).trans i) (fun t x hx i ft ex => by
        subst ex
        have e1 : (mEn1 h t x).at (false, h.1, x) = some n := by
          rw [← i]
          exact offer_other fun z => cy (congrArg (fun k : Ky α => k.2.2) z)
        unfold mEn mEn2 at ft ⊢
        rw [vl_at e1] at ft ⊢
        rw [if_pos nn] at ft ⊢
        exact offer_le ft) (fun t u x d j ex => d.le _ _ (j ex)) q f y hy rfl
/-- a wind's loop over the other ends -/
theorem wind_o {h : Wn α} {ws : List (Wn α)} (W : Ww ns es hk ws) (B : Wb ns es hk F) (hh : h ∈ ws) {M : Int} {s : MS α} (fu : Full (keys ns es) s) (J : Just (keys ns es) s) (D : Dg ns s) (w : Wt M s) (sn : ∀ y ∈ ns, ∀ n, s.at (false, h.1, y) = some n → n < 0 → Le s (false, h.2.1, y) (h.2.2 + n)) :
    Just (keys ns es) (walk (mAh h) ws s) ∧ Wt M (walk (mAh h) ws s) ∧ Ku false s (walk (mAh h) ws s) := by
  obtain ⟨hb, _, l1, _⟩ := B.heard _ _ (W.at_ h hh)
  have hb : h.2.1 ∈ ns := hb
  have l1 : 1 ≤ h.2.2 := l1
  have hen := B.ends _ (W.en h hh)
  have key := walk_keep (I := fun t => Dn s t ∧ Ku false s t ∧ Just (keys ns es) t ∧ Wt M t) (l := ws) (f := mAh h) (s := s) (fun t o ho i => ?_) ⟨.refl s, .refl _ _, J, w⟩
  · exact ⟨key.2.2.1, key.2.2.2, key.2.1⟩
  · obtain ⟨d, k, j, w⟩ := i
    unfold mAh
    split
    · rename_i c
      have e1 := at_vl (full_dn fu d) (mem_until.2 ⟨W.en o ho, hen⟩ : ((true, o.1, h.1) : Ky α) ∈ keys ns es)
      obtain ⟨y, b, ⟨b', h1, h2⟩, h3⟩ := w o.1 h.1 _ e1
      have hy := (mem_most.1 (j _ _ h1)).2
      refine ⟨d.trans (dn_offer ..), k.trans (ku_offer fun z => Bool.noConfusion z), just_offer j (mem_until.2 ⟨W.en o ho, hb⟩), wt_offer w ?_⟩
      by_cases l : b' < 0
      · rw [k] at h1
        obtain ⟨n, en, ln⟩ := sn y hy b' h1 l
        exact ⟨y, n, ⟨n, by rw [k]; exact en, Int.le_refl _⟩, by omega⟩
      · obtain ⟨n, en, ln⟩ := D.1 h.2.1 hb
        exact ⟨h.2.1, n, ⟨n, by rw [k]; exact en, Int.le_refl _⟩, by omega⟩
    · exact ⟨d, k, j, w⟩
def mRd (ns es : List α) (ws : List (Wn α)) (s : MS α) : MS α := mEnP ns ws (mWaP ns es (goAlongs ns s))
theorem mrd_hl (W0 : Wb ns es hk F) {ws : List (Wn α)} (W : Ww ns es hk ws) {st : α} {B M : Int} (hB : 0 ≤ B) (hM : 0 ≤ M) (hF : 0 ≤ F) {s : MS α} (h : Hl ns es st B M s) (f : (mRd ns es ws s).fault = none) : Hl ns es st B M (mRd ns es ws s) ∧ ∀ k ∈ keys ns es, -(M + 4 * B + F) ≤ vl (mRd ns es ws s) k := by
  unfold mRd at f ⊢
  have d1 := dn_goAlongs ns s
  have k1 := ku_goAlongs ns s
  have j1 := just_goAlongs h.just
  have cl : (goAlongs ns s).fault = none → Cl ns (fun v => v ∈ ns) (goAlongs ns s) := alongs_closed h.dg
  generalize goAlongs ns s = s1 at *
  have d2 := dn_mWaP ns es s1
  have w2 := @wt_mWaP α _ ns es M s1
  generalize mWaP ns es s1 = s2 at *
  have d3 := dn_mEnP ns ws s2
  have f2 := d3.fault f
  have f1 := d2.fault f2
  have C1 := cl f1
  have fu1 := full_dn h.full d1
  have dg1 := h.dg.dn d1 f1
  have wy1 := h.wy.dn d1
  have wt1 := h.wt.ku d1 k1
  obtain ⟨wt2, k2, j2⟩ := w2 C1 fu1 j1 wt1
  have lo1 : Lo (4 * B + F) s1 := fun x y n e => by
    have := lo_near C1 wy1 dg1 j1 x y n e
    omega
  have lo2 : Lo (4 * B + F) s2 := lo1.ku k2
  have dg2 := dg1.dn d2 f2
  have fu2 := full_dn fu1 d2
  have key := walk_inv (dn_wind ns ws) (fun t => Dn s2 t ∧ t.fault = none ∧ Just (keys ns es) t ∧ Wt M t ∧ Lo (4 * B + F) t) (l := ws) (s := s2) (fun t g hg i ft => by
    obtain ⟨d, f0, j, w, l⟩ := i
    have hx := dn_walk (dn_mAh g) ws (walk (mEn g) ns t)
    have fx := hx.fault ft
    have dx := dn_walk (dn_mEn g) ns t
    obtain ⟨a1, a2, a3, a4⟩ := wind_x W0 (W.at_ g hg) (W.en g hg) (c := 4 * B + F) (by omega) (full_dn fu2 d) j (dg2.dn d f0) w l fx
    obtain ⟨b1, b2, b3⟩ := wind_o W W0 hg (full_dn (full_dn fu2 d) dx) a1 ((dg2.dn d f0).dn dx fx) a2 a4
    exact ⟨d.trans (dx.trans hx), ft, b1, b2, a3.ku b3⟩) ⟨.refl s2, f2, j2, wt2, lo2⟩ f
  have key : Dn s2 (mEnP ns ws s2) ∧ (mEnP ns ws s2).fault = none ∧ Just (keys ns es) (mEnP ns ws s2) ∧ Wt M (mEnP ns ws s2) ∧ Lo (4 * B + F) (mEnP ns ws s2) := key
  generalize mEnP ns ws s2 = s3 at *
  obtain ⟨_, _, j3, wt3, lo3⟩ := key
  have fu3 := full_dn fu2 d3
  refine ⟨⟨fu3, j3, dg2.dn d3 f, (wy1.dn d2).dn d3, wt3⟩, fun k hk' => ?_⟩
  have ek := at_vl fu3 hk'
  obtain ⟨u, a, b⟩ := k
  cases u with
  | false =>
    have := lo3 a b _ ek
    omega
  | true =>
    obtain ⟨y, c, ⟨c', h1, h2⟩, h3⟩ := wt3 a b _ ek
    have := lo3 b y c' h1
    omega
theorem mrd_still (W0 : Wb ns es hk F) {ws : List (Wn α)} (W : Ww ns es hk ws) {s : MS α} (fu : Full (keys ns es) s) (J : Just (keys ns es) s) (D : Dg ns s) (f : s.fault = none) (e : (mRd ns es ws s).rows.length = s.rows.length) : Closed ns es hk s := by
  unfold mRd at e
  have d1 := dn_goAlongs ns s
  have d2 := dn_mWaP ns es (goAlongs ns s)
  have d3 := dn_mEnP ns ws (mWaP ns es (goAlongs ns s))
  have r1 := d1.rows
  have r2 := d2.rows
  have r3 := d3.rows
  have e1 := d1.same (by omega)
  have e2 := d2.same (by omega)
  have e3 := d3.same (by omega)
  rw [e2, e1] at e3
  rw [e1] at e2
  have wind : ∀ h ∈ ws, (∀ x ∈ ns, mEn h s x = s) ∧ ∀ o ∈ ws, mAh h s o = s := fun h hh => by
    have q : walk (mAh h) ws (walk (mEn h) ns s) = s := walk_still (dn_wind ns ws) e3 h hh
    have dx := dn_walk (dn_mEn h) ns s
    have dy := dn_walk (dn_mAh h) ws (walk (mEn h) ns s)
    have ra := dx.rows
    have rb := dy.rows
    rw [q] at rb
    have ex : walk (mEn h) ns s = s := dx.same (by omega)
    rw [ex] at q
    exact ⟨walk_still (dn_mEn h) ex, walk_still (dn_mAh h) q⟩
  have en : ∀ h ∈ ws, ∀ x ∈ ns, mEn1 h s x = s ∧ mEn2 h s x = s := fun h hh x hx => by
    have q := (wind h hh).1 x hx
    have da := dn_mEn1 h s x
    have db := dn_mEn2 h (mEn1 h s x) x
    have ra := da.rows
    have rb := db.rows
    unfold mEn at q
    rw [q] at rb
    have ea := da.same (by omega)
    rw [ea] at q
    exact ⟨ea, q⟩
  refine ⟨?_, fun e he y hy x hx o p ho hp => ?_, fun w hw k n g hk' hg => ?_⟩
  · have := alongs_closed D (by rw [e1]; exact f)
    rw [e1] at this
    exact this
  · have q := walk_still (fun s e => dn_walk (fun s x => dn_walk (dn_mWa e x) ns s) ns s) e2 e he
    have q := walk_still (fun s x => dn_walk (dn_mWa e x) ns s) q x hx
    have q := walk_still (dn_mWa e x) q y hy
    have := offer_still f q
    rw [vl_at ho, vl_at hp] at this
    exact this
  · have hin := J _ _ hk'
    match w, hw with
    | 0, _ =>
      obtain ⟨hu, r, hr, e⟩ := one0 hg
      obtain ⟨u, a, b⟩ := k
      have hu : u = true := hu
      subst hu
      have q := offer_still f (en _ (W.all a r hr) b (mem_until.1 hin).2).1
      rw [e]
      have ev : vl s (true, a, b) = n := vl_at hk'
      have q : Le s (false, b, r.1) (max (vl s (true, a, b)) (-r.2)) := q
      rw [ev] at q
      exact q
    | 1, _ =>
      obtain ⟨hu, nn, r, hr, e⟩ := one1 hg
      obtain ⟨u, a, b⟩ := k
      have hu : u = false := hu
      subst hu
      have q := (en _ (W.all a r hr) b (mem_most.1 hin).2).2
      have ev : vl s (false, a, b) = n := vl_at hk'
      unfold mEn2 at q
      have c : vl s (false, a, b) < 0 := by rw [ev]; exact nn
      rw [if_pos c] at q
      have q := offer_still f q
      rw [e]
      have q : Le s (false, r.1, b) (r.2 + vl s (false, a, b)) := q
      rw [ev] at q
      exact q
    | 2, _ =>
      obtain ⟨hu, nab, nn, r, hr, e⟩ := one2 hg
      obtain ⟨u, a, b⟩ := k
      have hu : u = true := hu
      subst hu
      obtain ⟨o, ho, eo⟩ := W.fro a (mem_until.1 hin).1
      have q := (wind _ (W.all b r hr)).2 o ho
      have ev : vl s (true, o.1, b) = n := by rw [eo]; exact vl_at hk'
      unfold mAh at q
      have c : ¬ o.1 = b ∧ vl s (true, o.1, b) < 0 := ⟨by rw [eo]; exact nab, by rw [ev]; exact nn⟩
      rw [if_pos c] at q
      have q := offer_still f q
      rw [e]
      have q : Le s (true, o.1, r.1) (r.2 + vl s (true, o.1, b)) := q
      rw [ev, eo] at q
      exact q
end
/-! ### rings -/
/-- a base that points to one of those that are left -/
def gB (S : Sf α) (ws : List (Wn α)) (lf : List α) (x : α) : Bool := lf.any (fun y => decide (S (false, x, y) < 0)) || ws.any (fun h => decide (h.2.1 ∈ lf) && decide (S (true, h.1, x) < 0))
def peel (S : Sf α) (ws : List (Wn α)) (lf : List α) : List α := lf.filter (gB S ws lf)
def peels (S : Sf α) (ws : List (Wn α)) : Nat → List α → List α
  | 0, lf => lf
  | n + 1, lf => peels S ws n (peel S ws lf)
def rgF (ns : List α) (S : Sf α) (ws : List (Wn α)) : Bool := !(peels S ws ns.length ns).isEmpty
section
variable {ns es : List α} {hk : α → Option (α × Int)} {F : Int} {T : MS α → Prop} {S : Sf α} {ws : List (Wn α)}
theorem bad_peels {x : α} (h : S (false, x, x) < 0) : ∀ (n : Nat) (lf : List α), x ∈ lf → x ∈ peels S ws n lf
  | 0, lf, hx => hx
  | n + 1, lf, hx => bad_peels h n (peel S ws lf) (List.mem_filter.2 ⟨hx, by
    unfold gB
    rw [Bool.or_eq_true]
    exact .inl (List.any_eq_true.2 ⟨x, hx, decide_eq_true h⟩)⟩)
theorem bad_ring (h : Bad ns S) : rgF ns S ws = true := by
  obtain ⟨x, hx, l⟩ := h
  have := bad_peels (ws := ws) l ns.length ns hx
  unfold rgF
  cases e : peels S ws ns.length ns with
  | nil => rw [e] at this; exact absurd this List.not_mem_nil
  | cons a r => rfl
theorem good_ring (h : rgF ns S ws = false) : ∀ x ∈ ns, 0 ≤ S (false, x, x) := fun x hx => by
  by_cases c : S (false, x, x) < 0
  · rw [bad_ring ⟨x, hx, c⟩] at h
    cases h
  · omega
theorem peels_snoc (n : Nat) (lf : List α) : peels S ws (n + 1) lf = peel S ws (peels S ws n lf) := by
  induction n generalizing lf with
  | zero => rfl
  | succ n ih => exact ih (peel S ws lf)
theorem ring_none (B : Wb ns es hk F) (W : Ww ns es hk ws) (H : Ts ns es hk T) {s : MS α} (m : Mt ns es s S) (ab : Ab T s) (h : rgF ns S ws = true) : ∀ t, ¬ T t := fun t ht => by
  have C := H.cl t ht
  have J := H.jt t ht
  have D := H.dg t ht
  have path : ∀ n, ∀ x ∈ peels S ws n ns, x ∈ ns ∧ ∃ l : List α, l.length = n ∧ (∀ a ∈ l, a ∈ ns) ∧ (x :: l).Pairwise fun a b => Le t (false, a, b) (-1) := by
    intro n
    induction n with
    | zero => exact fun x hx => ⟨hx, [], rfl, fun a h => absurd h List.not_mem_nil, List.pairwise_cons.2 ⟨fun b h => absurd h List.not_mem_nil, .nil⟩⟩
    | succ n ih =>
      intro x hx
      rw [peels_snoc] at hx
      obtain ⟨hx, hg⟩ := List.mem_filter.1 hx
      have hxn := (ih x hx).1
      obtain ⟨y, hy, ly⟩ : ∃ y ∈ peels S ws n ns, Le t (false, x, y) (-1) := by
        unfold gB at hg
        rw [Bool.or_eq_true] at hg
        rcases hg with hg | hg
        · obtain ⟨y, hy, e⟩ := List.any_eq_true.1 hg
          have e := of_decide_eq_true e
          exact ⟨y, hy, (ab t ht _ _ (m.at_ _ (mem_most.2 ⟨hxn, (ih y hy).1⟩))).up (by omega)⟩
        · obtain ⟨w, hw, e⟩ := List.any_eq_true.1 hg
          rw [Bool.and_eq_true] at e
          have e1 := of_decide_eq_true e.1
          have e2 := of_decide_eq_true e.2
          exact ⟨w.2.1, e1, le_sure B C (r := (w.2.1, w.2.2)) (W.at_ w hw) (ab t ht _ _ (m.at_ _ (mem_until.2 ⟨W.en w hw, hxn⟩))) e2⟩
      obtain ⟨hyn, l, ll, hl, pw⟩ := ih y hy
      refine ⟨hxn, y :: l, by rw [List.length_cons, ll], fun a ha => ?_, List.pairwise_cons.2 ⟨fun b hb => ?_, pw⟩⟩
      · rcases List.mem_cons.1 ha with e | e
        · rw [e]; exact hyn
        · exact hl a e
      · rcases List.mem_cons.1 hb with e | e
        · rw [e]; exact ly
        · exact (le_along C J ly ((List.pairwise_cons.1 pw).1 b e)).up (by omega)
  unfold rgF at h
  cases e : peels S ws ns.length ns with
  | nil => rw [e] at h; cases h
  | cons x r =>
    obtain ⟨hx, l, ll, hl, pw⟩ := path ns.length x (by rw [e]; exact List.mem_cons_self)
    have nd : (x :: l).Nodup := pw.imp fun {a b} z e => by
      rw [e] at z
      obtain ⟨k, ek, lk⟩ := z
      have := D.2 _ _ ek
      omega
    have := nodup_len (x :: l) ns nd fun a ha => by
      rcases List.mem_cons.1 ha with z | z
      · rw [z]; exact hx
      · exact hl a z
    rw [List.length_cons, ll] at this
    omega
/-! ### the first amounts -/
def ini (U : Int) (k : Ky α) : Int := if k.1 = false ∧ k.2.1 = k.2.2 then 0 else U
def initF (ns es : List α) (U : Int) : MS α := ⟨(keys ns es).map fun k => (k, (ini U k, none)), [], none⟩
theorem look_keys {β : Type} {f : Ky α → β} (ks : List (Ky α)) (k : Ky α) : look k (ks.map fun k => (k, f k)) = if k ∈ ks then some (f k) else none := by
  induction ks with
  | nil => rfl
  | cons a ks ih =>
    rw [List.map_cons]
    unfold look
    by_cases c : a = k
    · rw [if_pos c, if_pos (by rw [c]; exact List.mem_cons_self), c]
    · rw [if_neg c, ih]
      by_cases c2 : k ∈ ks
      · rw [if_pos c2, if_pos (List.mem_cons_of_mem _ c2)]
      · rw [if_neg c2, if_neg fun z => (List.mem_cons.1 z).elim (fun e => c e.symm) c2]
theorem initF_at {U : Int} (k : Ky α) : (initF ns es U).at k = if k ∈ keys ns es then some (ini U k) else none := by
  unfold MS.at initF
  show (look k ((keys ns es).map fun k => (k, (ini U k, none)))).map _ = _
  rw [look_keys (f := fun k => ((ini U k, none) : Int × Option Nat))]
  split <;> rfl
def teS (bn : List (α × α × Int)) (lt : List (α × Int)) (p : Sf α × Int) : Sf α × Int := lt.foldl (fun p b => lowP p (true, b.1, b.1) b.2) (bn.foldl (fun p b => lowP p (false, b.1, b.2.1) b.2.2) p)
def tellF (ns es : List α) (U : Int) (bn : List (α × α × Int)) (lt : List (α × Int)) : MS α := tellL lt (tellB bn (initF ns es U))
variable {bn : List (α × α × Int)} {lt : List (α × Int)} {U B M : Int} {st : α}
theorem init_ic (H : Ts ns es hk T) (hup : ∀ t, T t → ∀ k ∈ keys ns es, Le t k U) : Ic ns es T 0 (initF ns es U) ((ini U : Sf α), 0) := by
  refine .inr ⟨⟨rfl, fun k hk' => by rw [initF_at, if_pos hk'], fun k n e => ?_, fun x hx => ?_⟩, fun t ht k n e => ?_, rfl⟩
  · rw [initF_at] at e
    split at e
    · assumption
    · cases e
  · show 0 ≤ ini U (false, x, x)
    unfold ini
    rw [if_pos ⟨rfl, rfl⟩]
    exact Int.le_refl _
  · rw [initF_at] at e
    split at e
    · rename_i hk'
      cases e
      unfold ini
      split
      · rename_i c
        obtain ⟨u, a, b⟩ := k
        obtain ⟨c1, c2⟩ := c
        have c1 : u = false := c1
        have c2 : a = b := c2
        rw [c1, ← c2] at hk' ⊢
        exact (H.dg t ht).1 a (mem_most.1 hk').1
      · exact hup t ht k hk'
    · cases e
theorem tell_ic (H : Ts ns es hk T) (hup : ∀ t, T t → ∀ k ∈ keys ns es, Le t k U) (L : Tl ns es st B M bn lt) (tl : ∀ t, T t → Told bn lt t) : Ic ns es T 0 (tellF ns es U bn lt) (teS bn lt ((ini U : Sf α), 0)) := by
  have h1 := walk_rel (R := fun (p : Sf α × Int) s => Ic ns es T 0 s p) (f := fun p b => lowP p (false, b.1, b.2.1) b.2.2) (g := fun s b => offer s (false, b.1, b.2.1) b.2.2 (.told b.1 b.2.1 b.2.2)) (l := bn) (fun p s b hb h => Ic.low h (mem_most.2 (L.bound b hb)) H.dg fun _ _ t ht => (tl t ht).bound b hb) (init_ic H hup)
  exact walk_rel (R := fun (p : Sf α × Int) s => Ic ns es T 0 s p) (f := fun p b => lowP p (true, b.1, b.1) b.2) (g := fun s b => offer s (true, b.1, b.1) b.2 (.late b.1)) (l := lt) (fun p s b hb h => Ic.low h (mem_until.2 ⟨(L.late b hb).1, L.ends _ (L.late b hb).1⟩) H.dg fun _ _ t ht => (tl t ht).late b hb) h1
theorem tellF_told (f : (tellF ns es U bn lt).fault = none) : Told bn lt (tellF ns es U bn lt) := by
  unfold tellF at f ⊢
  have d := dn_tellL lt (tellB bn (initF ns es U))
  have f1 := d.fault f
  refine ⟨fun b hb => d.le _ _ ?_, fun b hb => ?_⟩
  · exact walk_each (β := α × α × Int) (f := fun s b => offer s (false, b.1, b.2.1) b.2.2 (.told b.1 b.2.1 b.2.2)) (l := bn) (s := initF ns es U) (fun s b => dn_offer ..) (fun _ => True) (fun (b : α × α × Int) t => Le t (false, b.1, b.2.1) b.2.2) (fun _ _ _ _ _ => True.intro) (fun t b hb _ ft => offer_le ft) (fun t u b d j => d.le _ _ j) True.intro f1 b hb
  · exact walk_each (β := α × Int) (f := fun s b => offer s (true, b.1, b.1) b.2 (.late b.1)) (l := lt) (s := tellB bn (initF ns es U)) (fun s b => dn_offer ..) (fun _ => True) (fun (b : α × Int) t => Le t (true, b.1, b.1) b.2) (fun _ _ _ _ _ => True.intro) (fun t b hb _ ft => offer_le ft) (fun t u b d j => d.le _ _ j) True.intro f b hb
theorem tellF_hl (hB : 0 ≤ B) (hM : 0 ≤ M) (hU : 0 ≤ U) (L : Tl ns es st B M bn lt) (f : (tellF ns es U bn lt).fault = none) : Hl ns es st B M (tellF ns es U bn lt) := by
  have Td := tellF_told f
  have D : Dn (initF ns es U) (tellF ns es U bn lt) := (dn_tellB bn (initF ns es U)).trans (dn_tellL lt _)
  have i0 : ∀ x ∈ ns, (initF ns es U).at (false, x, x) = some 0 := fun x hx => by
    rw [initF_at, if_pos (mem_most.2 ⟨hx, hx⟩)]
    unfold ini
    rw [if_pos ⟨rfl, rfl⟩]
  have j0 : Just (keys ns es) (initF ns es U) := fun k n e => by
    rw [initF_at] at e
    split at e
    · assumption
    · cases e
  have dg : Dg ns (tellF ns es U bn lt) := Dg.dn ⟨fun x hx => .of (i0 x hx), fun x n e => by
    have hx := (mem_most.1 (j0 _ _ e)).1
    rw [i0 x hx] at e
    cases e
    exact Int.le_refl _⟩ D f
  have fu : Full (keys ns es) (tellF ns es U bn lt) := full_dn (fun k hk' => ⟨_, by rw [initF_at, if_pos hk']⟩) D
  have j1 : Just (keys ns es) (tellB bn (initF ns es U)) := walk_keep (I := Just (keys ns es)) (fun t b hb j => just_offer j (mem_most.2 (L.bound b hb))) j0
  have j2 : Just (keys ns es) (tellF ns es U bn lt) := walk_keep (I := Just (keys ns es)) (fun t b hb j => just_offer j (mem_until.2 ⟨(L.late b hb).1, L.ends _ (L.late b hb).1⟩)) j1
  have way : ∀ x y, y ∈ ns → (x = y ∨ ∃ n, (x, y, n) ∈ bn ∧ n ≤ B) → Le (tellF ns es U bn lt) (false, x, y) B := by
    intro x y hy hw
    rcases hw with e | ⟨n, h1, h2⟩
    · rw [e]
      exact (dg.1 y hy).up hB
    · exact (Td.bound _ h1).up h2
  refine ⟨fu, j2, dg, ⟨L.stin, fun x hx => ?_⟩, fun e x a ea => ?_⟩
  · obtain ⟨y, hy, h1, h2⟩ := L.to x hx
    obtain ⟨z, hz, h3, h4⟩ := L.fro x hx
    exact ⟨⟨y, hy, way x y hy h1, way y st L.stin h2⟩, z, hz, way st z hz h3, way z x hx h4⟩
  · have lo : -M ≤ a := by
      have k : Ku true (initF ns es U) (tellB bn (initF ns es U)) := ku_walk (fun s b => ku_offer fun z => Bool.noConfusion z) bn _
      have := walk_keep (I := fun t : MS α => ∀ e x a, t.at (true, e, x) = some a → -M ≤ a) (l := lt) (f := fun s b => offer s (true, b.1, b.1) b.2 (.late b.1)) (fun t b hb i e x a q => by
        rcases offer_at q with z | ⟨_, z⟩
        · exact i e x a z
        · rw [z]
          exact (L.late b hb).2.2) (s := tellB bn (initF ns es U)) (fun e x a q => by
        rw [k, initF_at] at q
        split at q
        · cases q
          unfold ini
          rw [if_neg (fun z => Bool.noConfusion z.1)]
          omega
        · cases q)
      exact this e x a ea
    have hx := (mem_until.1 (j2 _ _ ea)).2
    exact ⟨x, 0, dg.1 x hx, by omega⟩
end
end Se

set_option maxHeartbeats 4000000
namespace Tw
open PySem PySem.Spec PyProof.Rows L2
/-! the laws' own settling in the heap: two dicts -/
abbrev Sq : Type := Se.Sf Str
def dcL (ks : List (Str × Str)) (g : Str × Str → Int) : List (List Key × V) := tvL (ks.map fun k => (k, g k))
theorem dc_len (ks : List (Str × Str)) (g : Str × Str → Int) : (dcL ks g).length = ks.length := by
  unfold dcL
  rw [tv_len, List.length_map]
theorem dc_val {ks : List (Str × Str)} {g : Str × Str → Int} {k : Str × Str} (h : k ∈ ks) : valV (dcL ks g) (prL k) = some (.int (g k)) := by
  unfold dcL tvL
  rw [List.map_map]
  induction ks with
  | nil => exact absurd h List.not_mem_nil
  | cons a ks ih =>
    rw [List.map_cons]
    by_cases c : a = k
    · rw [valV_pos (by rw [c]; rfl), c]
      rfl
    · rw [valV_neg (fun z => c (prL_inj z))]
      exact ih ((List.mem_cons.1 h).resolve_left fun e => c e.symm)
def upG (g : Str × Str → Int) (k : Str × Str) (n : Int) : Str × Str → Int := fun k' => if k' = k then n else g k'
theorem dc_put {ks : List (Str × Str)} {g : Str × Str → Int} {k : Str × Str} {n : Int} (h : k ∈ ks) : putK (dcL ks g) (prL k) (.int n) = dcL ks (upG g k n) := by
  have an : ((dcL ks g).any fun kv => decide (kv.1 = prL k)) = true := by
    rw [valV_any, dc_val h]
    rfl
  unfold putK
  rw [if_pos an]
  unfold dcL tvL
  rw [List.map_map, List.map_map, List.map_map]
  refine List.map_congr_left fun a _ => ?_
  show (if prL a = prL k then (prL a, V.int n) else (prL a, V.int (g a))) = (prL a, V.int (upG g k n a))
  unfold upG
  by_cases c : a = k
  · rw [if_pos (by rw [c]), if_pos c]
  · rw [if_neg fun z => c (prL_inj z), if_neg c]
def lowG (g : Str × Str → Int) (k : Str × Str) (n : Int) : Str × Str → Int := if g k ≤ n then g else upG g k n
/-- the bounds and the waits of amounts -/
def nG (S : Sq) : Str × Str → Int := fun k => S (false, k)
def zG (S : Sq) : Str × Str → Int := fun k => S (true, k)
theorem low_nn (S : Sq) (k : Str × Str) (n : Int) : nG (Se.low S (false, k) n) = lowG (nG S) k n := by
  unfold Se.low lowG nG upG
  split
  · rfl
  · funext k'
    show (if (false, k') = (false, k) then n else S (false, k')) = if k' = k then n else S (false, k')
    by_cases c : k' = k
    · rw [if_pos (by rw [c]), if_pos c]
    · rw [if_neg (fun z => c (congrArg Prod.snd z)), if_neg c]
theorem low_nz (S : Sq) (k : Str × Str) (n : Int) : zG (Se.low S (false, k) n) = zG S := by
  unfold Se.low zG
  split
  · rfl
  · funext k'
    exact if_neg fun z => Bool.noConfusion (congrArg Prod.fst z)
theorem low_zz (S : Sq) (k : Str × Str) (n : Int) : zG (Se.low S (true, k) n) = lowG (zG S) k n := by
  unfold Se.low lowG zG upG
  split
  · rfl
  · funext k'
    show (if (true, k') = (true, k) then n else S (true, k')) = if k' = k then n else S (true, k')
    by_cases c : k' = k
    · rw [if_pos (by rw [c]), if_pos c]
    · rw [if_neg (fun z => c (congrArg Prod.snd z)), if_neg c]
theorem low_zn (S : Sq) (k : Str × Str) (n : Int) : nG (Se.low S (true, k) n) = nG S := by
  unfold Se.low nG
  split
  · rfl
  · funext k'
    exact if_neg fun z => Bool.noConfusion (congrArg Prod.fst z)
/-- the keys, in the order in which they are laid -/
def kN (ns : List Str) : List (Str × Str) := ns.flatMap fun x => ns.map fun y => (x, y)
def kZ (ns es : List Str) : List (Str × Str) := ns.flatMap fun x => es.map fun e => (e, x)
theorem kN_in {ns : List Str} {x y : Str} (hx : x ∈ ns) (hy : y ∈ ns) : (x, y) ∈ kN ns := List.mem_flatMap.2 ⟨x, hx, List.mem_map.2 ⟨y, hy, rfl⟩⟩
theorem kZ_in {ns es : List Str} {e x : Str} (he : e ∈ es) (hx : x ∈ ns) : (e, x) ∈ kZ ns es := List.mem_flatMap.2 ⟨x, hx, List.mem_map.2 ⟨e, he, rfl⟩⟩
def Sb2 (N Z : Addr) (H H' : Hp) : Prop := ∀ b o, H b = some o → b ≠ N → b ≠ Z → H' b = some o
theorem Sb2.of {N Z : Addr} {H H' : Hp} (s : Same H H') : Sb2 N Z H H' := fun b o e _ _ => s b o e
theorem Sb2.trans {N Z : Addr} {H H1 H2 : Hp} (a : Sb2 N Z H H1) (b : Sb2 N Z H1 H2) : Sb2 N Z H H2 := fun c o e n1 n2 => b c o (a c o e n1 n2) n1 n2
theorem Sb2.n {N Z : Addr} {H H' : Hp} (s : Sb N H H') : Sb2 N Z H H' := fun b o e n _ => s b o e n
theorem Sb2.z {N Z : Addr} {H H' : Hp} (s : Sb Z H H') : Sb2 N Z H H' := fun b o e _ n => s b o e n
/-- two dicts with amounts -/
structure Ds (ns es : List Str) (N Z : Addr) (H : Hp) (S : Sq) : Prop where
  n : H N = some (.dT (dcL (kN ns) (nG S)))
  z : H Z = some (.dT (dcL (kZ ns es) (zG S)))
  ne : N ≠ Z
theorem Ds.same {ns es : List Str} {N Z : Addr} {H H' : Hp} {S : Sq} (h : Ds ns es N Z H S) (s : Same H H') : Ds ns es N Z H' S := ⟨s _ _ h.n, s _ _ h.z, h.ne⟩
theorem Ds.lst {ns es : List Str} {N Z A : Addr} {H : Hp} {S : Sq} {xs : List V} (h : Ds ns es N Z H S) (hA : H A = some (.lst xs)) : A ≠ N ∧ A ≠ Z := ⟨ne_of hA h.n (fun z => nomatch z), ne_of hA h.z (fun z => nomatch z)⟩
theorem Ds.tup {ns es : List Str} {N Z A : Addr} {H : Hp} {S : Sq} {xs : List V} (h : Ds ns es N Z H S) (hA : H A = some (.tup xs)) : A ≠ N ∧ A ≠ Z := ⟨ne_of hA h.n (fun z => nomatch z), ne_of hA h.z (fun z => nomatch z)⟩
theorem Ds.getN {ns es : List Str} {N Z t : Addr} {H : Hp} {S : Sq} (h : Ds ns es N Z H S) {x y : Str} (hx : x ∈ ns) (hy : y ∈ ns) (ht : H t = some (.tup [.str x, .str y])) : DGet H N (.ref t) (some (.int (S (false, x, y)))) := by
  show DGet H N (.ref t) (some (.int (nG S (x, y))))
  rw [← dc_val (g := nG S) (kN_in hx hy)]
  exact DGet.t (k := prL (x, y)) h.n ht
theorem Ds.getZ {ns es : List Str} {N Z t : Addr} {H : Hp} {S : Sq} (h : Ds ns es N Z H S) {e x : Str} (he : e ∈ es) (hx : x ∈ ns) (ht : H t = some (.tup [.str e, .str x])) : DGet H Z (.ref t) (some (.int (S (true, e, x)))) := by
  show DGet H Z (.ref t) (some (.int (zG S (e, x))))
  rw [← dc_val (g := zG S) (kZ_in he hx)]
  exact DGet.t (k := prL (e, x)) h.z ht
theorem Ds.kt {ns es : List Str} {N Z : Addr} {H H' : Hp} {S : Sq} (h : Ds ns es N Z H S) (s : Sb2 N Z H H') : Kt H H' := fun b xs e => s b _ e (h.tup e).1 (h.tup e).2
theorem take_fold {β γ : Type} (f : γ → β → γ) (p : γ) {l : List β} {i : Nat} {x : β} (h : l[i]? = some x) : (l.take (i + 1)).foldl f p = f ((l.take i).foldl f p) x := by
  rw [List.take_add_one, h, List.foldl_append]
  rfl
section
variable {P : Program} {w : World} {K : PySem.W.Frag} {mg : Str → Option Value} {base : Heap}
def sp_lower : Sp := fun vs H Q _ => ∃ (D t : Addr) (ks : List (Str × Str)) (g : Str × Str → Int) (k : Str × Str) (n : Int), vs = [.ref D, .ref t, .int n] ∧ H D = some (.dT (dcL ks g)) ∧ H t = some (.tup [.str k.1, .str k.2]) ∧ k ∈ ks ∧ ks.length ≤ 1000 ∧ ∀ H', Sb D H H' → H' D = some (.dT (dcL ks (lowG g k n))) → Q (.int (if g k ≤ n then 0 else 1)) H'
/-! ### _law_along -/
def sp_lalong : Sp := fun vs H Q _ => ∃ (A N Z : Addr) (ns es : List Str) (S : Sq), vs = [.ref A, .ref N] ∧ H A = some (.lst (ns.map V.str)) ∧ Ds ns es N Z H S ∧ (kN ns).length ≤ 1000 ∧ ∀ H', Sb2 N Z H H' → Ds ns es N Z H' (Se.alP ns (S, 0)).1 → Q (.int (Se.alP ns (S, 0)).2) H'
theorem ds_low {ns es : List Str} {N Z : Addr} {H H' : Hp} {p : Sq × Int} {x y : Str} {n : Int} (h : Ds ns es N Z H p.1) (s : Sb N H H') (e : H' N = some (.dT (dcL (kN ns) (lowG (nG p.1) (x, y) n)))) : Ds ns es N Z H' (Se.lowP p (false, x, y) n).1 := by
  refine ⟨?_, ?_, h.ne⟩
  · show H' N = some (.dT (dcL (kN ns) (nG (Se.low p.1 (false, (x, y)) n))))
    rw [low_nn]
    exact e
  · show H' Z = some (.dT (dcL (kZ ns es) (zG (Se.low p.1 (false, (x, y)) n))))
    rw [low_nz]
    exact s _ _ h.z h.ne.symm
theorem ds_lowZ {ns es : List Str} {N Z : Addr} {H H' : Hp} {p : Sq × Int} {x y : Str} {n : Int} (h : Ds ns es N Z H p.1) (s : Sb Z H H') (e : H' Z = some (.dT (dcL (kZ ns es) (lowG (zG p.1) (x, y) n)))) : Ds ns es N Z H' (Se.lowP p (true, x, y) n).1 := by
  refine ⟨?_, ?_, h.ne⟩
  · show H' N = some (.dT (dcL (kN ns) (nG (Se.low p.1 (true, (x, y)) n))))
    rw [low_zn]
    exact s _ _ h.n h.ne
  · show H' Z = some (.dT (dcL (kZ ns es) (zG (Se.low p.1 (true, (x, y)) n))))
    rw [low_zz]
    exact e
end
end Tw

set_option maxHeartbeats 4000000
namespace Tw
open PySem PySem.Spec PyProof.Rows L2
/-! the laws' own settling: _law_waits, _law_ends -/
theorem max_if (i j : Int) : (if j > i then j else i) = max i j := by
  by_cases c : j > i
  · rw [if_pos c]; omega
  · rw [if_neg c]; omega
abbrev Hd4 : Type := Str × Str × Int × Int
def esO (hl : List Hd4) : List Str := hl.map (·.1)
def wnO (h : Hd4) : Se.Wn Str := (h.1, h.2.1, h.2.2.1)
def wsO (hl : List Hd4) : List (Se.Wn Str) := hl.map wnO
theorem str_nth {ns : List Str} {i : Nat} {x : V} (hx : (ns.map V.str)[i]? = some x) : ∃ z, ns[i]? = some z ∧ x = .str z := by
  rw [List.getElem?_map] at hx
  obtain ⟨z, hz, e⟩ := Option.map_eq_some_iff.1 hx
  exact ⟨z, hz, e.symm⟩
section
variable {P : Program} {w : World} {K : PySem.W.Frag} {mg : Str → Option Value} {base : Heap}
def sp_lwaits : Sp := fun vs H Q _ => ∃ (A G N Z : Addr) (ns : List Str) (hl : List Hd4) (gs : List V) (S : Sq), vs = [.ref A, .ref G, .ref N, .ref Z] ∧ H A = some (.lst (ns.map V.str)) ∧ H G = some (.lst gs) ∧ Rows H gs (hl.map hRow) ∧ Ds ns (esO hl) N Z H S ∧ (kZ ns (esO hl)).length ≤ 1000 ∧ ∀ H', Sb2 N Z H H' → Ds ns (esO hl) N Z H' (Se.waP ns (esO hl) (S, 0)).1 → Q (.int (Se.waP ns (esO hl) (S, 0)).2) H'
/-! ### _law_ends -/
def sp_lends : Sp := fun vs H Q _ => ∃ (A G N Z : Addr) (ns : List Str) (hl : List Hd4) (gs : List V) (S : Sq), vs = [.ref A, .ref G, .ref N, .ref Z] ∧ H A = some (.lst (ns.map V.str)) ∧ H G = some (.lst gs) ∧ Rows H gs (hl.map hRow) ∧ (∀ h ∈ hl, h.1 ∈ ns ∧ h.2.1 ∈ ns) ∧ Ds ns (esO hl) N Z H S ∧ (kN ns).length ≤ 1000 ∧ (kZ ns (esO hl)).length ≤ 1000 ∧ ∀ H', Sb2 N Z H H' → Ds ns (esO hl) N Z H' (Se.enP ns (wsO hl) (S, 0)).1 → Q (.int (Se.enP ns (wsO hl) (S, 0)).2) H'
end
end Tw

set_option maxHeartbeats 4000000
namespace Tw
open PySem PySem.Spec PyProof.Rows L2
/-! the laws' own settling: _law_bases, _law_has_ring -/
theorem ok_strs {l : List Str} (h : ∀ z ∈ l, okV (.str z) = true) : (l.map V.str).all okV = true := by
  rw [List.all_map, List.all_eq_true]
  exact fun z hz => h z hz
theorem ne_nilS (l : List Str) : (!PyData.eqv (.list ((l.map V.str).map pd)) (.list [])) = !l.isEmpty := by
  cases l with
  | nil => rfl
  | cons k l => rfl
theorem sh_strs {l : List Str} (h : ∀ z ∈ l, okV (.str z) = true) : SeqAt.shaped (.list ((l.map V.str).map pd)) = true := by
  unfold SeqAt.shaped
  rw [Bool.and_eq_true]
  refine ⟨can_all (ok_strs h), decide_eq_true ?_⟩
  show PyData.depthAll ((l.map V.str).map pd) + 1 ≤ 64
  rw [depth_all]
  decide
section
variable {P : Program} {w : World} {K : PySem.W.Frag} {mg : Str → Option Value} {base : Heap}
def sp_lbases : Sp := fun vs H Q _ => ∃ (d : Addr) (m : Md), vs = [.ref d] ∧ MdAt H d m ∧ (m.own.length ≤ 10 ∧ m.wd.length ≤ 4) ∧ ∀ (D : Addr) (H' : Hp), Same H H' → H D = none → H' D = some (.lst ((bsN m).map V.str)) → Q (.ref D) H'
/-! ### _law_has_ring -/
def sp_hring : Sp := fun vs H Q _ => ∃ (A G N Z : Addr) (ns : List Str) (hl : List Hd4) (gs : List V) (S : Sq), vs = [.ref A, .ref G, .ref N, .ref Z] ∧ H A = some (.lst (ns.map V.str)) ∧ H G = some (.lst gs) ∧ Rows H gs (hl.map hRow) ∧ Ds ns (esO hl) N Z H S ∧ ns.length ≤ 100 ∧ hl.length ≤ 100 ∧ (∀ z ∈ ns, okV (.str z) = true) ∧ (∀ h ∈ hl, h.2.1 ∈ ns) ∧ ∀ H', Same H H' → Q (.bl (Se.rgF ns S (wsO hl))) H'
end
end Tw

set_option maxHeartbeats 4000000
namespace Tw
open PySem PySem.Spec PyProof.Rows L2
/-! the laws' own settling: _law_first -/
theorem take_not {β : Type} {l : List β} (h : l.Nodup) {i : Nat} {x : β} (e : l[i]? = some x) : x ∉ l.take i := fun z => by
  obtain ⟨j, hj, ej⟩ := List.mem_iff_getElem.1 z
  rw [List.length_take] at hj
  obtain ⟨hi, ei⟩ := List.getElem?_eq_some_iff.1 e
  rw [List.getElem_take] at ej
  exact List.pairwise_iff_getElem.1 h j i (by omega) hi (by omega) (by rw [ej, ei])
theorem dc_new {ks : List (Str × Str)} {g : Str × Str → Int} {k : Str × Str} (h : k ∉ ks) : putK (dcL ks g) (prL k) (.int (g k)) = dcL (ks ++ [k]) g := by
  rw [putK_new]
  · unfold dcL tvL
    rw [List.map_append, List.map_append]
    rfl
  · refine valV_off fun z => h ?_
    unfold dcL tvL at z
    rw [List.map_map, List.map_map] at z
    obtain ⟨a, ha, e⟩ := List.mem_map.1 z
    rw [← prL_inj e]
    exact ha
abbrev uU : Int := 10000000
def gN0 : Str × Str → Int := nG (Se.ini uU : Sq)
def gZ0 : Str × Str → Int := zG (Se.ini uU : Sq)
theorem gN0_at (x y : Str) : gN0 (x, y) = if x = y then 0 else uU := by
  unfold gN0 nG Se.ini
  show (if (false = false ∧ x = y) then _ else _) = _
  by_cases c : x = y
  · rw [if_pos ⟨rfl, c⟩, if_pos c]
  · rw [if_neg (fun z => c z.2), if_neg c]
theorem gZ0_at (k : Str × Str) : gZ0 k = uU := by
  unfold gZ0 zG Se.ini
  rw [if_neg (fun z => Bool.noConfusion z.1)]
def kNt (ns : List Str) (i : Nat) : List (Str × Str) := (ns.take i).flatMap fun x => ns.map fun y => (x, y)
def kZt (ns es : List Str) (i : Nat) : List (Str × Str) := (ns.take i).flatMap fun x => es.map fun e => (e, x)
theorem kNt_suc {ns : List Str} {i : Nat} {x : Str} (h : ns[i]? = some x) : kNt ns (i + 1) = kNt ns i ++ ns.map fun y => (x, y) := by
  unfold kNt
  rw [List.take_add_one, h, List.flatMap_append]
  show _ ++ (List.flatMap _ [x]) = _
  rw [List.flatMap_cons, List.flatMap_nil, List.append_nil]
theorem kZt_suc {ns es : List Str} {i : Nat} {x : Str} (h : ns[i]? = some x) : kZt ns es (i + 1) = kZt ns es i ++ es.map fun e => (e, x) := by
  unfold kZt
  rw [List.take_add_one, h, List.flatMap_append]
  show _ ++ (List.flatMap _ [x]) = _
  rw [List.flatMap_cons, List.flatMap_nil, List.append_nil]
theorem kNt_all (ns : List Str) : kNt ns ns.length = kN ns := by
  unfold kNt kN
  rw [List.take_length]
theorem kZt_all (ns es : List Str) : kZt ns es ns.length = kZ ns es := by
  unfold kZt kZ
  rw [List.take_length]
/-- set where it is less: made less -/
theorem set_low {S : Sq} {k : Str × Str} {n : Int} (h : n < S (true, k)) : upG (zG S) k n = zG (Se.low S (true, k) n) := by
  rw [low_zz]
  unfold lowG
  rw [if_neg (by show ¬ S (true, k) ≤ n; omega)]
section
variable {P : Program} {w : World} {K : PySem.W.Frag} {mg : Str → Option Value} {base : Heap}
def sp_lfirst : Sp := fun vs H Q _ => ∃ (d : Addr) (m : Md), vs = [.ref d] ∧ MdAt H d m ∧ MdOk m ∧ ∀ (t N Z : Addr) (H' : Hp), Same H H' → H' t = some (.tup [.ref N, .ref Z]) → H N = none → H Z = none → Ds (bsN m) (esO (hs m.wd)) N Z H' (Se.teS (bnT m) (ltT m) (Se.ini uU, 0)).1 → Q (.ref t) H'
end
end Tw

set_option maxHeartbeats 4000000
namespace Tw
open PySem PySem.Spec PyProof.Rows L2
/-! the laws' own settling: _law_least -/
def Tc (m : Md) (t : Se.MS Str) : Prop := OkM m (mgM m) t ∧ ClM m t
theorem no_sy {m : Md} (h : ∀ t, ¬ Tc m t) : ¬ Sy m := fun ⟨t, ht⟩ => h t ht
theorem ts_ok (m : Md) : Se.Ts (bsN m) (enN m) (hkOf (hs m.wd)) (Tc m) := ⟨fun t h => h.2, fun t h => h.1.hd.just, fun t h => h.1.hd.dg⟩
theorem ts_up (m : Md) : ∀ t, Tc m t → ∀ k ∈ Se.keys (bsN m) (enN m), Se.Le t k uU := fun t h k hk => by
  have near : ∀ x ∈ bsN m, ∀ y ∈ bsN m, Se.Le t (false, x, y) (4 * (2000 : Int)) := fun x hx y hy => Se.up_near h.2.along h.1.hd.wy hx hy
  obtain ⟨u, a, b⟩ := k
  cases u with
  | false =>
    obtain ⟨ha, hb⟩ := Se.mem_most.1 hk
    exact (near a ha b hb).up (by decide)
  | true =>
    obtain ⟨ha, hb⟩ := Se.mem_until.1 hk
    exact (Se.le_wait h.2 h.1.hd.just (near b hb a (en_in ha)) (h.1.hd.lt a ha)).up (by decide)
theorem hk_at2 {l : List (Str × Str × Int × Int)} {h : Str × Str × Int × Int} (nd : (l.map (·.1)).Nodup) (hm : h ∈ l) : hkOf l h.1 = some (h.2.1, h.2.2.1) := by
  rcases hk_all l h.1 with ⟨_, z⟩ | ⟨h', hm', e, eq⟩
  · exact absurd (List.mem_map.2 ⟨h, hm, rfl⟩) z
  · obtain ⟨i, hi, ei⟩ := List.mem_iff_getElem.1 hm
    obtain ⟨j, hj, ej⟩ := List.mem_iff_getElem.1 hm'
    have t1 := take_not nd (i := i) (x := h.1) (by rw [List.getElem?_map, List.getElem?_eq_getElem hi, ei]; rfl)
    have t2 := take_not nd (i := j) (x := h.1) (by rw [List.getElem?_map, List.getElem?_eq_getElem hj, ej]; exact congrArg some e)
    have : j = i := by
      rcases Nat.lt_trichotomy i j with c | c | c
      · exact absurd (by rw [List.map_take.symm]; exact List.mem_map.2 ⟨h, List.mem_take_iff_getElem.2 ⟨i, by omega, ei⟩, rfl⟩) t2
      · exact c.symm
      · exact absurd (by rw [List.map_take.symm]; exact List.mem_map.2 ⟨h', List.mem_take_iff_getElem.2 ⟨j, by omega, ej⟩, e⟩) t1
    subst this
    rw [eq, ← ei, ← ej]
theorem ww_ok {m : Md} (ok : MdOk m) : Se.Ww (bsN m) (enN m) (hkOf (hs m.wd)) (wsO (hs m.wd)) := by
  refine ⟨fun h hh => ?_, fun h hh => ?_, fun e he => ?_, fun e r hr => ?_⟩
  · obtain ⟨g, hg, rfl⟩ := List.mem_map.1 hh
    exact hk_at2 (hs_nd ok) hg
  · obtain ⟨g, hg, rfl⟩ := List.mem_map.1 hh
    exact List.mem_map.2 ⟨g, hg, rfl⟩
  · obtain ⟨g, hg, rfl⟩ := List.mem_map.1 he
    exact ⟨wnO g, List.mem_map.2 ⟨g, hg, rfl⟩, rfl⟩
  · rcases hk_all (hs m.wd) e with ⟨z, _⟩ | ⟨g, hg, e1, e2⟩
    · rw [z] at hr; cases hr
    · rw [e2] at hr
      cases hr
      exact List.mem_map.2 ⟨g, hg, by rw [← e1]; rfl⟩
theorem bs_okV {m : Md} (ok : MdOk m) : ∀ z ∈ bsN m, okV (.str z) = true := fun z hz => by
  have hp : z ∈ m.pts := by
    unfold bsN at hz
    unfold Md.pts
    rcases List.mem_cons.1 hz with e | e
    · rw [e]; exact List.mem_cons_self
    · rcases List.mem_append.1 e with e | e
      · exact List.mem_cons_of_mem _ (List.mem_append.2 (.inl e))
      · obtain ⟨h, hh, rfl⟩ := List.mem_map.1 e
        exact List.mem_cons_of_mem _ (List.mem_append.2 (.inr (hs_ok ok hh).en))
  have := row_lay (n := 0) ok hp hp
  rw [List.all_cons, Bool.and_eq_true] at this
  exact this.1
/-- the least amounts of a web -/
structure LsOk (m : Md) (S : Sq) : Prop where
  ex : ∃ s, Se.Mt (bsN m) (enN m) s S ∧ ClM m s ∧ Se.Told (bnT m) (ltT m) s ∧ Se.Ab (Tc m) s ∧ Se.Dg (bsN m) s ∧ Se.Hl (bsN m) (enN m) "start" 2000 2000 s
theorem ls_no {m : Md} {S : Sq} (h : LsOk m S) {st : Se.MS Str} {j : Nat} (RS : RsM m (mgM m) st) (ef : st.fault = some j) : False := by
  obtain ⟨s, mt, C, Td, _, D, _⟩ := h.ex
  obtain ⟨fs, R⟩ := RS
  obtain ⟨x, n, e, l⟩ := R.fault j ef
  obtain ⟨k, e', l'⟩ := rs_le C mt.jt Td R _ (List.mem_of_getElem? e)
  have := D.2 x k e'
  have l' : k ≤ n := l'
  omega
theorem ls_yes {m : Md} {S : Sq} (h : LsOk m S) {st : Se.MS Str} (O : OkM m (mgM m) st) (C : ClM m st) (RS : RsM m (mgM m) st) : ∀ k ∈ Se.keys (bsN m) (enN m), st.at k = some (S k) := fun k hk => by
  obtain ⟨s, mt, Cs, Td, ab, D, _⟩ := h.ex
  obtain ⟨n, en, ln⟩ := ab st ⟨O, C⟩ k _ (mt.at_ k hk)
  obtain ⟨fs, R⟩ := RS
  have le : S k ≤ n := by
    obtain ⟨p, hp⟩ := Se.of_at en
    rcases R.made k n p hp with ⟨_, h1, h2, h3⟩ | ⟨j, _, hj⟩
    · obtain ⟨u, a, b⟩ := k
      have h1 : u = false := h1
      have h2 : a = b := h2
      have ek : ((u, a, b) : Ky) = (false, a, a) := by rw [h1, ← h2]
      rw [ek] at hk ⊢
      obtain ⟨n', e', l'⟩ := D.1 a (Se.mem_most.1 hk).1
      rw [mt.at_ _ hk] at e'
      have := Option.some.inj e'
      omega
    · obtain ⟨n', e', l'⟩ := rs_le Cs mt.jt Td R _ (List.mem_of_getElem? hj)
      have e' : s.at k = some n' := e'
      rw [mt.at_ _ hk] at e'
      have := Option.some.inj e'
      have l' : n' ≤ n := l'
      omega
  rw [en]
  congr 1
  omega
theorem nd_keys {ns es : List Str} (h1 : ns.Nodup) (h2 : es.Nodup) : (Se.keys ns es).Nodup := by
  have fl : ∀ (l : List Str) (f : Str → List (Se.Ky Str)), l.Nodup → (∀ x, (f x).Nodup) → (∀ x y k, k ∈ f x → k ∈ f y → x = y) → (l.flatMap f).Nodup := by
    intro l f
    induction l with
    | nil => exact fun _ _ _ => List.nodup_nil
    | cons a l ih =>
      intro nd hf hd
      have h := List.nodup_cons.1 nd
      rw [List.flatMap_cons]
      refine List.nodup_append.2 ⟨hf a, ih h.2 hf hd, fun k hk k' hk' e => ?_⟩
      obtain ⟨y, hy, hky⟩ := List.mem_flatMap.1 hk'
      rw [← e] at hky
      exact h.1 (by rw [hd a y k hk hky]; exact hy)
  have mp : ∀ (l : List Str) (g : Str → Se.Ky Str), l.Nodup → (∀ x y, g x = g y → x = y) → (l.map g).Nodup := by
    intro l g nd hg
    induction l with
    | nil => exact List.nodup_nil
    | cons a l ih =>
      have h := List.nodup_cons.1 nd
      refine List.nodup_cons.2 ⟨fun z => ?_, ih h.2⟩
      obtain ⟨y, hy, e⟩ := List.mem_map.1 z
      exact h.1 (by rw [← hg y a e]; exact hy)
  unfold Se.keys
  refine List.nodup_append.2 ⟨fl ns _ h1 (fun x => mp ns _ h1 fun a b e => congrArg (fun k : Ky => k.2.2) e) (fun x y k hx hy => ?_), fl es _ h2 (fun x => mp ns _ h1 fun a b e => congrArg (fun k : Ky => k.2.2) e) (fun x y k hx hy => ?_), fun k hk k' hk' e => ?_⟩
  · obtain ⟨a, _, ea⟩ := List.mem_map.1 hx
    obtain ⟨b, _, eb⟩ := List.mem_map.1 hy
    exact congrArg (fun k : Ky => k.2.1) (ea.trans eb.symm)
  · obtain ⟨a, _, ea⟩ := List.mem_map.1 hx
    obtain ⟨b, _, eb⟩ := List.mem_map.1 hy
    exact congrArg (fun k : Ky => k.2.1) (ea.trans eb.symm)
  · obtain ⟨a, _, ha⟩ := List.mem_flatMap.1 hk
    obtain ⟨b, _, hb⟩ := List.mem_flatMap.1 hk'
    obtain ⟨a', _, ea⟩ := List.mem_map.1 ha
    obtain ⟨b', _, eb⟩ := List.mem_map.1 hb
    have := congrArg (fun k : Ky => k.1) (ea.trans (e.trans eb.symm))
    exact Bool.noConfusion this
/-- least amounts are a closed table -/
theorem ls_sy {m : Md} (ok : MdOk m) {S : Sq} (h : LsOk m S) : Sy m := by
  obtain ⟨s, mt, C, Td, _, D, hl⟩ := h.ex
  have tl := tl_ok ok
  let t : Se.MS Str := ⟨(Se.keys (bsN m) (enN m)).map fun k => (k, (S k, none)), [], none⟩
  have ta : ∀ k, t.at k = s.at k := fun k => by
    show (Se.look k ((Se.keys (bsN m) (enN m)).map fun k => (k, ((S k, none) : Int × Option Nat)))).map _ = _
    rw [Se.look_keys (f := fun k => ((S k, none) : Int × Option Nat))]
    by_cases c : k ∈ Se.keys (bsN m) (enN m)
    · rw [if_pos c, mt.at_ k c]
      rfl
    · rw [if_neg c]
      cases e : s.at k with
      | none => rfl
      | some n => exact absurd (mt.jt k n e) c
  have at' : ∀ {k : Ky} {n : Int}, t.at k = some n → s.at k = some n := fun e => by rw [← ta]; exact e
  have le : ∀ {k : Ky} {n : Int}, Se.Le s k n → Se.Le t k n := fun ⟨n, e, l⟩ => ⟨n, by rw [ta]; exact e, l⟩
  have Tt : Se.Told (bnT m) (ltT m) t := ⟨fun b hb => le (Td.bound b hb), fun b hb => le (Td.late b hb)⟩
  refine ⟨t, ⟨⟨fun k n e => mt.jt k n (at' e), ⟨fun x hx => le (D.1 x hx), fun x n e => D.2 x n (at' e)⟩, ⟨hl.wy.1, fun x hx => ?_⟩, fun e he => ?_, fun e x a ea => ?_⟩, ?_, Tt, .inl (Nat.zero_le _)⟩, ⟨fun v hv x hx z hz a b ha hb => le (C.along v hv x hx z hz a b (at' ha) (at' hb)), fun e he y hy x hx o p ho hp => le (C.wait e he y hy x hx o p (at' ho) (at' hp)), fun w hw k n f hk hf => le (C.one w hw k n f (at' hk) hf)⟩⟩
  · obtain ⟨⟨y, h1, h2, h3⟩, z, h4, h5, h6⟩ := hl.wy.2 x hx
    exact ⟨⟨y, h1, le h2, le h3⟩, z, h4, le h5, le h6⟩
  · obtain ⟨n, hn⟩ := tl.lates e he
    exact (Tt.late _ hn).up (tl.late _ hn).2.1
  · obtain ⟨y, b, h1, h2⟩ := hl.wt e x a (at' ea)
    exact ⟨y, b, le h1, h2⟩
  · show ((Se.keys (bsN m) (enN m)).map fun k => (k, ((S k, none) : Int × Option Nat))).map (·.1) |>.Nodup
    rw [List.map_map]
    show ((Se.keys (bsN m) (enN m)).map fun k => k).Nodup
    rw [List.map_id']
    exact nd_keys (bs_nodup ok) (hs_nd ok)
/-! ### it ends -/
def cC : Int := 12000
def bdB (m : Md) (s : Se.MS Str) : Bool := (Se.keys (bsN m) (enN m)).all fun k => decide (-cC ≤ Se.vl s k)
def rdM (m : Md) (s : Se.MS Str) : Se.MS Str := Se.mRd (bsN m) (enN m) (wsO (hs m.wd)) s
def hgt (m : Md) (s : Se.MS Str) : Nat := (Se.tot s (Se.keys (bsN m) (enN m)) + (Se.keys (bsN m) (enN m)).length * cC).toNat
def bsM (m : Md) (s : Se.MS Str) : Nat := if bdB m s = true then 1 + hgt m s else 2 + hgt m (rdM m s)
def msr (m : Md) (s : Se.MS Str) (c : Int) : Nat := 2 * bsM m s + if c > 0 then 1 else 0
theorem msr_less {m : Md} {s : Se.MS Str} {c c' : Int} (hc : c > 0) (fu : Se.Full (Se.keys (bsN m) (enN m)) s) (ju : Se.Just (Se.keys (bsN m) (enN m)) (rdM m s)) (D : Se.Dn s (rdM m s)) (bd : ∀ k ∈ Se.keys (bsN m) (enN m), -cC ≤ Se.vl (rdM m s) k) (hr : ((rdM m s).rows.length : Int) = s.rows.length + c') : msr m (rdM m s) c' < msr m s c := by
  have bb : bdB m (rdM m s) = true := List.all_eq_true.2 fun k hk => decide_eq_true (bd k hk)
  have c0 : 0 ≤ c' := by have := D.rows; omega
  unfold msr
  rw [if_pos hc]
  by_cases e0 : c' = 0
  · have es : rdM m s = s := D.same (by omega)
    rw [es, e0, if_neg (by decide)]
    omega
  · rw [if_pos (by omega)]
    have cnt := D.count _ ju fu
    have lo : -((Se.keys (bsN m) (enN m)).length * cC) ≤ Se.tot (rdM m s) (Se.keys (bsN m) (enN m)) := Se.tot_dn fun k hk => by
      have fr := Se.full_dn fu D
      exact ⟨_, Se.at_vl fr hk, bd k hk⟩
    have lt : bsM m (rdM m s) < bsM m s := by
      unfold bsM
      rw [if_pos bb]
      split
      · unfold hgt
        omega
      · omega
    omega
section
variable {P : Program} {w : World} {K : PySem.W.Frag} {mg : Str → Option Value} {base : Heap}
def sp_least : Sp := fun vs H Q _ => ∃ (d : Addr) (m : Md), vs = [.ref d] ∧ MdAt H d m ∧ MdOk m ∧ (¬ Sy m → ∀ H', Same H H' → Q .non H') ∧ ∀ (t N Z : Addr) (S : Sq) (H' : Hp), Same H H' → H' t = some (.tup [.ref N, .ref Z]) → H N = none → H Z = none → Ds (bsN m) (esO (hs m.wd)) N Z H' S → LsOk m S → Q (.ref t) H'
end
end Tw

set_option maxHeartbeats 4000000
namespace Tw
open PySem PySem.Spec PyProof.Rows L2
def inL (c : Nat) : Bool := decide (c ∈ letters.cps.toList)
def nmB (z : Str) : Bool := decide (1 ≤ z.length) && (decide (z.length ≤ 8) && z.cps.toList.all inL)
theorem nmB_ok {z : Str} : nmB z = true ↔ Nm z := by
  unfold nmB Nm inL
  simp only [Bool.and_eq_true, decide_eq_true_eq, List.all_eq_true]
end Tw

set_option maxHeartbeats 4000000
namespace Tw
open PySem PySem.Spec PyProof.Rows L2
open LamX (ExtN Tabs)
theorem WebAt.ext {C : Addr} {H H' : Hp} {p : Addr} {m : Md} (W : WebAt C H p m) (e : ExtN H H') : WebAt C H' p m := W.keep (fun dx fs h => e _ _ h fun ps z => by cases z) (fun b xs h => e _ _ h fun ps z => by cases z)
theorem Flow.ext {H H' : Hp} {f c : Addr} (h : Flow H f c) (e : ExtN H H') : Flow H' f c := by
  obtain ⟨ns, i, r, st, e1, e2, e3⟩ := h.ex
  exact ⟨ns, i, r, st, e _ _ e1 (fun ps z => by cases z), e _ _ e2 (fun ps z => by cases z), e3⟩
theorem MdAt.ext {H H' : Hp} {d : Addr} {m : Md} (M : MdAt H d m) (e : ExtN H H') : MdAt H' d m := by
  obtain ⟨o, w, b, ws, bs, h1, h2, h3, h4, h5, h6, h7⟩ := M.ex
  have k : Kt H H' := fun b xs h => e _ _ h fun ps z => by cases z
  exact ⟨o, w, b, ws, bs, e _ _ h1 (fun ps z => by cases z), e _ _ h2 (fun ps z => by cases z), e _ _ h3 (fun ps z => by cases z), h4.keep k, e _ _ h5 (fun ps z => by cases z), h6.keep k, h7⟩
theorem tabs_same {T : List (Addr × Str)} {H H' : Hp} (h : Tabs T H) (s : Same H H') : Tabs T H' := fun p hp => (h p hp).ext s
theorem tabs_sb {T : List (Addr × Str)} {H H' : Hp} {f : Addr} {xs : List V} (h : Tabs T H) (s : Sb f H H') (hf : H f = some (.lst xs)) : Tabs T H' := fun p hp => by
  obtain ⟨ps, h1, h2, h3⟩ := h p hp
  refine ⟨ps, s _ _ h1 (ne_of h1 hf (by intro z; cases z)), h2, fun pos cv hc => ?_⟩
  obtain ⟨c, e1, e2⟩ := h3 pos cv hc
  exact ⟨c, e1, s _ _ e2 (ne_of e2 hf (by intro z; cases z))⟩
theorem kt_lst {H : Hp} {D : Addr} {xs ys : List V} (h : H D = some (.lst xs)) : Kt H (upd H D (.lst ys)) := Kt.upd fun zs z => by
  rw [h] at z
  cases z
theorem pts_nm {m : Md} (ok : MdOk m) {z : Str} (h : z ∈ m.pts) : Nm z := by
  rcases List.mem_cons.mp h with h | h
  · rw [h]
    exact nmB_ok.mp (by decide +kernel)
  · exact (pool_nm (ok.pool z h)).1
theorem nm_len {z : Str} (h : Nm z) : z.length ≤ 1000 := Nat.le_trans h.2.1 (by decide)
theorem sm_two {H : Hp} {a b : Addr} {x y : V} {n : Nat} (h1 : H a = some (.tup [x, y])) (h2 : H b = some (.tup [x, y])) (hx : flatV x = true) (hy : flatV y = true) : Sm (n + 2) (.ref a) (.ref b) H :=
  sm_tup h1 h2 rfl (by show 2 ≤ 1000; decide) (sm_flats (by show (flatV x && (flatV y && true)) = true; rw [hx, hy]; rfl))
theorem sm_pair {H : Hp} {a b : Addr} {x1 x2 y1 y2 : V} {n : Nat} (h1 : H a = some (.lst [x1, x2])) (h2 : H b = some (.lst [y1, y2])) (e1 : Sm n x1 y1 H) (e2 : Sm n x2 y2 H) : Sm (n + 1) (.ref a) (.ref b) H := by
  refine sm_lst h1 h2 rfl (by show 2 ≤ 1000; decide) fun i x y hx hy => ?_
  match i, hx, hy with
  | 0, hx, hy =>
    cases hx
    cases hy
    exact e1
  | 1, hx, hy =>
    cases hx
    cases hy
    exact e2
  | i + 2, hx, hy => cases hx
abbrev qlam : Str := ("law" : Str) ++ ".<locals>." ++ "<lambda>"
theorem tabs_new {P : Addr} {q : Str} {H : Hp} (h : H P = some (.tbl #[])) : Tabs [(P, q)] H := fun p hp => by
  have e := List.mem_singleton.mp hp
  subst e
  exact ⟨#[], h, True.intro, fun pos cv hc => nomatch hc⟩
theorem free_of {l : List Str} (h : (l.all fun z => nmB z && (!pool.contains z && !(z == "start"))) = true) {m : Md} (ok : MdOk m) {z : Str} (hz : z ∈ l) : Nm z ∧ ¬ z ∈ m.pts := by
  have e := List.all_eq_true.mp h z hz
  simp only [Bool.and_eq_true, Bool.not_eq_true', beq_eq_false_iff_ne, ne_eq] at e
  obtain ⟨e1, e2, e3⟩ := e
  refine ⟨nmB_ok.mp e1, fun hm => ?_⟩
  rcases List.mem_cons.mp hm with hm | hm
  · exact e3 hm
  · have := List.contains_iff_mem.mpr (ok.pool z hm)
    rw [e2] at this
    cases this
theorem MdX.addO {H : Hp} {d o w b : Addr} {m : Md} {z : Str} (M : MdX H d o w b m) : MdX (upd H o (.lst (m.own.map V.str ++ [.str z]))) d o w b (m.addM z) := by
  obtain ⟨ws, h1, h2⟩ := M.wd
  obtain ⟨bs, h3, h4⟩ := M.bd
  have k := kt_lst (ys := m.own.map V.str ++ [.str z]) M.own
  refine ⟨by rw [upd_ne (ne_of M.dk M.own (by intro z; cases z))]; exact M.dk, ?_, ⟨ws, by rw [upd_ne M.now.symm]; exact h1, h2.keep k⟩, ⟨bs, by rw [upd_ne M.nob.symm]; exact h3, h4.keep k⟩, M.now, M.nob, M.nwb⟩
  rw [upd_same]
  show _ = some (HO.lst ((m.own ++ [z]).map V.str))
  rw [List.map_append]
  rfl
theorem gone_out {m : Md} (ok : MdOk m) : ¬ ("gone" : Str) ∈ m.pts := fun h => by
  rcases List.mem_cons.mp h with h | h
  · exact absurd h (by decide +kernel)
  · exact absurd (ok.pool _ h) (by decide +kernel)
theorem none_out {m : Md} (ok : MdOk m) : ¬ ("" : Str) ∈ m.pts := fun h => absurd (pts_nm ok h) fun n => absurd (nmB_ok.mpr n) (by decide +kernel)
theorem mk_putWd {l : Int} {o w b w2 : Addr} : putK (mk l o w b) kWd (.ref w2) = mk l o w2 b := by
  have n6 : ¬ kBd = kWd := fun e => k6 e.symm
  unfold putK mk
  rw [if_pos (by rw [List.any_cons, List.any_cons, List.any_cons, decide_eq_true (rfl : kWd = kWd)]; simp)]
  simp only [List.map_cons, List.map_nil, if_neg k2, if_neg k4, if_neg n6, if_true]
/-- what stands all along: the flow, the model, the web, the table of the law's code -/
structure All (K : PySem.W.Frag) (f c d p Pt : Addr) (m : Md) (H : Hp) : Prop where
  fl : Flow H f c
  md : MdAt H d m
  web : WebAt (CW K) H p m
  tab : Tabs [(Pt, qlam)] H
theorem All.same {K : PySem.W.Frag} {f c d p Pt : Addr} {m : Md} {H H' : Hp} (A : All K f c d p Pt m H) (s : Same H H') : All K f c d p Pt m H' := ⟨A.fl.same s, A.md.same s, A.web.same s, tabs_same A.tab s⟩
theorem All.ext {K : PySem.W.Frag} {f c d p Pt : Addr} {m : Md} {H H' : Hp} (A : All K f c d p Pt m H) (e : ExtN H H') (t : Tabs [(Pt, qlam)] H') : All K f c d p Pt m H' := ⟨A.fl.ext e, A.md.ext e, A.web.ext e, t⟩
theorem All.sb {K : PySem.W.Frag} {f c d p Pt : Addr} {m : Md} {H H' : Hp} (A : All K f c d p Pt m H) (s : Sb f H H') (F : Flow H' f c) : All K f c d p Pt m H' := by
  obtain ⟨xs, hf⟩ := A.fl.lst
  exact ⟨F, A.md.sb A.fl s, A.web.sb s hf, tabs_sb A.tab s hf⟩
theorem kt_ext {H H' : Hp} (e : ExtN H H') : Kt H H' := fun b xs h => e _ _ h fun ps z => by cases z
theorem nm_ok {z : Str} (h : Nm z) : PyData.canLay0 (.str z) = true := by
  show z.cps.all (fun c => decide (c < 0x110000)) = true
  rw [Array.all_eq_true']
  intro c hc
  have h1 := h.2.2 c (Array.mem_toList_iff.mpr hc)
  have h2 : (letters.cps.toList.all fun c => decide (c < 0x110000)) = true := by decide +kernel
  exact List.all_eq_true.mp h2 c h1
end Tw

set_option maxHeartbeats 4000000
namespace Tw
open PySem PySem.Spec PyProof.Rows L2
section
variable {P : Program} {w : World} {K : PySem.W.Frag} {mg : Str → Option Value} {base : Heap}
def sp_copy : Sp := fun vs H Q _ => ∃ (d : Addr) (m : Md), vs = [.ref d] ∧ MdAt H d m ∧ ∀ (d' o' w' b' : Addr) (H' : Hp), Same H H' → H d' = none → H o' = none → H w' = none → H b' = none → MdX H' d' o' w' b' m → Q (.ref d') H'
theorem cal__law_copy (T : Tp K mg) : Cal P w K mg base 2 "_law_copy" sp_copy := by
  obtain ⟨fd, F⟩ := f__law_copy T
  refine cal_of F (g__law_copy T) (b__law_copy F) sc__law_copy (fun vs H Q E h => ?_) (fun cdv A outer s H vs Q E hr h => ?_)
  · obtain ⟨d, m, rfl, _⟩ := h
    rfl
  · obtain ⟨d, m, rfl, M, q⟩ := h
    have hu := hu_of hr
    obtain ⟨o, u, b, ws, bs, h1, h2, h3, h4, h5, h6, h7⟩ := M.ex
    refine ⟨_, (pss_one (ps_ret (pe_disp (pps_cons pe_str (pe_dget hu (pv 0) pe_str (fun _ _ => rfl)) (pps_cons pe_str (pe_callTy call_list_of (by rfl) (z_list T) bb_list (pa_cons (pe_dget hu (pv 0) pe_str (fun _ _ => rfl)) pa_nil)) (pps_cons pe_str (pe_callTy call_list_of (by rfl) (z_list T) bb_list (pa_cons (pe_dget hu (pv 0) pe_str (fun _ _ => rfl)) pa_nil)) (pps_cons pe_str (pe_callTy call_list_of (by rfl) (z_list T) bb_list (pa_cons (pe_dget hu (pv 0) pe_str (fun _ _ => rfl)) pa_nil)) pps_nil)))) (by rfl) (by rfl) (fun z => by cases z) (by decide)))), ?_⟩
    refine fun p np => ?_
    have s0 := same_upd (o := .dK []) np
    refine ⟨_, rfl, d, _, rfl, mk_by (s0 _ _ h1), _, rfl, d, _, rfl, mk_own (s0 _ _ h1), o, _, rfl, .inl (.inl (.inl (s0 _ _ h2))), fun o' no => ?_⟩
    have s1 := s0.trans (same_upd (o := .lst (m.own.map V.str)) no)
    refine ⟨_, rfl, d, _, rfl, mk_wd (s1 _ _ h1), u, _, rfl, .inl (.inl (.inl (s1 _ _ h3))), fun u' nu => ?_⟩
    have s2 := s1.trans (same_upd (o := .lst ws) nu)
    refine ⟨_, rfl, d, _, rfl, mk_bd (s2 _ _ h1), b, _, rfl, .inl (.inl (.inl (s2 _ _ h5))), fun b' nb => ?_⟩
    have sa := same_upd (o := .lst (m.own.map V.str)) no
    have sb := same_upd (o := .lst ws) nu
    have sc := same_upd (o := .lst bs) nb
    have s3 := s2.trans sc
    have ep := sc _ _ (sb _ _ (sa _ _ (upd_same (H := H) (a := p) (o := .dK []))))
    have eo := sc _ _ (sb _ _ (upd_same (H := upd H p (.dK [])) (a := o') (o := .lst (m.own.map V.str))))
    have eu := sc _ _ (upd_same (H := upd (upd H p (.dK [])) o' (.lst (m.own.map V.str))) (a := u') (o := .lst ws))
    have eb := upd_same (H := upd (upd (upd H p (.dK [])) o' (.lst (m.own.map V.str))) u' (.lst ws)) (a := b') (o := .lst bs)
    have nop : o' ≠ p := (ne_of ep eo (by intro z; cases z)).symm
    have nup : u' ≠ p := (ne_of ep eu (by intro z; cases z)).symm
    have nbp : b' ≠ p := (ne_of ep eb (by intro z; cases z)).symm
    have nou : o' ≠ u' := ne_of_none upd_same nu
    have nob : o' ≠ b' := ne_of_none (sb _ _ upd_same) nb
    have nub : u' ≠ b' := ne_of_none upd_same nb
    refine ⟨ep, [(kBy, .int m.last), (kOwn, .ref o'), (kWd, .ref u'), (kBd, .ref b')], rfl, (by show 4 ≤ 15; decide), ?_⟩
    rw [mk_merge]
    have sF : Same H (upd (upd (upd (upd (upd H p (.dK [])) o' (.lst (m.own.map V.str))) u' (.lst ws)) b' (.lst bs)) p (.dK (mk m.last o' u' b'))) := same_put s3 np
    exact q p o' u' b' _ sF np (s0.free no) (s1.free nu) (s2.free nb) ⟨upd_same, by rw [upd_ne nop]; exact eo, ⟨ws, by rw [upd_ne nup]; exact eu, h4.keep (Kt.of sF)⟩, ⟨bs, by rw [upd_ne nbp]; exact eb, h6.keep (Kt.of sF)⟩, nou, nob, nub⟩
end
end Tw

set_option maxHeartbeats 4000000
namespace Tw
open PySem PySem.Spec PyProof.Rows L2
/-! keeping.py, resting.ticks_of: what may be done and what is due, by a table -/
theorem bb_min : bootBuiltins "min" = some (.builtin "min") := by decide +kernel
abbrev Tk : Type := List (Str × Int)
/-- the ticks as a dict's entries, and as tuples -/
def tkL (tk : Tk) : List (Key × V) := tk.map fun p => (kS p.1, V.int p.2)
def pR (p : Str × Int) : List V := [.str p.1, .int p.2]
theorem tk_len (tk : Tk) : (tkL tk).length = tk.length := by unfold tkL; rw [List.length_map]
theorem tk_val : ∀ (tk : Tk) (z : Str), valV (tkL tk) (kS z) = (tk.lookup z).map V.int
  | [], _ => rfl
  | (x, n) :: r, z => by
    show valV ((kS x, V.int n) :: tkL r) (kS z) = _
    rw [List.lookup_cons]
    by_cases c : z = x
    · subst c
      rw [beq_self_eq_true]
      exact valV_pos rfl
    · rw [beq_eq_false_iff_ne.2 c, valV_neg (fun e => c (Sum.inr.inj e).symm)]
      exact tk_val r z
theorem tk_put {tk : Tk} {i : Nat} {r : Str × Int} (nd : (tk.map (·.1)).Nodup) (e : tk[i]? = some r) : putK (tkL (tk.take i)) (kS r.1) (.int r.2) = tkL (tk.take (i + 1)) := by
  have h : tk.take (i + 1) = tk.take i ++ tk[i]?.toList := List.take_add_one
  rw [e] at h
  rw [h]
  have nd' := (List.take_sublist (i + 1) (tk.map (·.1))).nodup nd
  rw [← List.map_take, h, List.map_append] at nd'
  rw [putK_new]
  · unfold tkL
    rw [List.map_append]
    rfl
  · rw [tk_val]
    cases c : (tk.take i).lookup r.1 with
    | none => rfl
    | some n =>
      exact absurd rfl ((List.nodup_append.1 nd').2.2 r.1 (List.mem_map.2 ⟨_, PySem.mem_of_lookup c, rfl⟩) r.1 (List.mem_singleton.2 rfl))
theorem tk_at : ∀ {tk : Tk} {p : Str × Int}, (tk.map (·.1)).Nodup → p ∈ tk → tk.lookup p.1 = some p.2
  | (x, n) :: r, p, nd, h => by
    have h2 := List.nodup_cons.1 nd
    rw [List.lookup_cons]
    rcases List.mem_cons.1 h with e | e
    · subst e
      rw [beq_self_eq_true]
    · have ne : ¬ p.1 = x := fun z => h2.1 (by rw [← z]; exact List.mem_map.2 ⟨p, e, rfl⟩)
      rw [beq_eq_false_iff_ne.2 ne]
      exact tk_at h2.2 e
theorem tk_some (tk : Tk) (z : Str) : (valV (tkL tk) (kS z)).isSome = (tk.lookup z).isSome := by
  rw [tk_val]
  cases tk.lookup z <;> rfl
/-- the amounts of a table in the heap -/
def TabS (K : PySem.W.Frag) (H : Hp) (b : TbA) (m : Md) (S : Sq) : Prop := ∃ l1 l2 : List Pr, TbAt K H b l1 l2 ∧ (∀ x ∈ bsN m, ∀ y ∈ bsN m, ((x, y), S (false, x, y)) ∈ l1) ∧ ∀ e ∈ enN m, ∀ x ∈ bsN m, ((e, x), S (true, e, x)) ∈ l2
theorem TabS.same {K : PySem.W.Frag} {H H' : Hp} {b : TbA} {m : Md} {S : Sq} (h : TabS K H b m S) (s : Same H H') : TabS K H' b m S := by
  obtain ⟨l1, l2, B, h1, h2⟩ := h
  exact ⟨l1, l2, B.same s, h1, h2⟩
/-- a locked dict is none of the table's objects -/
theorem TabS.lk {K : PySem.W.Frag} {H Hc : Hp} {b : TbA} {m : Md} {S : Sq} {D : Addr} {f : HO} {kvs : List (Key × V)} (h : TabS K H b m S) (lk : Lk D f H Hc) (hD : H D = some (.dK kvs)) (n3 : D ≠ b.d3) (n4 : D ≠ b.d4) : TabS K Hc b m S := by
  obtain ⟨l1, l2, B, h1, h2⟩ := h
  obtain ⟨kb, e1, e2⟩ := B.bn
  obtain ⟨ks, e3, e4⟩ := B.sn
  exact ⟨l1, l2, ⟨lk.1 _ _ B.obj (ne_of B.obj hD (fun z => nomatch z)), lk.1 _ _ B.b (ne_of B.b hD (fun z => nomatch z)), lk.1 _ _ B.w (ne_of B.w hD (fun z => nomatch z)), ⟨kb, lk.1 _ _ e1 n3.symm, e2⟩, ⟨ks, lk.1 _ _ e3 n4.symm, e4⟩, B.nd1, B.nd2⟩, h1, h2⟩
theorem TabS.out {K : PySem.W.Frag} {H : Hp} {b : TbA} {m : Md} {S : Sq} {D : Addr} (h : TabS K H b m S) (n : H D = none) : D ≠ b.d3 ∧ D ≠ b.d4 := by
  obtain ⟨l1, l2, B, _, _⟩ := h
  obtain ⟨kb, e1, _⟩ := B.bn
  obtain ⟨ks, e3, _⟩ := B.sn
  exact ⟨(ne_of_none e1 n).symm, (ne_of_none e3 n).symm⟩
theorem tabS_of {K : PySem.W.Frag} {H : Hp} {b : TbA} {m : Md} {S : Sq} {st : Se.MS Str} (B : TbAt K H b (tOf false st.made) (tOf true st.made)) (eqs : ∀ k ∈ Se.keys (bsN m) (enN m), st.at k = some (S k)) : TabS K H b m S := by
  have mem : ∀ u k, st.at (u, k) = some (S (u, k)) → (k, S (u, k)) ∈ tOf u st.made := fun u k h => by
    obtain ⟨p, hp⟩ := Se.of_at h
    exact tOf_mem.2 ⟨p, look_in hp⟩
  exact ⟨_, _, B, fun x hx y hy => mem false (x, y) (eqs _ (Se.mem_most.2 ⟨hx, hy⟩)), fun e he x hx => mem true (e, x) (eqs _ (Se.mem_until.2 ⟨he, hx⟩))⟩
/-- what may be done -/
def waitB (S : Sq) (tk : Tk) (z : Str) (t : Int) (h : Str × Str × Int × Int) : Bool := ((tk.lookup h.1).isSome || decide (0 ≤ S (true, h.1, z))) || match tk.lookup h.2.1 with
  | some u => decide (u - S (true, h.1, z) ≤ t)
  | none => false
def nearB (S : Sq) (tk : Tk) (z : Str) (t : Int) (y : Str) : Bool := match tk.lookup y with
  | some u => decide (u - S (false, z, y) ≤ t)
  | none => decide (0 ≤ S (false, z, y))
def freeB (m : Md) (S : Sq) (tk : Tk) (z : Str) (t : Int) : Bool := (bsN m).all (nearB S tk z t) && (hs m.wd).all (waitB S tk z t)
/-- what is due -/
def dueL (S : Sq) (tk : Tk) (z : Str) : List Int := tk.map fun p => p.2 + S (false, p.1, z)
def IsMin (l : List Int) (n : Int) : Prop := n ∈ l ∧ ∀ x ∈ l, n ≤ x
theorem IsMin.uniq {l : List Int} {a b : Int} (h : IsMin l a) (g : IsMin l b) : a = b := by
  have := h.2 b g.1
  have := g.2 a h.1
  omega
section
variable {P : Program} {w : World} {K : PySem.W.Frag} {mg : Str → Option Value} {base : Heap}
/-! ### ticks_of -/
def sp_ticks_of : Sp := fun vs H Q _ => ∃ (p : Addr) (ps : List V) (tk : Tk), vs = [.ref p] ∧ H p = some (.tup ps) ∧ Rows H ps (tk.map pR) ∧ (tk.map (·.1)).Nodup ∧ tk.length ≤ 300 ∧ ∀ (D : Addr) (H' : Hp), Same H H' → H D = none → H' D = some (.dK (tkL tk)) → Q (.ref D) H'
/-! ### is_waited, may_be_done -/
def sp_waited (K : PySem.W.Frag) : Sp := fun vs H Q _ => ∃ (b : TbA) (m : Md) (S : Sq) (D t : Addr) (tk : Tk) (h : Str × Str × Int × Int) (z : Str) (n : Int), vs = [.ref b.p, .ref D, .ref t, .str z, .int n] ∧ TabS K H b m S ∧ H D = some (.dK (tkL tk)) ∧ H t = some (.tup (hRow h)) ∧ h ∈ hs m.wd ∧ z ∈ bsN m ∧
  ∀ H', Same H H' → Q (.bl (waitB S tk z n h)) H'
def sp_mbd (K : PySem.W.Frag) : Sp := fun vs H Q _ => ∃ (p : Addr) (b : TbA) (m : Md) (S : Sq) (D : Addr) (tk : Tk) (z : Str) (n : Int), vs = [.ref p, .ref b.p, .ref D, .str z, .int n] ∧ WebAt (CW K) H p m ∧ TabS K H b m S ∧ H D = some (.dK (tkL tk)) ∧ z ∈ bsN m ∧
  ∀ H', Same H H' → Q (.bl (freeB m S tk z n)) H'
/-! ### due_tick -/
def sp_duet (K : PySem.W.Frag) : Sp := fun vs H Q _ => ∃ (b : TbA) (m : Md) (S : Sq) (D : Addr) (tk : Tk) (z : Str), vs = [.ref b.p, .ref D, .str z] ∧ TabS K H b m S ∧ (D ≠ b.d3 ∧ D ≠ b.d4) ∧ H D = some (.dK (tkL tk)) ∧ (tk.map (·.1)).Nodup ∧ (∀ p ∈ tk, p.1 ∈ bsN m) ∧ 0 < tk.length ∧ tk.length ≤ 300 ∧ z ∈ bsN m ∧
  ∀ (n : Int) (H' : Hp), IsMin (dueL S tk z) n → Same H H' → Q (.int n) H'
end
end Tw

set_option maxHeartbeats 4000000
namespace Tw
open PySem PySem.Spec PyProof.Rows L2
/-! waiter.py: a run, as it stands -/
abbrev CV (K : PySem.W.Frag) : Addr := He.ga K "Waiter"
def vF (b wb : Addr) (c : Int) (pt pa : Addr) : List (Str × V) := [("table", .ref b), ("web", .ref wb), ("clock", .int c), ("pairs", .ref pt), ("past", .ref pa)]
theorem v_tw : (("web" : Str) == "table") = false := by decide +kernel
theorem v_tc : (("clock" : Str) == "table") = false := by decide +kernel
theorem v_wc : (("clock" : Str) == "web") = false := by decide +kernel
theorem v_tp : (("pairs" : Str) == "table") = false := by decide +kernel
theorem v_wp : (("pairs" : Str) == "web") = false := by decide +kernel
theorem v_cp : (("pairs" : Str) == "clock") = false := by decide +kernel
theorem v_ta : (("past" : Str) == "table") = false := by decide +kernel
theorem v_wa : (("past" : Str) == "web") = false := by decide +kernel
theorem v_ca : (("past" : Str) == "clock") = false := by decide +kernel
theorem v_pa : (("past" : Str) == "pairs") = false := by decide +kernel
section
variable {b wb pt pa : Addr} {c : Int}
theorem vf_table : (vF b wb c pt pa).lookup ("table" : Str) = some (.ref b) := by unfold vF; rw [List.lookup_cons_self]
theorem vf_web : (vF b wb c pt pa).lookup ("web" : Str) = some (.ref wb) := by unfold vF; rw [List.lookup_cons, v_tw, List.lookup_cons_self]
theorem vf_clock : (vF b wb c pt pa).lookup ("clock" : Str) = some (.int c) := by unfold vF; rw [List.lookup_cons, v_tc, List.lookup_cons, v_wc, List.lookup_cons_self]
theorem vf_pairs : (vF b wb c pt pa).lookup ("pairs" : Str) = some (.ref pt) := by unfold vF; rw [List.lookup_cons, v_tp, List.lookup_cons, v_wp, List.lookup_cons, v_cp, List.lookup_cons_self]
theorem vf_past : (vF b wb c pt pa).lookup ("past" : Str) = some (.ref pa) := by unfold vF; rw [List.lookup_cons, v_ta, List.lookup_cons, v_wa, List.lookup_cons, v_ca, List.lookup_cons, v_pa, List.lookup_cons_self]
theorem vf_no {x : Str} (h : (["table", "web", "clock", "pairs", "past"] : List Str).all (fun y => !(x == y)) = true) : (vF b wb c pt pa).lookup x = none := by
  simp only [List.all_cons, List.all_nil, Bool.and_true, Bool.and_eq_true, Bool.not_eq_true'] at h
  obtain ⟨h1, h2, h3, h4, h5⟩ := h
  unfold vF
  rw [List.lookup_cons, h1, List.lookup_cons, h2, List.lookup_cons, h3, List.lookup_cons, h4, List.lookup_cons, h5]
  rfl
end
theorem pv_1 {x : V} : putF "table" x ([] : List (Str × V)) = ([("table", x)] : List (Str × V)) := rfl
theorem pv_2 {x a : V} : putF "web" x ([("table", a)] : List (Str × V)) = ([("table", a), ("web", x)] : List (Str × V)) := by
  simp only [putF, if_neg (show ¬ (("table" : Str) = "web") by decide +kernel)]
theorem pv_3 {x a b : V} : putF "clock" x ([("table", a), ("web", b)] : List (Str × V)) = ([("table", a), ("web", b), ("clock", x)] : List (Str × V)) := by
  simp only [putF, if_neg (show ¬ (("table" : Str) = "clock") by decide +kernel), if_neg (show ¬ (("web" : Str) = "clock") by decide +kernel)]
theorem pv_4 {x a b c : V} : putF "pairs" x ([("table", a), ("web", b), ("clock", c)] : List (Str × V)) = ([("table", a), ("web", b), ("clock", c), ("pairs", x)] : List (Str × V)) := by
  simp only [putF, if_neg (show ¬ (("table" : Str) = "pairs") by decide +kernel), if_neg (show ¬ (("web" : Str) = "pairs") by decide +kernel), if_neg (show ¬ (("clock" : Str) = "pairs") by decide +kernel)]
theorem pv_5 {x a b c d : V} : putF "past" x ([("table", a), ("web", b), ("clock", c), ("pairs", d)] : List (Str × V)) = ([("table", a), ("web", b), ("clock", c), ("pairs", d), ("past", x)] : List (Str × V)) := by
  simp only [putF, if_neg (show ¬ (("table" : Str) = "past") by decide +kernel), if_neg (show ¬ (("web" : Str) = "past") by decide +kernel), if_neg (show ¬ (("clock" : Str) = "past") by decide +kernel), if_neg (show ¬ (("pairs" : Str) = "past") by decide +kernel)]
/-- what was done and heard, of a web -/
structure TkOk (m : Md) (tk : Tk) : Prop where
  nd : (tk.map (·.1)).Nodup
  sub : ∀ p ∈ tk, p.1 ∈ bsN m
  some_ : 0 < tk.length
/-- a run stands at p -/
structure WtAt (K : PySem.W.Frag) (H : Hp) (p dx wb pt pa : Addr) (b : TbA) (m : Md) (S : Sq) (tk : Tk) (c : Int) : Prop where
  obj : H p = some (.ins (CV K) dx (vF b.p wb c pt pa))
  tab : TabS K H b m S
  web : WebAt (CW K) H wb m
  prs : ∃ ps, H pt = some (.tup ps) ∧ Rows H ps (tk.map pR)
theorem WtAt.same {K : PySem.W.Frag} {H H' : Hp} {p dx wb pt pa : Addr} {b : TbA} {m : Md} {S : Sq} {tk : Tk} {c : Int} (h : WtAt K H p dx wb pt pa b m S tk c) (s : Same H H') : WtAt K H' p dx wb pt pa b m S tk c := by
  obtain ⟨ps, h1, h2⟩ := h.prs
  exact ⟨s _ _ h.obj, h.tab.same s, h.web.same s, ps, s _ _ h1, h2.keep (Kt.of s)⟩
theorem tk_few {m : Md} {tk : Tk} (ok : MdOk m) (h : TkOk m tk) : tk.length ≤ 300 := by
  have h1 := Se.nodup_len (tk.map (·.1)) (bsN m) h.nd fun k hk => by
    obtain ⟨p, hp, rfl⟩ := List.mem_map.1 hk
    exact h.sub p hp
  rw [List.length_map] at h1
  have h2 := (bs_len ok).1
  omega
/-- an instance is written: a table, a web elsewhere stand -/
theorem TabS.sb {K : PySem.W.Frag} {H H' : Hp} {p C dx : Addr} {fs : List (Str × V)} {b : TbA} {m : Md} {S : Sq} (h : TabS K H b m S) (s : Sb p H H') (hp : H p = some (.ins C dx fs)) (ne : b.p ≠ p) : TabS K H' b m S := by
  obtain ⟨l1, l2, B, h1, h2⟩ := h
  obtain ⟨kb, e1, e2⟩ := B.bn
  obtain ⟨ks, e3, e4⟩ := B.sn
  exact ⟨l1, l2, ⟨s _ _ B.obj ne, s _ _ B.b (ne_of B.b hp (fun z => nomatch z)), s _ _ B.w (ne_of B.w hp (fun z => nomatch z)), ⟨kb, s _ _ e1 (ne_of e1 hp (fun z => nomatch z)), e2⟩, ⟨ks, s _ _ e3 (ne_of e3 hp (fun z => nomatch z)), e4⟩, B.nd1, B.nd2⟩, h1, h2⟩
theorem TabS.obj {K : PySem.W.Frag} {H : Hp} {b : TbA} {m : Md} {S : Sq} (h : TabS K H b m S) : H b.p = some (.ins (CT K) b.dx (tbF b)) := h.choose_spec.choose_spec.1.obj
theorem kt_sb {p C dx : Addr} {fs : List (Str × V)} {H H' : Hp} (s : Sb p H H') (hp : H p = some (.ins C dx fs)) : Kt H H' := fun x xs e => s x _ e (ne_of e hp (fun z => nomatch z))
theorem web_sb {K : PySem.W.Frag} {p q C dx : Addr} {fs : List (Str × V)} {H H' : Hp} {m : Md} (W : WebAt (CW K) H q m) (s : Sb p H H') (hp : H p = some (.ins C dx fs)) (ne : q ≠ p) : WebAt (CW K) H' q m := W.keep (fun _ _ e => s _ _ e ne) (kt_sb s hp)
section
variable {P : Program} {w : World} {K : PySem.W.Frag} {mg : Str → Option Value} {base : Heap}
/-- x(), a def without parameters -/
theorem pe_c0 {X : Cx} {k j : Nat} {x : Str} {sp : Sp} {p pos : Pos} (c : Cal X.prog X.w X.K X.mg X.base k x sp) (hr : Room j X.A) (hk : k ≤ j) (hg : Gl X x) (hdb : (x == ("__debug__" : Str)) = false := by decide) : PE X (.Call (.Name x p) [] [] pos) (tCall sp [] E0 tNil) :=
  let ⟨_, _, _, _, F, at_, kept, b, d⟩ := c.ex
  pe_call0 F (hr.mono hk) hg at_ kept b d pass0 hdb
/-! ### least_table, need_moment -/
def sp_ltab (K : PySem.W.Frag) : Sp := fun vs H Q _ => ∃ (p : Addr) (m : Md) (S : Sq), vs = [.ref p] ∧ WebAt (CW K) H p m ∧ MdOk m ∧ LsOk m S ∧ ∀ (b : TbA) (H' : Hp), Same H H' → TabS K H' b m S → Q (.ref b.p) H'
def sp_needm (K : PySem.W.Frag) : Sp := fun vs H Q _ => ∃ (p : Addr) (m : Md) (z : Str), vs = [.ref p, .str z] ∧ WebAt (CW K) H p m ∧ z ∈ m.own ∧ ∀ H', Same H H' → Q .non H'
/-! ### a new run -/
def tk0 : Tk := [("start", 0)]
def sp_vini (K : PySem.W.Frag) : Sp := fun vs H Q _ => ∃ (p dx wb : Addr) (m : Md) (S : Sq), vs = [.ref p, .ref wb] ∧ H p = some (.ins (CV K) dx []) ∧ WebAt (CW K) H wb m ∧ MdOk m ∧ LsOk m S ∧
  ∀ (b : TbA) (pt pa : Addr) (H' : Hp), Sb p H H' → WtAt K H' p dx wb pt pa b m S tk0 0 → H' pa = some (.lst []) → H pa = none → Q .non H'
/-! ### what a run tells -/
def sp_vtold (K : PySem.W.Frag) : Sp := fun vs H Q _ => ∃ (p dx wb pt pa : Addr) (b : TbA) (m : Md) (S : Sq) (tk : Tk) (c : Int), vs = [.ref p] ∧ WtAt K H p dx wb pt pa b m S tk c ∧ ∀ (D : Addr) (ps : List V), Rows H ps (tk.map pR) → H D = none → Q (.ref D) (upd H D (.lst ps))
def sp_vlen (K : PySem.W.Frag) : Sp := fun vs H Q _ => ∃ (p dx wb pt pa : Addr) (b : TbA) (m : Md) (S : Sq) (tk : Tk) (c : Int), vs = [.ref p] ∧ WtAt K H p dx wb pt pa b m S tk c ∧ Q (.int tk.length) H
def sp_vover (K : PySem.W.Frag) : Sp := fun vs H Q _ => ∃ (p dx wb pt pa : Addr) (b : TbA) (m : Md) (S : Sq) (tk : Tk) (c : Int), vs = [.ref p] ∧ WtAt K H p dx wb pt pa b m S tk c ∧ MdOk m ∧ TkOk m tk ∧ ∀ H', Same H H' → Q (.bl ((bsN m).all fun z => (tk.lookup z).isSome)) H'
/-! ### may, must, due -/
def leftL (m : Md) (tk : Tk) : List Str := m.own.filter fun z => !(tk.lookup z).isSome
def mayL (m : Md) (S : Sq) (tk : Tk) (c : Int) : List Str := m.own.filter fun z => !(tk.lookup z).isSome && freeB m S tk z c
theorem own_bs {m : Md} {z : Str} (h : z ∈ m.own) : z ∈ bsN m := List.mem_cons_of_mem _ (List.mem_append_left _ h)
theorem fm_filterV {α : Type} (l : List α) (f : α → Bool) : l.filterMap (fun x => if f x = true then some x else none) = l.filter f := by
  induction l with
  | nil => rfl
  | cons a r ih =>
    rw [List.filterMap_cons, List.filter_cons, ih]
    cases f a <;> rfl
def sp_vmay (K : PySem.W.Frag) : Sp := fun vs H Q _ => ∃ (p dx wb pt pa : Addr) (b : TbA) (m : Md) (S : Sq) (tk : Tk) (c : Int), vs = [.ref p] ∧ WtAt K H p dx wb pt pa b m S tk c ∧ MdOk m ∧ TkOk m tk ∧ ∀ (D : Addr) (H' : Hp), Same H H' → H D = none → H' D = some (.lst ((mayL m S tk c).map V.str)) → Q (.ref D) H'
/-- the due tick -/
def minL : List Int → Int
  | [] => 0
  | [a] => a
  | a :: b :: r => min a (minL (b :: r))
theorem minL_is : ∀ {l : List Int}, l ≠ [] → IsMin l (minL l)
  | [a], _ => ⟨List.mem_singleton.2 rfl, fun x hx => by rw [List.mem_singleton.1 hx]; exact Int.le_refl _⟩
  | a :: b :: r, _ => by
    obtain ⟨h1, h2⟩ := minL_is (l := b :: r) (fun z => nomatch z)
    show IsMin (a :: b :: r) (min a (minL (b :: r)))
    by_cases c : a ≤ minL (b :: r)
    · rw [Int.min_eq_left c]
      refine ⟨List.mem_cons_self, fun x hx => ?_⟩
      rcases List.mem_cons.1 hx with e | e
      · rw [e]
        exact Int.le_refl _
      · exact Int.le_trans c (h2 x e)
    · rw [Int.min_eq_right (by omega)]
      refine ⟨List.mem_cons_of_mem _ h1, fun x hx => ?_⟩
      rcases List.mem_cons.1 hx with e | e
      · rw [e]
        omega
      · exact h2 x e
def duN (S : Sq) (tk : Tk) (z : Str) : Int := minL (dueL S tk z)
theorem du_is {S : Sq} {tk : Tk} {z : Str} {n : Int} (h : IsMin (dueL S tk z) n) : n = duN S tk z := by
  refine h.uniq (minL_is fun e => ?_)
  rw [e] at h
  exact List.not_mem_nil h.1
def mustL (m : Md) (S : Sq) (tk : Tk) (c : Int) : List Str := m.own.filter fun z => !(tk.lookup z).isSome && decide (duN S tk z ≤ c)
def sp_vmust (K : PySem.W.Frag) : Sp := fun vs H Q _ => ∃ (p dx wb pt pa : Addr) (b : TbA) (m : Md) (S : Sq) (tk : Tk) (c : Int), vs = [.ref p] ∧ WtAt K H p dx wb pt pa b m S tk c ∧ MdOk m ∧ TkOk m tk ∧ ∀ (D : Addr) (H' : Hp), Same H H' → H D = none → H' D = some (.lst ((mustL m S tk c).map V.str)) → Q (.ref D) H'
/-- the tick of a moment, or when it is due -/
def whenN (S : Sq) (tk : Tk) (z : Str) : Int := match tk.lookup z with
  | some n => n
  | none => duN S tk z
def sp_vdue (K : PySem.W.Frag) : Sp := fun vs H Q _ => ∃ (p dx wb pt pa : Addr) (b : TbA) (m : Md) (S : Sq) (tk : Tk) (c : Int) (z : Str), vs = [.ref p, .str z] ∧ WtAt K H p dx wb pt pa b m S tk c ∧ MdOk m ∧ TkOk m tk ∧ z ∈ m.own ∧ ∀ H', Same H H' → Q (.int (whenN S tk z)) H'
end
end Tw

set_option maxHeartbeats 4000000
namespace Tw
open PySem PySem.Spec PyProof.Rows L2
/-! the laws' own runs -/
abbrev kTk : Key := .inr "ticks"
abbrev kCk : Key := .inr "clock"
abbrev kAc : Key := .inr "acted"
theorem kt_c : ¬ kTk = kCk := by decide +kernel
theorem kt_a : ¬ kTk = kAc := by decide +kernel
theorem kc_a : ¬ kCk = kAc := by decide +kernel
def stL (e : Addr) (c : Int) (a : Bool) : List (Key × V) := [(kTk, .ref e), (kCk, .int c), (kAc, .bl a)]
/-- a stand of the law's own run -/
structure LsAt (H : Hp) (d e : Addr) (tk : Tk) (c : Int) (a : Bool) : Prop where
  obj : H d = some (.dK (stL e c a))
  tks : H e = some (.dK (tkL tk))
  ne : d ≠ e
theorem LsAt.same {H H' : Hp} {d e : Addr} {tk : Tk} {c : Int} {a : Bool} (h : LsAt H d e tk c a) (s : Same H H') : LsAt H' d e tk c a := ⟨s _ _ h.obj, s _ _ h.tks, h.ne⟩
section
variable {H : Hp} {d e : Addr} {tk : Tk} {c : Int} {a : Bool}
theorem LsAt.ticks (h : LsAt H d e tk c a) : DGet H d (.str "ticks") (some (.ref e)) := by
  have g := DGet.k (k := kTk) h.obj
  rwa [show valV (stL e c a) kTk = some (.ref e) from valV_pos rfl] at g
theorem LsAt.clock (h : LsAt H d e tk c a) : DGet H d (.str "clock") (some (.int c)) := by
  have g := DGet.k (k := kCk) h.obj
  rwa [show valV (stL e c a) kCk = some (.int c) by unfold stL; rw [valV_neg kt_c, valV_pos rfl]] at g
theorem LsAt.acted (h : LsAt H d e tk c a) : DGet H d (.str "acted") (some (.bl a)) := by
  have g := DGet.k (k := kAc) h.obj
  rwa [show valV (stL e c a) kAc = some (.bl a) by unfold stL; rw [valV_neg kt_a, valV_neg kc_a, valV_pos rfl]] at g
theorem LsAt.at_ {z : Str} {n : Int} (h : LsAt H d e tk c a) (hz : tk.lookup z = some n) : DGet H e (.str z) (some (.int n)) := by
  have g := DGet.k (k := kS z) h.tks
  rwa [tk_val, hz] at g
end
theorem st_merge {e : Addr} {c : Int} {a : Bool} : mergeK [] [(kTk, V.ref e), (kCk, V.int c), (kAc, V.bl a)] = stL e c a := by
  show putK (putK (putK [] kTk (.ref e)) kCk (.int c)) kAc (.bl a) = stL e c a
  rw [putK_new (kvs := []) _ rfl, List.nil_append, putK_new (kvs := [(kTk, V.ref e)]) _ (by rw [valV_neg kt_c]; rfl), List.singleton_append]
  rw [putK_new (kvs := [(kTk, V.ref e), (kCk, V.int c)]) _ (by rw [valV_neg kt_a, valV_neg kc_a]; rfl)]
  rfl
theorem may_left (m : Md) (S : Sq) (tk : Tk) (c : Int) : ((leftL m tk).filter fun z => freeB m S tk z c) = mayL m S tk c := by
  unfold leftL mayL
  rw [List.filter_filter]
  exact congrArg (fun f => m.own.filter f) (funext fun z => Bool.and_comm _ _)
theorem must_left (m : Md) (S : Sq) (tk : Tk) (c : Int) : ((leftL m tk).filter fun z => decide (duN S tk z ≤ c)) = mustL m S tk c := by
  unfold leftL mustL
  rw [List.filter_filter]
  exact congrArg (fun f => m.own.filter f) (funext fun z => Bool.and_comm _ _)
/-- the amounts while a dict is locked -/
theorem Ds.lk {ns es : List Str} {N Z D : Addr} {H Hc : Hp} {S : Sq} {f : HO} {kvs : List (Key × V)} (h : Ds ns es N Z H S) (lk : Lk D f H Hc) (hD : H D = some (.dK kvs)) : Ds ns es N Z Hc S := ⟨lk.1 _ _ h.n (ne_of h.n hD (fun z => nomatch z)), lk.1 _ _ h.z (ne_of h.z hD (fun z => nomatch z)), h.ne⟩
section
variable {P : Program} {w : World} {K : PySem.W.Frag} {mg : Str → Option Value} {base : Heap}
def sp_begun : Sp := fun vs H Q _ => vs = [] ∧ ∀ (d e : Addr) (H' : Hp), Same H H' → H d = none → H e = none → LsAt H' d e [("start", 0)] 0 false → Q (.ref d) H'
def sp_left : Sp := fun vs H Q _ => ∃ (dm d e : Addr) (m : Md) (tk : Tk) (c : Int) (a : Bool), vs = [.ref dm, .ref d] ∧ MdAt H dm m ∧ m.own.length ≤ 10 ∧ LsAt H d e tk c a ∧ ∀ (D : Addr) (H' : Hp), Same H H' → H D = none → H' D = some (.lst ((leftL m tk).map V.str)) → Q (.ref D) H'
/-! ### _law_free, _law_may -/
def sp_lfree : Sp := fun vs H Q _ => ∃ (dm N Z d e : Addr) (m : Md) (S : Sq) (tk : Tk) (c : Int) (a : Bool) (z : Str), vs = [.ref dm, .ref N, .ref Z, .ref d, .str z] ∧ MdAt H dm m ∧ MdOk m ∧ Ds (bsN m) (esO (hs m.wd)) N Z H S ∧ LsAt H d e tk c a ∧ z ∈ bsN m ∧ ∀ H', Same H H' → Q (.bl (freeB m S tk z c)) H'
/-! ### _law_due_tick, _law_must -/
def sp_ldue : Sp := fun vs H Q _ => ∃ (N Z d e : Addr) (m : Md) (S : Sq) (tk : Tk) (c : Int) (a : Bool) (z : Str), vs = [.ref N, .ref d, .str z] ∧ Ds (bsN m) (esO (hs m.wd)) N Z H S ∧ LsAt H d e tk c a ∧ TkOk m tk ∧ tk.length ≤ 300 ∧ z ∈ bsN m ∧ ∀ H', Same H H' → Q (.int (duN S tk z)) H'
/-! ### _law_pairs -/
def sp_lpairs : Sp := fun vs H Q _ => ∃ (d e : Addr) (tk : Tk) (c : Int) (a : Bool), vs = [.ref d] ∧ LsAt H d e tk c a ∧ (tk.map (·.1)).Nodup ∧ tk.length ≤ 300 ∧ ∀ (D : Addr) (H' : Hp), Same H H' → H D = none → RowsAt H' D (tk.map pR) → Q (.ref D) H'
end
end Tw

set_option maxHeartbeats 4000000
namespace Tw
open PySem PySem.Spec PyProof.Rows L2
/-! _law_may, _law_must, _law_run_stands -/
section
variable {P : Program} {w : World} {K : PySem.W.Frag} {mg : Str → Option Value} {base : Heap}
def sp_lmay : Sp := fun vs H Q _ => ∃ (dm N Z d e : Addr) (m : Md) (S : Sq) (tk : Tk) (c : Int) (a : Bool), vs = [.ref dm, .ref N, .ref Z, .ref d] ∧ MdAt H dm m ∧ MdOk m ∧ Ds (bsN m) (esO (hs m.wd)) N Z H S ∧ LsAt H d e tk c a ∧ ∀ (D : Addr) (H' : Hp), Same H H' → H D = none → H' D = some (.lst ((mayL m S tk c).map V.str)) → Q (.ref D) H'
def sp_lmust : Sp := fun vs H Q _ => ∃ (dm N Z d e : Addr) (m : Md) (S : Sq) (tk : Tk) (c : Int) (a : Bool), vs = [.ref dm, .ref N, .ref d] ∧ MdAt H dm m ∧ MdOk m ∧ Ds (bsN m) (esO (hs m.wd)) N Z H S ∧ LsAt H d e tk c a ∧ TkOk m tk ∧ ∀ (D : Addr) (H' : Hp), Same H H' → H D = none → H' D = some (.lst ((mustL m S tk c).map V.str)) → Q (.ref D) H'
theorem pr_flat (tk : Tk) : ∀ r ∈ tk.map pR, r.all flatV = true ∧ r.length ≤ 1000 := fun r h => by
  obtain ⟨x, _, rfl⟩ := List.mem_map.mp h
  exact ⟨rfl, by show 2 ≤ 1000; decide⟩
def sp_lrs (K : PySem.W.Frag) : Sp := fun vs H Q _ => ∃ (p dx wb pt pa : Addr) (b : TbA) (dm N Z d e : Addr) (m : Md) (S : Sq) (tk : Tk) (c : Int) (a : Bool), vs = [.ref p, .ref dm, .ref N, .ref Z, .ref d] ∧ WtAt K H p dx wb pt pa b m S tk c ∧ MdAt H dm m ∧ MdOk m ∧ TkOk m tk ∧ Ds (bsN m) (esO (hs m.wd)) N Z H S ∧ LsAt H d e tk c a ∧ ∀ H', Same H H' → Q (.bl true) H'
end
end Tw

set_option maxHeartbeats 4000000
namespace Tw
open PySem PySem.Spec PyProof.Rows L2
/-! a closed table out of its amounts; webs without ties are steered -/
structure Amt (m : Md) (S : Sq) : Prop where
  bound : ∀ b ∈ bnT m, S (false, b.1, b.2.1) ≤ b.2.2
  late : ∀ p ∈ ltT m, S (true, p.1, p.1) ≤ p.2
  diag : ∀ x ∈ bsN m, S (false, x, x) = 0
  along : ∀ x ∈ bsN m, ∀ y ∈ bsN m, ∀ z ∈ bsN m, S (false, x, z) ≤ S (false, x, y) + S (false, y, z)
  wait : ∀ e ∈ enN m, ∀ x ∈ bsN m, ∀ y ∈ bsN m, S (true, e, x) ≤ S (false, x, y) + S (true, e, y)
  sure : ∀ h ∈ hs m.wd, ∀ x ∈ bsN m, S (false, x, h.2.1) ≤ max (S (true, h.1, x)) (-h.2.2.1)
  soon : ∀ h ∈ hs m.wd, ∀ x ∈ bsN m, S (false, h.1, x) < 0 → S (false, h.2.1, x) ≤ h.2.2.1 + S (false, h.1, x)
  ahead : ∀ h ∈ hs m.wd, ∀ e ∈ enN m, e ≠ h.1 → S (true, e, h.1) < 0 → S (true, e, h.2.1) ≤ h.2.2.1 + S (true, e, h.1)
  far : ∀ e ∈ enN m, ∀ x ∈ bsN m, ∃ y ∈ bsN m, S (false, x, y) ≤ S (true, e, x) + 2000
theorem sy_amt {m : Md} (ok : MdOk m) {S : Sq} (A : Amt m S) : Sy m := by
  have tl := tl_ok ok
  let t : Se.MS Str := ⟨(Se.keys (bsN m) (enN m)).map fun k => (k, (S k, none)), [], none⟩
  have ta : ∀ k, t.at k = if k ∈ Se.keys (bsN m) (enN m) then some (S k) else none := fun k => by
    show (Se.look k ((Se.keys (bsN m) (enN m)).map fun k => (k, ((S k, none) : Int × Option Nat)))).map _ = _
    rw [Se.look_keys (f := fun k => ((S k, none) : Int × Option Nat))]
    by_cases c : k ∈ Se.keys (bsN m) (enN m)
    · rw [if_pos c, if_pos c]
      rfl
    · rw [if_neg c, if_neg c]
      rfl
  have get : ∀ {k : Ky} {n : Int}, t.at k = some n → k ∈ Se.keys (bsN m) (enN m) ∧ n = S k := fun {k n} e => by
    rw [ta] at e
    by_cases c : k ∈ Se.keys (bsN m) (enN m)
    · rw [if_pos c] at e
      exact ⟨c, (Option.some.inj e).symm⟩
    · rw [if_neg c] at e
      cases e
  have le : ∀ {k : Ky} {n : Int}, k ∈ Se.keys (bsN m) (enN m) → S k ≤ n → Se.Le t k n := fun {k n} c l => ⟨S k, by rw [ta, if_pos c], l⟩
  have near : ∀ {x y : Str} {n : Int}, x ∈ bsN m → y ∈ bsN m → S (false, x, y) ≤ n → Se.Le t (false, x, y) n := fun hx hy l => le (Se.mem_most.2 ⟨hx, hy⟩) l
  have until_ : ∀ {e x : Str} {n : Int}, e ∈ enN m → x ∈ bsN m → S (true, e, x) ≤ n → Se.Le t (true, e, x) n := fun he hx l => le (Se.mem_until.2 ⟨he, hx⟩) l
  have Tt : Se.Told (bnT m) (ltT m) t := ⟨fun b hb => near (tl.bound b hb).1 (tl.bound b hb).2 (A.bound b hb), fun b hb => until_ (tl.late b hb).1 (en_in (tl.late b hb).1) (A.late b hb)⟩
  have way : ∀ x y, y ∈ bsN m → (x = y ∨ ∃ n, (x, y, n) ∈ bnT m ∧ n ≤ 2000) → Se.Le t (false, x, y) 2000 := by
    intro x y hy hw
    rcases hw with e | ⟨n, h1, h2⟩
    · rw [e]
      exact near hy hy (by rw [A.diag y hy]; decide)
    · exact (Tt.bound _ h1).up h2
  have nd : Se.Nd t := by
    show ((Se.keys (bsN m) (enN m)).map fun k => (k, ((S k, none) : Int × Option Nat))).map (·.1) |>.Nodup
    rw [List.map_map]
    show ((Se.keys (bsN m) (enN m)).map fun k => k).Nodup
    rw [List.map_id']
    exact nd_keys (bs_nodup ok) (hs_nd ok)
  refine ⟨t, ⟨⟨fun k n e => (get e).1, ⟨fun x hx => near hx hx (by rw [A.diag x hx]; exact Int.le_refl _), fun x n e => ?_⟩, ⟨tl.stin, fun x hx => ?_⟩, fun e he => ?_, fun e x a ea => ?_⟩, nd, Tt, .inl (Nat.zero_le _)⟩, ?_, ?_, ?_⟩
  · obtain ⟨c, e⟩ := get e
    rw [e, A.diag x (Se.mem_most.1 c).1]
    exact Int.le_refl _
  · obtain ⟨y, hy, h1, h2⟩ := tl.to x hx
    obtain ⟨z, hz, h3, h4⟩ := tl.fro x hx
    exact ⟨⟨y, hy, way x y hy h1, way y _ tl.stin h2⟩, z, hz, way _ z hz h3, way z x hx h4⟩
  · obtain ⟨n, hn⟩ := tl.lates e he
    exact (Tt.late _ hn).up (tl.late _ hn).2.1
  · obtain ⟨c, ea⟩ := get ea
    obtain ⟨he, hx⟩ := Se.mem_until.1 c
    obtain ⟨y, hy, l⟩ := A.far e he x hx
    exact ⟨y, _, near hx hy (Int.le_refl _), by rw [ea]; exact l⟩
  · intro v hv x hx z hz a b ha hb
    rw [(get ha).2, (get hb).2]
    exact near hx hz (A.along x hx v hv z hz)
  · intro e he y hy x hx o p ho hp
    rw [(get ho).2, (get hp).2]
    exact until_ he hx (A.wait e he x hx y hy)
  · intro w hw k n f hk hf
    obtain ⟨c, en⟩ := get hk
    subst en
    obtain ⟨u, x, y⟩ := k
    unfold Se.one at hf
    by_cases c0 : w = 0
    · rw [if_pos c0] at hf
      by_cases cu : u = true
      · subst cu
        rw [if_pos rfl] at hf
        obtain ⟨r, hr, e⟩ := Option.map_eq_some_iff.1 hf
        obtain ⟨hx, hy⟩ := Se.mem_until.1 c
        rcases hk_all (hs m.wd) x with ⟨z, _⟩ | ⟨h, hh, e1, e2⟩
        · rw [show hkOf (hs m.wd) x = some r from hr] at z
          cases z
        · rw [show hkOf (hs m.wd) x = some r from hr] at e2
          cases e2
          rw [← e]
          have l := A.sure h hh y hy
          rw [e1] at l
          exact near hy (bg_in (hs_ok ok hh).bg) l
      · rw [if_neg cu] at hf
        cases hf
    · rw [if_neg c0] at hf
      by_cases c1 : w = 1
      · rw [if_pos c1] at hf
        by_cases cu : u = false ∧ S (u, x, y) < 0
        · rw [if_pos cu] at hf
          obtain ⟨r, hr, e⟩ := Option.map_eq_some_iff.1 hf
          obtain ⟨cu, neg⟩ := cu
          subst cu
          obtain ⟨hx, hy⟩ := Se.mem_most.1 c
          rcases hk_all (hs m.wd) x with ⟨z, _⟩ | ⟨h, hh, e1, e2⟩
          · rw [show hkOf (hs m.wd) x = some r from hr] at z
            cases z
          · rw [show hkOf (hs m.wd) x = some r from hr] at e2
            cases e2
            rw [← e]
            subst e1
            exact near (bg_in (hs_ok ok hh).bg) hy (A.soon h hh y hy neg)
        · rw [if_neg cu] at hf
          cases hf
      · rw [if_neg c1] at hf
        by_cases cu : u = true ∧ ¬ x = y ∧ S (u, x, y) < 0
        · rw [if_pos cu] at hf
          obtain ⟨r, hr, e⟩ := Option.map_eq_some_iff.1 hf
          obtain ⟨cu, ne, neg⟩ := cu
          subst cu
          obtain ⟨hx, hy⟩ := Se.mem_until.1 c
          rcases hk_all (hs m.wd) y with ⟨z, _⟩ | ⟨h, hh, e1, e2⟩
          · rw [show hkOf (hs m.wd) y = some r from hr] at z
            cases z
          · rw [show hkOf (hs m.wd) y = some r from hr] at e2
            cases e2
            rw [← e]
            subst e1
            exact until_ hx (bg_in (hs_ok ok hh).bg) (A.ahead h hh x hx ne neg)
        · rw [if_neg cu] at hf
          cases hf
/-! ### no ties -/
/-- the moment that a base hangs on, what its end comes behind at most, and at least (below nought) -/
def ofE (m : Md) (x : Str) : Option (Str × Str × Int × Int) := (hs m.wd).find? fun h => decide (h.1 = x)
def rtE (m : Md) (x : Str) : Str := match ofE m x with
  | some h => h.2.1
  | none => x
def inE (m : Md) (x : Str) : Int := match ofE m x with
  | some h => h.2.2.2
  | none => 0
def ouE (m : Md) (x : Str) : Int := match ofE m x with
  | some h => -h.2.2.1
  | none => 0
def rR (m : Md) (x y : Str) : Int := if x = y then 0 else if y = "start" then 0 else m.last
def frSq (m : Md) : Sq := fun k => match k with
  | (false, x, y) => if x = y then 0 else ouE m x + rR m (rtE m x) (rtE m y) + inE m y
  | (true, e, x) => if e = x then -inE m e else ouE m x + rR m (rtE m x) (rtE m e)
theorem ofE_some {m : Md} (ok : MdOk m) {h : Str × Str × Int × Int} (hh : h ∈ hs m.wd) : ofE m h.1 = some h := by
  unfold ofE
  cases e : (hs m.wd).find? fun g => decide (g.1 = h.1) with
  | none => exact absurd (decide_eq_true rfl) (List.find?_eq_none.1 e h hh)
  | some g =>
    have hg := List.mem_of_find?_eq_some e
    have eg0 : (fun g : Str × Str × Int × Int => decide (g.1 = h.1)) g = true := List.find?_some (p := fun g : Str × Str × Int × Int => decide (g.1 = h.1)) e
    have eg : g.1 = h.1 := of_decide_eq_true eg0
    have h1 := hk_at2 (hs_nd ok) hg
    obtain ⟨i, hi, ei⟩ := List.mem_iff_getElem.1 hg
    obtain ⟨j, hj, ej⟩ := List.mem_iff_getElem.1 hh
    have e1 : ((hs m.wd).map (·.1))[i]? = some h.1 := by rw [List.getElem?_map, List.getElem?_eq_getElem hi, ei, ← eg]; rfl
    have e2 : ((hs m.wd).map (·.1))[j]? = some h.1 := by rw [List.getElem?_map, List.getElem?_eq_getElem hj, ej]; rfl
    have := (List.getElem?_inj (by rw [List.length_map]; exact hi) (hs_nd ok)).1 (e1.trans e2.symm)
    subst this
    rw [← ei, ej]
theorem ofE_none {m : Md} (ok : MdOk m) {x : Str} (hx : x = "start" ∨ x ∈ m.own) : ofE m x = none := by
  unfold ofE
  refine List.find?_eq_none.2 fun h hh e => ?_
  have e : h.1 = x := of_decide_eq_true e
  have hn := en_own ok (hs_ok ok hh).en
  rw [e] at hn
  rcases hx with z | z
  · exact hn.1 z
  · exact hn.2 z
/-- each base is a moment (or start), or a heard end -/
theorem bs_cases {m : Md} {x : Str} (hx : x ∈ bsN m) : (x = "start" ∨ x ∈ m.own) ∨ ∃ h ∈ hs m.wd, h.1 = x := by
  unfold bsN at hx
  rcases List.mem_cons.1 hx with e | e
  · exact .inl (.inl e)
  · rcases List.mem_append.1 e with e | e
    · exact .inl (.inr e)
    · obtain ⟨h, hh, e⟩ := List.mem_map.1 e
      exact .inr ⟨h, hh, e⟩
structure Hang (m : Md) (x : Str) : Prop where
  lo : -2000 ≤ ouE m x
  ou : ouE m x ≤ 0
  up : inE m x ≤ 2000
  io : 0 ≤ inE m x + ouE m x
  rt : rtE m x = "start" ∨ rtE m x ∈ m.own
theorem hang {m : Md} (ok : MdOk m) {x : Str} (hx : x ∈ bsN m) : Hang m x := by
  rcases bs_cases hx with c | ⟨h, hh, rfl⟩
  · have e := ofE_none ok c
    refine ⟨?_, ?_, ?_, ?_, ?_⟩
    · unfold ouE
      rw [e]
      decide
    · unfold ouE
      rw [e]
      exact Int.le_refl _
    · unfold inE
      rw [e]
      decide
    · unfold inE ouE
      rw [e]
      decide
    · unfold rtE
      rw [e]
      exact c
  · have e := ofE_some ok hh
    obtain ⟨y, hy, i, hi, rfl⟩ := hs_of ok hh
    have w := ok.wd y hy
    have l := w.la i hi
    have h1 := w.lo
    have h2 := w.hi
    have h3 := w.top
    refine ⟨?_, ?_, ?_, ?_, ?_⟩
    · unfold ouE
      rw [e]
      show -2000 ≤ -(y.lo + i)
      omega
    · unfold ouE
      rw [e]
      show -(y.lo + i) ≤ 0
      omega
    · unfold inE
      rw [e]
      show y.hi + i ≤ 2000
      omega
    · unfold inE ouE
      rw [e]
      show 0 ≤ (y.hi + i) + -(y.lo + i)
      omega
    · unfold rtE
      rw [e]
      exact w.bg
theorem rR_tri {m : Md} (h : 0 ≤ m.last) (x y z : Str) : rR m x z ≤ rR m x y + rR m y z ∧ 0 ≤ rR m x y := by
  unfold rR
  constructor
  · repeat' split
    all_goals first | omega | simp_all
  · repeat' split
    all_goals omega
theorem fr_amt {m : Md} (ok : MdOk m) (hb : m.bd = []) : Amt m (frSq m) := by
  have l0 : 0 ≤ m.last := by
    have := ok.last
    omega
  have tri := fun x y z => (rR_tri l0 x y z).1
  have pos := fun x y => (rR_tri l0 x y x).2
  have self : ∀ x, rR m x x = 0 := fun x => by
    unfold rR
    rw [if_pos rfl]
  have mom : ∀ {x : Str}, (x = "start" ∨ x ∈ m.own) → ouE m x = 0 ∧ inE m x = 0 ∧ rtE m x = x := fun {x} c => by
    have e := ofE_none ok c
    unfold ouE inE rtE
    rw [e]
    exact ⟨rfl, rfl, rfl⟩
  have end_ : ∀ {h : Str × Str × Int × Int}, h ∈ hs m.wd → ouE m h.1 = -h.2.2.1 ∧ inE m h.1 = h.2.2.2 ∧ rtE m h.1 = h.2.1 := fun {h} hh => by
    have e := ofE_some ok hh
    unfold ouE inE rtE
    rw [e]
    exact ⟨rfl, rfl, rfl⟩
  have bgn : ∀ {h : Str × Str × Int × Int}, h ∈ hs m.wd → ouE m h.2.1 = 0 ∧ inE m h.2.1 = 0 ∧ rtE m h.2.1 = h.2.1 := fun hh => mom (hs_ok ok hh).bg
  have ne_bg : ∀ {h g : Str × Str × Int × Int}, h ∈ hs m.wd → g ∈ hs m.wd → ¬ h.1 = g.2.1 := fun {h g} hh hg e => by
    have hn := en_own ok (hs_ok ok hh).en
    rw [e] at hn
    rcases (hs_ok ok hg).bg with z | z
    · exact hn.1 z
    · exact hn.2 z
  have F : ∀ x y, ¬ x = y → frSq m (false, x, y) = ouE m x + rR m (rtE m x) (rtE m y) + inE m y := fun x y n => if_neg n
  have F0 : ∀ x, frSq m (false, x, x) = 0 := fun x => if_pos rfl
  have G : ∀ e x, ¬ e = x → frSq m (true, e, x) = ouE m x + rR m (rtE m x) (rtE m e) := fun e x n => if_neg n
  have G0 : ∀ e, frSq m (true, e, e) = -inE m e := fun e => if_pos rfl
  refine ⟨fun b hb' => ?_, fun p hp => ?_, fun x _ => F0 x, fun x hx y hy z hz => ?_, fun e he x hx y hy => ?_, fun h hh x hx => ?_, fun h hh x hx neg => ?_, fun h hh e he ne neg => ?_, fun e he x hx => ⟨x, hx, ?_⟩⟩
  · unfold bnT at hb'
    rw [hb, List.flatMap_nil, List.append_nil] at hb'
    rcases List.mem_append.1 hb' with h | h
    · obtain ⟨z, hz, h⟩ := List.mem_flatMap.1 h
      obtain ⟨o, i, r⟩ := mom (.inr hz)
      obtain ⟨o2, i2, r2⟩ := mom (x := "start") (.inl rfl)
      have nz : ¬ ("start" : Str) = z := fun e => by
        have := (pool_nm (ok.pool z (List.mem_append_left _ hz))).2
        exact this e.symm
      unfold mT at h
      rcases List.mem_cons.1 h with e | e
      · subst e
        show frSq m (false, "start", z) ≤ m.last
        rw [F _ _ nz, o2, i, r, r2]
        unfold rR
        rw [if_neg nz, if_neg (fun e => nz e.symm)]
        omega
      · cases List.mem_singleton.1 e
        show frSq m (false, z, "start") ≤ 0
        rw [F _ _ (fun e => nz e.symm), o, i2, r, r2]
        unfold rR
        rw [if_neg (fun e => nz e.symm), if_pos rfl]
        omega
    · obtain ⟨g, hg, h⟩ := List.mem_flatMap.1 h
      obtain ⟨o, i, r⟩ := end_ hg
      obtain ⟨o2, i2, r2⟩ := bgn hg
      have nz := ne_bg hg hg
      unfold h2T at h
      rcases List.mem_cons.1 h with e | e
      · subst e
        show frSq m (false, g.2.1, g.1) ≤ g.2.2.2
        rw [F _ _ (fun e => nz e.symm), o2, i, r, r2, self]
        omega
      · cases List.mem_singleton.1 e
        show frSq m (false, g.1, g.2.1) ≤ -g.2.2.1
        rw [F _ _ nz, o, i2, r, r2, self]
        omega
  · obtain ⟨g, hg, rfl⟩ := List.mem_map.1 hp
    show frSq m (true, g.1, g.1) ≤ -g.2.2.2
    rw [G0, (end_ hg).2.1]
    exact Int.le_refl _
  · have hX := hang ok hx
    have hY := hang ok hy
    have hZ := hang ok hz
    have t1 := tri (rtE m x) (rtE m y) (rtE m z)
    have p1 := pos (rtE m x) (rtE m y)
    have p2 := pos (rtE m y) (rtE m z)
    have p3 := pos (rtE m y) (rtE m x)
    have := hX.io
    have := hY.io
    by_cases c1 : x = y
    · subst c1
      rw [F0]
      omega
    by_cases c2 : y = z
    · subst c2
      rw [F0 y]
      omega
    rw [F x y c1, F y z c2]
    by_cases c3 : x = z
    · subst c3
      rw [F0]
      omega
    · rw [F x z c3]
      omega
  · have hX := hang ok hx
    have hY := hang ok hy
    have hE := hang ok (en_in he)
    have t1 := tri (rtE m x) (rtE m y) (rtE m e)
    have p1 := pos (rtE m x) (rtE m y)
    have p2 := pos (rtE m y) (rtE m e)
    have := hX.io
    have := hY.io
    have := hE.io
    by_cases c1 : x = y
    · subst c1
      rw [F0]
      omega
    rw [F x y c1]
    by_cases c2 : e = y
    · subst c2
      rw [G0, G e x (fun z => c1 z.symm)]
      omega
    rw [G e y c2]
    by_cases c3 : e = x
    · subst c3
      rw [G0]
      omega
    · rw [G e x c3]
      omega
  · obtain ⟨o, i, r⟩ := end_ hh
    obtain ⟨o2, i2, r2⟩ := bgn hh
    by_cases c1 : x = h.2.1
    · subst c1
      rw [F0, G _ _ (ne_bg hh hh), o2, r, r2, self]
      omega
    · rw [F _ _ c1, i2, r2]
      by_cases c2 : h.1 = x
      · subst c2
        rw [o, r, self]
        omega
      · rw [G _ _ c2, r]
        omega
  · obtain ⟨o, i, r⟩ := end_ hh
    obtain ⟨o2, i2, r2⟩ := bgn hh
    have c1 : ¬ h.1 = x := fun e => by
      subst e
      rw [F0] at neg
      omega
    have hX := hang ok hx
    have := hX.io
    have := hX.ou
    have p1 := pos h.2.1 (rtE m x)
    rw [F _ _ c1, o, r]
    by_cases c2 : h.2.1 = x
    · subst c2
      rw [F0]
      omega
    · rw [F _ _ c2, o2, r2]
      omega
  · obtain ⟨o, i, r⟩ := end_ hh
    obtain ⟨o2, i2, r2⟩ := bgn hh
    obtain ⟨g, hg, rfl⟩ := List.mem_map.1 he
    rw [G _ _ ne, o, r, G _ _ (ne_bg hg hh), o2, r2]
    omega
  · have hX := hang ok hx
    have hE := hang ok (en_in he)
    have := hX.lo
    have := hE.up
    rw [F0]
    by_cases c1 : e = x
    · subst c1
      rw [G0]
      omega
    · rw [G _ _ c1]
      have := pos (rtE m x) (rtE m e)
      omega
/-- a web without ties is steered -/
theorem sy_free {m : Md} (ok : MdOk m) (hb : m.bd = []) : Sy m := sy_amt ok (fr_amt ok hb)
end Tw

set_option maxHeartbeats 4000000
namespace Tw
open PySem PySem.Spec PyProof.Rows L2
/-! waiter.py: steps that are let -/
section
variable {X : Cx} {o : Expr} {f : Str} {pos : Pos} {ta : TE}
def gFldS (K : PySem.W.Frag) (ta : TE) (f : Str) : TG := fun v σ H Q => ta σ H fun x H1 => ∃ a C dx fs, x = .ref a ∧ H1 a = some (.ins C dx fs) ∧ Cls K C ∧ NoAttr K C f ∧ fs.length < 1000 ∧ Q σ (upd H1 a (.ins C dx (putF f v fs)))
/-- an attribute among several targets -/
theorem pg_fldS (ha : PE X o ta) : PG X (.Attribute o f pos) (gFldS X.K ta f) := by
  constructor
  intro pins s σ H v u Q I r w
  rw [assign_Attribute]
  refine wpAny_bind (wpAny_holding (thn (ha.run pins s σ H _ I w) ?_))
  rintro ov s1 ⟨x, H1, I1, rx, a, C, dx, fs, rfl, ea, c, n, l, q⟩
  obtain rfl : ov = Value.ref a := rx
  exact wpAny_bind (wpAny_standAt (wpAny_bind (wpAny_holding (setattr_ok I1 ea c n l r fun s2 I2 => wpAny_release ⟨σ, _, I2, q⟩))))
end
theorem vf_pw {b wb wb' pt pa : Addr} {c : Int} : putF "web" (.ref wb') (vF b wb c pt pa) = vF b wb' c pt pa := by
  unfold vF
  simp only [putF, if_neg (show ¬ (("table" : Str) = "web") by decide +kernel), if_true]
theorem vf_pt {b b' wb pt pa : Addr} {c : Int} : putF "table" (.ref b') (vF b wb c pt pa) = vF b' wb c pt pa := by
  unfold vF
  simp only [putF, if_true]
theorem vf_pc {b wb pt pa : Addr} {c c' : Int} : putF "clock" (.int c') (vF b wb c pt pa) = vF b wb c' pt pa := by
  unfold vF
  simp only [putF, if_neg (show ¬ (("table" : Str) = "clock") by decide +kernel), if_neg (show ¬ (("web" : Str) = "clock") by decide +kernel), if_true]
theorem vf_pp {b wb pt pt' pa : Addr} {c : Int} : putF "pairs" (.ref pt') (vF b wb c pt pa) = vF b wb c pt' pa := by
  unfold vF
  simp only [putF, if_neg (show ¬ (("table" : Str) = "pairs") by decide +kernel), if_neg (show ¬ (("web" : Str) = "pairs") by decide +kernel), if_neg (show ¬ (("clock" : Str) = "pairs") by decide +kernel), if_true]
/-- a run and its past changed: all else stands -/
theorem TabS.sb2 {K : PySem.W.Frag} {H H' : Hp} {p pa C dx : Addr} {fs : List (Str × V)} {xs : List V} {b : TbA} {m : Md} {S : Sq} (h : TabS K H b m S) (s : Sb2 p pa H H') (hp : H p = some (.ins C dx fs)) (ha : H pa = some (.lst xs)) (ne : b.p ≠ p) : TabS K H' b m S := by
  obtain ⟨l1, l2, B, h1, h2⟩ := h
  obtain ⟨kb, e1, e2⟩ := B.bn
  obtain ⟨ks, e3, e4⟩ := B.sn
  exact ⟨l1, l2, ⟨s _ _ B.obj ne (ne_of B.obj ha (fun z => nomatch z)), s _ _ B.b (ne_of B.b hp (fun z => nomatch z)) (ne_of B.b ha (fun z => nomatch z)), s _ _ B.w (ne_of B.w hp (fun z => nomatch z)) (ne_of B.w ha (fun z => nomatch z)), ⟨kb, s _ _ e1 (ne_of e1 hp (fun z => nomatch z)) (ne_of e1 ha (fun z => nomatch z)), e2⟩, ⟨ks, s _ _ e3 (ne_of e3 hp (fun z => nomatch z)) (ne_of e3 ha (fun z => nomatch z)), e4⟩, B.nd1, B.nd2⟩, h1, h2⟩
theorem kt_sb2 {p pa C dx : Addr} {fs : List (Str × V)} {xs : List V} {H H' : Hp} (s : Sb2 p pa H H') (hp : H p = some (.ins C dx fs)) (ha : H pa = some (.lst xs)) : Kt H H' := fun x ys e => s x _ e (ne_of e hp (fun z => nomatch z)) (ne_of e ha (fun z => nomatch z))
theorem WtAt.nbp {K : PySem.W.Frag} {H : Hp} {p dx wb pt pa : Addr} {b : TbA} {m : Md} {S : Sq} {tk : Tk} {c : Int} (U : WtAt K H p dx wb pt pa b m S tk c) : b.p ≠ p := fun e => by
  have g := U.tab.obj
  rw [e, U.obj] at g
  have z := (HO.ins.inj (Option.some.inj g)).2.2
  unfold tbF vF at z
  cases congrArg List.length z
theorem WtAt.nwp {K : PySem.W.Frag} {H : Hp} {p dx wb pt pa : Addr} {b : TbA} {m : Md} {S : Sq} {tk : Tk} {c : Int} (U : WtAt K H p dx wb pt pa b m S tk c) : wb ≠ p := fun e => by
  obtain ⟨dx', _, _, _, _, _, g, _⟩ := U.web.ex
  rw [e, U.obj] at g
  have z := (HO.ins.inj (Option.some.inj g)).2.2
  unfold wf vF at z
  cases congrArg List.length z
/-- the run at another stand, the web and the table the same -/
theorem WtAt.move {K : PySem.W.Frag} {H H' : Hp} {p dx wb pt pt' pa : Addr} {b : TbA} {m : Md} {S : Sq} {tk tk' : Tk} {c c' : Int} {xs : List V} (U : WtAt K H p dx wb pt pa b m S tk c) (ha : H pa = some (.lst xs)) (s : Sb2 p pa H H') (hp : H' p = some (.ins (CV K) dx (vF b.p wb c' pt' pa))) (hpr : ∃ ps, H' pt' = some (.tup ps) ∧ Rows H' ps (tk'.map pR)) : WtAt K H' p dx wb pt' pa b m S tk' c' :=
  ⟨hp, U.tab.sb2 s U.obj ha U.nbp, U.web.keep (fun _ _ e => s _ _ e U.nwp (ne_of e ha (fun z => nomatch z))) (kt_sb2 s U.obj ha), hpr⟩
/-- a row of the past -/
def stR (wb b : Addr) (c : Int) (pt : Addr) : List V := [.ref wb, .ref b, .int c, .ref pt]
section
variable {P : Program} {w : World} {K : PySem.W.Frag} {mg : Str → Option Value} {base : Heap}
def sp_standing (K : PySem.W.Frag) : Sp := fun vs H Q _ => ∃ (p dx b wb pt pa : Addr) (c : Int), vs = [.ref p] ∧ H p = some (.ins (CV K) dx (vF b wb c pt pa)) ∧ ∀ t, H t = none → Q (.ref t) (upd H t (.tup (stR wb b c pt)))
def sp_stand (K : PySem.W.Frag) : Sp := fun vs H Q _ => ∃ (p dx b wb pt pa b' wb' pt' t : Addr) (c c' : Int), vs = [.ref p, .ref t] ∧ H p = some (.ins (CV K) dx (vF b wb c pt pa)) ∧ H t = some (.tup (stR wb' b' c' pt')) ∧ ∀ H', Sb p H H' → H' p = some (.ins (CV K) dx (vF b' wb' c' pt' pa)) → Q .non H'
def sp_stepto (K : PySem.W.Frag) : Sp := fun vs H Q _ => ∃ (p dx b wb pt pa b' wb' pt' : Addr) (c c' : Int) (xs : List V), vs = [.ref p, .ref wb', .ref b', .int c', .ref pt'] ∧ H p = some (.ins (CV K) dx (vF b wb c pt pa)) ∧ H pa = some (.lst xs) ∧ xs.length ≤ 900 ∧
  ∀ (t : Addr) (H' : Hp), Sb2 p pa H H' → H' p = some (.ins (CV K) dx (vF b' wb' c' pt' pa)) → H' pa = some (.lst (xs ++ [.ref t])) → H' t = some (.tup (stR wb b c pt)) → Q .non H'
end
end Tw

set_option maxHeartbeats 4000000
/-! xs == [] -/
namespace Tw
open PySem PySem.Spec PyProof.Rows L2
def rEqNil (K : PySem.W.Frag) : R2 := fun x y H Q => ∃ a b xs, x = .ref a ∧ y = .ref b ∧ SqL K H a xs ∧ SqL K H b [] ∧ Q (.bl xs.isEmpty) H
theorem op_eqNil {X : Cx} (hu : X.A.units + 1 < cLine) : OpR X (compareOp .Eq) (rEqNil X.K) := by
  intro pins s σ H x y v u Q I rx ry h
  obtain ⟨a, b, xs, rfl, rfl, ha, hb, q⟩ := h
  cases rx
  cases ry
  obtain ⟨its, r1, l1, _⟩ := I.list ha
  obtain ⟨its2, r2, l2, _⟩ := I.list hb
  cases r2
  have le := r1.length
  match xs, its, r1, le, l1, q with
  | [], [], _, _, l1, q =>
    exact SeqAt.eq_listAt (e := fun _ => true) l1.isList l2.isList rfl (by omega) (fun j h1 _ => absurd h1 (Nat.not_lt_zero _)) ⟨.bl true, H, I, rfl, q⟩
  | _ :: _, _ :: _, _, _, l1, q =>
    refine SeqAt.eq_list_lengthsAt l1.isList l2.isList ?_ (by omega) ⟨.bl false, H, I, rfl, q⟩
    simp
  | [], _ :: _, _, le, _, _ => cases le
  | _ :: _, [], _, le, _, _ => cases le
end Tw

set_option maxHeartbeats 4000000
namespace Tw
open PySem PySem.Spec PyProof.Rows L2
/-! waiter.py: what is let before a step -/
theorem bb_any : bootBuiltins "any" = some (.builtin "any") := by decide +kernel
/-- a moment was done at this tick -/
def actB (m : Md) (tk : Tk) (c : Int) : Bool := tk.any fun p => decide (p.2 = c) && decide (p.1 ∈ m.own)
/-- an end must be heard first -/
def unhB (tk : Tk) (c : Int) (h : Str × Str × Int × Int) : Bool := !(tk.lookup h.1).isSome && match tk.lookup h.2.1 with
  | some u => decide (h.2.2.2 ≤ c - u)
  | none => false
section
variable {P : Program} {w : World} {K : PySem.W.Frag} {mg : Str → Option Value} {base : Heap}
def sp_acted (K : PySem.W.Frag) : Sp := fun vs H Q _ => ∃ (wb pt : Addr) (m : Md) (ps : List V) (tk : Tk) (c : Int), vs = [.ref wb, .ref pt, .int c] ∧ WebAt (CW K) H wb m ∧ H pt = some (.tup ps) ∧ Rows H ps (tk.map pR) ∧ tk.length ≤ 300 ∧ ∀ H', Same H H' → Q (.bl (actB m tk c)) H'
def sp_allheard (K : PySem.W.Frag) : Sp := fun vs H Q _ => ∃ (p dx wb pt pa : Addr) (b : TbA) (m : Md) (S : Sq) (tk : Tk) (c : Int), vs = [.ref p] ∧ WtAt K H p dx wb pt pa b m S tk c ∧ MdOk m ∧ TkOk m tk ∧ (∀ h ∈ hs m.wd, unhB tk c h = false) ∧ ∀ H', Same H H' → Q .non H'
end
end Tw

set_option maxHeartbeats 4000000
namespace Tw
open PySem PySem.Spec PyProof.Rows L2
/-! waiter.py: steps let -/
/-- an end can be heard at this tick -/
structure Hrb (m : Md) (tk : Tk) (c : Int) (h : Str × Str × Int × Int) (u : Int) : Prop where
  mem : h ∈ hs m.wd
  new : tk.lookup h.1 = none
  beg : tk.lookup h.2.1 = some u
  lo : h.2.2.1 ≤ c - u
  hi : c - u ≤ h.2.2.2
theorem hs_nodup : ∀ {l : List Wd}, (l.map (·.en)).Nodup → ((hs l).map (·.1)).Nodup
  | [], _ => List.nodup_nil
  | x :: r, nd => by
    have h2 := List.nodup_cons.1 nd
    have ih := hs_nodup h2.2
    have e : ∀ z ∈ (hs r).map (·.1), z ∈ r.map (·.en) := fun z hz => by
      obtain ⟨h, hh, rfl⟩ := List.mem_map.1 hz
      obtain ⟨y, hy, ey⟩ := List.mem_filterMap.1 hh
      cases el : y.la with
      | none => rw [el] at ey; cases ey
      | some i =>
        rw [el] at ey
        cases ey
        exact List.mem_map.2 ⟨y, hy, rfl⟩
    unfold hs at ih ⊢
    rw [List.filterMap_cons]
    cases el : x.la with
    | none => exact ih
    | some i => exact List.nodup_cons.2 ⟨fun z => h2.1 (e _ z), ih⟩
section
variable {P : Program} {w : World} {K : PySem.W.Frag} {mg : Str → Option Value} {base : Heap}
def sp_hearable (K : PySem.W.Frag) : Sp := fun vs H Q _ => ∃ (p dx wb pt pa : Addr) (b : TbA) (m : Md) (S : Sq) (tk : Tk) (c : Int) (h : Str × Str × Int × Int) (u : Int), vs = [.ref p, .str h.1] ∧ WtAt K H p dx wb pt pa b m S tk c ∧ MdOk m ∧ TkOk m tk ∧ Hrb m tk c h u ∧ ∀ H', Same H H' → Q .non H'
end
end Tw

set_option maxHeartbeats 4000000
namespace Tw
open PySem PySem.Spec PyProof.Rows L2
/-! waiter.py: do, hear, pass_on where they are let -/
section
variable {P : Program} {w : World} {K : PySem.W.Frag} {mg : Str → Option Value} {base : Heap}
/-- what a step leaves: the run moved, the last stand kept -/
def StepTo (K : PySem.W.Frag) (p dx wb pt pa : Addr) (b : TbA) (m : Md) (S : Sq) (tk' : Tk) (c c' : Int) (xs : List V) (H : Hp) (Q : Hp → Prop) : Prop := ∀ (t pt' : Addr) (H' : Hp), Sb2 p pa H H' → WtAt K H' p dx wb pt' pa b m S tk' c' → H' pa = some (.lst (xs ++ [.ref t])) → H' t = some (.tup (stR wb b.p c pt)) → Q H'
def sp_vhear (K : PySem.W.Frag) : Sp := fun vs H Q _ => ∃ (p dx wb pt pa : Addr) (b : TbA) (m : Md) (S : Sq) (tk : Tk) (c : Int) (h : Str × Str × Int × Int) (u : Int) (xs : List V), vs = [.ref p, .str h.1] ∧ WtAt K H p dx wb pt pa b m S tk c ∧ MdOk m ∧ TkOk m tk ∧ Hrb m tk c h u ∧ actB m tk c = false ∧ H pa = some (.lst xs) ∧ xs.length ≤ 900 ∧ StepTo K p dx wb pt pa b m S (tk ++ [(h.1, c)]) c c xs H (Q .non)
def sp_vdo (K : PySem.W.Frag) : Sp := fun vs H Q _ => ∃ (p dx wb pt pa : Addr) (b : TbA) (m : Md) (S : Sq) (tk : Tk) (c : Int) (z : Str) (xs : List V), vs = [.ref p, .str z] ∧ WtAt K H p dx wb pt pa b m S tk c ∧ MdOk m ∧ TkOk m tk ∧ (∀ h ∈ hs m.wd, unhB tk c h = false) ∧ z ∈ mayL m S tk c ∧ H pa = some (.lst xs) ∧ xs.length ≤ 900 ∧ StepTo K p dx wb pt pa b m S (tk ++ [(z, c)]) c c xs H (Q .non)
def sp_vpass (K : PySem.W.Frag) : Sp := fun vs H Q _ => ∃ (p dx wb pt pa : Addr) (b : TbA) (m : Md) (S : Sq) (tk : Tk) (c : Int) (xs : List V), vs = [.ref p] ∧ WtAt K H p dx wb pt pa b m S tk c ∧ MdOk m ∧ TkOk m tk ∧ (∀ h ∈ hs m.wd, unhB tk c h = false) ∧ mustL m S tk c = [] ∧ ((bsN m).all fun z => (tk.lookup z).isSome) = false ∧ H pa = some (.lst xs) ∧ xs.length ≤ 900 ∧ StepTo K p dx wb pt pa b m S tk c (c + 1) xs H (Q .non)
end
end Tw

set_option maxHeartbeats 4000000
namespace Tw
open PySem PySem.Spec PyProof.Rows L2
/-! the laws' own runs: what can be heard, what must be -/
/-- ticks gone since the begin of a span, or -1 -/
def goneN (tk : Tk) (c : Int) (h : Str × Str × Int × Int) : Int := c - (tk.lookup h.2.1).getD (c + 1)
def hearB (tk : Tk) (c : Int) (a : Bool) (h : Str × Str × Int × Int) : Bool := (!(tk.lookup h.1).isSome && (decide (h.2.2.1 ≤ goneN tk c h) && decide (goneN tk c h ≤ h.2.2.2))) && !a
def lateU (tk : Tk) (c : Int) (h : Str × Str × Int × Int) : Bool := !(tk.lookup h.1).isSome && decide (h.2.2.2 ≤ goneN tk c h)
theorem hs_low {m : Md} (ok : MdOk m) {h : Str × Str × Int × Int} (hh : h ∈ hs m.wd) : 1 ≤ h.2.2.1 ∧ h.2.2.1 ≤ h.2.2.2 := by
  obtain ⟨x, hx, e⟩ := List.mem_filterMap.1 hh
  have w := ok.wd x hx
  cases el : x.la with
  | none => rw [el] at e; cases e
  | some i =>
    rw [el] at e
    cases e
    have := w.lo
    have := w.hi
    have := w.la i el
    constructor
    · show 1 ≤ x.lo + i
      omega
    · show x.lo + i ≤ x.hi + i
      omega
theorem hear_let {m : Md} {tk : Tk} {c : Int} {a : Bool} {h : Str × Str × Int × Int} (ok : MdOk m) (hh : h ∈ hs m.wd) (e : hearB tk c a h = true) : a = false ∧ ∃ u, Hrb m tk c h u := by
  unfold hearB at e
  rw [Bool.and_eq_true, Bool.and_eq_true, Bool.and_eq_true] at e
  obtain ⟨⟨e1, e2, e3⟩, e4⟩ := e
  have l1 := of_decide_eq_true e2
  have l2 := of_decide_eq_true e3
  have := hs_low ok hh
  unfold goneN at l1 l2
  cases hb : tk.lookup h.2.1 with
  | none =>
    rw [hb] at l1
    have : h.2.2.1 ≤ c - (c + 1) := l1
    omega
  | some u =>
    rw [hb] at l1 l2
    refine ⟨?_, u, hh, ?_, hb, l1, l2⟩
    · cases a with
      | false => rfl
      | true => exact absurd e4 Bool.false_ne_true
    · cases hc : tk.lookup h.1 with
      | none => rfl
      | some _ => rw [hc] at e1; exact absurd e1 Bool.false_ne_true
theorem late_un {m : Md} {tk : Tk} {c : Int} {h : Str × Str × Int × Int} (ok : MdOk m) (hh : h ∈ hs m.wd) : lateU tk c h = unhB tk c h := by
  unfold lateU unhB goneN
  have := hs_low ok hh
  cases hb : tk.lookup h.2.1 with
  | none =>
    rw [show decide (h.2.2.2 ≤ c - (none : Option Int).getD (c + 1)) = false from decide_eq_false (by show ¬ h.2.2.2 ≤ c - (c + 1); omega)]
  | some u => rfl
theorem filter_take {α : Type} {f : α → Bool} {l : List α} {i : Nat} {a : α} (e : l[i]? = some a) : (l.take (i + 1)).filter f = (l.take i).filter f ++ if f a then [a] else [] := by
  rw [List.take_add_one, e, List.filter_append]
  congr 1
  show List.filter f [a] = _
  rw [List.filter_cons, List.filter_nil]
theorem gone_v {tk : Tk} {z : Str} {c : Int} : (valV (tkL tk) (kS z)).getD (V.int (c + 1)) = V.int ((tk.lookup z).getD (c + 1)) := by
  rw [tk_val]
  cases tk.lookup z <;> rfl
section
variable {P : Program} {w : World} {K : PySem.W.Frag} {mg : Str → Option Value} {base : Heap}
def sp_lhear : Sp := fun vs H Q _ => ∃ (dm d e : Addr) (m : Md) (tk : Tk) (c : Int) (a : Bool), vs = [.ref dm, .ref d] ∧ MdAt H dm m ∧ MdOk m ∧ LsAt H d e tk c a ∧ ∀ (D : Addr) (H' : Hp), Same H H' → H D = none → H' D = some (.lst ((((hs m.wd).filter (hearB tk c a)).map (·.1)).map V.str)) → Q (.ref D) H'
end
end Tw

set_option maxHeartbeats 4000000
namespace Tw
open PySem PySem.Spec PyProof.Rows L2
/-! the laws' own runs: unheard ends, a stand moved on, the call -/
section
variable {P : Program} {w : World} {K : PySem.W.Frag} {mg : Str → Option Value} {base : Heap}
def sp_lunh : Sp := fun vs H Q _ => ∃ (dm d e : Addr) (m : Md) (tk : Tk) (c : Int) (a : Bool), vs = [.ref dm, .ref d] ∧ MdAt H dm m ∧ MdOk m ∧ LsAt H d e tk c a ∧ ∀ (D : Addr) (H' : Hp), Same H H' → H D = none → H' D = some (.lst ((((hs m.wd).filter (unhB tk c)).map (·.1)).map V.str)) → Q (.ref D) H'
/-! ### moves -/
/-- a move: told as a row -/
inductive Mov where
  | hear (h : Str × Str × Int × Int)
  | doo (z : Str)
  | pass
def Mov.row : Mov → List V
  | .hear h => [.str "hear", .str h.1]
  | .doo z => [.str "do", .str z]
  | .pass => [.str "pass", .str ""]
def Mov.tk (tk : Tk) (c : Int) : Mov → Tk
  | .hear h => tk ++ [(h.1, c)]
  | .doo z => tk ++ [(z, c)]
  | .pass => tk
def Mov.ck (c : Int) : Mov → Int
  | .pass => c + 1
  | _ => c
def Mov.ac (a : Bool) : Mov → Bool
  | .hear _ => a
  | .doo _ => true
  | .pass => false
/-- a move that is let -/
def Let (m : Md) (S : Sq) (tk : Tk) (c : Int) : Mov → Prop
  | .hear h => actB m tk c = false ∧ ∃ u, Hrb m tk c h u
  | .doo z => (∀ h ∈ hs m.wd, unhB tk c h = false) ∧ z ∈ mayL m S tk c
  | .pass => (∀ h ∈ hs m.wd, unhB tk c h = false) ∧ mustL m S tk c = [] ∧ ((bsN m).all fun z => (tk.lookup z).isSome) = false
theorem wd_hp : ¬ ("hear" : Str) = "pass" := by decide +kernel
theorem wd_hd : ¬ ("hear" : Str) = "do" := by decide +kernel
theorem wd_dp : ¬ ("do" : Str) = "pass" := by decide +kernel
theorem wd_dh : ¬ ("do" : Str) = "hear" := by decide +kernel
theorem wd_ph : ¬ ("pass" : Str) = "hear" := by decide +kernel
theorem wd_pd : ¬ ("pass" : Str) = "do" := by decide +kernel
theorem vs_ne {x y : Str} (h : ¬ x = y) : ¬ V.str x = V.str y := fun z => h (V.str.inj z)
def sp_lcall (K : PySem.W.Frag) : Sp := fun vs H Q _ => ∃ (p dx wb pt pa t : Addr) (b : TbA) (m : Md) (S : Sq) (tk : Tk) (c : Int) (mv : Mov) (xs : List V), vs = [.ref p, .ref t] ∧ H t = some (.tup mv.row) ∧ WtAt K H p dx wb pt pa b m S tk c ∧ MdOk m ∧ TkOk m tk ∧ Let m S tk c mv ∧ H pa = some (.lst xs) ∧ xs.length ≤ 900 ∧ StepTo K p dx wb pt pa b m S (mv.tk tk c) c (mv.ck c) xs H (Q .non)
end
end Tw

set_option maxHeartbeats 4000000
namespace Tw
open PySem PySem.Spec PyProof.Rows L2
/-! _law_moves: the moves that are let -/
theorem un_all {m : Md} {tk : Tk} {c : Int} (h : (hs m.wd).filter (unhB tk c) = []) : ∀ x ∈ hs m.wd, unhB tk c x = false := fun x hx => by
  cases e : unhB tk c x with
  | false => rfl
  | true =>
    have : x ∈ (hs m.wd).filter (unhB tk c) := List.mem_filter.2 ⟨hx, e⟩
    rw [h] at this
    cases this
theorem some_left {m : Md} {tk : Tk} (h : ((bsN m).filter fun z => !(tk.lookup z).isSome).isEmpty = false) : ((bsN m).all fun z => (tk.lookup z).isSome) = false := by
  cases e : (bsN m).all fun z => (tk.lookup z).isSome with
  | false => rfl
  | true =>
    rw [List.all_eq_true] at e
    have : (bsN m).filter (fun z => !(tk.lookup z).isSome) = [] := List.filter_eq_nil_iff.2 fun z hz => by
      rw [e z hz]
      exact Bool.false_ne_true
    rw [this] at h
    cases h
section
variable {P : Program} {w : World} {K : PySem.W.Frag} {mg : Str → Option Value} {base : Heap}
def sp_lmoves : Sp := fun vs H Q _ => ∃ (dm N Z d e : Addr) (m : Md) (S : Sq) (tk : Tk) (c : Int), vs = [.ref dm, .ref N, .ref Z, .ref d] ∧ MdAt H dm m ∧ MdOk m ∧ TkOk m tk ∧ Ds (bsN m) (esO (hs m.wd)) N Z H S ∧ LsAt H d e tk c (actB m tk c) ∧ ∀ (D : Addr) (H' : Hp) (mvs : List Mov), Same H H' → H D = none → RowsAt H' D (mvs.map Mov.row) → mvs.length ≤ 100 → (∀ mv ∈ mvs, Let m S tk c mv) → Q (.ref D) H'
end
end Tw

set_option maxHeartbeats 4000000
namespace Tw
open PySem PySem.Spec PyProof.Rows L2
/-! _law_moved -/
theorem st_ck {e : Addr} {c c' : Int} {a : Bool} : putK (stL e c a) kCk (.int c') = stL e c' a := by
  unfold stL putK
  rw [if_pos (by simp only [List.any_cons, decide_true, Bool.true_or, Bool.or_true])]
  simp only [List.map_cons, List.map_nil, if_neg kt_c, if_true, if_neg (fun e : kAc = kCk => kc_a e.symm)]
theorem st_ac {e : Addr} {c : Int} {a a' : Bool} : putK (stL e c a) kAc (.bl a') = stL e c a' := by
  unfold stL putK
  rw [if_pos (by simp only [List.any_cons, decide_true, Bool.true_or, Bool.or_true])]
  simp only [List.map_cons, List.map_nil, if_neg kt_a, if_neg kc_a, if_true]
section
variable {P : Program} {w : World} {K : PySem.W.Frag} {mg : Str → Option Value} {base : Heap}
def sp_lmoved : Sp := fun vs H Q _ => ∃ (d e t : Addr) (tk : Tk) (c : Int) (a : Bool) (mv : Mov), vs = [.ref d, .ref t] ∧ LsAt H d e tk c a ∧ H t = some (.tup mv.row) ∧ tk.length ≤ 300 ∧ (∀ z, (mv = .doo z ∨ ∃ h, mv = .hear h ∧ h.1 = z) → tk.lookup z = none) ∧ ∀ (d' e' : Addr) (H' : Hp), Same H H' → H d' = none → H e' = none → LsAt H' d' e' (mv.tk tk c) (mv.ck c) (mv.ac a) → Q (.ref d') H'
end
end Tw

set_option maxHeartbeats 4000000
namespace Tw
open PySem PySem.Spec PyProof.Rows L2
/-! _law_good, _law_some_web: a steered web -/
def Md.less (m : Md) : Md := { m with bd := m.bd.dropLast }
theorem ok_less {m : Md} (ok : MdOk m) : MdOk m.less :=
  ⟨ok.last, ok.nd, ok.pool, ok.wd, fun x hx => ok.bd x (List.dropLast_subset _ hx), ok.len.1, ok.len.2.1, by
    show m.bd.dropLast.length ≤ 40
    rw [List.length_dropLast]
    have := ok.len.2.2
    omega⟩
theorem rows_less {H : Hp} : ∀ {xs : List V} {rs : List (List V)}, Rows H xs rs → Rows H xs.dropLast rs.dropLast
  | _, _, .nil => .nil
  | _, _, .cons _ .nil => .nil
  | _, _, .cons a (.cons b t) => .cons a (rows_less (.cons b t))
/-- what the table is, at a web -/
def Tbl (H : Hp) (m : Md) (v : V) : Prop := (v = .non ∧ ¬ Sy m) ∨ ∃ (t N Z : Addr) (S : Sq), v = .ref t ∧ H t = some (.tup [.ref N, .ref Z]) ∧ Ds (bsN m) (esO (hs m.wd)) N Z H S ∧ LsOk m S
section
variable {P : Program} {w : World} {K : PySem.W.Frag} {mg : Str → Option Value} {base : Heap}
def sp_good : Sp := fun vs H Q _ => ∃ (f c : Addr) (a b e far last : Int), vs = [.ref f, .int a, .int b, .int e, .int far, .int last] ∧ Flow H f c ∧ 1 ≤ a ∧ a ≤ 10 ∧ 0 ≤ b ∧ b ≤ 4 ∧ 0 ≤ e ∧ e ≤ 40 ∧ 1 ≤ far ∧ far ≤ 250 ∧ 1 ≤ last ∧ last ≤ 1000 ∧
  ∀ (t d N Z : Addr) (m : Md) (S : Sq) (H' : Hp), Sb f H H' → Flow H' f c → MdAt H' d m → MdOk m → m.own.length = a.toNat → Ds (bsN m) (esO (hs m.wd)) N Z H' S → LsOk m S → H' t = some (.tup [.ref d, .ref N, .ref Z]) → Q (.ref t) H'
def sp_someweb : Sp := fun vs H Q _ => ∃ (f c : Addr) (a b far last : Int), vs = [.ref f, .int a, .int b, .int far, .int last] ∧ Flow H f c ∧ 1 ≤ a ∧ a ≤ 10 ∧ 0 ≤ b ∧ b ≤ 4 ∧ 1 ≤ far ∧ far ≤ 250 ∧ 1 ≤ last ∧ last ≤ 1000 ∧
  ∀ (t d N Z : Addr) (m : Md) (S : Sq) (H' : Hp), Sb f H H' → Flow H' f c → MdAt H' d m → MdOk m → (m.own.length : Int) ≤ a → Ds (bsN m) (esO (hs m.wd)) N Z H' S → LsOk m S → H' t = some (.tup [.ref d, .ref N, .ref Z]) → Q (.ref t) H'
end
end Tw

set_option maxHeartbeats 4000000
namespace Tw
open PySem PySem.Spec PyProof.Rows L2
theorem tk0_ok (m : Md) : TkOk m tk0 := ⟨List.nodup_cons.2 ⟨List.not_mem_nil, List.nodup_nil⟩, fun p hp => by rw [List.mem_singleton.1 hp]; exact List.mem_cons_self, by show 0 < 1; decide⟩
theorem made_same {H : Hp} {x dx C : Addr} (nx : H x = none) (ndx : H dx = none) : Same H (upd (upd H dx (.own x)) x (.ins C dx [])) := fun b y e => by
  rw [upd_ne (ne_of_none e nx), upd_ne (ne_of_none e ndx)]
  exact e
/-- all but lists stays -/
def Nl (H H' : Hp) : Prop := ∀ y o, H y = some o → (∀ xs, o ≠ .lst xs) → H' y = some o
theorem Nl.sb {f : Addr} {H H' : Hp} {xs : List V} (s : Sb f H H') (hf : H f = some (.lst xs)) : Nl H H' := fun y o e n => s y o e (ne_of e hf (n xs))
theorem TabS.nl {K : PySem.W.Frag} {H H' : Hp} {b : TbA} {m : Md} {S : Sq} (h : TabS K H b m S) (x : Nl H H') : TabS K H' b m S := by
  obtain ⟨l1, l2, B, h1, h2⟩ := h
  obtain ⟨kb, e1, e2⟩ := B.bn
  obtain ⟨ks, e3, e4⟩ := B.sn
  exact ⟨l1, l2, ⟨x _ _ B.obj (fun ps z => nomatch z), x _ _ B.b (fun ps z => nomatch z), x _ _ B.w (fun ps z => nomatch z), ⟨kb, x _ _ e1 (fun ps z => nomatch z), e2⟩, ⟨ks, x _ _ e3 (fun ps z => nomatch z), e4⟩, B.nd1, B.nd2⟩, h1, h2⟩
theorem WtAt.nl {K : PySem.W.Frag} {H H' : Hp} {p dx wb pt pa : Addr} {b : TbA} {m : Md} {S : Sq} {tk : Tk} {c : Int} (h : WtAt K H p dx wb pt pa b m S tk c) (x : Nl H H') : WtAt K H' p dx wb pt pa b m S tk c := by
  obtain ⟨ps, h1, h2⟩ := h.prs
  have kt : Kt H H' := fun y xs e => x y _ e (fun ps z => nomatch z)
  exact ⟨x _ _ h.obj (fun ps z => nomatch z), h.tab.nl x, h.web.keep (fun _ _ e => x _ _ e (fun ps z => nomatch z)) kt, ps, x _ _ h1 (fun ps z => nomatch z), h2.keep kt⟩
theorem act_app {m : Md} {tk : Tk} {c : Int} {z : Str} : actB m (tk ++ [(z, c)]) c = (actB m tk c || decide (z ∈ m.own)) := by
  unfold actB
  rw [List.any_append]
  show (_ || ((decide (c = c) && decide (z ∈ m.own)) || false)) = _
  rw [decide_eq_true rfl, Bool.true_and, Bool.or_false]
theorem act_late {m : Md} {tk : Tk} {c : Int} (h : ∀ r ∈ tk, r.2 ≤ c) : actB m tk (c + 1) = false := by
  unfold actB
  rw [List.any_eq_false]
  intro r hr
  have := h r hr
  rw [decide_eq_false (show ¬ r.2 = c + 1 by omega), Bool.false_and]
  exact Bool.false_ne_true
theorem hs_own {m : Md} (ok : MdOk m) {h : Str × Str × Int × Int} (hh : h ∈ hs m.wd) : ¬ h.1 ∈ m.own := fun z => by
  obtain ⟨x, hx, e⟩ := List.mem_filterMap.1 hh
  cases el : x.la with
  | none => rw [el] at e; cases e
  | some i =>
    rw [el] at e
    cases e
    exact (List.nodup_append.mp ok.nd).2.2 _ z _ (List.mem_map.2 ⟨x, hx, rfl⟩) rfl
theorem tk_new {tk : Tk} {z : Str} (h : tk.lookup z = none) : ¬ z ∈ tk.map (·.1) := fun hz => by
  have := tk_some tk z
  rw [h] at this
  obtain ⟨r, hr, rfl⟩ := List.mem_map.1 hz
  have g := List.lookup_eq_none_iff.1 h r hr
  simp at g
/-- what a move that is let leaves -/
theorem let_ok {m : Md} {S : Sq} {tk : Tk} {c : Int} {mv : Mov} (ok : MdOk m) (tok : TkOk m tk) (low : ∀ r ∈ tk, r.2 ≤ c) (l : Let m S tk c mv) :
    TkOk m (mv.tk tk c) ∧ (∀ r ∈ mv.tk tk c, r.2 ≤ mv.ck c) ∧ mv.ac (actB m tk c) = actB m (mv.tk tk c) (mv.ck c) ∧ ∀ z, (mv = .doo z ∨ ∃ h, mv = .hear h ∧ h.1 = z) → tk.lookup z = none := by
  have more : ∀ z : Str, tk.lookup z = none → z ∈ bsN m → TkOk m (tk ++ [(z, c)]) ∧ ∀ r ∈ tk ++ [(z, c)], r.2 ≤ c := fun z hz hb => by
    refine ⟨⟨?_, fun r hr => ?_, ?_⟩, fun r hr => ?_⟩
    · rw [List.map_append, List.nodup_append]
      refine ⟨tok.nd, List.nodup_cons.2 ⟨List.not_mem_nil, List.nodup_nil⟩, fun a ha b hb e => ?_⟩
      rw [List.mem_singleton.1 hb] at e
      rw [e] at ha
      exact tk_new hz ha
    · rcases List.mem_append.1 hr with h | h
      · exact tok.sub r h
      · rw [List.mem_singleton.1 h]
        exact hb
    · rw [List.length_append]
      have := tok.some_
      omega
    · rcases List.mem_append.1 hr with h | h
      · exact low r h
      · rw [List.mem_singleton.1 h]
        exact Int.le_refl _
  cases mv with
  | hear h =>
    obtain ⟨na, u, hb⟩ := l
    obtain ⟨t1, t2⟩ := more h.1 hb.new (en_in (List.mem_map.2 ⟨h, hb.mem, rfl⟩))
    refine ⟨t1, t2, ?_, fun z e => ?_⟩
    · show actB m tk c = actB m (tk ++ [(h.1, c)]) c
      rw [act_app, decide_eq_false (hs_own ok hb.mem), Bool.or_false]
    · rcases e with e | ⟨g, e, rfl⟩
      · cases e
      · cases e
        exact hb.new
  | doo z =>
    obtain ⟨al, hz⟩ := l
    have hz2 := List.mem_filter.1 hz
    have new : tk.lookup z = none := by
      have := hz2.2
      rw [Bool.and_eq_true] at this
      cases e : tk.lookup z with
      | none => rfl
      | some _ => rw [e] at this; exact absurd this.1 Bool.false_ne_true
    obtain ⟨t1, t2⟩ := more z new (own_bs hz2.1)
    refine ⟨t1, t2, ?_, fun y e => ?_⟩
    · show true = actB m (tk ++ [(z, c)]) c
      rw [act_app, decide_eq_true hz2.1, Bool.or_true]
    · rcases e with e | ⟨g, e, _⟩
      · cases e
        exact new
      · cases e
  | pass =>
    refine ⟨tok, fun r hr => ?_, ?_, fun y e => ?_⟩
    · have := low r hr
      show r.2 ≤ c + 1
      omega
    · show false = actB m tk (c + 1)
      rw [act_late low]
    · rcases e with e | ⟨g, e, _⟩
      · cases e
      · cases e
theorem LsAt.nl {H H' : Hp} {d e : Addr} {tk : Tk} {c : Int} {a : Bool} (h : LsAt H d e tk c a) (x : Nl H H') : LsAt H' d e tk c a := ⟨x _ _ h.obj (fun ps z => nomatch z), x _ _ h.tks (fun ps z => nomatch z), h.ne⟩
theorem mov_ok {m : Md} {S : Sq} {tk : Tk} {c : Int} (ok : MdOk m) {mvs : List Mov} (l : ∀ mv ∈ mvs, Let m S tk c mv) : ∀ r ∈ mvs.map Mov.row, r.all okV = true := fun r hr => by
  obtain ⟨mv, hm, rfl⟩ := List.mem_map.1 hr
  have two : ∀ x y : Str, okV (.str x) = true → okV (.str y) = true → ([V.str x, V.str y] : List V).all okV = true := fun x y h1 h2 => by
    rw [List.all_cons, List.all_cons, List.all_nil, h1, h2]
    rfl
  cases mv with
  | hear h =>
    obtain ⟨_, u, hb⟩ := l _ hm
    exact two _ _ (by decide +kernel) (bs_okV ok _ (en_in (List.mem_map.2 ⟨h, hb.mem, rfl⟩)))
  | doo z => exact two _ _ (by decide +kernel) (bs_okV ok _ (own_bs (List.mem_filter.1 (l _ hm).2).1))
  | pass => exact two _ _ (by decide +kernel) (by decide +kernel)
end Tw

set_option maxHeartbeats 4000000
/-! closed tables as amounts; what a run by a closed table keeps -/
namespace Tw
open PySem PySem.Spec PyProof.Rows L2
abbrev Nr (S : Sq) (x y : Str) : Int := S (false, x, y)
abbrev Un (S : Sq) (e x : Str) : Int := S (true, e, x)
/-- the amounts of a closed table -/
structure Clq (m : Md) (S : Sq) : Prop where
  along : ∀ x ∈ bsN m, ∀ y ∈ bsN m, ∀ z ∈ bsN m, Nr S x z ≤ Nr S x y + Nr S y z
  wait : ∀ h ∈ hs m.wd, ∀ x ∈ bsN m, ∀ y ∈ bsN m, Un S h.1 x ≤ Nr S x y + Un S h.1 y
  sure : ∀ h ∈ hs m.wd, ∀ x ∈ bsN m, Nr S x h.2.1 ≤ max (Un S h.1 x) (-h.2.2.1)
  soon : ∀ h ∈ hs m.wd, ∀ y ∈ bsN m, Nr S h.1 y < 0 → Nr S h.2.1 y ≤ h.2.2.1 + Nr S h.1 y
  ahead : ∀ h ∈ hs m.wd, ∀ g ∈ hs m.wd, ¬ g.1 = h.1 → Un S g.1 h.1 < 0 → Un S g.1 h.2.1 ≤ h.2.2.1 + Un S g.1 h.1
  bound : ∀ b ∈ bnT m, Nr S b.1 b.2.1 ≤ b.2.2
  late : ∀ h ∈ hs m.wd, Un S h.1 h.1 ≤ -h.2.2.2
  dg : ∀ x ∈ bsN m, Nr S x x = 0
theorem nd_map_eq {α β : Type} {f : α → β} : ∀ {l : List α}, (l.map f).Nodup → ∀ {a b : α}, a ∈ l → b ∈ l → f a = f b → a = b
  | x :: r, nd, a, b, ha, hb, e => by
    have nd := List.nodup_cons.1 nd
    rcases List.mem_cons.1 ha with h1 | h1
    · rcases List.mem_cons.1 hb with h2 | h2
      · rw [h1, h2]
      · exact absurd (List.mem_map.2 ⟨b, h2, by rw [← e, h1]⟩) nd.1
    · rcases List.mem_cons.1 hb with h2 | h2
      · exact absurd (List.mem_map.2 ⟨a, h1, by rw [e, h2]⟩) nd.1
      · exact nd_map_eq nd.2 h1 h2 e
theorem hk_at {m : Md} (ok : MdOk m) {h : Str × Str × Int × Int} (hh : h ∈ hs m.wd) : hkOf (hs m.wd) h.1 = some (h.2.1, h.2.2.1) := by
  rcases hk_all (hs m.wd) h.1 with ⟨_, z⟩ | ⟨h2, hh2, e, q⟩
  · exact absurd (List.mem_map.2 ⟨h, hh, rfl⟩) z
  · rw [q, nd_map_eq (hs_nd ok) hh2 hh e]
theorem hs_bs {m : Md} (ok : MdOk m) {h : Str × Str × Int × Int} (hh : h ∈ hs m.wd) : h.1 ∈ bsN m ∧ h.2.1 ∈ bsN m ∧ h.1 ∈ enN m := by
  have he : h.1 ∈ enN m := List.mem_map.2 ⟨h, hh, rfl⟩
  exact ⟨en_in he, bg_in (hs_ok ok hh).bg, he⟩
theorem hs_le {m : Md} (ok : MdOk m) {h : Str × Str × Int × Int} (hh : h ∈ hs m.wd) : h.2.2.1 ≤ h.2.2.2 := by
  obtain ⟨x, hx, e⟩ := List.mem_filterMap.1 hh
  cases el : x.la with
  | none => rw [el] at e; cases e
  | some i =>
    rw [el] at e
    cases e
    have := (ok.wd x hx).hi
    show x.lo + i ≤ x.hi + i
    omega
/-- a closed state of the program's tells such amounts -/
theorem clq_of {m : Md} (ok : MdOk m) {st : Se.MS Str} (O : OkM m (mgM m) st) (C : ClM m st) : Clq m fun k => (st.at k).getD 0 := by
  have J := O.hd.just
  have up := ts_up m st ⟨O, C⟩
  have near : ∀ x ∈ bsN m, ∀ y ∈ bsN m, ∃ n, st.at (false, x, y) = some n := fun x hx y hy => by
    obtain ⟨n, e, _⟩ := up _ (Se.mem_most.2 ⟨hx, hy⟩)
    exact ⟨n, e⟩
  have unt : ∀ e ∈ enN m, ∀ y ∈ bsN m, ∃ n, st.at (true, e, y) = some n := fun x hx y hy => by
    obtain ⟨n, e, _⟩ := up _ (Se.mem_until.2 ⟨hx, hy⟩)
    exact ⟨n, e⟩
  have le : ∀ {k : Ky} {v : Int}, Se.Le st k v → (st.at k).getD 0 ≤ v := fun ⟨n, e, l⟩ => by
    rw [e]
    exact l
  have fr : ∀ {k : Ky} {n : Int}, st.at k = some n → Se.Le st k n := fun e => ⟨_, e, Int.le_refl _⟩
  refine ⟨fun x hx y hy z hz => ?_, fun h hh x hx y hy => ?_, fun h hh x hx => ?_, fun h hh y hy => ?_, fun h hh g hg ne => ?_, fun b hb => le (O.told.bound b hb), fun h hh => le (O.told.late (h.1, -h.2.2.2) (List.mem_map.2 ⟨h, hh, rfl⟩)), fun x hx => ?_⟩
  · obtain ⟨a, ea⟩ := near x hx y hy
    obtain ⟨b, eb⟩ := near y hy z hz
    show (st.at (false, x, z)).getD 0 ≤ (st.at (false, x, y)).getD 0 + (st.at (false, y, z)).getD 0
    have := le (Se.le_along C J (fr ea) (fr eb))
    rw [ea, eb]
    exact this
  · obtain ⟨_, _, he⟩ := hs_bs ok hh
    obtain ⟨a, ea⟩ := near x hx y hy
    obtain ⟨b, eb⟩ := unt _ he y hy
    show (st.at (true, h.1, x)).getD 0 ≤ (st.at (false, x, y)).getD 0 + (st.at (true, h.1, y)).getD 0
    have := le (Se.le_wait C J (fr ea) (fr eb))
    rw [ea, eb]
    exact this
  · obtain ⟨_, _, he⟩ := hs_bs ok hh
    obtain ⟨a, ea⟩ := unt _ he x hx
    show (st.at (false, x, h.2.1)).getD 0 ≤ max ((st.at (true, h.1, x)).getD 0) (-h.2.2.1)
    have := le (Se.le_one C (w := 0) (by decide) (fr ea) (f := ((false, x, h.2.1), max a (-h.2.2.1))) (by
      unfold Se.one
      rw [if_pos rfl, if_pos rfl, hk_at ok hh]
      rfl))
    rw [ea]
    exact this
  · obtain ⟨h1, _, _⟩ := hs_bs ok hh
    obtain ⟨a, ea⟩ := near h.1 h1 y hy
    show (st.at (false, h.1, y)).getD 0 < 0 → (st.at (false, h.2.1, y)).getD 0 ≤ h.2.2.1 + (st.at (false, h.1, y)).getD 0
    rw [ea]
    intro neg
    have neg : a < 0 := neg
    exact le (Se.le_one C (w := 1) (by decide) (fr ea) (f := ((false, h.2.1, y), h.2.2.1 + a)) (by
      unfold Se.one
      rw [if_neg (by decide), if_pos rfl, if_pos ⟨rfl, neg⟩, hk_at ok hh]
      rfl))
  · obtain ⟨h1, _, _⟩ := hs_bs ok hh
    obtain ⟨_, _, ge⟩ := hs_bs ok hg
    obtain ⟨a, ea⟩ := unt _ ge h.1 h1
    show (st.at (true, g.1, h.1)).getD 0 < 0 → (st.at (true, g.1, h.2.1)).getD 0 ≤ h.2.2.1 + (st.at (true, g.1, h.1)).getD 0
    rw [ea]
    intro neg
    have neg : a < 0 := neg
    exact le (Se.le_one C (w := 2) (by decide) (fr ea) (f := ((true, g.1, h.2.1), h.2.2.1 + a)) (by
      unfold Se.one
      rw [if_neg (by decide), if_neg (by decide), if_pos ⟨rfl, ne, neg⟩, hk_at ok hh]
      rfl))
  · obtain ⟨n, e, l⟩ := O.hd.dg.1 x hx
    have := O.hd.dg.2 x n e
    show (st.at (false, x, x)).getD 0 = 0
    rw [e]
    show n = 0
    omega
/-! ### runs -/
/-- what a run by a closed table keeps -/
structure Inv (m : Md) (S : Sq) (tk : Tk) (c : Int) : Prop where
  st : tk.lookup ("start" : Str) = some 0
  sub : ∀ x u, tk.lookup x = some u → x ∈ bsN m
  low : ∀ x u, tk.lookup x = some u → u ≤ c
  i1 : ∀ x u y v, tk.lookup x = some u → tk.lookup y = some v → v - u ≤ Nr S x y
  i2 : ∀ x u, tk.lookup x = some u → ∀ y ∈ bsN m, tk.lookup y = none → c ≤ u + Nr S x y
  i3 : ∀ h ∈ hs m.wd, tk.lookup h.1 = none → ∀ x u, tk.lookup x = some u → (∀ v, tk.lookup h.2.1 = some v → v ≤ u + Un S h.1 x) ∧ (tk.lookup h.2.1 = none → c ≤ u + Un S h.1 x)
theorem look_app (tk : Tk) (z x : Str) (c : Int) : (tk ++ [(z, c)]).lookup x = match tk.lookup x with
    | some u => some u
    | none => if x = z then some c else none := by
  induction tk with
  | nil =>
    show (match x == z with | true => some c | false => none) = if x = z then some c else none
    by_cases e : x = z
    · subst e
      rw [beq_self_eq_true, if_pos rfl]
    · rw [beq_eq_false_iff_ne.2 e, if_neg e]
  | cons r l ih =>
    rw [List.cons_append, List.lookup_cons, List.lookup_cons, ih]
    cases x == r.1 <;> rfl
theorem bs_h {m : Md} {z : Str} (h : z ∈ bsN m) : z = ("start" : Str) ∨ z ∈ m.own ∨ ∃ g ∈ hs m.wd, g.1 = z := by
  rcases List.mem_cons.1 h with e | h
  · exact .inl e
  · rcases List.mem_append.1 h with h | h
    · exact .inr (.inl h)
    · exact .inr (.inr (List.mem_map.1 h))
theorem own_bn {m : Md} {z : Str} (h : z ∈ m.own) : (z, ("start" : Str), 0) ∈ bnT m ∧ ((("start" : Str), z, m.last) : Str × Str × Int) ∈ bnT m := ⟨List.mem_append.2 (.inl (List.mem_append.2 (.inl (List.mem_flatMap.2 ⟨z, h, List.mem_cons_of_mem _ List.mem_cons_self⟩)))), List.mem_append.2 (.inl (List.mem_append.2 (.inl (List.mem_flatMap.2 ⟨z, h, List.mem_cons_self⟩))))⟩
theorem hs_bn {m : Md} {h : Str × Str × Int × Int} (hh : h ∈ hs m.wd) : (h.1, h.2.1, -h.2.2.1) ∈ bnT m ∧ (h.2.1, h.1, h.2.2.2) ∈ bnT m := ⟨List.mem_append.2 (.inl (List.mem_append.2 (.inr (List.mem_flatMap.2 ⟨h, hh, List.mem_cons_of_mem _ List.mem_cons_self⟩)))), List.mem_append.2 (.inl (List.mem_append.2 (.inr (List.mem_flatMap.2 ⟨h, hh, List.mem_cons_self⟩))))⟩
theorem st_bs (m : Md) : ("start" : Str) ∈ bsN m := List.mem_cons_self
section
variable {m : Md} {S : Sq} {tk : Tk} {c : Int}
/-- nothing comes ahead of start -/
theorem Clq.st_ge (C : Clq m S) (ok : MdOk m) : ∀ z ∈ bsN m, Nr S z ("start" : Str) ≤ 0 ∧ 0 ≤ Nr S ("start" : Str) z := fun z hz => by
  have s0 := C.dg _ (st_bs m)
  have to : Nr S z ("start" : Str) ≤ 0 := by
    have own : ∀ y, y = ("start" : Str) ∨ y ∈ m.own → Nr S y ("start" : Str) ≤ 0 := fun y hy => by
      rcases hy with e | hy
      · rw [e]
        omega
      · exact C.bound _ (own_bn hy).1
    rcases bs_h hz with e | h | ⟨g, hg, e⟩
    · exact own z (.inl e)
    · exact own z (.inr h)
    · have b := C.bound _ (hs_bn hg).1
      have b : Nr S g.1 g.2.1 ≤ -g.2.2.1 := b
      obtain ⟨h1, h2, _⟩ := hs_bs ok hg
      have o := hs_ok ok hg
      have a := C.along _ h1 _ h2 _ (st_bs m)
      have q := own g.2.1 o.bg
      have := o.lo
      rw [← e]
      omega
  have a := C.along _ (st_bs m) _ hz _ (st_bs m)
  omega
theorem Inv.start (C : Clq m S) (ok : MdOk m) : Inv m S tk0 0 := by
  have l0 : ∀ x u, tk0.lookup x = some u → x = ("start" : Str) ∧ u = 0 := fun x u h => by
    unfold tk0 at h
    rw [List.lookup_cons] at h
    by_cases e : x = ("start" : Str)
    · subst e
      simp at h
      exact ⟨rfl, h.symm⟩
    · rw [show (x == ("start" : Str)) = false from beq_eq_false_iff_ne.2 e] at h
      cases h
  refine ⟨rfl, fun x u h => ?_, fun x u h => ?_, fun x u y v h1 h2 => ?_, fun x u h y hy _ => ?_, fun h hh _ x u hx => ?_⟩
  · rw [(l0 x u h).1]
    exact st_bs m
  · rw [(l0 x u h).2]
    exact Int.le_refl _
  · obtain ⟨rfl, rfl⟩ := l0 x u h1
    obtain ⟨rfl, rfl⟩ := l0 y v h2
    rw [C.dg _ (st_bs m)]
    decide
  · obtain ⟨rfl, rfl⟩ := l0 x u h
    have := (C.st_ge ok y hy).2
    omega
  · obtain ⟨rfl, rfl⟩ := l0 x u hx
    have o := hs_ok ok hh
    have s := C.sure h hh _ (st_bs m)
    have g := (C.st_ge ok h.2.1 (hs_bs ok hh).2.1).2
    have lo := o.lo
    refine ⟨fun v hv => ?_, fun _ => by omega⟩
    obtain ⟨_, rfl⟩ := l0 _ _ hv
    omega
/-- a base comes at c: all that must hold -/
theorem Inv.put {z : Str} (I : Inv m S tk c) (hz : z ∈ bsN m) (new : tk.lookup z = none) (a1 : ∀ x u, tk.lookup x = some u → u - c ≤ Nr S z x) (a2 : ∀ y ∈ bsN m, ¬ y = z → tk.lookup y = none → 0 ≤ Nr S z y)
    (a3 : ∀ h ∈ hs m.wd, ¬ h.1 = z → tk.lookup h.1 = none → (∀ v, tk.lookup h.2.1 = some v → v ≤ c + Un S h.1 z) ∧ (tk.lookup h.2.1 = none → 0 ≤ Un S h.1 z)) (d : Nr S z z = 0) : Inv m S (tk ++ [(z, c)]) c := by
  have cut : ∀ x u, (tk ++ [(z, c)]).lookup x = some u → tk.lookup x = some u ∨ (x = z ∧ u = c ∧ tk.lookup x = none) := fun x u h => by
    rw [look_app] at h
    cases e : tk.lookup x with
    | some v => rw [e] at h; exact .inl h
    | none =>
      rw [e] at h
      by_cases q : x = z
      · have h : (if x = z then some c else none) = some u := h
        rw [if_pos q] at h
        exact .inr ⟨q, (Option.some.inj h).symm, rfl⟩
      · have h : (if x = z then some c else none) = some u := h
        rw [if_neg q] at h
        cases h
  have nil : ∀ x, (tk ++ [(z, c)]).lookup x = none → tk.lookup x = none ∧ ¬ x = z := fun x h => by
    rw [look_app] at h
    cases e : tk.lookup x with
    | some v => rw [e] at h; cases h
    | none =>
      rw [e] at h
      refine ⟨rfl, fun q => ?_⟩
      have h : (if x = z then some c else none) = none := h
      rw [if_pos q] at h
      cases h
  refine ⟨?_, fun x u h => ?_, fun x u h => ?_, fun x u y v h1 h2 => ?_, fun x u h y hy hn => ?_, fun h hh hn x u hx => ?_⟩
  · rw [look_app, I.st]
  · rcases cut x u h with h | ⟨e, _, _⟩
    · exact I.sub x u h
    · rw [e]
      exact hz
  · rcases cut x u h with h | ⟨_, e, _⟩
    · exact I.low x u h
    · omega
  · rcases cut x u h1 with h1 | ⟨e1, e2, _⟩
    · rcases cut y v h2 with h2 | ⟨e3, e4, _⟩
      · exact I.i1 x u y v h1 h2
      · rw [e3, e4]
        have := I.i2 x u h1 z hz new
        omega
    · rcases cut y v h2 with h2 | ⟨e3, e4, _⟩
      · rw [e1, e2]
        exact a1 y v h2
      · rw [e1, e3, d]
        omega
  · obtain ⟨n1, n2⟩ := nil y hn
    rcases cut x u h with h | ⟨e1, e2, _⟩
    · exact I.i2 x u h y hy n1
    · rw [e1, e2]
      have := a2 y hy n2 n1
      omega
  · obtain ⟨n1, n2⟩ := nil h.1 hn
    rcases cut x u hx with hx | ⟨e1, e2, _⟩
    · obtain ⟨p, q⟩ := I.i3 h hh n1 x u hx
      refine ⟨fun v hv => ?_, fun hv => q (nil _ hv).1⟩
      rcases cut _ v hv with hv | ⟨_, e, hn⟩
      · exact p v hv
      · rw [e]
        exact q hn
    · obtain ⟨p, q⟩ := a3 h hh n2 n1
      rw [e1, e2]
      refine ⟨fun v hv => ?_, fun hv => ?_⟩
      · rcases cut _ v hv with hv | ⟨_, e, hn⟩
        · exact p v hv
        · have := q hn
          omega
      · have := q (nil _ hv).1
        omega
theorem free_parts {z : Str} (h : freeB m S tk z c = true) : (∀ y ∈ bsN m, (∀ u, tk.lookup y = some u → u - Nr S z y ≤ c) ∧ (tk.lookup y = none → 0 ≤ Nr S z y)) ∧ ∀ g ∈ hs m.wd, tk.lookup g.1 = none → 0 ≤ Un S g.1 z ∨ ∃ u, tk.lookup g.2.1 = some u ∧ u - Un S g.1 z ≤ c := by
  unfold freeB at h
  rw [Bool.and_eq_true, List.all_eq_true, List.all_eq_true] at h
  refine ⟨fun y hy => ?_, fun g hg hn => ?_⟩
  · have q := h.1 y hy
    unfold nearB at q
    refine ⟨fun u hu => ?_, fun hu => ?_⟩
    · rw [hu] at q
      exact of_decide_eq_true q
    · rw [hu] at q
      exact of_decide_eq_true q
  · have q := h.2 g hg
    unfold waitB at q
    rw [hn] at q
    by_cases p : 0 ≤ Un S g.1 z
    · exact .inl p
    · rw [decide_eq_false p] at q
      cases e : tk.lookup g.2.1 with
      | none => rw [e] at q; cases q
      | some u =>
        rw [e] at q
        exact .inr ⟨u, rfl, of_decide_eq_true q⟩
/-- a moment that may be done is done -/
theorem Inv.doo {z : Str} (I : Inv m S tk c) (C : Clq m S) (ok : MdOk m) (hz : z ∈ m.own) (new : tk.lookup z = none) (fr : freeB m S tk z c = true) : Inv m S (tk ++ [(z, c)]) c := by
  obtain ⟨f1, f2⟩ := free_parts fr
  have hb := own_bs hz
  refine I.put hb new (fun x u hx => ?_) (fun y hy _ hn => (f1 y hy).2 hn) (fun h hh ne hn => ?_) (C.dg z hb)
  · have := (f1 x (I.sub x u hx)).1 u hx
    omega
  · have s := C.sure h hh z hb
    have lo := (hs_ok ok hh).lo
    obtain ⟨_, h2, _⟩ := hs_bs ok hh
    refine ⟨fun v hv => ?_, fun hv => ?_⟩
    · have l := I.low _ v hv
      rcases f2 h hh hn with p | ⟨u, hu, p⟩
      · omega
      · rw [hv] at hu
        cases hu
        omega
    · rcases f2 h hh hn with p | ⟨u, hu, p⟩
      · exact p
      · rw [hv] at hu
        cases hu
/-- an end is heard -/
theorem Inv.hear {h : Str × Str × Int × Int} {u : Int} (I : Inv m S tk c) (C : Clq m S) (ok : MdOk m) (hb : Hrb m tk c h u) : Inv m S (tk ++ [(h.1, c)]) c := by
  have hh := hb.mem
  obtain ⟨h1, h2, _⟩ := hs_bs ok hh
  have lo := hb.lo
  refine I.put h1 hb.new (fun x v hx => ?_) (fun y hy ne hn => ?_) (fun g hg ne hn => ?_) (C.dg _ h1)
  · have l := I.low x v hx
    by_cases n : Nr S h.1 x < 0
    · have s := C.soon h hh x (I.sub x v hx) n
      have i := I.i1 _ _ x v hb.beg hx
      omega
    · omega
  · by_cases n : Nr S h.1 y < 0
    · have s := C.soon h hh y hy n
      have i := I.i2 _ _ hb.beg y hy hn
      omega
    · omega
  · obtain ⟨p, q⟩ := I.i3 g hg hn _ _ hb.beg
    by_cases n : Un S g.1 h.1 < 0
    · have a := C.ahead h hh g hg ne n
      refine ⟨fun v hv => ?_, fun hv => ?_⟩
      · have := p v hv
        omega
      · have := q hv
        omega
    · refine ⟨fun v hv => ?_, fun _ => by omega⟩
      have := I.low _ v hv
      omega
theorem minL_le {l : List Int} {x : Int} (h : x ∈ l) : minL l ≤ x := by
  have := minL_is (l := l) (fun e => by rw [e] at h; cases h)
  exact this.2 x h
theorem due_le {x z : Str} {u : Int} (hx : (x, u) ∈ tk) : duN S tk z ≤ u + Nr S x z := minL_le (List.mem_map.2 ⟨(x, u), hx, rfl⟩)
theorem look_in_ {x : Str} {u : Int} (h : tk.lookup x = some u) : (x, u) ∈ tk := by
  induction tk with
  | nil => cases h
  | cons r l ih =>
    rw [List.lookup_cons] at h
    by_cases e : (x == r.1) = true
    · rw [e] at h
      cases h
      rw [beq_iff_eq.1 e]
      exact List.mem_cons_self
    · rw [Bool.eq_false_iff.2 e] at h
      exact List.mem_cons_of_mem _ (ih h)
theorem not_must {z : Str} (h : mustL m S tk c = []) (hz : z ∈ m.own) (hn : tk.lookup z = none) : c < duN S tk z := by
  refine Int.not_le.1 fun l => ?_
  have : z ∈ mustL m S tk c := List.mem_filter.2 ⟨hz, by rw [hn, decide_eq_true l]; rfl⟩
  rw [h] at this
  cases this
/-- the clock goes on -/
theorem Inv.pass (I : Inv m S tk c) (C : Clq m S) (ok : MdOk m) (all : ∀ h ∈ hs m.wd, unhB tk c h = false) (mu : mustL m S tk c = []) : Inv m S tk (c + 1) := by
  have own : ∀ x u, tk.lookup x = some u → ∀ y, y = ("start" : Str) ∨ y ∈ m.own → tk.lookup y = none → c + 1 ≤ u + Nr S x y := fun x u hx y hy hn => by
    rcases hy with e | hy
    · rw [e, I.st] at hn
      cases hn
    · have a := not_must mu hy hn
      have b := due_le (S := S) (z := y) (look_in_ hx)
      omega
  have i3 : ∀ h ∈ hs m.wd, tk.lookup h.1 = none → ∀ x u, tk.lookup x = some u → tk.lookup h.2.1 = none → c + 1 ≤ u + Un S h.1 x := fun h hh hn x u hx hb => by
    have q := (I.i3 h hh hn x u hx).2 hb
    have l := I.low x u hx
    have s := C.sure h hh x (I.sub x u hx)
    have o := own x u hx h.2.1 (hs_ok ok hh).bg hb
    have lo := (hs_ok ok hh).lo
    omega
  refine ⟨I.st, I.sub, fun x u h => by have := I.low x u h; omega, I.i1, fun x u hx y hy hn => ?_, fun h hh hn x u hx => ⟨(I.i3 h hh hn x u hx).1, i3 h hh hn x u hx⟩⟩
  rcases bs_h hy with e | h | ⟨g, hg, e⟩
  · exact own x u hx y (.inl e) hn
  · exact own x u hx y (.inr h) hn
  · subst e
    obtain ⟨h1, _, _⟩ := hs_bs ok hg
    have w := C.wait g hg x (I.sub x u hx) _ h1
    have lt := C.late g hg
    cases eb : tk.lookup g.2.1 with
    | none =>
      have := i3 g hg hn x u hx eb
      have o := hs_ok ok hg
      have h1 := o.lo
      have h2 := o.hi
      omega
    | some v =>
      have p := (I.i3 g hg hn x u hx).1 v eb
      have un := all g hg
      unfold unhB at un
      rw [hn, eb] at un
      have un : decide (g.2.2.2 ≤ c - v) = false := un
      have un := of_decide_eq_false un
      omega
/-- what must be done may be done -/
theorem Inv.must_free (I : Inv m S tk c) (C : Clq m S) (ok : MdOk m) (tok : TkOk m tk) : ∀ z ∈ mustL m S tk c, z ∈ mayL m S tk c := fun z hz => by
  have hz := List.mem_filter.1 hz
  rw [Bool.and_eq_true] at hz
  obtain ⟨ho, hn, hd⟩ := hz
  have hd := of_decide_eq_true hd
  have hb := own_bs ho
  have new : tk.lookup z = none := by
    cases e : tk.lookup z with
    | none => rfl
    | some _ => rw [e] at hn; cases hn
  obtain ⟨x, u, hx, e⟩ : ∃ x u, tk.lookup x = some u ∧ u + Nr S x z = duN S tk z := by
    have q := (minL_is (l := dueL S tk z) fun e => by
      have : ((0 : Int) + Nr S ("start" : Str) z) ∈ dueL S tk z := List.mem_map.2 ⟨(("start" : Str), (0 : Int)), look_in_ I.st, rfl⟩
      rw [e] at this
      cases this).1
    obtain ⟨p, hp, e⟩ := List.mem_map.1 q
    exact ⟨p.1, p.2, tk_at tok.nd hp, e⟩
  have hxb := I.sub x u hx
  suffices fr : freeB m S tk z c = true by
    refine List.mem_filter.2 ⟨ho, ?_⟩
    rw [hn, fr]
    rfl
  unfold freeB
  rw [Bool.and_eq_true, List.all_eq_true, List.all_eq_true]
  refine ⟨fun y hy => ?_, fun g hg => ?_⟩
  · have a := C.along x hxb z hb y hy
    unfold nearB
    cases ey : tk.lookup y with
    | some v =>
      have i := I.i1 x u y v hx ey
      refine decide_eq_true ?_
      show v - Nr S z y ≤ c
      omega
    | none =>
      have i := I.i2 x u hx y hy ey
      refine decide_eq_true ?_
      show 0 ≤ Nr S z y
      omega
  · have a := C.wait g hg x hxb z hb
    unfold waitB
    cases eg : tk.lookup g.1 with
    | some v => rfl
    | none =>
      obtain ⟨p, q⟩ := I.i3 g hg eg x u hx
      by_cases n : 0 ≤ Un S g.1 z
      · rw [decide_eq_true (show 0 ≤ S (true, g.1, z) from n)]
        rfl
      · rw [decide_eq_false (show ¬ 0 ≤ S (true, g.1, z) from n)]
        cases eb : tk.lookup g.2.1 with
        | none =>
          have := q eb
          omega
        | some v =>
          have := p v eb
          refine decide_eq_true ?_
          show v - Un S g.1 z ≤ c
          omega
/-- the moments are done in time -/
theorem Inv.in_time (I : Inv m S tk c) (C : Clq m S) (ok : MdOk m) {z : Str} (hz : z ∈ m.own) : (∀ u, tk.lookup z = some u → 0 ≤ u ∧ u ≤ m.last) ∧ (tk.lookup z = none → c ≤ m.last) := by
  obtain ⟨b1, b2⟩ := own_bn hz
  have q1 : Nr S z ("start" : Str) ≤ 0 := C.bound _ b1
  have q2 : Nr S ("start" : Str) z ≤ m.last := C.bound _ b2
  refine ⟨fun u hu => ?_, fun hn => ?_⟩
  · have i1 := I.i1 _ _ _ _ hu I.st
    have i2 := I.i1 _ _ _ _ I.st hu
    omega
  · have := I.i2 _ _ I.st z (own_bs hz) hn
    omega
/-- while something is left the clock is not far -/
theorem Inv.not_far (I : Inv m S tk c) (C : Clq m S) (ok : MdOk m) {z : Str} (hz : z ∈ bsN m) (hn : tk.lookup z = none) : c ≤ m.last ∨ ∃ h ∈ hs m.wd, c ≤ m.last + h.2.2.2 := by
  rcases bs_h hz with e | h | ⟨g, hg, e⟩
  · rw [e, I.st] at hn
    cases hn
  · exact .inl ((I.in_time C ok h).2 hn)
  · subst e
    obtain ⟨h1, _, _⟩ := hs_bs ok hg
    refine .inr ⟨g, hg, ?_⟩
    have o := hs_ok ok hg
    have h3 := o.lo
    have h4 := o.hi
    have b : Nr S g.2.1 g.1 ≤ g.2.2.2 := C.bound _ (hs_bn hg).2
    have lst := ok.last.1
    rcases o.bg with e | ho
    · rw [e] at b
      have := I.i2 _ _ I.st _ h1 hn
      omega
    · cases eb : tk.lookup g.2.1 with
      | none =>
        have := (I.in_time C ok ho).2 eb
        omega
      | some v =>
        have i := I.i2 _ _ eb _ h1 hn
        have := ((I.in_time C ok ho).1 v eb).2
        omega
/-- an end that must be heard can be heard -/
theorem Inv.unheard (I : Inv m S tk c) (C : Clq m S) (ok : MdOk m) {h : Str × Str × Int × Int} (hh : h ∈ hs m.wd) (un : unhB tk c h = true) : ∃ u, Hrb m tk c h u ∧ c - u = h.2.2.2 := by
  unfold unhB at un
  rw [Bool.and_eq_true] at un
  obtain ⟨n, e⟩ := un
  have new : tk.lookup h.1 = none := by
    cases e : tk.lookup h.1 with
    | none => rfl
    | some _ => rw [e] at n; cases n
  obtain ⟨h1, h2, _⟩ := hs_bs ok hh
  cases eb : tk.lookup h.2.1 with
  | none => rw [eb] at e; cases e
  | some v =>
    rw [eb] at e
    have e : decide (h.2.2.2 ≤ c - v) = true := e
    have e := of_decide_eq_true e
    have b : Nr S h.2.1 h.1 ≤ h.2.2.2 := C.bound _ (hs_bn hh).2
    have i := I.i2 _ _ eb _ h1 new
    have hi := hs_le ok hh
    exact ⟨v, ⟨hh, new, eb, by omega, by omega⟩, by omega⟩
end
end Tw

set_option maxHeartbeats 4000000
/-! plays: a web is steered just where there is a family of plays, one for all lengths, none of which knows of an end before it is heard -/
namespace Tw
open PySem PySem.Spec PyProof.Rows L2
/-- lengths within their bounds, what is heard of them -/
def Box (m : Md) (ω : Str → Int) : Prop := ∀ h ∈ hs m.wd, h.2.2.1 ≤ ω h.1 ∧ ω h.1 ≤ h.2.2.2
def setW (ω : Str → Int) (e : Str) (v : Int) : Str → Int := fun z => if z = e then v else ω z
structure Fam (m : Md) (τ : (Str → Int) → Str → Int) : Prop where
  bound : ∀ ω, Box m ω → ∀ b ∈ bnT m, τ ω b.2.1 - τ ω b.1 ≤ b.2.2
  en : ∀ ω, Box m ω → ∀ h ∈ hs m.wd, τ ω h.1 = τ ω h.2.1 + ω h.1
  na : ∀ ω v h, Box m ω → h ∈ hs m.wd → Box m (setW ω h.1 v) → ∀ x ∈ bsN m, τ ω x < τ ω h.2.1 + min (ω h.1) v → τ (setW ω h.1 v) x = τ ω x
/-! ### from a family to a closed table -/
theorem int_max {Q : Int → Prop} {B : Int} (h : ∀ v, Q v → v ≤ B) : ∀ (n : Nat) (v : Int), Q v → (B - v).toNat = n → ∃ M, Q M ∧ ∀ v, Q v → v ≤ M := by
  intro n
  induction n using Nat.strongRecOn with
  | ind n ih =>
    intro v hv e
    by_cases c : ∃ u, Q u ∧ v < u
    · obtain ⟨u, hu, l⟩ := c
      have := h u hu
      exact ih (B - u).toNat (by omega) u hu rfl
    · exact ⟨v, hv, fun u hu => Int.not_lt.1 fun l => c ⟨u, hu, l⟩⟩
/-- waits raised, so that none lies far below -/
def rsQ (m : Md) (S : Sq) (k : Ky) : Int := if k.1 = true then (match hkOf (hs m.wd) k.2.1 with
  | some r => max (S k) (S (false, k.2.2, r.1) - 2000)
  | none => S k) else S k
theorem rs_near (m : Md) (S : Sq) (x y : Str) : Nr (rsQ m S) x y = Nr S x y := rfl
theorem rs_wait {m : Md} (ok : MdOk m) (S : Sq) {h : Str × Str × Int × Int} (hh : h ∈ hs m.wd) (x : Str) : Un (rsQ m S) h.1 x = max (Un S h.1 x) (Nr S x h.2.1 - 2000) := by
  show (if true = true then (match hkOf (hs m.wd) h.1 with
    | some r => max (S (true, h.1, x)) (S (false, x, r.1) - 2000)
    | none => S (true, h.1, x)) else _) = _
  rw [if_pos rfl, hk_at ok hh]
theorem clq_rs {m : Md} (ok : MdOk m) {S : Sq} (C : Clq m S) : Clq m (rsQ m S) := by
  refine ⟨C.along, fun h hh x hx y hy => ?_, fun h hh x hx => ?_, C.soon, fun h hh g hg ne neg => ?_, C.bound, fun h hh => ?_, C.dg⟩
  · rw [rs_wait ok S hh, rs_wait ok S hh, rs_near]
    have a := C.wait h hh x hx y hy
    have b := C.along x hx y hy h.2.1 (hs_bs ok hh).2.1
    omega
  · rw [rs_wait ok S hh, rs_near]
    have a := C.sure h hh x hx
    omega
  · rw [rs_wait ok S hg] at neg ⊢
    rw [rs_wait ok S hg]
    obtain ⟨h1, h2, _⟩ := hs_bs ok hh
    have a := C.ahead h hh g hg ne (by omega)
    have s := C.sure g hg h.1 h1
    have lo := (hs_ok ok hg).lo
    have b := C.soon h hh g.2.1 (hs_bs ok hg).2.1 (by omega)
    omega
  · rw [rs_wait ok S hh]
    have a := C.late h hh
    have b : Nr S h.1 h.2.1 ≤ -h.2.2.1 := C.bound _ (hs_bn hh).1
    have o := hs_ok ok hh
    have h1 := o.lo
    have h2 := o.hi
    omega
theorem look_fn (f : Ky → Int × Option Nat) (k : Ky) : ∀ l : List Ky, Se.look k (l.map fun k => (k, f k)) = if k ∈ l then some (f k) else none
  | [] => rfl
  | a :: l => by
    show (if a = k then some (f a) else Se.look k (l.map fun k => (k, f k))) = _
    rw [look_fn f k l]
    by_cases e : a = k
    · subst e
      rw [if_pos rfl, if_pos List.mem_cons_self]
    · rw [if_neg e]
      by_cases h : k ∈ l
      · rw [if_pos h, if_pos (List.mem_cons_of_mem _ h)]
      · rw [if_neg h, if_neg fun z => (List.mem_cons.1 z).elim (fun q => e q.symm) h]
def stQ (m : Md) (S : Sq) : Se.MS Str := ⟨(Se.keys (bsN m) (enN m)).map fun k => (k, (S k, none)), [], none⟩
theorem stQ_at (m : Md) (S : Sq) (k : Ky) : (stQ m S).at k = if k ∈ Se.keys (bsN m) (enN m) then some (S k) else none := by
  show (Se.look k ((Se.keys (bsN m) (enN m)).map fun k => (k, (S k, none)))).map (·.1) = _
  rw [look_fn (fun k => (S k, none)) k]
  split <;> rfl
/-- any closed table makes the web steered -/
theorem sy_clq {m : Md} (ok : MdOk m) {S : Sq} (C0 : Clq m S) : Sy m := by
  have tl := tl_ok ok
  have C := clq_rs ok C0
  have wt0 : ∀ h ∈ hs m.wd, ∀ x, Nr S x h.2.1 ≤ Un (rsQ m S) h.1 x + 2000 := fun h hh x => by
    rw [rs_wait ok S hh]
    omega
  have wt1 : ∀ h ∈ hs m.wd, ∀ x, Nr (rsQ m S) x h.2.1 ≤ Un (rsQ m S) h.1 x + 2000 := wt0
  generalize rsQ m S = R at C wt1
  clear wt0 C0
  have nk : ∀ x ∈ bsN m, ∀ y ∈ bsN m, (stQ m R).at (false, x, y) = some (R (false, x, y)) := fun x hx y hy => by rw [stQ_at, if_pos (Se.mem_most.2 ⟨hx, hy⟩)]
  have uk : ∀ e ∈ enN m, ∀ y ∈ bsN m, (stQ m R).at (true, e, y) = some (R (true, e, y)) := fun x hx y hy => by rw [stQ_at, if_pos (Se.mem_until.2 ⟨hx, hy⟩)]
  have inv : ∀ (k : Ky) (n : Int), (stQ m R).at k = some n → k ∈ Se.keys (bsN m) (enN m) ∧ n = R k := fun k n e => by
    rw [stQ_at] at e
    split at e
    · rename_i hm
      exact ⟨hm, (Option.some.inj e).symm⟩
    · cases e
  have le : ∀ x ∈ bsN m, ∀ y ∈ bsN m, ∀ n, Nr R x y ≤ n → Se.Le (stQ m R) (false, x, y) n := fun x hx y hy n l => ⟨_, nk x hx y hy, l⟩
  have ul : ∀ e ∈ enN m, ∀ y ∈ bsN m, ∀ n, Un R e y ≤ n → Se.Le (stQ m R) (true, e, y) n := fun e he y hy n l => ⟨_, uk e he y hy, l⟩
  have en_h : ∀ e ∈ enN m, ∃ h ∈ hs m.wd, h.1 = e := fun e he => List.mem_map.1 he
  have told : Se.Told (bnT m) (ltT m) (stQ m R) := ⟨fun b hb => le _ (tl.bound b hb).1 _ (tl.bound b hb).2 _ (C.bound b hb), fun q hq => by
    obtain ⟨h, hh, rfl⟩ := List.mem_map.1 hq
    obtain ⟨h1, _, h3⟩ := hs_bs ok hh
    exact ul _ h3 _ h1 _ (C.late h hh)⟩
  have dg : Se.Dg (bsN m) (stQ m R) := ⟨fun x hx => le x hx x hx 0 (by rw [C.dg x hx]; decide), fun x n e => by
    obtain ⟨hm, z⟩ := inv _ _ e
    have := C.dg x (Se.mem_most.1 hm).1
    have z : n = Nr R x x := z
    omega⟩
  have way : ∀ x y, y ∈ bsN m → (x = y ∨ ∃ n, (x, y, n) ∈ bnT m ∧ n ≤ 2000) → Se.Le (stQ m R) (false, x, y) 2000 := by
    intro x y hy hw
    rcases hw with e | ⟨n, h1, h2⟩
    · rw [e]
      exact (dg.1 y hy).up (by decide)
    · exact (told.bound _ h1).up h2
  refine ⟨stQ m R, ⟨⟨fun k n e => (inv k n e).1, dg, ⟨tl.stin, fun x hx => ?_⟩, fun e he => ?_, fun e x a ea => ?_⟩, ?_, told, .inl (Nat.zero_le _)⟩, ⟨fun v hv x hx z hz a b ea eb => ?_, fun e he y hy x hx a b ea eb => ?_, fun w hw k n f e1 e3 => ?_⟩⟩
  · obtain ⟨y, hy, h1, h2⟩ := tl.to x hx
    obtain ⟨z, hz, h3, h4⟩ := tl.fro x hx
    exact ⟨⟨y, hy, way x y hy h1, way y _ tl.stin h2⟩, z, hz, way _ z hz h3, way z x hx h4⟩
  · obtain ⟨h, hh, rfl⟩ := en_h e he
    have a := C.late h hh
    have b := (hs_ok ok hh).hi
    exact ul _ he _ (hs_bs ok hh).1 _ (by omega)
  · obtain ⟨hm, z⟩ := inv _ _ ea
    obtain ⟨he, hx⟩ := Se.mem_until.1 hm
    obtain ⟨h, hh, rfl⟩ := en_h e he
    have l := wt1 h hh x
    have z : a = Un R h.1 x := z
    exact ⟨h.2.1, _, le x hx _ (hs_bs ok hh).2.1 _ (Int.le_refl _), by show Nr R x h.2.1 ≤ a + (2000 : Int); omega⟩
  · show (((Se.keys (bsN m) (enN m)).map fun k => (k, (R k, (none : Option Nat)))).map (·.1)).Nodup
    rw [List.map_map, show ((fun c : Ky × (Int × Option Nat) => c.1) ∘ fun k : Ky => (k, (R k, (none : Option Nat)))) = id from rfl, List.map_id]
    have nd := bs_nodup ok
    have ne : (enN m).Nodup := hs_nd ok
    have two : ∀ (u : Bool) (l : List Str), l.Nodup → (l.flatMap fun x => (bsN m).map fun y => ((u, x, y) : Ky)).Nodup := fun u l hl => by
      refine List.pairwise_flatMap.2 ⟨fun x _ => ?_, ?_⟩
      · exact List.pairwise_map.2 (nd.imp fun {a b} n e => n (by cases e; rfl))
      · refine hl.imp fun {a b} n p hp q hq e => ?_
        obtain ⟨_, _, rfl⟩ := List.mem_map.1 hp
        obtain ⟨_, _, rfl⟩ := List.mem_map.1 hq
        cases e
        exact n rfl
    refine List.nodup_append.2 ⟨two false _ nd, two true _ ne, fun a ha b hb e => ?_⟩
    obtain ⟨_, _, ha⟩ := List.mem_flatMap.1 ha
    obtain ⟨_, _, rfl⟩ := List.mem_map.1 ha
    obtain ⟨_, _, hb⟩ := List.mem_flatMap.1 hb
    obtain ⟨_, _, rfl⟩ := List.mem_map.1 hb
    cases e
  · obtain ⟨_, q1⟩ := inv _ _ ea
    obtain ⟨_, q2⟩ := inv _ _ eb
    have q1 : a = Nr R x v := q1
    have q2 : b = Nr R v z := q2
    have := C.along x hx v hv z hz
    exact le x hx z hz _ (by omega)
  · obtain ⟨_, q1⟩ := inv _ _ ea
    obtain ⟨_, q2⟩ := inv _ _ eb
    obtain ⟨h, hh, rfl⟩ := en_h e he
    have q1 : a = Nr R x y := q1
    have q2 : b = Un R h.1 y := q2
    have := C.wait h hh x hx y hy
    exact ul _ he x hx _ (by omega)
  · obtain ⟨hm, q⟩ := inv _ _ e1
    obtain ⟨u, x, y⟩ := k
    have hkx : ∀ z r, hkOf (hs m.wd) z = some r → ∃ h ∈ hs m.wd, h.1 = z ∧ r = (h.2.1, h.2.2.1) := fun z r e => by
      rcases hk_all (hs m.wd) z with ⟨n, _⟩ | ⟨h, hh, e1, e2⟩
      · rw [n] at e
        cases e
      · rw [e2] at e
        exact ⟨h, hh, e1, (Option.some.inj e).symm⟩
    unfold Se.one at e3
    split at e3
    · split at e3
      · rename_i hu
        have hu : u = true := hu
        subst hu
        obtain ⟨r, hr, rfl⟩ := Option.map_eq_some_iff.1 e3
        obtain ⟨h, hh, e4, rfl⟩ := hkx x r hr
        obtain ⟨he, hy⟩ := Se.mem_until.1 hm
        subst e4
        have q : n = Un R h.1 y := q
        have s := C.sure h hh y hy
        rw [← q] at s
        exact le y hy _ (hs_bs ok hh).2.1 _ s
      · cases e3
    · split at e3
      · split at e3
        · rename_i hu
          have hu1 : u = false := hu.1
          subst hu1
          obtain ⟨r, hr, rfl⟩ := Option.map_eq_some_iff.1 e3
          obtain ⟨h, hh, e4, rfl⟩ := hkx x r hr
          obtain ⟨hx, hy⟩ := Se.mem_most.1 hm
          subst e4
          have q : n = Nr R h.1 y := q
          have s := C.soon h hh y hy (by rw [← q]; exact hu.2)
          rw [← q] at s
          exact le _ (hs_bs ok hh).2.1 y hy _ s
        · cases e3
      · split at e3
        · rename_i hu
          obtain ⟨hu1, hu2, hu3⟩ := hu
          have hu1 : u = true := hu1
          subst hu1
          obtain ⟨r, hr, rfl⟩ := Option.map_eq_some_iff.1 e3
          obtain ⟨h, hh, e4, rfl⟩ := hkx y r hr
          obtain ⟨he, hy⟩ := Se.mem_until.1 hm
          obtain ⟨g, hg, e5⟩ := en_h x he
          subst e4
          subst e5
          have q : n = Un R g.1 h.1 := q
          have s := C.ahead h hh g hg hu2 (by rw [← q]; exact hu3)
          rw [← q] at s
          exact ul _ he _ (hs_bs ok hh).2.1 _ s
        · cases e3
/-! ### the table of a family -/
open Classical in
noncomputable def supI (Q : Int → Prop) : Int := if h : ∃ M, Q M ∧ ∀ v, Q v → v ≤ M then Classical.choose h else 0
theorem supI_spec {Q : Int → Prop} (h : ∃ M, Q M ∧ ∀ v, Q v → v ≤ M) : Q (supI Q) ∧ ∀ v, Q v → v ≤ supI Q := by
  unfold supI
  rw [dif_pos h]
  exact Classical.choose_spec h
noncomputable def famS (m : Md) (τ : (Str → Int) → Str → Int) (k : Ky) : Int := if k.1 = true then supI fun v => ∃ h ∈ hs m.wd, h.1 = k.2.1 ∧ ∃ ω, Box m ω ∧ ω h.1 = h.2.2.2 ∧ v = τ ω h.2.1 - τ ω k.2.2 else supI fun v => ∃ ω, Box m ω ∧ v = τ ω k.2.2 - τ ω k.2.1
section
variable {m : Md} {τ : (Str → Int) → Str → Int}
def lowW (m : Md) (z : Str) : Int := (hkOf (hs m.wd) z).elim 0 (·.2)
theorem box0 (ok : MdOk m) : ∃ ω, Box m ω := ⟨lowW m, fun h hh => by
  have e : lowW m h.1 = h.2.2.1 := by
    unfold lowW
    rw [hk_at ok hh]
    rfl
  rw [e]
  exact ⟨Int.le_refl _, hs_le ok hh⟩⟩
theorem box_set {ω : Str → Int} (ok : MdOk m) (b : Box m ω) {h : Str × Str × Int × Int} (hh : h ∈ hs m.wd) {v : Int} (l1 : h.2.2.1 ≤ v) (l2 : v ≤ h.2.2.2) : Box m (setW ω h.1 v) := fun g hg => by
  unfold setW
  by_cases e : g.1 = h.1
  · rw [if_pos e, nd_map_eq (hs_nd ok) hg hh e]
    exact ⟨l1, l2⟩
  · rw [if_neg e]
    exact b g hg
theorem Fam.far (F : Fam m τ) (ok : MdOk m) {ω : Str → Int} (b : Box m ω) {x y : Str} (hx : x ∈ bsN m) (hy : y ∈ bsN m) : τ ω y - τ ω x ≤ 8000 := by
  have tl := tl_ok ok
  have way : ∀ x y : Str, (x = y ∨ ∃ n, (x, y, n) ∈ bnT m ∧ n ≤ 2000) → τ ω y - τ ω x ≤ 2000 := fun x y h => by
    rcases h with e | ⟨n, h1, h2⟩
    · rw [e]
      omega
    · have := F.bound ω b _ h1
      have this : τ ω y - τ ω x ≤ n := this
      omega
  obtain ⟨u, _, h1, h2⟩ := tl.to x hx
  obtain ⟨v, _, h3, h4⟩ := tl.fro y hy
  have a1 := way _ _ h1
  have a2 := way _ _ h2
  have a3 := way _ _ h3
  have a4 := way _ _ h4
  omega
theorem Fam.near (F : Fam m τ) (ok : MdOk m) {x y : Str} (hx : x ∈ bsN m) (hy : y ∈ bsN m) : (∃ ω, Box m ω ∧ Nr (famS m τ) x y = τ ω y - τ ω x) ∧ ∀ ω, Box m ω → τ ω y - τ ω x ≤ Nr (famS m τ) x y := by
  have e : Nr (famS m τ) x y = supI fun v => ∃ ω, Box m ω ∧ v = τ ω y - τ ω x := if_neg (fun z => by cases z)
  rw [e]
  obtain ⟨ω, b⟩ := box0 ok
  have s := supI_spec (Q := fun v => ∃ ω, Box m ω ∧ v = τ ω y - τ ω x) (int_max (B := 8000) (fun v ⟨ω, b, e⟩ => by rw [e]; exact F.far ok b hx hy) _ (τ ω y - τ ω x) ⟨ω, b, rfl⟩ rfl)
  exact ⟨s.1, fun ω b => s.2 _ ⟨ω, b, rfl⟩⟩
theorem Fam.wait (F : Fam m τ) (ok : MdOk m) {h : Str × Str × Int × Int} (hh : h ∈ hs m.wd) {x : Str} (hx : x ∈ bsN m) : (∃ ω, Box m ω ∧ ω h.1 = h.2.2.2 ∧ Un (famS m τ) h.1 x = τ ω h.2.1 - τ ω x) ∧ ∀ ω, Box m ω → ω h.1 = h.2.2.2 → τ ω h.2.1 - τ ω x ≤ Un (famS m τ) h.1 x := by
  have e : Un (famS m τ) h.1 x = supI fun v => ∃ g ∈ hs m.wd, g.1 = h.1 ∧ ∃ ω, Box m ω ∧ ω g.1 = g.2.2.2 ∧ v = τ ω g.2.1 - τ ω x := if_pos rfl
  rw [e]
  obtain ⟨ω, b⟩ := box0 ok
  have same : ∀ g ∈ hs m.wd, g.1 = h.1 → g = h := fun g hg e => nd_map_eq (hs_nd ok) hg hh e
  have s := supI_spec (Q := fun v => ∃ g ∈ hs m.wd, g.1 = h.1 ∧ ∃ ω, Box m ω ∧ ω g.1 = g.2.2.2 ∧ v = τ ω g.2.1 - τ ω x) (int_max (B := 8000) (fun v ⟨g, hg, eg, ω, b, _, e⟩ => by rw [e]; exact F.far ok b hx (hs_bs ok hg).2.1) _ (τ (setW ω h.1 h.2.2.2) h.2.1 - τ (setW ω h.1 h.2.2.2) x) ⟨h, hh, rfl, setW ω h.1 h.2.2.2, box_set ok b hh (hs_le ok hh) (Int.le_refl _), if_pos rfl, rfl⟩ rfl)
  refine ⟨?_, fun ω b q => s.2 _ ⟨h, hh, rfl, ω, b, q, rfl⟩⟩
  obtain ⟨g, hg, eg, ω, b, q, e⟩ := s.1
  rw [same g hg eg] at q e
  exact ⟨ω, b, q, e⟩
theorem setW_back (ω : Str → Int) (e : Str) (v : Int) : setW (setW ω e v) e (ω e) = ω := by
  funext z
  unfold setW
  by_cases q : z = e
  · rw [if_pos q, q]
  · rw [if_neg q, if_neg q]
/-- the plays with the least length of an end know nothing more till then -/
theorem Fam.agree (F : Fam m τ) (ok : MdOk m) {ω : Str → Int} (b : Box m ω) {h : Str × Str × Int × Int} (hh : h ∈ hs m.wd) : Box m (setW ω h.1 h.2.2.1) ∧ τ (setW ω h.1 h.2.2.1) h.1 = τ (setW ω h.1 h.2.2.1) h.2.1 + h.2.2.1 ∧ τ ω h.2.1 = τ (setW ω h.1 h.2.2.1) h.2.1 ∧ ∀ x ∈ bsN m, τ (setW ω h.1 h.2.2.1) x < τ (setW ω h.1 h.2.2.1) h.2.1 + h.2.2.1 → τ ω x = τ (setW ω h.1 h.2.2.1) x := by
  have b1 := box_set ok b hh (v := h.2.2.1) (Int.le_refl _) (hs_le ok hh)
  have e1 := F.en _ b1 h hh
  have s1 : setW ω h.1 h.2.2.1 h.1 = h.2.2.1 := if_pos rfl
  rw [s1] at e1
  have lo := (hs_ok ok hh).lo
  have bb := b h hh
  have all : ∀ x ∈ bsN m, τ (setW ω h.1 h.2.2.1) x < τ (setW ω h.1 h.2.2.1) h.2.1 + h.2.2.1 → τ ω x = τ (setW ω h.1 h.2.2.1) x := fun x hx l => by
    have q := F.na (setW ω h.1 h.2.2.1) (ω h.1) h b1 hh (by rw [setW_back]; exact b) x hx (by rw [s1]; omega)
    rw [setW_back] at q
    exact q
  exact ⟨b1, e1, all _ (hs_bs ok hh).2.1 (by omega), all⟩
theorem fam_clq (F : Fam m τ) (ok : MdOk m) : Clq m (famS m τ) := by
  refine ⟨fun x hx y hy z hz => ?_, fun h hh x hx y hy => ?_, fun h hh x hx => ?_, fun h hh y hy neg => ?_, fun h hh g hg ne neg => ?_, fun q hq => ?_, fun h hh => ?_, fun x hx => ?_⟩
  · obtain ⟨ω, b, e⟩ := (F.near ok hx hz).1
    have a1 := (F.near ok hx hy).2 ω b
    have a2 := (F.near ok hy hz).2 ω b
    omega
  · obtain ⟨ω, b, q, e⟩ := (F.wait ok hh hx).1
    have a1 := (F.near ok hx hy).2 ω b
    have a2 := (F.wait ok hh hy).2 ω b q
    omega
  · obtain ⟨_, hb, _⟩ := hs_bs ok hh
    obtain ⟨ω, b, e⟩ := (F.near ok hx hb).1
    have lo := (hs_ok ok hh).lo
    have bb := b h hh
    have le := hs_le ok hh
    by_cases l : τ ω h.2.1 - τ ω x ≤ -h.2.2.1
    · omega
    · have b1 := box_set ok b hh (v := h.2.2.2) le (Int.le_refl _)
      have q1 := F.na ω h.2.2.2 h b hh b1 x hx (by omega)
      have q2 := F.na ω h.2.2.2 h b hh b1 _ hb (by omega)
      have a := (F.wait ok hh hx).2 _ b1 (if_pos rfl)
      rw [q1, q2] at a
      omega
  · obtain ⟨he, hb, _⟩ := hs_bs ok hh
    obtain ⟨ω, b, e⟩ := (F.near ok hb hy).1
    obtain ⟨b1, e1, eb, all⟩ := F.agree ok b hh
    have a := (F.near ok he hy).2 _ b1
    have q := all y hy (by omega)
    omega
  · obtain ⟨he, hb, _⟩ := hs_bs ok hh
    obtain ⟨_, gb, _⟩ := hs_bs ok hg
    obtain ⟨ω, b, qg, e⟩ := (F.wait ok hg hb).1
    obtain ⟨b1, e1, eb, all⟩ := F.agree ok b hh
    have sg : setW ω h.1 h.2.2.1 g.1 = g.2.2.2 := by
      unfold setW
      rw [if_neg ne]
      exact qg
    have a := (F.wait ok hg he).2 _ b1 sg
    have q := all _ gb (by omega)
    omega
  · have tl := (tl_ok ok).bound q hq
    obtain ⟨ω, b, e⟩ := (F.near ok tl.1 tl.2).1
    have := F.bound ω b q hq
    omega
  · obtain ⟨he, hb, _⟩ := hs_bs ok hh
    obtain ⟨ω, b, q, e⟩ := (F.wait ok hh he).1
    have := F.en ω b h hh
    omega
  · obtain ⟨ω, b, e⟩ := (F.near ok hx hx).1
    omega
/-- plays for all lengths make a web steered -/
theorem fam_sy (F : Fam m τ) (ok : MdOk m) : Sy m := sy_clq ok (fam_clq F ok)
end
end Tw

set_option maxHeartbeats 4000000
/-! plays: what a closed table does with given lengths, from any stand of a run on -/
namespace Tw
open PySem PySem.Spec PyProof.Rows L2
/-- is an end to be heard now -/
def hrdB (ω : Str → Int) (tk : Tk) (c : Int) (h : Str × Str × Int × Int) : Bool := !(tk.lookup h.1).isSome && match tk.lookup h.2.1 with
  | some u => decide (u + ω h.1 = c)
  | none => false
def hear1 (ω : Str → Int) (c : Int) (tk : Tk) (h : Str × Str × Int × Int) : Tk := if hrdB ω tk c h = true then tk ++ [(h.1, c)] else tk
def hearS (m : Md) (ω : Str → Int) (c : Int) (tk : Tk) : Tk := (hs m.wd).foldl (hear1 ω c) tk
def doN (m : Md) (S : Sq) (c : Int) : Nat → Tk → Tk
  | 0, tk => tk
  | n + 1, tk => match mustL m S tk c with
    | [] => tk
    | z :: _ => doN m S c n (tk ++ [(z, c)])
def tickS (m : Md) (S : Sq) (ω : Str → Int) (tk : Tk) (c : Int) : Tk := doN m S c m.own.length (hearS m ω c tk)
def simS (m : Md) (S : Sq) (ω : Str → Int) (tk : Tk) (c : Int) : Nat → Tk
  | 0 => tickS m S ω tk c
  | n + 1 => tickS m S ω (simS m S ω tk c n) (c + (n : Nat) + 1)
theorem cnt_put {m : Md} {tk : Tk} {c : Int} {z : Str} (hz : z ∈ m.own) (new : tk.lookup z = none) : (m.own.filter fun y => !((tk ++ [(z, c)]).lookup y).isSome).length < (m.own.filter fun y => !(tk.lookup y).isSome).length := by
  have le : ∀ y, (!((tk ++ [(z, c)]).lookup y).isSome) = true → (!(tk.lookup y).isSome) = true := fun y h => by
    rw [look_app] at h
    cases e : tk.lookup y with
    | none => rfl
    | some _ => rw [e] at h; cases h
  have gen : ∀ l : List Str, (l.filter fun y => !((tk ++ [(z, c)]).lookup y).isSome).length ≤ (l.filter fun y => !(tk.lookup y).isSome).length ∧ (z ∈ l → (l.filter fun y => !((tk ++ [(z, c)]).lookup y).isSome).length < (l.filter fun y => !(tk.lookup y).isSome).length) := by
    intro l
    induction l with
    | nil => exact ⟨Nat.le_refl _, fun h => by cases h⟩
    | cons y l ih =>
      rw [List.filter_cons, List.filter_cons]
      by_cases c1 : (!((tk ++ [(z, c)]).lookup y).isSome) = true
      · rw [if_pos c1, if_pos (le y c1), List.length_cons, List.length_cons]
        refine ⟨Nat.succ_le_succ ih.1, fun h => ?_⟩
        rcases List.mem_cons.1 h with e | h
        · rw [← e, look_app, new, if_pos rfl] at c1
          cases c1
        · exact Nat.succ_lt_succ (ih.2 h)
      · rw [if_neg c1]
        by_cases c2 : (!(tk.lookup y).isSome) = true
        · rw [if_pos c2, List.length_cons]
          exact ⟨Nat.le_succ_of_le ih.1, fun _ => Nat.lt_succ_of_le ih.1⟩
        · rw [if_neg c2]
          refine ⟨ih.1, fun h => ?_⟩
          rcases List.mem_cons.1 h with e | h
          · rw [← e, new] at c2
            exact absurd rfl c2
          · exact ih.2 h
  exact (gen m.own).2 hz
/-- more came, at c -/
def Mor (c : Int) (tk tk' : Tk) : Prop := ∀ x, (∀ u, tk.lookup x = some u → tk'.lookup x = some u) ∧ (tk.lookup x = none → tk'.lookup x = none ∨ tk'.lookup x = some c)
theorem Mor.refl {c : Int} {tk : Tk} : Mor c tk tk := fun x => ⟨fun u h => h, fun h => .inl h⟩
theorem Mor.trans {c : Int} {t1 t2 t3 : Tk} (a : Mor c t1 t2) (b : Mor c t2 t3) : Mor c t1 t3 := fun x => ⟨fun u h => (b x).1 u ((a x).1 u h), fun h => by
  rcases (a x).2 h with e | e
  · exact (b x).2 e
  · exact .inr ((b x).1 c e)⟩
theorem Mor.app {c : Int} {tk : Tk} (z : Str) : Mor c tk (tk ++ [(z, c)]) := fun x => by
  rw [look_app]
  refine ⟨fun u h => by rw [h], fun h => ?_⟩
  rw [h]
  by_cases e : x = z
  · exact .inr (if_pos e)
  · exact .inl (if_neg e)
/-- how all stands ahead of the tick c -/
structure Pre (m : Md) (S : Sq) (ω : Str → Int) (tk : Tk) (c : Int) : Prop where
  inv : Inv m S tk c
  tok : TkOk m tk
  yet : ∀ h ∈ hs m.wd, tk.lookup h.1 = none → ∀ u, tk.lookup h.2.1 = some u → c ≤ u + ω h.1
  was : ∀ h ∈ hs m.wd, ∀ v, tk.lookup h.1 = some v → ∃ u, tk.lookup h.2.1 = some u ∧ v = u + ω h.1
/-- .. and behind it -/
structure Post (m : Md) (S : Sq) (ω : Str → Int) (tk : Tk) (c : Int) : Prop where
  pre : Pre m S ω tk c
  yet : ∀ h ∈ hs m.wd, tk.lookup h.1 = none → ∀ u, tk.lookup h.2.1 = some u → c < u + ω h.1
  must : mustL m S tk c = []
section
variable {m : Md} {S : Sq} {ω : Str → Int} {tk : Tk} {c : Int}
theorem tok_put {z : Str} (tok : TkOk m tk) (hz : z ∈ bsN m) (new : tk.lookup z = none) : TkOk m (tk ++ [(z, c)]) := by
  refine ⟨?_, fun r hr => ?_, ?_⟩
  · rw [List.map_append, List.nodup_append]
    refine ⟨tok.nd, List.nodup_cons.2 ⟨List.not_mem_nil, List.nodup_nil⟩, fun a ha b hb e => ?_⟩
    rw [List.mem_singleton.1 hb] at e
    rw [e] at ha
    exact tk_new new ha
  · rcases List.mem_append.1 hr with h | h
    · exact tok.sub r h
    · rw [List.mem_singleton.1 h]
      exact hz
  · rw [List.length_append]
    have := tok.some_
    omega
theorem hrd_parts {h : Str × Str × Int × Int} (e : hrdB ω tk c h = true) : tk.lookup h.1 = none ∧ ∃ u, tk.lookup h.2.1 = some u ∧ u + ω h.1 = c := by
  unfold hrdB at e
  rw [Bool.and_eq_true] at e
  obtain ⟨e1, e2⟩ := e
  refine ⟨?_, ?_⟩
  · cases q : tk.lookup h.1 with
    | none => rfl
    | some _ => rw [q] at e1; cases e1
  · cases q : tk.lookup h.2.1 with
    | none => rw [q] at e2; cases e2
    | some u => rw [q] at e2; exact ⟨u, rfl, of_decide_eq_true e2⟩
theorem bg_no {m : Md} (ok : MdOk m) {h g : Str × Str × Int × Int} (hh : h ∈ hs m.wd) (hg : g ∈ hs m.wd) : ¬ h.2.1 = g.1 := fun e => by
  have q := en_own ok (hs_ok ok hg).en
  rcases (hs_ok ok hh).bg with o | o
  · exact q.1 (e.symm.trans o)
  · exact q.2 (by rw [← e]; exact o)
theorem Pre.hear {h : Str × Str × Int × Int} (P : Pre m S ω tk c) (C : Clq m S) (ok : MdOk m) (bx : Box m ω) (hh : h ∈ hs m.wd) (e : hrdB ω tk c h = true) : Pre m S ω (tk ++ [(h.1, c)]) c := by
  obtain ⟨new, u, hu, eu⟩ := hrd_parts e
  have bb := bx h hh
  have hb : Hrb m tk c h u := ⟨hh, new, hu, by omega, by omega⟩
  refine ⟨P.inv.hear C ok hb, tok_put P.tok (hs_bs ok hh).1 new, fun g hg n v hv => ?_, fun g hg v hv => ?_⟩
  · rw [look_app] at n hv
    cases e1 : tk.lookup g.1 with
    | some _ => rw [e1] at n; cases n
    | none =>
      cases e2 : tk.lookup g.2.1 with
      | some u' =>
        rw [e2] at hv
        cases hv
        exact P.yet g hg e1 _ e2
      | none =>
        rw [e2] at hv
        have hv : (if g.2.1 = h.1 then some c else none) = some v := hv
        rw [if_neg (bg_no ok hg hh)] at hv
        cases hv
  · rw [look_app] at hv
    cases e1 : tk.lookup g.1 with
    | some v' =>
      rw [e1] at hv
      cases hv
      obtain ⟨u', h1, h2⟩ := P.was g hg _ e1
      exact ⟨u', by rw [look_app, h1], h2⟩
    | none =>
      rw [e1] at hv
      have hv : (if g.1 = h.1 then some c else none) = some v := hv
      by_cases q : g.1 = h.1
      · rw [if_pos q] at hv
        have ev : c = v := Option.some.inj hv
        have eg := nd_map_eq (hs_nd ok) hg hh q
        subst eg
        exact ⟨u, by rw [look_app, hu], ev ▸ eu.symm⟩
      · rw [if_neg q] at hv
        cases hv
theorem Pre.doo {z : Str} (P : Pre m S ω tk c) (C : Clq m S) (ok : MdOk m) (bx : Box m ω) (hz : z ∈ mustL m S tk c) : Pre m S ω (tk ++ [(z, c)]) c ∧ z ∈ m.own ∧ tk.lookup z = none := by
  have hm := P.inv.must_free C ok P.tok z hz
  have hm := List.mem_filter.1 hm
  rw [Bool.and_eq_true] at hm
  obtain ⟨ho, hn, fr⟩ := hm
  have new : tk.lookup z = none := by
    cases e : tk.lookup z with
    | none => rfl
    | some _ => rw [e] at hn; cases hn
  refine ⟨⟨P.inv.doo C ok ho new fr, tok_put P.tok (own_bs ho) new, fun g hg n v hv => ?_, fun g hg v hv => ?_⟩, ho, new⟩
  · have lo := (hs_ok ok hg).lo.1
    have bb := bx g hg
    rw [look_app] at n hv
    cases e1 : tk.lookup g.1 with
    | some _ => rw [e1] at n; cases n
    | none =>
      cases e2 : tk.lookup g.2.1 with
      | some u' =>
        rw [e2] at hv
        cases hv
        exact P.yet g hg e1 _ e2
      | none =>
        rw [e2] at hv
        have hv : (if g.2.1 = z then some c else none) = some v := hv
        by_cases q : g.2.1 = z
        · rw [if_pos q] at hv
          cases hv
          omega
        · rw [if_neg q] at hv
          cases hv
  · rw [look_app] at hv
    cases e1 : tk.lookup g.1 with
    | some v' =>
      rw [e1] at hv
      cases hv
      obtain ⟨u', h1, h2⟩ := P.was g hg _ e1
      exact ⟨u', by rw [look_app, h1], h2⟩
    | none =>
      rw [e1] at hv
      have hv : (if g.1 = z then some c else none) = some v := hv
      by_cases q : g.1 = z
      · exact absurd ho (by rw [← q]; exact hs_own ok hg)
      · rw [if_neg q] at hv
        cases hv
/-- the ends of a tick are heard -/
theorem hear_fold (C : Clq m S) (ok : MdOk m) (bx : Box m ω) : ∀ (l : List (Str × Str × Int × Int)) (tk : Tk), (∀ h ∈ l, h ∈ hs m.wd) → Pre m S ω tk c → ∀ (l0 : List (Str × Str × Int × Int)), (∀ h ∈ l0, h ∈ hs m.wd) → (∀ h ∈ l0, hrdB ω tk c h = false) → Pre m S ω (l.foldl (hear1 ω c) tk) c ∧ Mor c tk (l.foldl (hear1 ω c) tk) ∧ ∀ h ∈ l0 ++ l, hrdB ω (l.foldl (hear1 ω c) tk) c h = false
  | [], tk, _, P, l0, _, no => ⟨P, Mor.refl, by rw [List.append_nil]; exact no⟩
  | h :: l, tk, hl, P, l0, hl0, no => by
    have hh := hl h List.mem_cons_self
    have hl' : ∀ g ∈ l, g ∈ hs m.wd := fun g hg => hl g (List.mem_cons_of_mem _ hg)
    have hl0' : ∀ g ∈ l0 ++ [h], g ∈ hs m.wd := fun g hg => (List.mem_append.1 hg).elim (hl0 g) fun z => by rw [List.mem_singleton.1 z]; exact hh
    rw [show l0 ++ h :: l = (l0 ++ [h]) ++ l by rw [List.append_assoc]; rfl]
    show Pre m S ω (l.foldl (hear1 ω c) (hear1 ω c tk h)) c ∧ Mor c tk (l.foldl (hear1 ω c) (hear1 ω c tk h)) ∧ ∀ g ∈ (l0 ++ [h]) ++ l, hrdB ω (l.foldl (hear1 ω c) (hear1 ω c tk h)) c g = false
    by_cases e : hrdB ω tk c h = true
    · have e1 : hear1 ω c tk h = tk ++ [(h.1, c)] := if_pos e
      rw [e1]
      have P2 := P.hear C ok bx hh e
      have no2 : ∀ g ∈ l0 ++ [h], hrdB ω (tk ++ [(h.1, c)]) c g = false := fun g hg => by
        unfold hrdB
        rw [look_app, look_app]
        rcases List.mem_append.1 hg with hg | hg
        · have n := no g hg
          unfold hrdB at n
          cases q1 : tk.lookup g.1 with
          | some _ => rfl
          | none =>
            rw [q1] at n
            by_cases q : g.1 = h.1
            · simp only [if_pos q]
              rfl
            · simp only [if_neg q]
              cases q2 : tk.lookup g.2.1 with
              | some u =>
                rw [q2] at n
                exact n
              | none =>
                simp only [if_neg (bg_no ok (hl0 g hg) hh)]
                rfl
        · rw [List.mem_singleton.1 hg]
          obtain ⟨new, _⟩ := hrd_parts e
          rw [new]
          simp only [if_true]
          rfl
      obtain ⟨a, b, d⟩ := hear_fold C ok bx l _ hl' P2 (l0 ++ [h]) hl0' no2
      exact ⟨a, (Mor.app h.1).trans b, d⟩
    · have e1 : hear1 ω c tk h = tk := if_neg e
      rw [e1]
      refine hear_fold C ok bx l tk hl' P (l0 ++ [h]) hl0' fun g hg => ?_
      rcases List.mem_append.1 hg with hg | hg
      · exact no g hg
      · rw [List.mem_singleton.1 hg]
        exact Bool.eq_false_iff.2 e
theorem hearS_pre (P : Pre m S ω tk c) (C : Clq m S) (ok : MdOk m) (bx : Box m ω) : Pre m S ω (hearS m ω c tk) c ∧ Mor c tk (hearS m ω c tk) ∧ ∀ h ∈ hs m.wd, (hearS m ω c tk).lookup h.1 = none → ∀ u, (hearS m ω c tk).lookup h.2.1 = some u → c < u + ω h.1 := by
  obtain ⟨a, b, d⟩ := hear_fold C ok bx (hs m.wd) tk (fun _ h => h) P [] (fun _ h => by cases h) (fun _ h => by cases h)
  refine ⟨a, b, fun h hh n u hu => ?_⟩
  have y := a.yet h hh n u hu
  have q := d h (by rw [List.nil_append]; exact hh)
  unfold hrdB at q
  have n' : (List.foldl (hear1 ω c) tk (hs m.wd)).lookup h.1 = none := n
  have hu' : (List.foldl (hear1 ω c) tk (hs m.wd)).lookup h.2.1 = some u := hu
  rw [n', hu'] at q
  have q : decide (u + ω h.1 = c) = false := q
  have q := of_decide_eq_false q
  omega
/-- the moments of a tick are done -/
theorem doN_pre (C : Clq m S) (ok : MdOk m) (bx : Box m ω) : ∀ (n : Nat) (tk : Tk), Pre m S ω tk c → (∀ h ∈ hs m.wd, tk.lookup h.1 = none → ∀ u, tk.lookup h.2.1 = some u → c < u + ω h.1) → (m.own.filter fun y => !(tk.lookup y).isSome).length ≤ n → Post m S ω (doN m S c n tk) c ∧ Mor c tk (doN m S c n tk)
  | 0, tk, P, y, l => by
    refine ⟨⟨P, y, ?_⟩, Mor.refl⟩
    have e : (m.own.filter fun y => !(tk.lookup y).isSome) = [] := List.length_eq_zero_iff.1 (Nat.le_zero.1 l)
    refine List.filter_eq_nil_iff.2 fun z hz => ?_
    have q := List.filter_eq_nil_iff.1 e z hz
    show ¬ (!(tk.lookup z).isSome && decide (duN S tk z ≤ c)) = true
    cases e2 : tk.lookup z with
    | some _ => exact fun h => by cases h
    | none => rw [e2] at q; exact absurd rfl q
  | n + 1, tk, P, y, l => by
    show Post m S ω (match mustL m S tk c with
      | [] => tk
      | z :: _ => doN m S c n (tk ++ [(z, c)])) c ∧ Mor c tk (match mustL m S tk c with
      | [] => tk
      | z :: _ => doN m S c n (tk ++ [(z, c)]))
    cases hm : mustL m S tk c with
    | nil => exact ⟨⟨P, y, hm⟩, Mor.refl⟩
    | cons z r =>
      obtain ⟨P2, ho, new⟩ := P.doo C ok bx (show z ∈ mustL m S tk c by rw [hm]; exact List.mem_cons_self)
      have y2 : ∀ h ∈ hs m.wd, (tk ++ [(z, c)]).lookup h.1 = none → ∀ u, (tk ++ [(z, c)]).lookup h.2.1 = some u → c < u + ω h.1 := fun h hh n u hu => by
        have lo := (hs_ok ok hh).lo.1
        have bb := bx h hh
        rw [look_app] at n hu
        cases e1 : tk.lookup h.1 with
        | some _ => rw [e1] at n; cases n
        | none =>
          cases e2 : tk.lookup h.2.1 with
          | some u' =>
            rw [e2] at hu
            cases hu
            exact y h hh e1 _ e2
          | none =>
            rw [e2] at hu
            have hu : (if h.2.1 = z then some c else none) = some u := hu
            by_cases q : h.2.1 = z
            · rw [if_pos q] at hu
              have eu : c = u := Option.some.inj hu
              omega
            · rw [if_neg q] at hu
              cases hu
      have l2 := cnt_put (m := m) (c := c) ho new
      obtain ⟨a, b⟩ := doN_pre C ok bx n _ P2 y2 (by omega)
      exact ⟨a, (Mor.app z).trans b⟩
theorem tick_post (P : Pre m S ω tk c) (C : Clq m S) (ok : MdOk m) (bx : Box m ω) : Post m S ω (tickS m S ω tk c) c ∧ Mor c tk (tickS m S ω tk c) := by
  obtain ⟨a, b, d⟩ := hearS_pre P C ok bx
  obtain ⟨e, g⟩ := doN_pre C ok bx m.own.length _ a d (List.length_filter_le _ _)
  exact ⟨e, b.trans g⟩
theorem Post.next (P : Post m S ω tk c) (C : Clq m S) (ok : MdOk m) (bx : Box m ω) : Pre m S ω tk (c + 1) := by
  refine ⟨P.pre.inv.pass C ok (fun h hh => ?_) P.must, P.pre.tok, fun h hh n u hu => ?_, P.pre.was⟩
  · unfold unhB
    cases e1 : tk.lookup h.1 with
    | some _ => rfl
    | none =>
      cases e2 : tk.lookup h.2.1 with
      | none => rfl
      | some u =>
        have y := P.yet h hh e1 u e2
        have bb := bx h hh
        show (!false && decide (h.2.2.2 ≤ c - u)) = false
        rw [decide_eq_false (by omega)]
        rfl
  · have := P.yet h hh n u hu
    omega
theorem sim_post (P : Pre m S ω tk c) (C : Clq m S) (ok : MdOk m) (bx : Box m ω) : ∀ n : Nat, Post m S ω (simS m S ω tk c n) (c + n)
  | 0 => by
    have := (tick_post P C ok bx).1
    rw [show c + ((0 : Nat) : Int) = c by omega]
    exact this
  | n + 1 => by
    have := (tick_post ((sim_post P C ok bx n).next C ok bx) C ok bx).1
    rw [show c + ((n + 1 : Nat) : Int) = c + (n : Nat) + 1 by omega]
    exact this
theorem sim_mor (P : Pre m S ω tk c) (C : Clq m S) (ok : MdOk m) (bx : Box m ω) (n : Nat) : Mor (c + (n : Nat) + 1) (simS m S ω tk c n) (simS m S ω tk c (n + 1)) := (tick_post ((sim_post P C ok bx n).next C ok bx) C ok bx).2
/-- what came stays -/
theorem sim_keep (P : Pre m S ω tk c) (C : Clq m S) (ok : MdOk m) (bx : Box m ω) {n k : Nat} (l : n ≤ k) {x : Str} {u : Int} (h : (simS m S ω tk c n).lookup x = some u) : (simS m S ω tk c k).lookup x = some u := by
  induction l with
  | refl => exact h
  | step _ ih => exact ((sim_mor P C ok bx _) x).1 u ih
/-- what comes later comes later -/
theorem sim_late (P : Pre m S ω tk c) (C : Clq m S) (ok : MdOk m) (bx : Box m ω) {n k : Nat} (l : n ≤ k) {x : Str} {u : Int} (h0 : (simS m S ω tk c n).lookup x = none) (h : (simS m S ω tk c k).lookup x = some u) : c + n < u := by
  induction l with
  | refl => rw [h0] at h; cases h
  | @step j le ih =>
    cases e : (simS m S ω tk c j).lookup x with
    | some v =>
      have := ((sim_mor P C ok bx j) x).1 v e
      rw [this] at h
      cases h
      exact ih e
    | none =>
      rcases ((sim_mor P C ok bx j) x).2 e with q | q
      · have q : (simS m S ω tk c (j + 1)).lookup x = none := q
        have h : (simS m S ω tk c (j + 1)).lookup x = some u := h
        rw [q] at h
        cases h
      · have q : (simS m S ω tk c (j + 1)).lookup x = some (c + (j : Nat) + 1) := q
        have h : (simS m S ω tk c (j + 1)).lookup x = some u := h
        rw [q] at h
        cases h
        have le : n ≤ j := le
        omega
/-- at last all came -/
theorem sim_all (P : Pre m S ω tk c) (C : Clq m S) (ok : MdOk m) (bx : Box m ω) (c0 : 0 ≤ c) {x : Str} (hx : x ∈ bsN m) : ∃ u, (simS m S ω tk c 3001).lookup x = some u := by
  cases e : (simS m S ω tk c 3001).lookup x with
  | some u => exact ⟨u, rfl⟩
  | none =>
    have l := ok.last
    rcases (sim_post P C ok bx 3001).pre.inv.not_far C ok hx e with h | ⟨g, hg, h⟩
    · omega
    · have := (hs_ok ok hg).hi.2
      omega
def plS (m : Md) (S : Sq) (tk : Tk) (c : Int) (ω : Str → Int) (x : Str) : Int := ((simS m S ω tk c 3001).lookup x).getD 0
theorem plS_at (P : Pre m S ω tk c) (C : Clq m S) (ok : MdOk m) (bx : Box m ω) (c0 : 0 ≤ c) {x : Str} (hx : x ∈ bsN m) : (simS m S ω tk c 3001).lookup x = some (plS m S tk c ω x) := by
  obtain ⟨u, hu⟩ := sim_all P C ok bx c0 hx
  unfold plS
  rw [hu]
  rfl
theorem plS_bound (P : Pre m S ω tk c) (C : Clq m S) (ok : MdOk m) (bx : Box m ω) (c0 : 0 ≤ c) {x y : Str} (hx : x ∈ bsN m) (hy : y ∈ bsN m) : plS m S tk c ω y - plS m S tk c ω x ≤ Nr S x y := (sim_post P C ok bx 3001).pre.inv.i1 _ _ _ _ (plS_at P C ok bx c0 hx) (plS_at P C ok bx c0 hy)
theorem plS_en (P : Pre m S ω tk c) (C : Clq m S) (ok : MdOk m) (bx : Box m ω) (c0 : 0 ≤ c) {h : Str × Str × Int × Int} (hh : h ∈ hs m.wd) : plS m S tk c ω h.1 = plS m S tk c ω h.2.1 + ω h.1 := by
  obtain ⟨u, h1, h2⟩ := (sim_post P C ok bx 3001).pre.was h hh _ (plS_at P C ok bx c0 (hs_bs ok hh).1)
  rw [plS_at P C ok bx c0 (hs_bs ok hh).2.1] at h1
  cases h1
  exact h2
theorem plS_was (P : Pre m S ω tk c) (C : Clq m S) (ok : MdOk m) (bx : Box m ω) (c0 : 0 ≤ c) {x : Str} {u : Int} (h : tk.lookup x = some u) : plS m S tk c ω x = u := by
  have a := ((tick_post P C ok bx).2 x).1 u h
  have b := sim_keep P C ok bx (n := 0) (k := 3001) (by decide) a
  unfold plS
  rw [b]
  rfl
theorem plS_new (P : Pre m S ω tk c) (C : Clq m S) (ok : MdOk m) (bx : Box m ω) (c0 : 0 ≤ c) {x : Str} (hx : x ∈ bsN m) (h : tk.lookup x = none) : c ≤ plS m S tk c ω x := by
  have at_ := plS_at P C ok bx c0 hx
  rcases ((tick_post P C ok bx).2 x).2 h with e | e
  · have := sim_late P C ok bx (n := 0) (k := 3001) (by decide) e at_
    omega
  · have b := sim_keep P C ok bx (n := 0) (k := 3001) (by decide) e
    rw [at_] at b
    have := Option.some.inj b
    omega
theorem hrd_same {e h : Str × Str × Int × Int} {v : Int} (ok : MdOk m) (he : e ∈ hs m.wd) (hh : h ∈ hs m.wd) (K : ∀ u, tk.lookup e.2.1 = some u → c < u + min (ω e.1) v) : hrdB ω tk c h = hrdB (setW ω e.1 v) tk c h := by
  unfold hrdB
  by_cases q : h.1 = e.1
  · have eh := nd_map_eq (hs_nd ok) hh he q
    rw [eh]
    cases eb : tk.lookup e.2.1 with
    | none => rfl
    | some u =>
      have l := K u eb
      have s : setW ω e.1 v e.1 = v := if_pos rfl
      show (_ && decide (u + ω e.1 = c)) = (_ && decide (u + setW ω e.1 v e.1 = c))
      rw [s, decide_eq_false (by omega), decide_eq_false (by omega)]
  · have s : setW ω e.1 v h.1 = ω h.1 := if_neg q
    cases tk.lookup h.2.1 with
    | none => rfl
    | some u =>
      show (_ && decide (u + ω h.1 = c)) = (_ && decide (u + setW ω e.1 v h.1 = c))
      rw [s]
theorem fold_same {e : Str × Str × Int × Int} {v : Int} (ok : MdOk m) (he : e ∈ hs m.wd) : ∀ (l : List (Str × Str × Int × Int)) (tk : Tk), (∀ h ∈ l, h ∈ hs m.wd) → (∀ u, tk.lookup e.2.1 = some u → c < u + min (ω e.1) v) → l.foldl (hear1 ω c) tk = l.foldl (hear1 (setW ω e.1 v) c) tk
  | [], _, _, _ => rfl
  | h :: l, tk, hl, K => by
    have hh := hl h List.mem_cons_self
    have s : hear1 (setW ω e.1 v) c tk h = hear1 ω c tk h := by
      unfold hear1
      rw [hrd_same ok he hh K]
    show l.foldl (hear1 ω c) (hear1 ω c tk h) = l.foldl (hear1 (setW ω e.1 v) c) (hear1 (setW ω e.1 v) c tk h)
    rw [s]
    refine fold_same ok he l _ (fun g hg => hl g (List.mem_cons_of_mem _ hg)) fun u hu => K u ?_
    unfold hear1 at hu
    split at hu
    · rw [look_app] at hu
      cases eb : tk.lookup e.2.1 with
      | some u' =>
        rw [eb] at hu
        exact hu
      | none =>
        rw [eb] at hu
        have hu : (if e.2.1 = h.1 then some c else none) = some u := hu
        rw [if_neg (bg_no ok he hh)] at hu
        cases hu
    · exact hu
theorem tick_same {e : Str × Str × Int × Int} {v : Int} (ok : MdOk m) (he : e ∈ hs m.wd) (K : ∀ u, tk.lookup e.2.1 = some u → c < u + min (ω e.1) v) : tickS m S ω tk c = tickS m S (setW ω e.1 v) tk c := by
  unfold tickS hearS
  rw [fold_same ok he (hs m.wd) tk (fun _ h => h) K]
/-- till an end is heard nothing tells of its length -/
theorem sim_same {e : Str × Str × Int × Int} {v : Int} (P : Pre m S ω tk c) (C : Clq m S) (ok : MdOk m) (bx : Box m ω) (c0 : 0 ≤ c) (he : e ∈ hs m.wd) : ∀ n : Nat, n ≤ 3001 → c + n < plS m S tk c ω e.2.1 + min (ω e.1) v → simS m S ω tk c n = simS m S (setW ω e.1 v) tk c n
  | 0, _, l => tick_same ok he fun u hu => by
    have := plS_was P C ok bx c0 hu
    omega
  | n + 1, ln, l => by
    have ih := sim_same (v := v) P C ok bx c0 he n (by omega) (by omega)
    show tickS m S ω (simS m S ω tk c n) (c + (n : Nat) + 1) = tickS m S (setW ω e.1 v) (simS m S (setW ω e.1 v) tk c n) (c + (n : Nat) + 1)
    rw [← ih]
    refine tick_same ok he fun u hu => ?_
    have k := sim_keep P C ok bx (k := 3001) (by omega) hu
    have a := plS_at P C ok bx c0 (hs_bs ok he).2.1
    rw [k] at a
    have := Option.some.inj a
    omega
theorem plS_na {e : Str × Str × Int × Int} {v : Int} (P : Pre m S ω tk c) (P2 : Pre m S (setW ω e.1 v) tk c) (C : Clq m S) (ok : MdOk m) (bx : Box m ω) (bx2 : Box m (setW ω e.1 v)) (c0 : 0 ≤ c) (he : e ∈ hs m.wd) {x : Str} (hx : x ∈ bsN m) (l : plS m S tk c ω x < plS m S tk c ω e.2.1 + min (ω e.1) v) : plS m S tk c (setW ω e.1 v) x = plS m S tk c ω x := by
  cases h0 : tk.lookup x with
  | some u => rw [plS_was P2 C ok bx2 c0 h0, plS_was P C ok bx c0 h0]
  | none =>
    have lo := plS_new P C ok bx c0 hx h0
    have at_ := plS_at P C ok bx c0 hx
    have hi := (sim_post P C ok bx 3001).pre.inv.low _ _ at_
    obtain ⟨n, hn⟩ : ∃ n : Nat, plS m S tk c ω x = c + (n : Nat) := ⟨(plS m S tk c ω x - c).toNat, by omega⟩
    have ln : n ≤ 3001 := by omega
    have same := sim_same (v := v) P C ok bx c0 he n ln (by omega)
    have here : (simS m S ω tk c n).lookup x = some (plS m S tk c ω x) := by
      cases e : (simS m S ω tk c n).lookup x with
      | none =>
        have := sim_late P C ok bx ln e at_
        omega
      | some u =>
        have k := sim_keep P C ok bx ln e
        rw [at_] at k
        rw [Option.some.inj k]
    rw [same] at here
    have k := sim_keep P2 C ok bx2 ln here
    have a := plS_at P2 C ok bx2 c0 hx
    rw [k] at a
    exact (Option.some.inj a).symm
/-- the plays of a closed table -/
theorem clq_fam (C : Clq m S) (ok : MdOk m) : Fam m (plS m S tk0 0) := by
  have I := Inv.start C ok
  have l0 : ∀ x u, tk0.lookup x = some u → x = ("start" : Str) ∧ u = 0 := fun x u h => by
    have a := I.low x u h
    unfold tk0 at h
    rw [List.lookup_cons] at h
    by_cases e : x = ("start" : Str)
    · subst e
      simp at h
      exact ⟨rfl, h.symm⟩
    · rw [show (x == ("start" : Str)) = false from beq_eq_false_iff_ne.2 e] at h
      cases h
  have P : ∀ ω, Box m ω → Pre m S ω tk0 0 := fun ω bx => by
    refine ⟨I, tk0_ok m, fun h hh _ u hu => ?_, fun h hh v hv => ?_⟩
    · obtain ⟨_, rfl⟩ := l0 _ _ hu
      have := (hs_ok ok hh).lo.1
      have := (bx h hh).1
      omega
    · obtain ⟨e, _⟩ := l0 _ _ hv
      exact absurd e (en_own ok (hs_ok ok hh).en).1
  refine ⟨fun ω bx b hb => ?_, fun ω bx h hh => plS_en (P ω bx) C ok bx (by decide) hh, fun ω v h bx hh bx2 x hx l => plS_na (P ω bx) (P _ bx2) C ok bx bx2 (by decide) hh hx l⟩
  have tl := (tl_ok ok).bound b hb
  have a := plS_bound (P ω bx) C ok bx (by decide) tl.1 tl.2
  have := C.bound b hb
  omega
/-- steered: just where there are plays for all lengths -/
theorem sy_fam (ok : MdOk m) : Sy m ↔ ∃ τ, Fam m τ := by
  constructor
  · intro h
    obtain ⟨st, O, C⟩ := h
    exact ⟨_, clq_fam (clq_of ok O C) ok⟩
  · rintro ⟨τ, F⟩
    exact fam_sy F ok
end
end Tw

set_option maxHeartbeats 4000000
/-! narrower spans -/
namespace Tw
open PySem PySem.Spec PyProof.Rows L2
/-- the span at a place exchanged for a narrower one -/
structure Nar (x y : Wd) : Prop where
  en : y.en = x.en
  bg : y.bg = x.bg
  la : y.la = x.la
  lo : x.lo ≤ y.lo
  le : y.lo ≤ y.hi
  hi : y.hi ≤ x.hi
def Md.sw (m : Md) (i : Nat) (y : Wd) : Md := { m with wd := m.wd.set i y }
theorem off_nar {x y : Wd} (n : Nar x y) (z : Str) : ∀ (l : List Wd) (i : Nat), l[i]? = some x → (offW z (l.set i y)).1 = (offW z l).1 ∧ (offW z l).2.1 ≤ (offW z (l.set i y)).2.1 ∧ (offW z (l.set i y)).2.2 ≤ (offW z l).2.2
  | [], _, e => by cases e
  | a :: l, 0, e => by
    cases e
    show (offW z (y :: l)).1 = (offW z (x :: l)).1 ∧ (offW z (x :: l)).2.1 ≤ (offW z (y :: l)).2.1 ∧ (offW z (y :: l)).2.2 ≤ (offW z (x :: l)).2.2
    have lo := n.lo
    have hi := n.hi
    unfold offW
    rw [n.en]
    by_cases c : x.en = z
    · rw [if_pos c, if_pos c, n.la, n.bg]
      cases x.la with
      | none => exact ⟨rfl, lo, hi⟩
      | some j => exact ⟨rfl, Int.le_refl _, Int.le_refl _⟩
    · rw [if_neg c, if_neg c]
      exact ⟨rfl, Int.le_refl _, Int.le_refl _⟩
  | a :: l, i + 1, e => by
    have ih := off_nar n z l i e
    show (offW z (a :: l.set i y)).1 = (offW z (a :: l)).1 ∧ (offW z (a :: l)).2.1 ≤ (offW z (a :: l.set i y)).2.1 ∧ (offW z (a :: l.set i y)).2.2 ≤ (offW z (a :: l)).2.2
    by_cases c : a.en = z
    · have q : ∀ r, offW z (a :: r) = (match a.la with
        | none => (a.bg, a.lo, a.hi)
        | some i => (a.en, -i, -i)) := fun r => if_pos c
      rw [q, q]
      exact ⟨rfl, Int.le_refl _, Int.le_refl _⟩
    · have q : ∀ r, offW z (a :: r) = offW z r := fun r => if_neg c
      rw [q, q]
      exact ih
theorem mem_sw {x y a : Wd} {l : List Wd} {i : Nat} (e : l[i]? = some x) : (a ∈ l.set i y → a = y ∨ a ∈ l) ∧ (a ∈ l → a = x ∨ a ∈ l.set i y) ∧ y ∈ l.set i y := by
  have li : i < l.length := (List.getElem?_eq_some_iff.1 e).1
  refine ⟨fun h => (List.mem_or_eq_of_mem_set h).symm, fun h => ?_, List.mem_set li y⟩
  obtain ⟨j, hj, ej⟩ := List.mem_iff_getElem.1 h
  by_cases q : j = i
  · subst q
    rw [List.getElem?_eq_getElem hj, ej] at e
    exact .inl (Option.some.inj e)
  · refine .inr (List.mem_iff_getElem.2 ⟨j, by rw [List.length_set]; exact hj, ?_⟩)
    rw [List.getElem_set_ne (fun z => q z.symm)]
    exact ej
theorem hs_iff {l : List Wd} {h : Str × Str × Int × Int} : h ∈ hs l ↔ ∃ x ∈ l, ∃ i, x.la = some i ∧ h = (x.en, x.bg, x.lo + i, x.hi + i) := by
  constructor
  · intro hh
    obtain ⟨x, hx, e⟩ := List.mem_filterMap.1 hh
    obtain ⟨i, ei, e⟩ := Option.map_eq_some_iff.1 e
    exact ⟨x, hx, i, ei, e.symm⟩
  · rintro ⟨x, hx, i, ei, rfl⟩
    exact List.mem_filterMap.2 ⟨x, hx, by rw [ei]; rfl⟩
theorem hs_sw {m : Md} {i : Nat} {x y : Wd} (e : m.wd[i]? = some x) (n : Nar x y) : (∀ h ∈ hs (m.sw i y).wd, ∃ g ∈ hs m.wd, g.1 = h.1 ∧ g.2.1 = h.2.1 ∧ g.2.2.1 ≤ h.2.2.1 ∧ h.2.2.2 ≤ g.2.2.2) ∧ ∀ g ∈ hs m.wd, ∃ h ∈ hs (m.sw i y).wd, g.1 = h.1 ∧ g.2.1 = h.2.1 ∧ g.2.2.1 ≤ h.2.2.1 ∧ h.2.2.2 ≤ g.2.2.2 := by
  have hx : x ∈ m.wd := List.mem_of_getElem? e
  have lo := n.lo
  have hi := n.hi
  constructor
  · intro h hh
    obtain ⟨a, ha, j, ej, rfl⟩ := hs_iff.1 hh
    rcases (mem_sw (a := a) e).1 ha with q | q
    · subst q
      exact ⟨(x.en, x.bg, x.lo + j, x.hi + j), hs_iff.2 ⟨x, hx, j, by rw [← n.la]; exact ej, rfl⟩, n.en.symm, n.bg.symm, by show x.lo + j ≤ a.lo + j; omega, by show a.hi + j ≤ x.hi + j; omega⟩
    · exact ⟨_, hs_iff.2 ⟨a, q, j, ej, rfl⟩, rfl, rfl, Int.le_refl _, Int.le_refl _⟩
  · intro g hg
    obtain ⟨a, ha, j, ej, rfl⟩ := hs_iff.1 hg
    rcases (mem_sw (a := a) (y := y) e).2.1 ha with q | q
    · subst q
      exact ⟨(y.en, y.bg, y.lo + j, y.hi + j), hs_iff.2 ⟨y, (mem_sw (a := a) e).2.2, j, by rw [n.la]; exact ej, rfl⟩, n.en.symm, n.bg.symm, by show a.lo + j ≤ y.lo + j; omega, by show y.hi + j ≤ a.hi + j; omega⟩
    · exact ⟨_, hs_iff.2 ⟨a, q, j, ej, rfl⟩, rfl, rfl, Int.le_refl _, Int.le_refl _⟩
theorem sy_nar {m : Md} {i : Nat} {x y : Wd} (ok : MdOk m) (ok' : MdOk (m.sw i y)) (e : m.wd[i]? = some x) (n : Nar x y) (h : Sy m) : Sy (m.sw i y) := by
  obtain ⟨τ, F⟩ := (sy_fam ok).1 h
  obtain ⟨dn, up⟩ := hs_sw e n
  have box : ∀ ω, Box (m.sw i y) ω → Box m ω := fun ω b g hg => by
    obtain ⟨h, hh, e1, _, l1, l2⟩ := up g hg
    have := b h hh
    rw [e1]
    omega
  have bs : ∀ z ∈ bsN (m.sw i y), z ∈ bsN m := fun z hz => by
    rcases bs_h hz with q | q | ⟨g, hg, q⟩
    · rw [q]
      exact st_bs m
    · exact own_bs q
    · obtain ⟨g2, hg2, e1, _⟩ := dn g hg
      rw [← q, ← e1]
      exact (hs_bs ok hg2).1
  refine (sy_fam ok').2 ⟨τ, fun ω b q hq => ?_, fun ω b h hh => ?_, fun ω v h b hh b2 z hz l => ?_⟩
  · have bx := box ω b
    have hq : q ∈ m.own.flatMap (mT m.last) ++ (hs (m.sw i y).wd).flatMap h2T ++ m.bd.flatMap (tieT (m.wd.set i y)) := hq
    rcases List.mem_append.1 hq with hq | hq
    · rcases List.mem_append.1 hq with hq | hq
      · exact F.bound ω bx q (List.mem_append.2 (.inl (List.mem_append.2 (.inl hq))))
      · obtain ⟨h, hh, hq⟩ := List.mem_flatMap.1 hq
        obtain ⟨g, hg, e1, e2, _⟩ := dn h hh
        have en := F.en ω bx g hg
        rw [e1, e2] at en
        have bh := b h hh
        rcases List.mem_cons.1 hq with q1 | q1
        · rw [q1]
          show τ ω h.1 - τ ω h.2.1 ≤ h.2.2.2
          omega
        · rw [List.mem_singleton.1 q1]
          show τ ω h.2.1 - τ ω h.1 ≤ -h.2.2.1
          omega
    · obtain ⟨t, ht, hq⟩ := List.mem_flatMap.1 hq
      obtain ⟨a1, a2, a3⟩ := off_nar n t.one m.wd i e
      obtain ⟨c1, c2, c3⟩ := off_nar n t.oth m.wd i e
      have old : ∀ q ∈ tieT m.wd t, τ ω q.2.1 - τ ω q.1 ≤ q.2.2 := fun q hq => F.bound ω bx q (List.mem_append.2 (.inr (List.mem_flatMap.2 ⟨t, ht, hq⟩)))
      unfold tieT at hq
      rcases List.mem_append.1 hq with hq | hq
      · cases et : t.top with
        | none => rw [et] at hq; cases hq
        | some u =>
          rw [et] at hq
          have hq := List.mem_singleton.1 hq
          have o := old ((offW t.one m.wd).1, (offW t.oth m.wd).1, u - (offW t.oth m.wd).2.2 + (offW t.one m.wd).2.1) (List.mem_append.2 (.inl (by rw [et]; exact List.mem_singleton.2 rfl)))
          have o : τ ω (offW t.oth m.wd).1 - τ ω (offW t.one m.wd).1 ≤ u - (offW t.oth m.wd).2.2 + (offW t.one m.wd).2.1 := o
          rw [hq]
          show τ ω (offW t.oth (m.wd.set i y)).1 - τ ω (offW t.one (m.wd.set i y)).1 ≤ u - (offW t.oth (m.wd.set i y)).2.2 + (offW t.one (m.wd.set i y)).2.1
          rw [a1, c1]
          omega
      · cases et : t.bot with
        | none => rw [et] at hq; cases hq
        | some u =>
          rw [et] at hq
          have hq := List.mem_singleton.1 hq
          have o := old ((offW t.oth m.wd).1, (offW t.one m.wd).1, (offW t.oth m.wd).2.1 - (offW t.one m.wd).2.2 - u) (List.mem_append.2 (.inr (by rw [et]; exact List.mem_singleton.2 rfl)))
          have o : τ ω (offW t.one m.wd).1 - τ ω (offW t.oth m.wd).1 ≤ (offW t.oth m.wd).2.1 - (offW t.one m.wd).2.2 - u := o
          rw [hq]
          show τ ω (offW t.one (m.wd.set i y)).1 - τ ω (offW t.oth (m.wd.set i y)).1 ≤ (offW t.oth (m.wd.set i y)).2.1 - (offW t.one (m.wd.set i y)).2.2 - u
          rw [a1, c1]
          omega
  · obtain ⟨g, hg, e1, e2, _⟩ := dn h hh
    have en := F.en ω (box ω b) g hg
    rw [e1, e2] at en
    exact en
  · obtain ⟨g, hg, e1, e2, _⟩ := dn h hh
    have q := F.na ω v g (box ω b) hg (by rw [e1]; exact box _ b2) z (bs z hz)
    rw [e1, e2] at q
    exact q l
theorem nar_ok {m : Md} {i : Nat} {x y : Wd} (ok : MdOk m) (e : m.wd[i]? = some x) (n : Nar x y) : MdOk (m.sw i y) := by
  have ends : (m.sw i y).wd.map (·.en) = m.wd.map (·.en) := by
    show (m.wd.set i y).map (·.en) = _
    rw [List.map_set, n.en]
    have : ∀ (l : List Str) (i : Nat) (a : Str), l[i]? = some a → l.set i a = l := by
      intro l
      induction l with
      | nil => exact fun _ _ _ => rfl
      | cons b r ih =>
        intro i a h
        cases i with
        | zero => cases h; rfl
        | succ i =>
          show b :: r.set i a = b :: r
          rw [ih i a h]
    exact this _ _ _ (by rw [List.getElem?_map, e]; rfl)
  have pts : (m.sw i y).pts = m.pts := by
    unfold Md.pts
    rw [ends]
    rfl
  refine ⟨ok.last, by rw [ends]; exact ok.nd, by rw [ends]; exact ok.pool, fun a ha => ?_, by rw [pts]; exact ok.bd, ok.len.1, by show (m.wd.set i y).length ≤ 4; rw [List.length_set]; exact ok.len.2.1, ok.len.2.2⟩
  rcases (mem_sw (a := a) e).1 ha with q | q
  · subst q
    have o := ok.wd x (List.mem_of_getElem? e)
    exact ⟨by rw [n.bg]; exact o.bg, Int.le_trans o.lo n.lo, n.le, Int.le_trans n.hi o.top, fun j ej => o.la j (by rw [← n.la]; exact ej)⟩
  · exact ok.wd a q
end Tw

set_option maxHeartbeats 4000000
/-! what is steered stays so where bounds get weaker -/
namespace Tw
open PySem PySem.Spec PyProof.Rows L2
/-- the same table stands in another web with the same bases and heard spans, where it keeps what is told there -/
theorem sy_told {m m' : Md} (ok : MdOk m') (h : Sy m) (e1 : bsN m' = bsN m) (e2 : enN m' = enN m) (e3 : hkOf (hs m'.wd) = hkOf (hs m.wd)) (td : ∀ st, OkM m (mgM m) st → Se.Told (bnT m') (ltT m') st) : Sy m' := by
  obtain ⟨st, O, C⟩ := h
  have T := td st O
  have tl := tl_ok ok
  have t2 : Se.Told (bnT m') (ltT m') (⟨st.made, [], none⟩ : Se.MS Str) := ⟨T.bound, T.late⟩
  have dg : Se.Dg (bsN m') (⟨st.made, [], none⟩ : Se.MS Str) := ⟨fun x hx => O.hd.dg.1 x (by rw [← e1]; exact hx), O.hd.dg.2⟩
  have way : ∀ x y, y ∈ bsN m' → (x = y ∨ ∃ n, (x, y, n) ∈ bnT m' ∧ n ≤ 2000) → Se.Le (⟨st.made, [], none⟩ : Se.MS Str) (false, x, y) 2000 := by
    intro x y hy hw
    rcases hw with e | ⟨n, h1, h2⟩
    · rw [e]
      exact (dg.1 y hy).up (by decide)
    · exact (t2.bound _ h1).up h2
  refine ⟨⟨st.made, [], none⟩, ⟨⟨fun k n e => by rw [e1, e2]; exact O.hd.just k n e, dg, ⟨tl.stin, fun x hx => ?_⟩, fun e he => ?_, O.hd.wt⟩, O.nd, t2, .inl (Nat.zero_le _)⟩, ?_⟩
  · obtain ⟨y, hy, h1, h2⟩ := tl.to x hx
    obtain ⟨z, hz, h3, h4⟩ := tl.fro x hx
    exact ⟨⟨y, hy, way x y hy h1, way y _ tl.stin h2⟩, z, hz, way _ z hz h3, way z x hx h4⟩
  · obtain ⟨n, hn⟩ := tl.lates e he
    exact (t2.late _ hn).up (tl.late _ hn).2.1
  · have C' : ClM m (⟨st.made, [], none⟩ : Se.MS Str) := ⟨C.along, C.wait, C.one⟩
    unfold ClM at C' ⊢
    rw [e1, e2, e3]
    exact C'
/-- bounds that are weaker, or fewer -/
theorem sy_weak {m m' : Md} (ok : MdOk m') (h : Sy m) (e1 : m'.own = m.own) (e2 : hs m'.wd = hs m.wd) (hb : ∀ b ∈ bnT m', ∃ n, (b.1, b.2.1, n) ∈ bnT m ∧ n ≤ b.2.2) : Sy m' := by
  have e0 : bsN m' = bsN m := by unfold bsN; rw [e1, e2]
  have e3 : enN m' = enN m := by unfold enN; rw [e2]
  refine sy_told ok h e0 e3 (by rw [e2]) fun st O => ⟨fun b hb' => ?_, fun b hb' => O.told.late b ?_⟩
  · obtain ⟨n, h1, h2⟩ := hb b hb'
    exact (O.told.bound _ h1).up h2
  · show b ∈ ltT m
    unfold ltT at hb' ⊢
    rw [← e2]
    exact hb'
/-- fewer ties -/
theorem sy_fewer {m : Md} {bd : List Bd} (ok : MdOk { m with bd := bd }) (hb : ∀ x ∈ bd, x ∈ m.bd) (h : Sy m) : Sy { m with bd := bd } := by
  refine sy_weak ok h rfl rfl fun b hb' => ⟨b.2.2, ?_, Int.le_refl _⟩
  rcases List.mem_append.1 hb' with z | z
  · exact List.mem_append.2 (.inl z)
  · obtain ⟨x, hx, z⟩ := List.mem_flatMap.1 z
    exact List.mem_append.2 (.inr (List.mem_flatMap.2 ⟨x, hb x hx, z⟩))
/-- a later last tick -/
theorem sy_last {m : Md} {l : Int} (ok : MdOk { m with last := l }) (hl : m.last ≤ l) (h : Sy m) : Sy { m with last := l } := by
  refine sy_told ok h rfl rfl rfl fun st O => ⟨fun b hb => ?_, O.told.late⟩
  have hb : b ∈ m.own.flatMap (mT l) ++ (hs m.wd).flatMap h2T ++ m.bd.flatMap (tieT m.wd) := hb
  rcases List.mem_append.1 hb with hb | hb
  · rcases List.mem_append.1 hb with hb | hb
    · obtain ⟨z, hz, hb⟩ := List.mem_flatMap.1 hb
      have up : ∀ c ∈ mT m.last z, c ∈ bnT m := fun c hc => List.mem_append.2 (.inl (List.mem_append.2 (.inl (List.mem_flatMap.2 ⟨z, hz, hc⟩))))
      unfold mT at hb
      rcases List.mem_cons.1 hb with e | hb
      · subst e
        exact (O.told.bound ("start", z, m.last) (up _ List.mem_cons_self)).up hl
      · cases List.mem_singleton.1 hb
        exact O.told.bound (z, "start", 0) (up _ (List.mem_cons_of_mem _ List.mem_cons_self))
    · exact O.told.bound b (List.mem_append.2 (.inl (List.mem_append.2 (.inr hb))))
  · exact O.told.bound b (List.mem_append.2 (.inr hb))
end Tw

set_option maxHeartbeats 4000000
namespace Tw
open PySem PySem.Spec PyProof.Rows L2
/-! web.without_tie (as in TwX7), culprits -/
def Md.unt (m : Md) (i : Nat) : Md := { m with bd := m.bd.eraseIdx i }
theorem Rows.erase {H : Hp} : ∀ {xs : List V} {rs : List (List V)} (i : Nat), Rows H xs rs → Rows H (xs.eraseIdx i) (rs.eraseIdx i)
  | _, _, 0, .nil => .nil
  | _, _, _ + 1, .nil => .nil
  | _, _, 0, .cons _ t => t
  | _, _, i + 1, .cons h t => .cons h (Rows.erase i t)
theorem erase_mapX {α β : Type} (f : α → β) : ∀ (l : List α) (i : Nat), (l.eraseIdx i).map f = (l.map f).eraseIdx i
  | [], _ => rfl
  | _ :: _, 0 => rfl
  | a :: r, i + 1 => by
    show f a :: (r.eraseIdx i).map f = f a :: (r.map f).eraseIdx i
    rw [erase_mapX f r i]
theorem cut_erase {xs : List V} {i : Nat} (h : i < xs.length) : cutV xs none (some (i : Int)) ++ cutV xs (some ((i : Int) + 1)) none = xs.eraseIdx i := by
  unfold cutV
  rw [HT.sIx_none, HT.sIx_none, HT.sIx_nat, show ((i : Int) + 1) = ((i + 1 : Nat) : Int) from rfl, HT.sIx_nat, List.drop_zero, Nat.sub_zero, Nat.min_eq_left (Nat.le_of_lt h), Nat.min_eq_left (show i + 1 ≤ xs.length from h), List.eraseIdx_eq_take_drop_succ]
  congr 1
  exact List.take_of_length_le (by rw [List.length_drop]; exact Nat.le_refl _)
theorem unt_ok {m : Md} (ok : MdOk m) (i : Nat) : MdOk (m.unt i) := ⟨ok.last, ok.nd, ok.pool, ok.wd, fun x hx => ok.bd x (List.mem_of_mem_eraseIdx hx), ok.len.1, ok.len.2.1, by
  show (m.bd.eraseIdx i).length ≤ 40
  have := ok.len.2.2
  have h := List.length_eraseIdx_le m.bd i
  omega⟩
section
variable {P : Program} {w : World} {K : PySem.W.Frag} {mg : Str → Option Value} {base : Heap}
def sp_wtG (K : PySem.W.Frag) : Sp := fun vs H Q _ => ∃ (p : Addr) (m : Md) (i : Nat), vs = [.ref p, .int (i : Nat)] ∧ WebAt (CW K) H p m ∧ i < m.bd.length ∧ ∀ (q : Addr) (H' : Hp), Same H H' → H q = none → WebAt (CW K) H' q (m.unt i) → Q (.ref q) H'
theorem met_Web_without_tie (T : Tp K mg) : Met P w K mg base 6 (CW K) "without_tie" (sp_wtG K) := by
  obtain ⟨fd, F⟩ := f_Web_without_tie T
  refine met_of F (cl_Web T) (me_Web_without_tie T) (b_Web_without_tie F) sc_Web_without_tie (fun vs H Q E h => ?_) (fun cdv A outer s H vs Q E hr h => ?_)
  · obtain ⟨p, m, i, rfl, _⟩ := h
    rfl
  · obtain ⟨p, m, i, rfl, W, hi, q⟩ := h
    have hu := hu_of hr
    have hlen := W.len
    obtain ⟨dx, a, b, c, ws, bs, h1, h2, h3, h4, h5, h6⟩ := W.ex
    have hb : bs.length = m.bd.length := by rw [h6.len, List.length_map]
    refine ⟨_, (pss_cons (ps_if (pt_not (pt_val (C8.pe_c (cal_iswh T) hr (by decide) rfl (pa_cons (pv 1) (pa_cons pe_int (pa_cons (pe_op op_sub (pe_callB call_len_seq (by rfl) (z_len T) bb_len (pa_cons (pe_fld (pv 0) rfl) pa_nil)) pe_int) pa_nil)))))) (pss_one ps_never) pss_nil)
      (pss_cons (ps_set (i := 2) sc_Web_without_tie.nd rfl (.inl rfl) (pe_op op_catU (pe_slice sl_tupU (pe_fld (pv 0) rfl) po_none (po_some (pv 1))) (pe_slice sl_tupU (pe_fld (pv 0) rfl) (po_some (pe_op op_add (pv 1) pe_int)) po_none)))
      (pss_one (ps_ret (C8.pe_c (cal_woven T) hr (by decide) rfl (pa_cons (pe_fld (pv 0) rfl) (pa_cons (pe_fld (pv 0) rfl) (pa_cons (pe_fld (pv 0) rfl) (pa_cons (pv 2) pa_nil))))))))), ?_⟩
    refine ⟨_, rfl, _, rfl, p, CW K, dx, _, _, rfl, h1, cl_Web T, na_tie_rows T, wf_t, c, _, rfl, .inr (.inl (.inl h5)), _, 1, rfl, rfl, .int (i : Nat), 0, _, rfl, rfl, _, rfl, ?_⟩
    rw [hb, show whB 0 ((m.bd.length : Int) - 1) (V.int (i : Nat)) = true from by unfold whB; simp; omega]
    refine iteF ?_
    refine ⟨_, rfl, p, CW K, dx, _, _, rfl, h1, cl_Web T, na_tie_rows T, wf_t, _, rfl, i, rfl, c, bs, rfl, h5, fun t1 H1 s1 e1 => ?_⟩
    have h1' := s1 _ _ h1
    refine ⟨_, rfl, p, CW K, dx, _, _, rfl, h1', cl_Web T, na_tie_rows T, wf_t, _, rfl, _, _, rfl, rfl, _, rfl, c, bs, rfl, s1 _ _ h5, fun t2 H2 s2 e2 => ?_⟩
    have ct := cut_erase (xs := bs) (i := i) (by omega)
    refine ⟨t1, t2, _, _, rfl, rfl, s2 _ _ e1, e2, ?_, fun u H3 s3 eu => ?_⟩
    · rw [← List.length_append, ct, List.length_eraseIdx]
      split
      · exact Nat.le_of_lt (small1000 (by omega))
      · exact Nat.le_of_lt (small1000 (by omega))
    · rw [ct] at eu
      have sA := (s1.trans s2).trans s3
      have h1'' := sA _ _ h1
      refine ⟨_, rfl, p, CW K, dx, _, _, rfl, h1'', cl_Web T, na_by T, wf_by, _, rfl, p, CW K, dx, _, _, rfl, h1'', cl_Web T, na_moment_rows T, wf_m, _, rfl, p, CW K, dx, _, _, rfl, h1'', cl_Web T, na_span_rows T, wf_s, _, rfl, ?_⟩
      have r' : Rows H3 (bs.eraseIdx i) ((m.unt i).bd.map Bd.row) := by
        show Rows _ _ ((m.bd.eraseIdx i).map Bd.row)
        rw [erase_mapX]
        exact (h6.keep (Kt.of sA)).erase i
      refine ⟨m.unt i, a, b, u, ws, _, rfl, sA _ _ h2, sA _ _ h3, h4.keep (Kt.of sA), eu, r', ⟨hlen.1, hlen.2.1, ?_⟩, W.last, fun y H5 s5 ny W5 => q y H5 (sA.trans s5) (sA.free ny) W5⟩
      show (m.bd.eraseIdx i).length ≤ 40
      rw [List.length_eraseIdx]
      split <;> omega
open Classical in
/-- the ties without which the web is steered -/
noncomputable def cuL (m : Md) : List Nat := if Sy m then [] else (List.range m.bd.length).filterMap fun i => if Sy (m.unt i) then some i else none
def sp_culp (K : PySem.W.Frag) : Sp := fun vs H Q _ => ∃ (p : Addr) (m : Md), vs = [.ref p] ∧ WebAt (CW K) H p m ∧ MdOk m ∧ ∀ (D : Addr) (H' : Hp), Same H H' → H D = none → H' D = some (.lst ((cuL m).map ivN)) → Q (.ref D) H'
open Classical in
end
end Tw

set_option maxHeartbeats 4000000
namespace Tw
open PySem PySem.Spec PyProof.Rows L2
/-! with_by (as in TwSn) -/
section
variable {P : Program} {w : World} {K : PySem.W.Frag} {mg : Str → Option Value} {base : Heap}
def Md.wby (m : Md) (l : Int) : Md := { m with last := l }
def sp_wby (K : PySem.W.Frag) : Sp := fun vs H Q _ => ∃ (p : Addr) (m : Md) (l : Int), vs = [.ref p, .int l] ∧ WebAt (CW K) H p m ∧ 1 ≤ l ∧ l ≤ 1000 ∧ ∀ (q : Addr) (H' : Hp), Same H H' → H q = none → WebAt (CW K) H' q (m.wby l) → Q (.ref q) H'
theorem met_Web_with_by (T : Tp K mg) : Met P w K mg base 6 (CW K) "with_by" (sp_wby K) := by
  obtain ⟨fd, F⟩ := f_Web_with_by T
  refine met_of F (cl_Web T) (me_Web_with_by T) (b_Web_with_by F) sc_Web_with_by (fun vs H Q E h => ?_) (fun cdv A outer s H vs Q E hr h => ?_)
  · obtain ⟨p, m, l, rfl, _⟩ := h
    rfl
  · obtain ⟨p, m, l, rfl, W, l1, l2, q⟩ := h
    obtain ⟨dx, a, b, c, ws, bs, h1, h2, h3, h4, h5, h6⟩ := W.ex
    refine ⟨_, (pss_one (ps_ret (C8.pe_c (cal_woven T) hr (by decide) rfl (pa_cons (pv 1) (pa_cons (pe_fld (pv 0) rfl) (pa_cons (pe_fld (pv 0) rfl) (pa_cons (pe_fld (pv 0) rfl) pa_nil))))))), ?_⟩
    refine ⟨_, rfl, _, rfl, p, CW K, dx, _, _, rfl, h1, cl_Web T, na_moment_rows T, wf_m, _, rfl, p, CW K, dx, _, _, rfl, h1, cl_Web T, na_span_rows T, wf_s, _, rfl, p, CW K, dx, _, _, rfl, h1, cl_Web T, na_tie_rows T, wf_t, ?_⟩
    exact ⟨m.wby l, a, b, c, ws, bs, rfl, h2, h3, h4, h5, h6, W.len, ⟨l1, l2⟩, q⟩
end
end Tw

set_option maxHeartbeats 4000000
namespace Tw
open PySem PySem.Spec PyProof.Rows L2
/-! looser ties -/
structure Lsr (x y : Bd) : Prop where
  one : y.one = x.one
  oth : y.oth = x.oth
  bot : ∀ t, y.bot = some t → ∃ u, x.bot = some u ∧ t ≤ u
  top : ∀ t, y.top = some t → ∃ u, x.top = some u ∧ u ≤ t
  b : BOk y.bot y.top
def Md.st (m : Md) (i : Nat) (y : Bd) : Md := { m with bd := m.bd.set i y }
theorem st_ok {m : Md} {i : Nat} {x y : Bd} (ok : MdOk m) (e : m.bd[i]? = some x) (l : Lsr x y) : MdOk (m.st i y) := by
  refine ⟨ok.last, ok.nd, ok.pool, ok.wd, fun a ha => ?_, ok.len.1, ok.len.2.1, by show (m.bd.set i y).length ≤ 40; rw [List.length_set]; exact ok.len.2.2⟩
  rcases List.mem_or_eq_of_mem_set ha with h | h
  · exact ok.bd a h
  · have o := ok.bd x (List.mem_of_getElem? e)
    rw [h]
    exact ⟨by rw [l.one]; exact o.one, by rw [l.oth]; exact o.oth, by rw [l.one, l.oth]; exact o.ne, l.b⟩
theorem sy_st {m : Md} {i : Nat} {x y : Bd} (ok : MdOk m) (e : m.bd[i]? = some x) (l : Lsr x y) (h : Sy m) : Sy (m.st i y) := by
  refine sy_weak (st_ok ok e l) h rfl rfl fun q hq => ?_
  have hq : q ∈ m.own.flatMap (mT m.last) ++ (hs m.wd).flatMap h2T ++ (m.bd.set i y).flatMap (tieT m.wd) := hq
  rcases List.mem_append.1 hq with hq | hq
  · exact ⟨q.2.2, List.mem_append.2 (.inl hq), Int.le_refl _⟩
  · obtain ⟨a, ha, hq⟩ := List.mem_flatMap.1 hq
    have put : ∀ b ∈ m.bd, ∀ n, (q.1, q.2.1, n) ∈ tieT m.wd b → (q.1, q.2.1, n) ∈ bnT m := fun b hb n h => List.mem_append.2 (.inr (List.mem_flatMap.2 ⟨b, hb, h⟩))
    rcases List.mem_or_eq_of_mem_set ha with h | h
    · exact ⟨q.2.2, put a h _ hq, Int.le_refl _⟩
    · have hx := List.mem_of_getElem? e
      rw [h] at hq
      unfold tieT at hq
      rw [l.one, l.oth] at hq
      rcases List.mem_append.1 hq with hq | hq
      · cases et : y.top with
        | none => rw [et] at hq; cases hq
        | some t =>
          obtain ⟨u, eu, lu⟩ := l.top t et
          rw [et] at hq
          have hq := List.mem_singleton.1 hq
          refine ⟨u - (offW x.oth m.wd).2.2 + (offW x.one m.wd).2.1, put x hx _ ?_, ?_⟩
          · unfold tieT
            rw [eu, hq]
            exact List.mem_append.2 (.inl (List.mem_singleton.2 rfl))
          · rw [hq]
            show _ ≤ t - (offW x.oth m.wd).2.2 + (offW x.one m.wd).2.1
            omega
      · cases et : y.bot with
        | none => rw [et] at hq; cases hq
        | some t =>
          obtain ⟨u, eu, lu⟩ := l.bot t et
          rw [et] at hq
          have hq := List.mem_singleton.1 hq
          refine ⟨(offW x.oth m.wd).2.1 - (offW x.one m.wd).2.2 - u, put x hx _ ?_, ?_⟩
          · unfold tieT
            rw [eu, hq]
            exact List.mem_append.2 (.inr (List.mem_singleton.2 rfl))
          · rw [hq]
            show _ ≤ (offW x.oth m.wd).2.1 - (offW x.one m.wd).2.2 - t
            omega
def LoAt (m : Md) (H : Hp) (v : V) : Prop := ∃ (t t2 : Addr) (i : Nat) (x y : Bd), v = .ref t ∧ H t = some (.tup [.int (0 + (i : Nat)), .ref t2]) ∧ H t2 = some (.tup y.row) ∧ m.bd[i]? = some x ∧ Lsr x y
theorem LoAt.keep {m : Md} {H H' : Hp} {v : V} (h : LoAt m H v) (k : Kt H H') : LoAt m H' v :=
  let ⟨t, t2, i, x, y, e, h1, h2, h3⟩ := h
  ⟨t, t2, i, x, y, e, k _ _ h1, k _ _ h2, h3⟩
section
variable {P : Program} {w : World} {K : PySem.W.Frag} {mg : Str → Option Value} {base : Heap}
def sp_looser : Sp := fun vs H Q _ => ∃ (f c d : Addr) (m : Md), vs = [.ref f, .ref d] ∧ Flow H f c ∧ MdAt H d m ∧ MdOk m ∧ ∀ (L : Addr) (xs : List V) (H' : Hp), Sb f H H' → Flow H' f c → H' L = some (.lst xs) → L ≠ f → xs.length ≤ 160 → (∀ v ∈ xs, LoAt m H' v) → Q (.ref L) H'
theorem cal__law_looser (T : Tp K mg) : Cal P w K mg base 4 "_law_looser" sp_looser := by
  obtain ⟨fd, F⟩ := f__law_looser T
  refine cal_of F (g__law_looser T) (b__law_looser F) sc__law_looser (fun vs H Q E h => ?_) (fun cdv A outer s H vs Q E hr h => ?_)
  · obtain ⟨f, c, d, m, rfl, _⟩ := h
    rfl
  · obtain ⟨f, c, d, m, rfl, FL, M, ok, q⟩ := h
    have hu := hu_of hr
    have lens := ok.len
    obtain ⟨zf, hf⟩ := FL.lst
    obtain ⟨zc, hc⟩ := FL.cells
    refine ⟨_, (pss_cons (ps_set (i := 2) sc__law_looser.nd rfl (.inl rfl) (pe_lst pa_nil))
      (pss_cons (ps_for PassesOwn.never rfl (pi_range1 rfl (z_range T) (pa_cons (pe_callB call_len_seq (by rfl) (z_len T) bb_len (pa_cons (pe_dget hu (pv 1) pe_str (fun _ _ => rfl)) pa_nil)) pa_nil)) (pg_name (i := 3) sc__law_looser.nd rfl (.inl rfl))
        (pss_cons (ps_asg (pe_ix ix_list (pe_dget hu (pv 1) pe_str (fun _ _ => rfl)) (pv 3) (fun _ _ => rfl)) (pg_tup rfl (pgs_cons (pg_name (i := 4) sc__law_looser.nd rfl (.inl rfl)) (pgs_cons (pg_name (i := 5) sc__law_looser.nd rfl (.inl rfl)) (pgs_cons (pg_name (i := 6) sc__law_looser.nd rfl (.inl rfl)) (pgs_cons (pg_name (i := 7) sc__law_looser.nd rfl (.inl rfl)) pgs_nil))))))
        (C8.pss_cut (ps_if (PW.pt (pw_and (pt_cmpR op_notN (pv 6) pe_non (nomark _)) (pw_and1 (pt_cmpR op_notN (pv 7) pe_non (nomark _))))) (pss_one (ps_set (i := 2) sc__law_looser.nd rfl (.inl rfl) (pe_op op_cat (pv 2) (pe_lst (pa_cons (pe_tup (pa_cons (pv 3) (pa_cons (pe_tup (pa_cons (pv 4) (pa_cons (pv 5) (pa_cons pe_non (pa_cons (pv 7) pa_nil))))) pa_nil))) (pa_cons (pe_tup (pa_cons (pv 3) (pa_cons (pe_tup (pa_cons (pv 4) (pa_cons (pv 5) (pa_cons (pv 6) (pa_cons pe_non pa_nil))))) pa_nil))) pa_nil)))))) pss_nil)
        (C8.pss_cut (ps_if (pt_cmpR op_notN (pv 7) pe_non (nomark _)) (pss_one (ps_expr (pe_bm PySem.F.plainAttrs_list PySem.F.slot_list_append PySem.F.type_list_append mt_append (pv 2) (pa_cons (pe_tup (pa_cons (pv 3) (pa_cons (pe_tup (pa_cons (pv 4) (pa_cons (pv 5) (pa_cons (pv 6) (pa_cons (pe_callB (call_min2 rfl) (by rfl) (z_min T) bb_min (pa_cons pe_int (pa_cons (pe_op op_add (pe_op op_add (pv 7) pe_int) (C8.pe_c (cal__law_draw T) hr (by decide) rfl (pa_cons (pv 0) (pa_cons pe_int pa_nil)))) pa_nil))) pa_nil))))) pa_nil))) pa_nil)))) pss_nil)
        (pss_one (ps_if (pt_cmpR op_notN (pv 6) pe_non (nomark _)) (pss_one (ps_expr (pe_bm PySem.F.plainAttrs_list PySem.F.slot_list_append PySem.F.type_list_append mt_append (pv 2) (pa_cons (pe_tup (pa_cons (pv 3) (pa_cons (pe_tup (pa_cons (pv 4) (pa_cons (pv 5) (pa_cons (pe_callB (call_max2 rfl) (by rfl) (z_max T) bb_max (pa_cons (pe_un un_neg pe_int) (pa_cons (pe_op op_sub (pe_op op_sub (pv 6) pe_int) (C8.pe_c (cal__law_draw T) hr (by decide) rfl (pa_cons (pv 0) (pa_cons pe_int pa_nil)))) pa_nil))) (pa_cons (pv 7) pa_nil))))) pa_nil))) pa_nil)))) pss_nil))))))
      (pss_one (ps_ret (pv 2))))), ?_⟩
    refine ⟨Nat.zero_le _, fun L0 nL0 => ?_⟩
    have s0 := same_upd (o := .lst []) nL0
    have hL0 : upd H L0 (.lst []) L0 = some (.lst []) := upd_same
    have M0 := M.same s0
    generalize upd H L0 (.lst []) = H0 at s0 hL0 M0 ⊢
    obtain ⟨o, u, b, ws, bs, h1, h2, h3, h4, h5, h6, h7⟩ := M0.ex
    have lb : bs.length = m.bd.length := by rw [h6.len, List.length_map]
    refine ⟨_, rfl, d, _, rfl, mk_bd h1, b, _, rfl, .inl (.inl (.inl h5)), _, rfl, by omega, by omega, for_range (lo := 0) (n := (bs.length : Int).toNat) (fun k σ H' => ∃ (L : Addr) (xs : List V) (y3 y4 y5 y6 y7 : Option V), σ = [some (.ref f), some (.ref d), some (.ref L), y3, y4, y5, y6, y7] ∧ Sb f H H' ∧ Flow H' f c ∧ H' L = some (.lst xs) ∧ H L = none ∧ xs.length ≤ 4 * k ∧ ∀ v ∈ xs, LoAt m H' v) ⟨L0, [], none, none, none, none, none, rfl, Sb.of s0, FL.same s0, hL0, nL0, Nat.le_refl _, fun v h => by cases h⟩ ?_ ?_⟩
    · rintro k σ H2 hk ⟨L, xs, y3, y4, y5, y6, y7, rfl, sb2, F2, hL, nL, few, all⟩
      have M2 := M.sb FL sb2
      obtain ⟨o2, u2, b2, ws2, bs2, g1, g2, g3, g4, g5, g6, g7⟩ := M2.ex
      have lb2 : bs2.length = m.bd.length := by rw [g6.len, List.length_map]
      obtain ⟨t, x, et, ex, ht⟩ : ∃ t x, bs2[k]? = some (V.ref t) ∧ m.bd[k]? = some x ∧ H2 t = some (.tup (Bd.row x)) := by
        obtain ⟨v, hv⟩ : ∃ v, bs2[k]? = some v := ⟨_, List.getElem?_eq_getElem (by omega)⟩
        obtain ⟨t, r, e1, e2, e3⟩ := row_of g6 hv
        exact ⟨t, r, by rw [hv, e1], e2, e3⟩
      have ix : atI bs2 (0 + (k : Int)) = some (.ref t) := at_of (j := k) (by omega) et
      have xo := (ok.bd x (List.mem_of_getElem? ex)).b
      refine ⟨_, rfl, d, _, rfl, mk_bd g1, _, rfl, b2, bs2, _, _, rfl, rfl, .inl (.inl g5), ix, t, x.row, rfl, .inl (.inl ht), rfl, _, _, rfl, _, _, rfl, _, _, rfl, _, _, rfl, rfl, ?_⟩
      refine ⟨fun σ' H' => ∃ (L : Addr) (xs : List V), σ' = [some (.ref f), some (.ref d), some (.ref L), some (.int (0 + (k : Nat))), some (.str x.one), some (.str x.oth), some (oV x.bot), some (oV x.top)] ∧ Sb f H H' ∧ Flow H' f c ∧ H' L = some (.lst xs) ∧ H L = none ∧ xs.length ≤ 4 * k + 2 ∧ ∀ v ∈ xs, LoAt m H' v, ?_, ?_⟩
      · refine ⟨_, rfl, rfl, _, rfl, ?_⟩
        rw [oV_non]
        cases eb : x.bot with
        | none => exact iteF (iteF ⟨L, xs, rfl, sb2, F2, hL, nL, by omega, all⟩)
        | some tb =>
          refine iteT ⟨_, rfl, rfl, _, rfl, ?_⟩
          rw [oV_non]
          cases et : x.top with
          | none => exact iteF ⟨L, xs, rfl, sb2, F2, hL, nL, by omega, all⟩
          | some tt =>
            rw [eb, et] at xo
            refine iteT ⟨_, rfl, _, rfl, _, rfl, _, rfl, _, rfl, (by show 4 ≤ sizeLine; decide), fun t2 n2 => ⟨(by show 2 ≤ sizeLine; decide), fun t1 n1 => ⟨_, rfl, _, rfl, _, rfl, _, rfl, (by show 4 ≤ sizeLine; decide), fun t4 n4 => ⟨(by show 2 ≤ sizeLine; decide), fun t3 n3 => ⟨(by show 2 ≤ sizeLine; decide), fun l nl => ?_⟩⟩⟩⟩⟩
            have w1 := same_upd (o := .tup [.str x.one, .str x.oth, .non, oV (some tt)]) n2
            have w2 := same_upd (o := .tup [.int (0 + (k : Nat)), .ref t2]) n1
            have w3 := same_upd (o := .tup [.str x.one, .str x.oth, oV (some tb), .non]) n4
            have w4 := same_upd (o := .tup [.int (0 + (k : Nat)), .ref t4]) n3
            have w5 := same_upd (o := .lst [.ref t1, .ref t3]) nl
            have w345 := (w3.trans w4).trans w5
            have w12345 := (w1.trans w2).trans w345
            have e1 := w345 _ _ (w2 _ _ (upd_same (H := H2) (a := t2) (o := .tup [.str x.one, .str x.oth, .non, oV (some tt)])))
            have e2 := w345 _ _ (upd_same (H := upd H2 t2 (.tup [.str x.one, .str x.oth, .non, oV (some tt)])) (a := t1) (o := .tup [.int (0 + (k : Nat)), .ref t2]))
            have e3 := w5 _ _ (w4 _ _ (upd_same (H := upd (upd H2 t2 (.tup [.str x.one, .str x.oth, .non, oV (some tt)])) t1 (.tup [.int (0 + (k : Nat)), .ref t2])) (a := t4) (o := .tup [.str x.one, .str x.oth, oV (some tb), .non])))
            have e4 := w5 _ _ (upd_same (H := upd (upd (upd H2 t2 (.tup [.str x.one, .str x.oth, .non, oV (some tt)])) t1 (.tup [.int (0 + (k : Nat)), .ref t2])) t4 (.tup [.str x.one, .str x.oth, oV (some tb), .non])) (a := t3) (o := .tup [.int (0 + (k : Nat)), .ref t4]))
            have e5 : upd (upd (upd (upd (upd H2 t2 (.tup [.str x.one, .str x.oth, .non, oV (some tt)])) t1 (.tup [.int (0 + (k : Nat)), .ref t2])) t4 (.tup [.str x.one, .str x.oth, oV (some tb), .non])) t3 (.tup [.int (0 + (k : Nat)), .ref t4])) l (.lst [.ref t1, .ref t3]) l = some (.lst [.ref t1, .ref t3]) := upd_same
            generalize upd (upd (upd (upd (upd H2 t2 (.tup [.str x.one, .str x.oth, .non, oV (some tt)])) t1 (.tup [.int (0 + (k : Nat)), .ref t2])) t4 (.tup [.str x.one, .str x.oth, oV (some tb), .non])) t3 (.tup [.int (0 + (k : Nat)), .ref t4])) l (.lst [.ref t1, .ref t3]) = H5 at w12345 e1 e2 e3 e4 e5 ⊢
            clear w1 w2 w3 w4 w5 w345
            refine ⟨L, l, _, _, rfl, rfl, w12345 _ _ hL, e5, Nat.le_of_lt (small1000 (by show xs.length + 2 ≤ 1000; omega)), fun p np => ?_⟩
            have wp := same_upd (o := .lst (xs ++ [.ref t1, .ref t3])) np
            have kp := Kt.of wp
            have kk := Kt.of (w12345.trans wp)
            have sbp := sb_same sb2 (w12345.trans wp)
            have npH : H p = none := sb_free (sb_same sb2 w12345) (F2.same w12345) np
            refine ⟨p, _, rfl, sbp, F2.same (w12345.trans wp), upd_same, npH, by rw [List.length_append]; show xs.length + 2 ≤ _; omega, fun v hv => ?_⟩
            rcases List.mem_append.1 hv with h | h
            · exact (all v h).keep kk
            · rcases List.mem_cons.1 h with h | h
              · exact ⟨t1, t2, k, x, ⟨x.one, x.oth, none, some tt⟩, h, kp _ _ e2, kp _ _ e1, ex, rfl, rfl, fun t e => (by cases e), fun t e => ⟨tt, et, by cases e; exact Int.le_refl _⟩, ⟨fun z => (nomatch z.2), fun _ e => (by cases e), fun t e => by cases e; exact xo.hi _ rfl, fun _ _ e => by cases e⟩⟩
              · exact ⟨t3, t4, k, x, ⟨x.one, x.oth, some tb, none⟩, List.mem_singleton.1 h, kp _ _ e4, kp _ _ e3, ex, rfl, rfl, fun t e => ⟨tb, eb, by cases e; exact Int.le_refl _⟩, fun t e => (by cases e), ⟨fun z => (nomatch z.1), fun t e => by cases e; exact xo.lo _ rfl, fun _ e => (by cases e), fun _ _ _ e => by cases e⟩⟩
      · rintro σ' H3 ⟨L, xs, rfl, sb3, F3, hL, nL, few, all⟩
        refine ⟨fun σ' H' => ∃ (L : Addr) (xs : List V), σ' = [some (.ref f), some (.ref d), some (.ref L), some (.int (0 + (k : Nat))), some (.str x.one), some (.str x.oth), some (oV x.bot), some (oV x.top)] ∧ Sb f H H' ∧ Flow H' f c ∧ H' L = some (.lst xs) ∧ H L = none ∧ xs.length ≤ 4 * k + 3 ∧ ∀ v ∈ xs, LoAt m H' v, ?_, ?_⟩
        · refine ⟨_, rfl, rfl, _, rfl, ?_⟩
          rw [oV_non]
          cases et : x.top with
          | none => exact iteF ⟨L, xs, rfl, sb3, F3, hL, nL, by omega, all⟩
          | some tt =>
            rw [et] at xo
            refine iteT ⟨_, rfl, .inl ⟨rfl, _, .inl (.inl hL)⟩, _, rfl, _, rfl, _, rfl, _, rfl, _, rfl, tt, 1, rfl, rfl, _, rfl, f, c, 9, rfl, F3, by decide, by decide, fun v H4 a4 b4 sb4 F4 => ⟨tt + 1, v, rfl, rfl, 1000, tt + 1 + v, rfl, ?_⟩⟩
            generalize eT : (if tt + 1 + v < 1000 then tt + 1 + v else 1000) = T2
            have hT := xo.hi _ rfl
            have bT : tt ≤ T2 ∧ T2 ≤ 1000 := by
              rw [← eT]
              split <;> omega
            have hL4 := sb4 _ _ hL (ne_of_none hf nL).symm
            refine ⟨(by show 4 ≤ sizeLine; decide), fun t2 n2 => ⟨(by show 2 ≤ sizeLine; decide), fun t1 n1 => ?_⟩⟩
            have w1 := same_upd (o := .tup [.str x.one, .str x.oth, oV x.bot, .int T2]) n2
            have w2 := same_upd (o := .tup [.int (0 + (k : Nat)), .ref t2]) n1
            have w12 := w1.trans w2
            have e1 := w2 _ _ (upd_same (H := H4) (a := t2) (o := .tup [.str x.one, .str x.oth, oV x.bot, .int T2]))
            have e2 : upd (upd H4 t2 (.tup [.str x.one, .str x.oth, oV x.bot, .int T2])) t1 (.tup [.int (0 + (k : Nat)), .ref t2]) t1 = some (.tup [.int (0 + (k : Nat)), .ref t2]) := upd_same
            generalize upd (upd H4 t2 (.tup [.str x.one, .str x.oth, oV x.bot, .int T2])) t1 (.tup [.int (0 + (k : Nat)), .ref t2]) = H5 at w12 e1 e2 ⊢
            refine ⟨L, xs, _, rfl, rfl, w12 _ _ hL4, small1000 (by omega), ?_⟩
            obtain ⟨zf3, hfl3⟩ := F3.lst
            have sb5 := sb_same (sb3.trans sb4) w12
            have F5 := F4.same w12
            have sbL : Sb f H (upd H5 L (.lst (xs ++ [.ref t1]))) := fun y o ey n => by
              rw [upd_ne (ne_of_none ey nL)]
              exact sb5 y o ey n
            have kL : Kt H5 (upd H5 L (.lst (xs ++ [.ref t1]))) := Kt.upd fun zs z => by
              rw [w12 _ _ hL4] at z
              cases z
            have k4 : Kt H3 (upd H5 L (.lst (xs ++ [.ref t1]))) := fun y o ey => kL _ _ (w12 _ _ (sb4.kt hfl3 _ _ ey))
            refine ⟨L, _,  rfl, sbL, F5.upd (ne_of_none hf nL) (ne_of_none hc nL), upd_same, nL, by rw [List.length_append]; show xs.length + 1 ≤ _; omega, fun v hv => ?_⟩
            rcases List.mem_append.1 hv with h | h
            · exact (all v h).keep k4
            · exact ⟨t1, t2, k, x, ⟨x.one, x.oth, x.bot, some T2⟩, List.mem_singleton.1 h, kL _ _ e2, kL _ _ e1, ex, rfl, rfl, fun t e => ⟨t, e, Int.le_refl _⟩, fun t e => ⟨tt, et, by cases e; exact bT.1⟩, ⟨fun z => (nomatch z.2), xo.lo, fun t e => by cases e; omega, fun a b e1 e2 => by cases e2; have := xo.le a tt e1 rfl; omega⟩⟩
        · clear sb3 F3 hL nL few all
          rintro σ' H3 ⟨L, xs, rfl, sb3, F3, hL, nL, few, all⟩
          refine ⟨_, rfl, rfl, _, rfl, ?_⟩
          rw [oV_non]
          cases eb : x.bot with
          | none => exact iteF ⟨L, xs, _, _, _, _, _, rfl, sb3, F3, hL, nL, by omega, all⟩
          | some tb =>
            rw [eb] at xo
            refine iteT ⟨_, rfl, .inl ⟨rfl, _, .inl (.inl hL)⟩, _, rfl, _, rfl, _, rfl, 1000, rfl, _, rfl, tb, 1, rfl, rfl, _, rfl, f, c, 9, rfl, F3, by decide, by decide, fun v H4 a4 b4 sb4 F4 => ⟨tb - 1, v, rfl, rfl, -1000, tb - 1 - v, rfl, ?_⟩⟩
            generalize eT : (if tb - 1 - v > -1000 then tb - 1 - v else -1000) = T2
            have hT := xo.lo _ rfl
            have bT : T2 ≤ tb ∧ -1000 ≤ T2 := by
              rw [← eT]
              split <;> omega
            have hL4 := sb4 _ _ hL (ne_of_none hf nL).symm
            refine ⟨_, rfl, (by show 4 ≤ sizeLine; decide), fun t2 n2 => ⟨(by show 2 ≤ sizeLine; decide), fun t1 n1 => ?_⟩⟩
            have w1 := same_upd (o := .tup [.str x.one, .str x.oth, .int T2, oV x.top]) n2
            have w2 := same_upd (o := .tup [.int (0 + (k : Nat)), .ref t2]) n1
            have w12 := w1.trans w2
            have e1 := w2 _ _ (upd_same (H := H4) (a := t2) (o := .tup [.str x.one, .str x.oth, .int T2, oV x.top]))
            have e2 : upd (upd H4 t2 (.tup [.str x.one, .str x.oth, .int T2, oV x.top])) t1 (.tup [.int (0 + (k : Nat)), .ref t2]) t1 = some (.tup [.int (0 + (k : Nat)), .ref t2]) := upd_same
            generalize upd (upd H4 t2 (.tup [.str x.one, .str x.oth, .int T2, oV x.top])) t1 (.tup [.int (0 + (k : Nat)), .ref t2]) = H5 at w12 e1 e2 ⊢
            refine ⟨L, xs, _, rfl, rfl, w12 _ _ hL4, small1000 (by omega), ?_⟩
            obtain ⟨zf3, hfl3⟩ := F3.lst
            have sb5 := sb_same (sb3.trans sb4) w12
            have F5 := F4.same w12
            have sbL : Sb f H (upd H5 L (.lst (xs ++ [.ref t1]))) := fun y o ey n => by
              rw [upd_ne (ne_of_none ey nL)]
              exact sb5 y o ey n
            have kL : Kt H5 (upd H5 L (.lst (xs ++ [.ref t1]))) := Kt.upd fun zs z => by
              rw [w12 _ _ hL4] at z
              cases z
            have k4 : Kt H3 (upd H5 L (.lst (xs ++ [.ref t1]))) := fun y o ey => kL _ _ (w12 _ _ (sb4.kt hfl3 _ _ ey))
            refine ⟨L, _, _, _, _, _, _,  rfl, sbL, F5.upd (ne_of_none hf nL) (ne_of_none hc nL), upd_same, nL, by rw [List.length_append]; show xs.length + 1 ≤ _; omega, fun v hv => ?_⟩
            rcases List.mem_append.1 hv with h | h
            · exact (all v h).keep k4
            · exact ⟨t1, t2, k, x, ⟨x.one, x.oth, some T2, x.top⟩, List.mem_singleton.1 h, kL _ _ e2, kL _ _ e1, ex, rfl, rfl, fun t e => ⟨tb, eb, by cases e; exact bT.1⟩, fun t e => ⟨t, e, Int.le_refl _⟩, ⟨fun z => (nomatch z.1), fun t e => by cases e; omega, xo.hi, fun a b e1 e2 => by cases e1; have := xo.le tb b rfl e2; omega⟩⟩
    · rintro σ H2 ⟨L, xs, y3, y4, y5, y6, y7, rfl, sb2, F2, hL, nL, few, all⟩
      exact ⟨_, rfl, q L xs H2 sb2 F2 hL (ne_of_none hf nL).symm (by omega) all⟩
end
end Tw

set_option maxHeartbeats 4000000
namespace Tw
open PySem PySem.Spec PyProof.Rows L2
theorem rows_put {H : Hp} : ∀ {xs : List V} {rs : List (List V)} (i : Nat) {t : Addr} {r : List V}, Rows H xs rs → H t = some (.tup r) → Rows H (xs.set i (.ref t)) (rs.set i r)
  | _, _, 0, _, _, .nil, _ => .nil
  | _, _, _ + 1, _, _, .nil, _ => .nil
  | _, _, 0, t, _, .cons _ q, h => .cons ⟨t, rfl, h⟩ q
  | _, _, i + 1, _, _, .cons p q, h => .cons p (rows_put i q h)
/-- a tie, or a span, of a picture exchanged -/
theorem MdX.setB {H : Hp} {d o w b : Addr} {m : Md} {bs : List V} {i : Nat} {t : Addr} {y : Bd} (M : MdX H d o w b m) (hb : H b = some (.lst bs)) (ht : H t = some (.tup y.row)) : MdX (upd H b (.lst (bs.set i (.ref t)))) d o w b (m.st i y) := by
  obtain ⟨ws, w1, w2⟩ := M.wd
  obtain ⟨bs', b1, b2⟩ := M.bd
  rw [hb] at b1
  cases b1
  have kk : Kt H (upd H b (.lst (bs.set i (.ref t)))) := Kt.upd fun ys h => by rw [hb] at h; cases h
  refine ⟨?_, ?_, ⟨ws, ?_, w2.keep kk⟩, ⟨_, upd_same, ?_⟩, M.now, M.nob, M.nwb⟩
  · rw [upd_ne (ne_of M.dk hb (fun z => nomatch z))]
    exact M.dk
  · rw [upd_ne M.nob]
    exact M.own
  · rw [upd_ne M.nwb]
    exact w1
  · show Rows _ _ ((m.bd.set i y).map Bd.row)
    rw [List.map_set]
    exact (rows_put i b2 ht).keep kk
theorem MdX.setW {H : Hp} {d o w b : Addr} {m : Md} {ws : List V} {i : Nat} {t : Addr} {y : Wd} (M : MdX H d o w b m) (hw : H w = some (.lst ws)) (ht : H t = some (.tup y.row)) : MdX (upd H w (.lst (ws.set i (.ref t)))) d o w b (m.sw i y) := by
  obtain ⟨ws', w1, w2⟩ := M.wd
  obtain ⟨bs, b1, b2⟩ := M.bd
  rw [hw] at w1
  cases w1
  have kk : Kt H (upd H w (.lst (ws.set i (.ref t)))) := Kt.upd fun ys h => by rw [hw] at h; cases h
  refine ⟨?_, ?_, ⟨_, upd_same, ?_⟩, ⟨bs, ?_, b2.keep kk⟩, M.now, M.nob, M.nwb⟩
  · rw [upd_ne (ne_of M.dk hw (fun z => nomatch z))]
    exact M.dk
  · rw [upd_ne M.now]
    exact M.own
  · show Rows _ _ ((m.wd.set i y).map Wd.row)
    rw [List.map_set]
    exact (rows_put i w2 ht).keep kk
  · rw [upd_ne M.nwb.symm]
    exact b1
theorem web_f {K : PySem.W.Frag} {H H' : Hp} {f q : Addr} {m : Md} {zs : List V} (W : WebAt (CW K) H q m) (s : Sb f H H') (hf : H f = some (.lst zs)) : WebAt (CW K) H' q m := W.keep (fun _ _ e => s _ _ e (ne_of e hf (fun z => nomatch z))) (s.kt hf)
theorem ix_at {n i : Nat} (h : i < n) : ixN n (0 + (i : Int)) = some i := by
  unfold ixN
  rw [if_pos (by omega), if_pos (by omega)]
  congr 1
  omega
section
variable {P : Program} {w : World} {K : PySem.W.Frag} {mg : Str → Option Value} {base : Heap}
def sp_law (K : PySem.W.Frag) : Sp := fun vs H Q _ => ∃ (a : Addr) (ns : List Int), vs = [.ref a] ∧ SqL K H a (ns.map V.int) ∧ H (He.cT K ("law", none)).2 = some (.tbl #[]) ∧ ∀ H', Q (.bl true) H'
theorem ok_law (T : Tp K mg) (TO : Tbo w K) {fd : FuncData} (F : FunD K "law" "law" (defArgs s_law) (defBody s_law) (defScope s_law) [] [] (He.ga K "law") fd) : FnOk P w K mg base CX0 20 (He.ga K "law") fd ["_law_script"] (sp_law K) := by
  refine fnok_of F sc_law (fun vs H Q E h => ?_) (fun cdv A outer s H vs Q E hr h => ?_)
  · obtain ⟨a, ns, rfl, _⟩ := h
    rfl
  · obtain ⟨a, ns, rfl, hS, _, q⟩ := h
    have hu := hu_of hr
    refine ⟨_, (pss_cons (ps_set (i := 1) sc_law.nd rfl (.inl rfl) (C8.pe_c (cal__law_flow T) hr (by decide) rfl (pa_cons (pv 0) pa_nil)))
      (pss_cons (ps_par3 (i := 2) (j := 3) (l := 4) (by rfl) sc_law.nd rfl rfl rfl (by decide) (by decide) (by decide) rfl rfl rfl (pa_cons (pe_op op_add pe_int (C8.pe_c (cal__law_draw T) hr (by decide) rfl (pa_cons (pv 1) (pa_cons pe_int pa_nil)))) (pa_cons (pe_op op_add pe_int (C8.pe_c (cal__law_draw T) hr (by decide) rfl (pa_cons (pv 1) (pa_cons pe_int pa_nil)))) (pa_cons (pe_op op_add pe_int (C8.pe_c (cal__law_draw T) hr (by decide) rfl (pa_cons (pv 1) (pa_cons pe_int pa_nil)))) pa_nil))) (by rfl))
      (pss_cons (ps_set (i := 5) sc_law.nd rfl (.inl rfl) (C8.pe_c (cal__law_drawn T) hr (by decide) rfl (pa_cons (pv 1) (pa_cons (pv 2) (pa_cons (pv 3) (pa_cons (pv 4) (pa_cons (pe_op op_add pe_int (C8.pe_c (cal__law_draw T) hr (by decide) rfl (pa_cons (pv 1) (pa_cons pe_int pa_nil)))) (pa_cons (pe_op op_add pe_int (C8.pe_c (cal__law_draw T) hr (by decide) rfl (pa_cons (pv 1) (pa_cons pe_int pa_nil)))) pa_nil))))))))
      (pss_cons (ps_set (i := 6) sc_law.nd rfl (.inl rfl) (C8.pe_c (cal__law_web T) hr (by decide) rfl (pa_cons (pv 5) pa_nil)))
      (pss_cons (ps_if (pt_not (pt_val (C8.pe_c (cal_steered T TO) hr (by decide) rfl (pa_cons (pv 6) pa_nil)))) (pss_one (ps_ret pe_bl)) pss_nil)
      (pss_cons (ps_for PassesOwn.never rfl (pi_list (C8.pe_c (cal__law_looser T) hr (by decide) rfl (pa_cons (pv 1) (pa_cons (pv 5) pa_nil)))) (pg_tup rfl (pgs_cons (pg_name (i := 7) sc_law.nd rfl (.inl rfl)) (pgs_cons (pg_name (i := 8) sc_law.nd rfl (.inl rfl)) pgs_nil)))
        (pss_cons (ps_set (i := 9) sc_law.nd rfl (.inl rfl) (C8.pe_c (cal__law_copy T) hr (by decide) rfl (pa_cons (pv 5) pa_nil)))
        (pss_cons (ps_asg (pv 8) (pg_sub (pe_dget hu (pv 9) pe_str (fun _ _ => rfl)) (pv 7) set_list))
        (pss_one (ps_if (PW.pt (pw_or (pt_not (pt_val (C8.pe_c (cal_steered T TO) hr (by decide) rfl (pa_cons (C8.pe_c (cal__law_web T) hr (by decide) rfl (pa_cons (pv 9) pa_nil)) pa_nil)))) (pw_or1 (pt_not (pt_val (C8.pe_c (cal_steered T TO) hr (by decide) rfl (pa_cons (C8.pe_mt (met_Web_without_tie T) hr (by decide) (pv 6) (pa_cons (pv 7) pa_nil)) pa_nil))))))) (pss_one (ps_ret pe_bl)) pss_nil)))))
      (pss_cons (ps_for PassesOwn.never rfl (pi_range1 rfl (z_range T) (pa_cons (pv 3) pa_nil)) (pg_name (i := 7) sc_law.nd rfl (.inl rfl))
        (pss_cons (ps_asg (pe_ix ix_list (pe_dget hu (pv 5) pe_str (fun _ _ => rfl)) (pv 7) (fun _ _ => rfl)) (pg_tup rfl (pgs_cons (pg_name (i := 10) sc_law.nd rfl (.inl rfl)) (pgs_cons (pg_name (i := 11) sc_law.nd rfl (.inl rfl)) (pgs_cons (pg_name (i := 12) sc_law.nd rfl (.inl rfl)) (pgs_cons (pg_name (i := 13) sc_law.nd rfl (.inl rfl)) (pgs_cons (pg_name (i := 14) sc_law.nd rfl (.inl rfl)) pgs_nil)))))))
        (pss_cons (ps_set (i := 9) sc_law.nd rfl (.inl rfl) (C8.pe_c (cal__law_copy T) hr (by decide) rfl (pa_cons (pv 5) pa_nil)))
        (pss_cons (ps_set (i := 15) sc_law.nd rfl (.inl rfl) (pe_op op_add (pv 12) (C8.pe_c (cal__law_draw T) hr (by decide) rfl (pa_cons (pv 1) (pa_cons (pe_op op_add (pe_op op_sub (pv 13) (pv 12)) pe_int) pa_nil)))))
        (pss_cons (ps_asg (C8.pe_c (cal__law_pick T) hr (by decide) rfl (pa_cons (pv 1) (pa_cons (pe_lst (pa_cons (pe_tup (pa_cons (pv 10) (pa_cons (pv 11) (pa_cons (pv 12) (pa_cons (pv 15) (pa_cons (pv 14) pa_nil)))))) (pa_cons (pe_tup (pa_cons (pv 10) (pa_cons (pv 11) (pa_cons (pv 15) (pa_cons (pv 13) (pa_cons (pv 14) pa_nil)))))) pa_nil))) pa_nil))) (pg_sub (pe_dget hu (pv 9) pe_str (fun _ _ => rfl)) (pv 7) set_list))
        (pss_one (ps_if (pt_not (pt_val (C8.pe_c (cal_steered T TO) hr (by decide) rfl (pa_cons (C8.pe_c (cal__law_web T) hr (by decide) rfl (pa_cons (pv 9) pa_nil)) pa_nil)))) (pss_one (ps_ret pe_bl)) pss_nil)))))))
      (pss_one (ps_ret (C8.pe_c (cal_steered T TO) hr (by decide) rfl (pa_cons (C8.pe_mt (met_Web_with_by T) hr (by decide) (pv 6) (pa_cons (pe_op op_add (pe_op op_add (pe_dget hu (pv 5) pe_str (fun _ _ => rfl)) pe_int) (C8.pe_c (cal__law_draw T) hr (by decide) rfl (pa_cons (pv 1) (pa_cons pe_int pa_nil)))) pa_nil)) pa_nil))))))))))), ?_⟩
    refine ⟨_, rfl, a, ns, rfl, hS, fun f c H1 s1 nf nc F1 => ?_⟩
    refine ⟨_, rfl, f, c, 4, rfl, F1, by decide, by decide, fun v1 H2 a1 b1 sb1 F2 => ⟨1, v1, rfl, rfl, _, rfl, f, c, 3, rfl, F2, by decide, by decide, fun v2 H3 a2 b2 sb2 F3 => ⟨1, v2, rfl, rfl, _, rfl, f, c, 5, rfl, F3, by decide, by decide, fun v3 H4 a3 b3 sb3 F4 => ⟨1, v3, rfl, rfl, _, _, _, rfl, ?_⟩⟩⟩⟩
    refine ⟨_, rfl, _, rfl, _, rfl, _, rfl, _, rfl, f, c, 12, rfl, F4, by decide, by decide, fun v4 H5 a4 b4 sb4 F5 => ⟨1, v4, rfl, rfl, _, rfl, f, c, 60, rfl, F5, by decide, by decide, fun v5 H6 a5 b5 sb5 F6 => ⟨1, v5, rfl, rfl, f, c, 1 + v1, 1 + v2, 1 + v3, 1 + v4, 1 + v5, rfl, F6, by omega, by omega, by omega, by omega, by omega, by omega, by omega, by omega, by omega, by omega, by omega, fun d m H7 sb7 F7 nd M ok hlast hown hwd hbd _ => ?_⟩⟩⟩
    have lens := ok.len
    refine ⟨_, rfl, d, m, rfl, M, ok, fun p H8 s8 np W => ?_⟩
    refine ⟨_, rfl, p, m, rfl, W, ok, fun H9 s9 => ⟨fun sy => ⟨_, rfl, iteF ?_⟩, fun nsy => ⟨_, rfl, iteT (q H9)⟩⟩⟩
    have F9 := (F7.same s8).same s9
    have M9 := (M.same s8).same s9
    have W9 := W.same s9
    refine ⟨_, rfl, _, rfl, f, c, d, m, rfl, F9, M9, ok, fun L xs H10 sb10 F10 hL nLf few all => ?_⟩
    have M10 := M9.sb F9 sb10
    obtain ⟨zf9, hf9⟩ := F9.lst
    have W10 : WebAt (CW K) H10 p m := web_f W9 sb10 hf9
    refine ⟨L, rfl, ⟨_, .inl (.inl hL)⟩, for_list (K := K) (a := L) (xs := xs) (fun i σ H' => ∃ y7 y8 y9 : Option V, σ = [some (.ref a), some (.ref f), some (.int (1 + v1)), some (.int (1 + v2)), some (.int (1 + v3)), some (.ref d), some (.ref p), y7, y8, y9, none, none, none, none, none, none] ∧ Same H10 H') ⟨none, none, none, rfl, Same.refl _⟩ (fun i σ H' _ ⟨_, _, _, _, s⟩ => .inl (.inl (s _ _ hL))) ?_ ?_⟩
    · rintro j v σ H11 hv ⟨y7, y8, y9, rfl, s11⟩
      obtain ⟨t, t2, i, x, y, rfl, ht, ht2, ex, ls⟩ := all v (List.mem_of_getElem? hv)
      have li : i < m.bd.length := (List.getElem?_eq_some_iff.1 ex).1
      refine ⟨t, _, rfl, .inl (.inl (s11 _ _ ht)), rfl, _, _, rfl, _, _, rfl, rfl, ?_⟩
      have M11 := M10.same s11
      refine ⟨_, rfl, d, m, rfl, M11, fun d' o' w' b' H12 s12 nd' no' nw' nb' X12 => ?_⟩
      obtain ⟨bs', hb', rb'⟩ := X12.bd
      have lb' : bs'.length = m.bd.length := by rw [rb'.len, List.length_map]
      have ht2' := s12 _ _ (s11 _ _ ht2)
      refine ⟨_, rfl, _, rfl, d', _, rfl, mk_bd X12.dk, _, rfl, b', bs', _, i, rfl, rfl, hb', ix_at (by omega), ?_⟩
      have X13 := X12.setB (i := i) hb' ht2'
      have s13 : Same H11 (upd H12 b' (.lst (bs'.set i (.ref t2)))) := same_put s12 nb'
      generalize upd H12 b' (.lst (bs'.set i (.ref t2))) = H13 at X13 s13 ⊢
      have ok13 := st_ok ok ex ls
      refine ⟨_, rfl, d', m.st i y, rfl, X13.at, ok13, fun p2 H14 s14 np2 W14 => ⟨p2, m.st i y, rfl, W14, ok13, fun H15 s15 => ⟨fun _ => ⟨_, rfl, iteF ?_⟩, fun n => absurd (sy_st ok ex ls sy) n⟩⟩⟩
      have s1115 := (s13.trans s14).trans s15
      have W15 := (W10.same s11).same s1115
      obtain ⟨dx, _, _, _, _, _, g1, _⟩ := W15.ex
      refine ⟨_, rfl, p, dx, _, rfl, g1, wf_no (by decide +kernel), _, rfl, p, m, i, by rw [Int.zero_add]; rfl, W15, li, fun q2 H16 s16 nq2 W16 => ⟨q2, m.unt i, rfl, W16, unt_ok ok i, fun H17 s17 => ⟨fun _ => ⟨_, rfl, iteF ⟨_, _, _, rfl, s11.trans ((s1115.trans s16).trans s17)⟩⟩, fun n => absurd (sy_fewer (unt_ok ok i) (fun z hz => List.mem_of_mem_eraseIdx hz) sy) n⟩⟩⟩
    · rintro σ H11 ⟨y7, y8, y9, rfl, s11⟩
      have F11 := F10.same s11
      have M11 := M10.same s11
      have W11 := W10.same s11
      refine ⟨_, rfl, 1 + v2, rfl, by omega, by omega, for_range (lo := 0) (n := (1 + v2).toNat) (fun i σ H' => ∃ y7 y8 y9 y10 y11 y12 y13 y14 y15 : Option V, σ = [some (.ref a), some (.ref f), some (.int (1 + v1)), some (.int (1 + v2)), some (.int (1 + v3)), some (.ref d), some (.ref p), y7, y8, y9, y10, y11, y12, y13, y14, y15] ∧ Flow H' f c ∧ Sb f H11 H') ⟨y7, y8, y9, none, none, none, none, none, none, rfl, F11, fun _ _ e _ => e⟩ ?_ ?_⟩
      · rintro i σ H12 hi ⟨y7, y8, y9, y10, y11, y12, y13, y14, y15, rfl, F12, sb12⟩
        have M12 := M11.sb F11 sb12
        obtain ⟨o, u, b, ws, bs, h1, h2, h3, h4, h5, h6, h7, h8, h9⟩ := M12.ex
        have lws : ws.length = m.wd.length := by rw [h4.len, List.length_map]
        obtain ⟨t, x, et, ex, ht⟩ : ∃ t x, ws[i]? = some (V.ref t) ∧ m.wd[i]? = some x ∧ H12 t = some (.tup (Wd.row x)) := by
          have hi' : i < ws.length := by omega
          obtain ⟨t, r, e1, e2, e3⟩ := row_of h4 (List.getElem?_eq_getElem hi')
          exact ⟨t, r, by rw [List.getElem?_eq_getElem hi', e1], e2, e3⟩
        have ix : atI ws (0 + (i : Int)) = some (.ref t) := at_of (j := i) (by omega) et
        have wo := ok.wd x (List.mem_of_getElem? ex)
        have w1 := wo.lo
        have w2 := wo.hi
        have w3 := wo.top
        have li : i < m.wd.length := (List.getElem?_eq_some_iff.1 ex).1
        refine ⟨_, rfl, d, _, rfl, mk_wd h1, _, rfl, u, ws, _, _, rfl, rfl, .inl (.inl h3), ix, t, x.row, rfl, .inl (.inl ht), rfl, _, _, rfl, _, _, rfl, _, _, rfl, _, _, rfl, _, _, rfl, rfl, ?_⟩
        refine ⟨_, rfl, d, m, rfl, M12, fun d' o' w' b' H13 s13 nd' no' nw' nb' X13 => ?_⟩
        have F13 := F12.same s13
        refine ⟨_, rfl, _, rfl, _, rfl, _, rfl, x.hi, x.lo, rfl, rfl, x.hi - x.lo, 1, rfl, rfl, f, c, x.hi - x.lo + 1, rfl, F13, by omega, by omega, fun v H14 av bv sb14 F14 => ⟨x.lo, v, rfl, rfl, ?_⟩⟩
        have F14' := F14
        obtain ⟨zf13, hf13⟩ := F13.lst
        obtain ⟨zf12, hf12⟩ := F12.lst
        obtain ⟨zc12, hc12⟩ := F12.cells
        have X14 := X13.sb F13 sb14
        refine ⟨_, rfl, _, rfl, _, rfl, _, rfl, _, rfl, _, rfl, (by show 5 ≤ sizeLine; decide), fun t1 n1 => ⟨_, rfl, _, rfl, _, rfl, _, rfl, _, rfl, (by show 5 ≤ sizeLine; decide), fun t2 n2 => ⟨(by show 2 ≤ sizeLine; decide), fun l nl => ?_⟩⟩⟩
        have k1 := same_upd (o := .tup [.str x.en, .str x.bg, .int x.lo, .int (x.lo + v), oV x.la]) n1
        have k2 := same_upd (o := .tup [.str x.en, .str x.bg, .int (x.lo + v), .int x.hi, oV x.la]) n2
        have k3 := same_upd (o := .lst [.ref t1, .ref t2]) nl
        have e1 := k3 _ _ (k2 _ _ (upd_same (H := H14) (a := t1) (o := .tup [.str x.en, .str x.bg, .int x.lo, .int (x.lo + v), oV x.la])))
        have e2 := k3 _ _ (upd_same (H := upd H14 t1 (.tup [.str x.en, .str x.bg, .int x.lo, .int (x.lo + v), oV x.la])) (a := t2) (o := .tup [.str x.en, .str x.bg, .int (x.lo + v), .int x.hi, oV x.la]))
        have e3 : upd (upd (upd H14 t1 (.tup [.str x.en, .str x.bg, .int x.lo, .int (x.lo + v), oV x.la])) t2 (.tup [.str x.en, .str x.bg, .int (x.lo + v), .int x.hi, oV x.la])) l (.lst [.ref t1, .ref t2]) l = some (.lst [.ref t1, .ref t2]) := upd_same
        have k123 := (k1.trans k2).trans k3
        obtain ⟨zf14, hf14⟩ := F14.lst
        have nlf : l ≠ f := (ne_of_none ((k1.trans k2) _ _ hf14) nl).symm
        generalize upd (upd (upd H14 t1 (.tup [.str x.en, .str x.bg, .int x.lo, .int (x.lo + v), oV x.la])) t2 (.tup [.str x.en, .str x.bg, .int (x.lo + v), .int x.hi, oV x.la])) l (.lst [.ref t1, .ref t2]) = H15 at e1 e2 e3 k123 ⊢
        clear k1 k2 k3
        have F15 := F14.same k123
        have X15 := X14.same k123
        refine ⟨f, c, l, [.ref t1, .ref t2], rfl, F15, e3, nlf, by show 0 < 2; decide, by show 2 ≤ 1000; decide, fun v' H16 hv' sb16 F16 => ?_⟩
        have X16 := X15.sb F15 sb16
        obtain ⟨zf15, hf15⟩ := F15.lst
        have kt16 := sb16.kt hf15
        obtain ⟨t3, y, rfl, ht3, nr⟩ : ∃ t3 y, v' = V.ref t3 ∧ H16 t3 = some (.tup (Wd.row y)) ∧ Nar x y := by
          rcases List.mem_cons.1 hv' with h | h
          · exact ⟨t1, { x with hi := x.lo + v }, h, kt16 _ _ e1, ⟨rfl, rfl, rfl, Int.le_refl _, by show x.lo ≤ x.lo + v; omega, by show x.lo + v ≤ x.hi; omega⟩⟩
          · exact ⟨t2, { x with lo := x.lo + v }, List.mem_singleton.1 h, kt16 _ _ e2, ⟨rfl, rfl, rfl, by show x.lo ≤ x.lo + v; omega, by show x.lo + v ≤ x.hi; omega, Int.le_refl _⟩⟩
        obtain ⟨ws', hw', rw'⟩ := X16.wd
        have lw' : ws'.length = m.wd.length := by rw [rw'.len, List.length_map]
        refine ⟨_, rfl, d', _, rfl, mk_wd X16.dk, _, rfl, w', ws', _, i, rfl, rfl, hw', ix_at (by omega), ?_⟩
        have X17 := X16.setW (i := i) hw' ht3
        have sb1216 : Sb f H12 H16 := ((Sb.of s13).trans sb14).trans ((Sb.of k123).trans sb16)
        have sb17 : Sb f H12 (upd H16 w' (.lst (ws'.set i (.ref t3)))) := fun z o ez n => by
          rw [upd_ne (ne_of_none ez nw')]
          exact sb1216 z o ez n
        have F17 : Flow (upd H16 w' (.lst (ws'.set i (.ref t3)))) f c := F16.upd (ne_of_none hf12 nw') (ne_of_none hc12 nw')
        generalize upd H16 w' (.lst (ws'.set i (.ref t3))) = H17 at X17 sb17 F17 ⊢
        have ok17 := nar_ok ok ex nr
        exact ⟨_, rfl, d', m.sw i y, rfl, X17.at, ok17, fun p2 H18 s18 np2 W18 => ⟨p2, m.sw i y, rfl, W18, ok17, fun H19 s19 => ⟨fun _ => ⟨_, rfl, iteF ⟨_, _, _, _, _, _, _, _, _, rfl, F17.same (s18.trans s19), sb12.trans (sb_same sb17 (s18.trans s19))⟩⟩, fun n => absurd (sy_nar ok ok17 ex nr sy) n⟩⟩⟩
      · rintro σ H12 ⟨y7, y8, y9, y10, y11, y12, y13, y14, y15, rfl, F12, sb12⟩
        have M12 := M11.sb F11 sb12
        obtain ⟨zf11, hf11⟩ := F11.lst
        have W12 : WebAt (CW K) H12 p m := web_f W11 sb12 hf11
        obtain ⟨o, u, b, ws, bs, h1, h2, h3, h4, h5, h6, h7, h8, h9⟩ := M12.ex
        obtain ⟨dx, _, _, _, _, _, g1, _⟩ := W12.ex
        refine ⟨_, rfl, p, dx, _, rfl, g1, wf_no (by decide +kernel), _, rfl, d, _, rfl, mk_by h1, m.last, 1, rfl, rfl, _, rfl, f, c, 900, rfl, F12, by decide, by decide, fun v H13 av bv sb13 F13 => ⟨m.last + 1, v, rfl, rfl, ?_⟩⟩
        obtain ⟨zf12, hf12⟩ := F12.lst
        have W13 : WebAt (CW K) H13 p m := web_f W12 sb13 hf12
        have okl : MdOk (m.wby (m.last + 1 + v)) := ⟨⟨by show 1 ≤ m.last + 1 + v; omega, by show m.last + 1 + v ≤ 1000; omega⟩, ok.nd, ok.pool, ok.wd, ok.bd, ok.len⟩
        exact ⟨p, m, m.last + 1 + v, rfl, W13, by omega, by omega, fun q2 H14 s14 nq2 W14 => ⟨q2, m.wby (m.last + 1 + v), rfl, W14, okl, fun H15 s15 => ⟨fun _ => q H15, fun n => absurd (sy_last okl (by omega) sy) n⟩⟩⟩
end
end Tw

set_option maxHeartbeats 0
namespace Tw
open PySem PySem.Spec PyProof.Rows L2
theorem facts {l : PySem.W.OpenLaw} {w : World} {K : PySem.W.Frag} {h : Heap} {mg : Str → Option Value} {f : Addr} (X : K.In h) (G : h.Ns mainGlobals mg) (hfa : mg ("law" : Str) = some (.ref f)) (c : SaysW fa fn tf ex tb w h K) : LamX.LawAtS l w K CX0 20 63 "_law_script" mg f h := by
  have T : Tp K mg := tp_mk X G c.y.d c.y.more
  have e := hfa.symm.trans (g_law T)
  cases e
  obtain ⟨fd, F⟩ := f_law T
  have b := FunD.bindsA (ps := ["_law_script"]) F fun _ _ _ _ _ _ us hl => match us, hl with
    | [_], _ => rfl
  have m : (("law" : Str), (none : Option Str)) ∈ tf := List.mem_cons_self
  have one : ∀ {R : Addr × Addr → Prop}, R (He.cT K ("law", none)) → ∀ p ∈ [He.cT K ("law", none)], R p := fun hR p hp => by
    rw [List.mem_singleton.mp hp]
    exact hR
  exact ⟨fd, [He.cT K ("law", none)], sp_law K, one (c.y.empty _ m), one (c.y.out _ m), one (PySem.W.codeHd_of_K X (c.y.code _ m)), fun s v => b s [v] rfl, fun H a ns _ _ hH hS => ⟨a, ns, rfl, hS, hH _ List.mem_cons_self, fun _ => rfl⟩,
    fun base _ _ hT => ok_law T c.tabo F⟩
end Tw
open PySem PySem.W PySem.Calls PyProof.Rows
theorem PySem.Challenge.cw_tidewaiter_k22_whole_looser_never_harms_holds : PySem.Challenge.rw_tidewaiter_k22_whole_looser_never_harms.Holds := by
  w_on; o_law
  refine HandSHeadRun.head_any (r := Tw.R) (q := view Tw.R.prog [Tw.lawAt]) (H := Tw.hk) (ob := Tw.ob) (M := 30000) (loose := Tw.loose) (d := HandSHeadRun.topDef Tw.R.prog Tw.lawAt) (kwd := []) Tw.ob_eq
    (by kernel_rfl) (fun s => by kernel_rfl) Tw.run (by kernel_rfl) (by kernel_rfl) (by kernel_rfl) (by rfl) (by first | assumption | decide +kernel) (by decide +kernel) ⟨rfl, rfl, rfl, rfl, rfl, by decide +kernel⟩ ?hw ?hc
  case hw => w_witness2
  case hc =>
    refine LamX.walk_ofTsE (l := PySem.Challenge.rw_tidewaiter_k22_whole_looser_never_harms) (n := 63) (k := 20) (x := "_law_script") (CX := fun _ => L2.CX0) rfl (by decide) (by kernel_rfl) ⟨rfl, by decide, by decide⟩ ?F (fun _ _ _ _ _ z => z)
    intro w mg fa h Y G hmg0
    obtain ⟨K, KX, c⟩ := Y
    have hmg : mg ("law" : PySem.Str) = some (.ref fa) := by
      have e : (HandSHeadRun.topDef Tw.R.prog Tw.lawAt).name = ("law" : PySem.Str) := by kernel_rfl
      rw [← e]
      exact hmg0
    exact ⟨K, KX, Tw.facts KX G hmg c⟩

