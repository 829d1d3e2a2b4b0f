import PyProof.Rows.All
import Wide.All
import OpenK.AllK
import Wide.FinOn
import KE.KStateDown
import HandS.ForMost
import HandS.IsInst
import HandS.FStr
import HandS.Star
import HandS.Style
import HandS.Codes
import HandS.Walk
import HandS.Defaults
import HandS.MakeKw
import HandS.SlotsOwn
import HandS.HeadEnd
import HandS.HeadHook1
import HandS.HeadHook2
import HandS.Head0
import HandS.Head1
import HandS.Head2
import HandS.Exc
import HandS.TryMany
import KE.KTryMore
import HandS.ExcInit
import HandS.ExcField
import HandS.Lambda
import HandS.EndTab
import HandS.HeadWalk
import HandS.HeadHook4
import KE.KExcInit
import HandS.HeadHook3
import Wide.Once
import HandS.Nested
import HandS.WordsDict
import PyProof.DictUpdate
import HandS.Dict
import HandS.DictComp
import HandS.Small
import PySem.Challenge.RW_tidewaiter_k35_runs_refused
set_option Elab.async false
set_option linter.all false
set_option maxRecDepth 100000
set_option maxHeartbeats 4000000
/-! rules of our own over the layer: a def's promise out of its place in the top (the promises themselves are C8's), methods called with keywords, len and repr of an own instance -/
namespace Tw
open PySem PySem.Spec PyProof.Rows L2
section
variable (P : Program) (w : World) (K : PySem.W.Frag) (mg : Str → Option Value) (base : Heap)
/-- the library's promises of a def and of a method, where every parameter is handed in -/
abbrev Cal (k : Nat) (x : Str) (sp : Sp) : Prop := C8.Cal P w K mg base k x sp []
abbrev Met (k : Nat) (C : Addr) (m : Str) (sp : Sp) : Prop := C8.Met P w K mg base k C m sp []
abbrev Mak (k : Nat) (x : Str) (C : Addr) (sp : Sp) (dvs : List V) : Prop := C8.Mak P w K mg base k x C sp dvs
/-- what is owed for a body: it can be read, and under the promise's premise its reading does what the promise tells -/
abbrev BodyOk (k : Nat) (N : List Str) (qual : Str) (body : List Stmt) (scope : Scope) (f : Addr) (sp : Sp) : Prop :=
  ∀ (cdv : Value) (A : Around) (outer : List Env) (s : Shared) (H : Hp) (vs : List V) (Q : VK) (E : XK), Room k (A.deeper (envOfC qual scope s.heap.objs.size f cdv)) → sp vs H Q E →
      ∃ t, PSs (cxOf CX0 P w K mg base N qual scope f cdv A outer s H E).nox body t ∧ t { nx := fun _ H' => Q .non H', rt := Q } (start N vs) H
/-- a method of C for n positional values (self among them) and the keywords ks; gV puts them into the parameters' order -/
structure MetG (CX : CXT) (k : Nat) (C : Addr) (m : Str) (sp : Sp) (n : Nat) (ks : List Str) (gV : List V → List V → List V) : Prop where
  ex : ∃ (f : Addr) (fd : FuncData) (ps : List Str) (g : List Value → List Value → List Value), Cls K C ∧ Meth K C m f ∧ FnOk P w K mg base CX k f fd ps sp ∧ KBn K fd ps n ks g gV
abbrev MetN (k : Nat) (C : Addr) (m : Str) (sp : Sp) (n : Nat) (ks : List Str) : Prop := MetG P w K mg base CX0 k C m sp n ks (fun us ws => us ++ ws)
end
section
variable {P : Program} {w : World} {K : PySem.W.Frag} {mg : Str → Option Value} {base : Heap} {x qual : Str} {C f : Addr} {params : Arguments} {body : List Stmt} {scope : Scope} {dvs : List V} {kws : List (Str × V)} {fd : FuncData} {N ps ks : List Str} {k n : Nat} {sp : Sp}
theorem fnok_of (F : FunD K x qual params body scope dvs kws f fd) (S : FnScope N ps scope) (len : ∀ vs H Q E, sp vs H Q E → vs.length = ps.length) (owed : BodyOk P w K mg base k N qual body scope f sp) : FnOk P w K mg base CX0 (k + 1) f fd ps sp :=
  F.ok S len fun cdv A outer s H vs Q E room h => (owed cdv A outer s H vs Q E room h).imp fun _ p => ⟨p.1.nox, p.2⟩
theorem cal_of (F : FunD K x x params body scope [] [] f fd) (hm : mg x = some (.ref f)) (b : Binds K fd ps []) (S : FnScope N ps scope) (len : ∀ vs H Q E, sp vs H Q E → vs.length = ps.length) (owed : BodyOk P w K mg base k N x body scope f sp) : Cal P w K mg base (k + 1) x sp :=
  ⟨f, fd, ps, [], fnok_of F S len owed, hm, F.kp, b, .nil⟩
theorem met_of (F : FunD K x qual params body scope dvs kws f fd) (c : Cls K C) (me : Meth K C x f) (b : Binds K fd ps []) (S : FnScope N ps scope) (len : ∀ vs H Q E, sp vs H Q E → vs.length = ps.length) (owed : BodyOk P w K mg base k N qual body scope f sp) : Met P w K mg base (k + 1) C x sp :=
  ⟨f, fd, ps, [], c, me, fnok_of F S len owed, b, .nil⟩
/-- no defaults: the handed values, put in order by g, are the parameters -/
theorem kbn_by (F : FunD K x qual params body scope [] kws f fd) (g : {α : Type} → List α → List α → List α) (hrel : ∀ {vs zs : List V} {us ws : List Value}, Vals vs us → Vals zs ws → Vals (g vs zs) (g us ws))
    (h : ∀ (kV doc pm : Value) (an : Option Addr) (cdv ct : Value) (us ws : List Value), us.length = n → ws.length = ks.length → bindArgs (PySem.W.fnOf x qual params body scope .none kV doc pm an cdv ct) ⟨us, ks.zip ws⟩ = pure (ps.zip (g us ws))) :
    KBn K fd ps n ks (fun us ws => g us ws) (fun us ws => g us ws) := by
  obtain ⟨_, _, _, kV, doc, pm, an, cdv, ct, _, rfl, _, _, none_ | ⟨some_, _⟩, _⟩ := F.ex
  · cases none_.2
    exact ⟨fun _ us ws _ l1 l2 => .of_eq (h kV doc pm an cdv ct us ws l1 l2), hrel⟩
  · cases some_ rfl
theorem kbn_of (F : FunD K x qual params body scope [] kws f fd)
    (h : ∀ (kV doc pm : Value) (an : Option Addr) (cdv ct : Value) (us ws : List Value), us.length = n → ws.length = ks.length → bindArgs (PySem.W.fnOf x qual params body scope .none kV doc pm an cdv ct) ⟨us, ks.zip ws⟩ = pure (ps.zip (us ++ ws))) :
    KBn K fd ps n ks (fun us ws => us ++ ws) (fun us ws => us ++ ws) := kbn_by F (fun us ws => us ++ ws) (fun r1 r2 => r1.append r2) h
end
section
variable {X : Cx} {CX : CXT} {k j n : Nat} {C : Addr} {x m : Str} {sp : Sp} {dvs : List V} {p pos apos : Pos} {e o : Expr} {es : List Expr} {ta : TE} {t tk : TA} {ks : List Str} {kws : List Keyword} {gV : List V → List V → List V} {E : XK} {pl : Sem Bool}
/-- C() with all its parameters left out -/
theorem pe_mk0 (c : Mak X.prog X.w X.K X.mg X.base k x C sp dvs) (hr : Room j X.A) (hk : k + 1 ≤ j) (hg : Gl X x) (hdb : (x == ("__debug__" : Str)) = false := by decide) : PE X (.Call (.Name x p) [] [] pos) (tMake C sp dvs E0 tNil) :=
  let ⟨_, _, _, _, made, F, at_, b, d⟩ := c.ex
  pe_make0 made F (hr.mono hk) hg at_ b d pass0 hdb
/-- the text o.m(e, .., k = v, ..) has no star, names its keywords ks, and goes these steps -/
structure KwForm (X : Cx) (pl : Sem Bool) (o e : Expr) (es : List Expr) (kws : List Keyword) (m : Str) (apos pos : Pos) (ks : List Str) : Prop where
  named : (backToKw pos (keywordEach kws X.env)).all (·.1.isSome) = true
  names : (backToKw pos (keywordEach kws X.env)).filterMap (·.1) = ks
  first : starEach (e :: es) X.env = (false, eval e X.env) :: starEach es X.env
  plain : ((backTo pos (starEach (e :: es) X.env)).any (·.1) || (backToKw pos (keywordEach kws X.env)).any (·.1.isNone)) = false
  steps : eval (.Call (.Attribute o m apos) (e :: es) kws pos) X.env =
    (eval o X.env >>= fun ov => standAt apos.atName >>= fun _ => holding [ov] (getMethod ov m pl) >>= fun g => callWith pos g.1 g.2 (backTo pos (starEach (e :: es) X.env)) (backToKw pos (keywordEach kws X.env)))
def tMethG (C : Addr) (m : Str) (n nk : Nat) (sp : Sp) (gV : List V → List V → List V) (E : XK) (ta : TE) (t tk : TA) : TE := fun σ H Q => ta σ H fun x H1 => ∃ a dx fs, x = .ref a ∧ H1 a = some (.ins C dx fs) ∧ fs.lookup m = none ∧
  t σ H1 fun vs H2 => tk σ H2 fun zs H3 => vs.length + 1 = n ∧ zs.length = nk ∧ sp (gV (x :: vs) zs) H3 Q E
theorem pe_mg (c : MetG X.prog X.w X.K X.mg X.base CX k C m sp n ks gV) (hx : Passes CX X E) (hr : Room j X.A) (hk : k ≤ j) (he : PE X o ta) (ha : PA X (e :: es) t) (hkw : PK X kws tk) (form : KwForm X pl o e es kws m apos pos ks) :
    PE X (.Call (.Attribute o m apos) (e :: es) kws pos) (tMethG C m n ks.length sp gV E ta t tk) := by
  obtain ⟨f, fd, ps, g, cls, me, F, kb⟩ := c.ex
  obtain ⟨named, rfl, first, plain, steps⟩ := form
  constructor
  intro pins s σ H Q I h
  refine PySem.W.methodCall_KW (pl := pl) (thn (he.run pins s σ H _ I h) ?_) steps
  rintro _ s1 ⟨_, H1, I1, obj, a, dx, fs, rfl, here, own, q⟩
  cases (show _ = Value.ref a from obj)
  refine getmeth_ok I1 here cls me own (PySem.W.callWith_KW (first := [.ref a]) (h₀ := X.base) I.ok.mod.kin me.kp named (thn (ha.run pos pins s1 σ H1 _ I1 q) ?_) plain first)
  rintro us s2 ⟨vs, H2, I2, rv, q2⟩
  refine thn (hkw.run pos pins s2 σ H2 _ I2 q2) ?_
  rintro ws s3 ⟨zs, H3, I3, rz, ln, lk, q3⟩
  exact ⟨I3.kIn, run_fnN (us := .ref a :: us) (vs := .ref a :: vs) F (hr.mono hk) kb hx I3 (.cons rfl rv) rz ln lk q3⟩
/-- .. where the method raises nothing -/
theorem pe_mg0 (c : MetG X.prog X.w X.K X.mg X.base CX0 k C m sp n ks gV) (hr : Room j X.A) (hk : k ≤ j) (he : PE X o ta) (ha : PA X (e :: es) t) (hkw : PK X kws tk) (form : KwForm X pl o e es kws m apos pos ks := by exact ⟨rfl, rfl, rfl, rfl, rfl⟩) :
    PE X (.Call (.Attribute o m apos) (e :: es) kws pos) (tMethG C m n ks.length sp gV E0 ta t tk) := pe_mg c pass0 hr hk he ha hkw form
/-- an own method without values, as a builtin finds and runs it -/
theorem own0 (c : Met X.prog X.w X.K X.mg X.base k C m sp) : ∃ f, PySem.W.findIn X.K (.ref C) m = some (some (.ref f)) ∧ PySem.W.isFn X.K (.ref f) = true ∧ FnR X.prog X.w X.K X.mg X.base CX0 k f sp := by
  obtain ⟨f, _, _, _, _, me, F, b, d⟩ := c.ex
  exact ⟨f, me.at_, me.fn, (F.raw b d).imp fun vs _ _ _ h => (List.append_nil vs).symm ▸ h⟩
/-- len(o) by an own __len__ -/
def rLenO (C : Addr) (sp : Sp) : List V → Hp → VK → Prop := fun xs H Q => ∃ a dx fs, xs = [.ref a] ∧ H a = some (.ins C dx fs) ∧ sp [.ref a] H (fun v H' => ∃ i : Int, v = .int i ∧ 0 ≤ i ∧ i < 2 ^ 63 ∧ Q (.int i) H') E0
theorem call_lenO (c : Met X.prog X.w X.K X.mg X.base k C "__len__" sp) (hr : Room j X.A) (hk : k + 1 ≤ j) : CallR X (.builtin "len") (rLenO C sp) := by
  rintro pins s σ H _ us Q I r ⟨a, dx, fs, rfl, here, q⟩
  obtain rfl := Vals.ref1 r
  obtain ⟨f, hs, hf, F⟩ := own0 c
  obtain ⟨_, J0, _⟩ := ins_get I.hok here
  obtain ⟨_, J, _⟩ := J0.look
  obtain ⟨_, hF⟩ := I.fr
  refine PySem.W.len_K hF I.ok.mod.kin J hs hf (thn (wpAny_call (SlX.run_at F (hr.mono hk).in1 I.env0.in1 pass0 I r q)) ?_)
  rintro _ s1 ⟨_, H1, I1, rv, i, rfl, low, high, q1⟩
  obtain ⟨_, rfl⟩ := rv
  exact ⟨⟨low, high⟩, .int i, H1, I1.tok _, ⟨_, rfl⟩, q1⟩
/-- repr(o) by an own __repr__ -/
def rReprO (C : Addr) (sp : Sp) : List V → Hp → VK → Prop := fun xs H Q => ∃ a dx fs, xs = [.ref a] ∧ H a = some (.ins C dx fs) ∧ sp [.ref a] H (fun v H' => ∃ z : Str, v = .str z ∧ Q (.str z) H') E0
theorem call_reprO (c : Met X.prog X.w X.K X.mg X.base k C "__repr__" sp) (hr : Room j X.A) (hk : k + 1 ≤ j) : CallR X (.builtin "repr") (rReprO C sp) := by
  rintro pins s σ H _ us Q I r ⟨a, dx, fs, rfl, here, q⟩
  obtain rfl := Vals.ref1 r
  obtain ⟨f, hs, hf, F⟩ := own0 c
  obtain ⟨_, J0, _⟩ := ins_get I.hok here
  obtain ⟨_, J, _⟩ := J0.look
  obtain ⟨_, hF⟩ := I.fr
  have room : Room k X.A.in1 := (hr.mono hk).in1
  refine PySem.W.repr_K room.units0 hF I.ok.mod.kin J hs hf (thn (wpAny_call (SlX.run_at F room I.env0.in1 pass0 I r q)) ?_)
  rintro _ s1 ⟨_, H1, I1, rv, z, rfl, q1⟩
  obtain ⟨_, rfl⟩ := rv
  exact ⟨.str z, H1, I1, ⟨_, rfl⟩, q1⟩
end
end Tw

set_option maxHeartbeats 4000000
/-! what the program's and the law's data are, and what heaps keep -/
namespace Tw
open PySem PySem.Spec PyProof.Rows L2
theorem bb_len : bootBuiltins "len" = some (.builtin "len") := by decide +kernel
theorem bb_all : bootBuiltins "all" = some (.builtin "all") := by decide +kernel
theorem bb_abs : bootBuiltins "abs" = some (.builtin "abs") := by decide +kernel
theorem bb_repr : bootBuiltins "repr" = some (.builtin "repr") := by decide +kernel
theorem bb_isinstance : bootBuiltins "isinstance" = some (.builtin "isinstance") := by decide +kernel
theorem bb_list : bootBuiltins "list" = some (.type "list") := by decide +kernel
theorem bb_tuple : bootBuiltins "tuple" = some (.type "tuple") := by decide +kernel
theorem bb_str : bootBuiltins "str" = some (.type "str") := by decide +kernel
theorem bb_bool : bootBuiltins "bool" = some (.type "bool") := by decide +kernel
theorem bb_int : bootBuiltins "int" = some (.type "int") := by decide +kernel
theorem bb_dict : bootBuiltins "dict" = some (.type "dict") := by decide +kernel
/-! isinstance with a built-in class -/
def kitT : String → String → Bool
  | "bool", "bool" => true
  | "bool", "int" => true
  | "int", "int" => true
  | "str", "str" => true
  | "list", "list" => true
  | "tuple", "tuple" => true
  | "dict", "dict" => true
  | _, _ => false
def kinds : List String := ["NoneType", "bool", "int", "str", "list", "tuple", "dict"]
theorem kitB_all : (kinds.all fun a => (kinds.drop 1).all fun b => decide (kitB a b = some (kitT a b))) = true := by decide +kernel
theorem kitB_of {a b : String} (ha : a ∈ kinds) (hb : b ∈ kinds.drop 1) : kitB a b = some (kitT a b) :=
  of_decide_eq_true (List.all_eq_true.mp (List.all_eq_true.mp kitB_all a ha) b hb)
/-- isinstance(x, T): the reading asks the kind of x -/
def rIsK (K : PySem.W.Frag) : List V → Hp → VK → Prop := fun xs H Q => ∃ (x : V) (n a : String), xs = [x, .ty n] ∧ TyX K H x (.type a) ∧ a ∈ kinds ∧ n ∈ kinds.drop 1 ∧ Q (.bl (kitT a n)) H
theorem call_isK {X : Cx} : CallR X (.builtin "isinstance") (rIsK X.K) := by
  intro pins s σ H xs us Q I r h
  obtain ⟨x, n, a, rfl, ty, ha, hn, q⟩ := h
  exact call_isi pins s σ H _ us Q I r ⟨x, .ty n, .type a, .type n, kitT a n, rfl, .ty n, ty, kit_ty (kitB_of ha hn), q⟩
/-! the same rules inside a comprehension's block, where the written part is the def's -/
section
variable {X : Cx} {K : PySem.W.Frag}
theorem ix_tupK (h : X.K = K) : IxR X (rIxT K) := h ▸ ix_tup
theorem ix_listK (h : X.K = K) : IxR X (rIxL K) := h ▸ ix_list
theorem ix_seqK (h : X.K = K) : IxR X (rIx K) := h ▸ ix_seq
theorem op_in_seqK (h : X.K = K) : OpR X (compareOp .In) (rIn K false) := h ▸ op_in_seq
theorem op_notIn_seqK (h : X.K = K) : OpR X (compareOp .NotIn) (rIn K true) := h ▸ op_notIn_seq
theorem call_len_seqK (h : X.K = K) : CallR X (.builtin "len") (fun xs H Q => ∃ p ys, xs = [.ref p] ∧ (SqL K H p ys ∨ SqT K H p ys) ∧ Q (.int ys.length) H) := h ▸ call_len_seq
theorem call_isKK (h : X.K = K) : CallR X (.builtin "isinstance") (rIsK K) := h ▸ call_isK
theorem pe_fldK {e : Expr} {f : Str} {ta : TE} {pos : Pos} (h : X.K = K) (ha : PE X e ta) (hb : attributeBase e f X.env (eval e X.env) = eval e X.env) : PE X (.Attribute e f pos) (tFld K ta f) := h ▸ pe_fld ha hb
theorem pg_tupK {es : List Expr} {k : Nat} {t : TGs} {n : Nat} {pos : Pos} (h : X.K = K) (hc : X.calm = true) (hg : PGs X es t) (hn : (assignEach es X.env).length = n := by rfl) (hst : (assignEach es X.env).findIdx? (·.1) = none := by rfl) : PG X (.Tuple es k pos) (gTup K n t) := h ▸ pg_tup hc hg hn hst
end
theorem yes_i {σ : L2.St} {H : Hp} {Q : Bool → Hp → Prop} (h : Q true H) : tYes σ H Q := h
/-! ### heaps -/
theorem same_upd {H : Hp} {p : Addr} {o : HO} (h : H p = none) : Same H (upd H p o) := fun b x e => by
  rw [upd_ne (ne_of_none e h)]
  exact e
/-- all but the place f stays -/
def Sb (f : Addr) (H H' : Hp) : Prop := ∀ b o, H b = some o → b ≠ f → H' b = some o
theorem Sb.refl {f : Addr} {H : Hp} : Sb f H H := fun _ _ h _ => h
theorem Sb.of {f : Addr} {H H' : Hp} (s : Same H H') : Sb f H H' := fun b o h _ => s b o h
theorem Sb.trans {f : Addr} {H H1 H2 : Hp} (a : Sb f H H1) (b : Sb f H1 H2) : Sb f H H2 := fun c o h n => b c o (a c o h n) n
theorem Sb.upd {f : Addr} {H : Hp} {o : HO} : Sb f H (upd H f o) := fun b x e n => by
  rw [upd_ne n]
  exact e
/-- tuples stay -/
def Kt (H H' : Hp) : Prop := ∀ b xs, H b = some (.tup xs) → H' b = some (.tup xs)
theorem Kt.of {H H' : Hp} (s : Same H H') : Kt H H' := fun b _ h => s b _ h
theorem Kt.trans {H H1 H2 : Hp} (a : Kt H H1) (b : Kt H1 H2) : Kt H H2 := fun c o h => b c o (a c o h)
theorem Sb.kt {f : Addr} {H H' : Hp} {xs : List V} (s : Sb f H H') (hf : H f = some (.lst xs)) : Kt H H' := fun b _ h => s b _ h (ne_of h hf (by intro z; cases z))
theorem Kt.upd {H : Hp} {p : Addr} {o : HO} (h : ∀ xs, H p = some (.tup xs) → o = .tup xs) : Kt H (upd H p o) := fun b xs e => by
  by_cases hb : b = p
  · subst hb
    rw [upd_same, h xs e]
  · rw [upd_ne hb]
    exact e
/-! ### the data -/
structure Wd where
  en : Str
  bg : Str
  lo : Int
  hi : Int
  la : Option Int
structure Bd where
  one : Str
  oth : Str
  bot : Option Int
  top : Option Int
/-- a web as the law keeps it -/
structure Md where
  last : Int
  own : List Str
  wd : List Wd
  bd : List Bd
def oV : Option Int → V
  | none => .non
  | some i => .int i
def Wd.row (x : Wd) : List V := [.str x.en, .str x.bg, .int x.lo, .int x.hi, oV x.la]
def Bd.row (x : Bd) : List V := [.str x.one, .str x.oth, oV x.bot, oV x.top]
def Md.pts (m : Md) : List Str := "start" :: (m.own ++ m.wd.map (·.en))
/-- tuples stand at these places -/
def Rows (H : Hp) (xs : List V) (rs : List (List V)) : Prop := Paired (fun x r => ∃ t, x = V.ref t ∧ H t = some (.tup r)) xs rs
theorem Rows.keep {H H' : Hp} (k : Kt H H') {xs : List V} {rs : List (List V)} (h : Rows H xs rs) : Rows H' xs rs := Paired.mono (fun _ _ ⟨t, e, ht⟩ => ⟨t, e, k t _ ht⟩) h
theorem Rows.len {H : Hp} {xs : List V} {rs : List (List V)} (h : Rows H xs rs) : xs.length = rs.length := Paired.length h
theorem Rows.snoc {H : Hp} {xs : List V} {rs : List (List V)} {t : Addr} {r : List V} (h : Rows H xs rs) (e : H t = some (.tup r)) : Rows H (xs ++ [.ref t]) (rs ++ [r]) := Paired.snoc h ⟨t, rfl, e⟩
theorem paired_at {α β : Type} {F : α → β → Prop} : ∀ {l : List α} {m : List β} {i : Nat} {a : α}, Paired F l m → l[i]? = some a → ∃ b, m[i]? = some b ∧ F a b
  | _, _, 0, _, .cons h _, e => by
    cases e
    exact ⟨_, rfl, h⟩
  | _, _, i + 1, a, .cons _ t, e => by
    obtain ⟨b, h1, h2⟩ := paired_at (i := i) t e
    exact ⟨b, h1, h2⟩
theorem Rows.at {H : Hp} {xs : List V} {rs : List (List V)} {i : Nat} {x : V} (h : Rows H xs rs) (e : xs[i]? = some x) : ∃ t r, x = .ref t ∧ rs[i]? = some r ∧ H t = some (.tup r) := by
  obtain ⟨r, h1, t, h2, h3⟩ := paired_at h e
  exact ⟨t, r, h2, h1, h3⟩
/-- a Web's attributes -/
def wf (last : Int) (a b c : Addr) : List (Str × V) := [("by", .int last), ("moment_rows", .ref a), ("span_rows", .ref b), ("tie_rows", .ref c)]
theorem wf_by {l : Int} {a b c : Addr} : (wf l a b c).lookup ("by" : Str) = some (.int l) := by
  unfold wf
  rw [List.lookup_cons_self]
theorem wf_m {l : Int} {a b c : Addr} : (wf l a b c).lookup ("moment_rows" : Str) = some (.ref a) := by
  unfold wf
  rw [List.lookup_cons, show (("moment_rows" : Str) == "by") = false by decide +kernel, List.lookup_cons_self]
theorem wf_s {l : Int} {a b c : Addr} : (wf l a b c).lookup ("span_rows" : Str) = some (.ref b) := by
  unfold wf
  rw [List.lookup_cons, show (("span_rows" : Str) == "by") = false by decide +kernel, List.lookup_cons, show (("span_rows" : Str) == "moment_rows") = false by decide +kernel, List.lookup_cons_self]
theorem wf_t {l : Int} {a b c : Addr} : (wf l a b c).lookup ("tie_rows" : Str) = some (.ref c) := by
  unfold wf
  rw [List.lookup_cons, show (("tie_rows" : Str) == "by") = false by decide +kernel, List.lookup_cons, show (("tie_rows" : Str) == "moment_rows") = false by decide +kernel, List.lookup_cons, show (("tie_rows" : Str) == "span_rows") = false by decide +kernel, List.lookup_cons_self]
def webAttrs : List Str := ["by", "moment_rows", "span_rows", "tie_rows"]
theorem wf_no {l : Int} {a b c : Addr} {m : Str} (h : webAttrs.all (fun x => !(m == x)) = true) : (wf l a b c).lookup m = none := by
  unfold webAttrs at h
  simp only [List.all_cons, List.all_nil, Bool.and_true, Bool.and_eq_true, Bool.not_eq_true'] at h
  obtain ⟨h1, h2, h3, h4⟩ := h
  unfold wf
  rw [List.lookup_cons, h1, List.lookup_cons, h2, List.lookup_cons, h3, List.lookup_cons, h4]
  rfl
/-- a web stands at p -/
structure WebAt (C : Addr) (H : Hp) (p : Addr) (m : Md) : Prop where
  ex : ∃ (dx a b c : Addr) (ws bs : List V), H p = some (.ins C dx (wf m.last a b c)) ∧ H a = some (.tup (m.own.map V.str)) ∧ H b = some (.tup ws) ∧ Rows H ws (m.wd.map Wd.row) ∧ H c = some (.tup bs) ∧ Rows H bs (m.bd.map Bd.row)
  len : m.own.length ≤ 10 ∧ m.wd.length ≤ 4 ∧ m.bd.length ≤ 40
  last : 1 ≤ m.last ∧ m.last ≤ 1000
theorem WebAt.keep {C : Addr} {H H' : Hp} {p : Addr} {m : Md} (h : WebAt C H p m) (hp : ∀ dx fs, H p = some (.ins C dx fs) → H' p = some (.ins C dx fs)) (k : Kt H H') : WebAt C H' p m := by
  obtain ⟨dx, a, b, c, ws, bs, h1, h2, h3, h4, h5, h6⟩ := h.ex
  exact ⟨⟨dx, a, b, c, ws, bs, hp _ _ h1, k _ _ h2, k _ _ h3, h4.keep k, k _ _ h5, h6.keep k⟩, h.len, h.last⟩
theorem WebAt.same {C : Addr} {H H' : Hp} {p : Addr} {m : Md} (h : WebAt C H p m) (s : Same H H') : WebAt C H' p m := h.keep (fun _ _ e => s _ _ e) (Kt.of s)
theorem WebAt.sb {C : Addr} {H H' : Hp} {p f : Addr} {m : Md} {xs : List V} (h : WebAt C H p m) (s : Sb f H H') (hf : H f = some (.lst xs)) : WebAt C H' p m :=
  h.keep (fun _ _ e => s _ _ e (ne_of e hf (by intro z; cases z))) (s.kt hf)
/-- what is a name -/
abbrev letters : Str := "abcdefghijklmnopqrstuvwxyz"
def Nm (z : Str) : Prop := 1 ≤ z.length ∧ z.length ≤ 8 ∧ ∀ c ∈ z.cps.toList, c ∈ letters.cps.toList
end Tw

set_option maxHeartbeats 4000000
/-! a try with several clauses, each of one, two or three classes, each with a name -/
namespace Tw
open PySem PySem.Spec PyProof.Rows L2
/-- the classes that a clause names -/
inductive Cls3 (X : Cx) : Expr → List Value → Prop
  | one {x : Str} {c : Value} {np : Pos} (h : Names X x c) : Cls3 X (.Name x np) [c]
  | two {x y : Str} {c d : Value} {p q r : Pos} {kk : Nat} (h1 : Names X x c) (h2 : Names X y d) : Cls3 X (.Tuple [.Name x p, .Name y q] kk r) [c, d]
  | three {x y z : Str} {c d e : Value} {p q r t : Pos} {kk : Nat} (h1 : Names X x c) (h2 : Names X y d) (h3 : Names X z e) : Cls3 X (.Tuple [.Name x p, .Name y q, .Name z r] kk t) [c, d, e]
theorem exm1 {K : PySem.W.Frag} {cls c : Value} {b : Bool} (h : PySem.W.exmAny K cls [c] = some b) : PySem.W.exmOne K cls c = some b := by
  obtain ⟨b1, d1, h1, h2, e⟩ := PySem.W.exmAny_cons h
  have e2 : d1 = false := (Option.some.inj h2).symm
  rw [e, e2, Bool.or_false]
  exact h1
section
variable {X : Cx} {a : Addr} {pn : List (Addr × Obj)} {σ : L2.St} {H : Hp}
theorem named {s : Shared} {x : Str} {c : Value} {np : Pos} {Q : Value → Shared → Prop} {E : Value → Shared → Prop} (S : Inv (X.suite a pn) [] σ H s) (h : Names X x c) (q : Q c s) : wpAny (model X.prog X.w) (X.A.mark (some (.ref a))) (eval (.Name x np) X.env) Q E s := by
  obtain ⟨hg, hd, hm | ⟨hm, hv, hn⟩⟩ := h
  · exact ld_glob (X := X.suite a pn) S hg hm q hd
  · exact ld_blt (X := X.suite a pn) S hg hm hv q hn hd
/-- whether a clause takes the exception; a tuple of classes is laid -/
theorem cls3_test {s : Shared} {te : Expr} {cs : List Value} {cls : Value} {b : Bool} {Q : Bool → Shared → Prop} {E : Value → Shared → Prop} (T : Cls3 X te cs) (S : Inv (X.suite a pn) [] σ H s) (LT : PySem.W.Looks (model X.prog X.w) s.heap (typeOf (.ref a)) cls) (hb : PySem.W.exmAny X.K cls cs = some b)
    (q : ∀ h', (∀ b o, s.heap.get? b = some o → h'.get? b = some o) → Q b { s with heap := h' }) :
    wpAny (model X.prog X.w) (X.A.mark (some (.ref a))) (eval te X.env) (fun c s₁ => wpAny (model X.prog X.w) (X.A.mark (some (.ref a))) (excMatches (.ref a) c) Q E s₁) E s := by
  have kin : X.K.In s.heap := S.kIn
  cases T with
  | one h => exact named S h ((PySem.W.exm_one kin LT (exm1 hb)).here (q s.heap fun _ _ z => z))
  | @two x y c d p1 p2 p3 kk h1 h2 =>
    have kp : ∀ b o, s.heap.get? b = some o → (s.heap.push { cls := .type "tuple", data := .seq [c, d].toArray }).get? b = some o := fun b o z => Heap.get?_push_of_some _ z
    refine wpAny_Tuple (wpAny_items_cons (named S h1 (wpAny_items_cons (named S h2 (wpAny_items_nil ⟨by show 2 ≤ sizeLine; decide, ?_⟩)))))
    exact (PySem.W.exm_tup2 (kin.keeps kp) (LT.keeps kp) (Heap.get?_push_size s.heap rfl) hb).here (q _ kp)
  | @three x y z c d e p1 p2 p3 p4 kk h1 h2 h3 =>
    have kp : ∀ b o, s.heap.get? b = some o → (s.heap.push { cls := .type "tuple", data := .seq [c, d, e].toArray }).get? b = some o := fun b o z => Heap.get?_push_of_some _ z
    refine wpAny_Tuple (wpAny_items_cons (named S h1 (wpAny_items_cons (named S h2 (wpAny_items_cons (named S h3 (wpAny_items_nil ⟨by show 3 ≤ sizeLine; decide, ?_⟩)))))))
    exact (PySem.W.exm_tup3 (kin.keeps kp) (LT.keeps kp) (Heap.get?_push_size s.heap rfl) hb).here (q _ kp)
end
theorem fly_more {B h h' : Heap} {l : List Env} {e : Addr} {Z : Obj → Prop} (f : HandSPX.FlyingZ B l e Z h) (k : ∀ b o, h.get? b = some o → h'.get? b = some o) : HandSPX.FlyingZ B l e Z h' := by
  obtain ⟨f1, f2, f3, oe, vs, T, oT, ts, t1, t2, t3, t4, t5, t6, t7, t8⟩ := f
  exact ⟨fun b o z => k b o (f1 b o z), f2, f3.of_keeps fun b o z _ => ⟨o, k b o z, rfl⟩, oe, vs, T, oT, ts, k _ _ t1, t2, t3, t4, t5, t6, k _ _ t7, t8⟩
abbrev Hdl := List Value × (Addr → Value → Option Addr → TS)
/-- how a suite with a name in slot i ends -/
def endsAs (i : Nat) (D : Ends) : Ends := { nx := fun σ H => D.nx (σ.set i none) H, rt := D.rt, bk := fun σ H => D.bk (σ.set i none) H, ct := fun σ H => D.ct (σ.set i none) H }
/-- what the clauses wish of an exception, one behind the other -/
def wAsM (K : PySem.W.Frag) (i : Nat) (Wo : WX) (D : Ends) : List Hdl → WX
  | [] => Wo
  | (cs, ts) :: r => fun cls d σ H => ∃ b, PySem.W.exmAny K cls cs = some b ∧ (b = true → ∀ a, H a = none → ts a cls d (endsAs i D) (σ.set i (some (.ref a))) H) ∧ (b = false → wAsM K i Wo D r cls d σ H)
inductive HdAs (X : Cx) (n : Str) : List ExceptHandler → List Hdl → Prop
  | nil : HdAs X n [] []
  | cons {te : Expr} {cs : List Value} {ts : Addr → Value → Option Addr → TS} {st : Stmt} {su : List Stmt} {pos : Pos} {hds : List ExceptHandler} {l : List Hdl} (hc : Cls3 X te cs)
      (hsu : ∀ (a : Addr) (oe : Obj) (cls : Value) (d : Option Addr) (pn : List (Addr × Obj)), Zc cls d oe → (∃ vs, oe.data = .fields vs) → PSs (X.suite a ((a, oe) :: pn)) (st :: su) (ts a cls d)) (r : HdAs X n hds l) :
      HdAs X n (.ExceptHandler (some te) (some n) (st :: su) pos :: hds) ((cs, ts) :: l)
/-- an exception a that has come down at this frame, as the heap h has it; sI: the state without it -/
structure Down (X : Cx) (pins : List (Addr × Obj)) (σ : L2.St) (H : Hp) (sI s' : Shared) (B : Heap) (a : Addr) (cls : Value) (d : Option Addr) (h : Heap) : Prop where
  inv : Inv X pins σ H sI
  ground : ∀ b o, sI.heap.get? b = some o → b ∉ frs X.stack → B.get? b = some o
  fly : HandSPX.FlyingZ B (X.env :: X.outer) a (Zc cls d) h
  up : sI.heap.UpToSlots h
  free : H a = none
  os : s'.os = sI.os
  bare : AllBare s'.gens
/-- what is to be done with an exception of the body -/
def onCatch (X : Cx) (pins : List (Addr × Obj)) (D : Ends) (hds : List ExceptHandler) (e : Value) (s : Shared) : Prop :=
  wpAny (model X.prog X.w) X.A (noteFrame e X.env) (fun _ s1 => wpAny (model X.prog X.w) X.A (setFlight e none) (fun _ s2 => wpAny (model X.prog X.w) X.A (handleBy e X.env hds) (SP X pins D) X.xe s2) X.xe s1) X.xe s
section
variable {X : Cx} {pins : List (Addr × Obj)} {σ : L2.St} {H : Hp} {sI s' : Shared} {B h h' : Heap} {a : Addr} {cls : Value} {d : Option Addr} {i : Nat} {n : Str} {Wo : WX} {D : Ends} {hds : List ExceptHandler} {l : List Hdl}
theorem Down.more (dn : Down X pins σ H sI s' B a cls d h) (k : ∀ b o, h.get? b = some o → h'.get? b = some o) : Down X pins σ H sI s' B a cls d h' := { dn with fly := fly_more dn.fly k, up := dn.up.trans (Heap.UpToSlots.of_keeps k) }
/-- its suite may begin -/
theorem Down.suite (dn : Down X pins σ H sI s' B a cls d h) (hf : X.env.frame = some X.env.locals) : ∃ oe, h.get? a = some oe ∧ Zc cls d oe ∧ (∃ vs, oe.data = .fields vs) ∧ Inv (X.suite a ((a, oe) :: (X.pn ++ pins))) [] σ H { s' with heap := h } := by
  obtain ⟨oe, vs, at_, zc, hd⟩ := dn.fly.there
  have noFrame : ∀ e ∈ X.env :: X.outer, e.frame ≠ some a := fun e he hfr => by
    obtain ⟨_, o, ho, no⟩ := dn.fly.2.2.1.mem (List.mem_filterMap.mpr ⟨e, he, hfr⟩)
    cases ho.symm.trans at_
    exact no _ hd
  refine ⟨oe, at_, zc, ⟨vs, hd⟩, (dn.inv.landed (s' := { s' with heap := h }) dn.ground dn.fly.1 dn.up dn.os dn.bare).suite at_ hd dn.free ?_ ?_⟩
  · rintro rfl
    exact noFrame X.env (.head _) hf
  · intro inFs
    obtain ⟨e, he, hfr⟩ := List.mem_filterMap.mp inFs
    exact noFrame e (.tail _ he) hfr
/-- no clause takes it: it goes on -/
theorem Down.pass (dn : Down X pins σ H sI s' B a cls d h) (hs : X.stack = X.env :: X.outer) (hf : X.env.frame = some X.env.locals) (tk : Takes X Wo) (wish : Wo cls d σ H) : wpAny (model X.prog X.w) X.A (handleBy (.ref a) X.env []) (SP X pins D) X.xe { s' with heap := h } := by
  have goes : ∀ h4, HandSPX.HeldZ B (X.env :: X.outer) a (Zc cls d) X.env.locals h4 → h.UpToSlots h4 → X.xe (.ref a) { s' with heap := h4 } := fun h4 held up4 =>
    tk _ _ ⟨a, B, sI, pins, σ, H, cls, d, rfl, dn.inv, dn.ground, dn.up.trans up4, .inr (.inr (hs ▸ held)), dn.free, dn.os, dn.bare, wish⟩
  obtain ⟨_, _, T, _, _, at_, _, hd, traced, _⟩ := dn.fly.2.2.2
  refine wpAny_handleBy_nil ?_
  unfold PySem.passOn
  rw [hf]
  refine wpAny_bind (wpAny_field at_ hd traced ?_)
  rw [if_neg (by simp)]
  repeat (first | with_reducible refine HandSPX.setFlight_upZ dn.fly fun h4 held up4 => ?_ | with_reducible refine wpAny_throw (goes _ held up4) | wp_step)
/-- behind a suite its name goes -/
theorem suite_ends {q : Addr × Obj} {f : Flow} {s6 : Shared} {pos : Pos} (ok : X.Ok) (hN : X.N.Nodup) (hi : X.N[i]? = some n) (hln : X.env.kindOf n = some .local) (ended : SP (X.suite a (q :: (X.pn ++ pins))) [] (endsAs i D) f s6) :
    wpAny (model X.prog X.w) X.A (do bindName X.env n .none; unbindBehindTheSuite X.env n pos) (fun _ s7 => SP X pins D f s7) X.xe s6 := by
  cases f with
  | ret u =>
    obtain ⟨v, _, H6, S6, r, q6⟩ := ended
    exact gone_ok (S6.unsuite ok) hN hi hln fun s7 J => ⟨v, _, H6, J, r, q6⟩
  | next =>
    obtain ⟨_, H6, S6, q6⟩ := ended
    exact gone_ok (S6.unsuite ok) hN hi hln fun s7 J => ⟨_, H6, J, q6⟩
  | brk =>
    obtain ⟨_, H6, S6, q6⟩ := ended
    exact gone_ok (S6.unsuite ok) hN hi hln fun s7 J => ⟨_, H6, J, q6⟩
  | cont =>
    obtain ⟨_, H6, S6, q6⟩ := ended
    exact gone_ok (S6.unsuite ok) hN hi hln fun s7 J => ⟨_, H6, J, q6⟩
theorem Down.clauses (hs : X.stack = X.env :: X.outer) (hf : X.env.frame = some X.env.locals) (hN : X.N.Nodup) (hi : X.N[i]? = some n) (hln : X.env.kindOf n = some .local) (tk : Takes X Wo) (hh : HdAs X n hds l) :
    ∀ {h : Heap}, Down X pins σ H sI s' B a cls d h → wAsM X.K i Wo D l cls d σ H → wpAny (model X.prog X.w) X.A (handleBy (.ref a) X.env hds) (SP X pins D) X.xe { s' with heap := h } := by
  induction hh with
  | nil => exact fun dn wish => dn.pass hs hf tk wish
  | cons hc hsu _ further =>
    rintro h dn ⟨b, fits, yes, no⟩
    obtain ⟨oe, at_, zc, _, S⟩ := dn.suite hf
    have kind : PySem.W.Looks (model X.prog X.w) h (typeOf (.ref a)) cls := fun _ _ _ _ k q => wpAny_typeOf_ref (k _ _ at_) (by rw [zc.1]; exact q)
    refine wpAny_handleBy_cons (codeAny_handlers_test (cls3_test hc S kind fits fun h6 k6 => ?_)) (fun q => nomatch q)
    cases b with
    | false => exact further (dn.more k6) (no rfl)
    | true =>
      refine codeAny_handlers_suite_as (HandSPX.lands_againZ (dn.more k6).fly fun h4 fl4 up4 => ?_)
      obtain ⟨o4, _, zc4, hd4, S4⟩ := Down.suite { dn.more k6 with fly := fl4, up := (dn.more k6).up.trans up4 } hf
      refine store_ok (X := X.suite a ((a, o4) :: (X.pn ++ pins))) (v := .ref a) S4 hN hi (.inl hln) rfl (fun s5 S5 => ?_) (.inr hln)
      exact wpAny_mono ((hsu a o4 cls d (X.pn ++ pins) zc4 hd4).run [] s5 _ H _ S5 (yes rfl a dn.free)) (fun f s6 ended => suite_ends dn.inv.ok hN hi hln ended) fun _ _ z => z.elim
end
section
variable {X : Cx} {i : Nat} {n : Str} {body : List Stmt} {h₀ : ExceptHandler} {hds : List ExceptHandler} {l : List Hdl} {pos : Pos} {tb : WX → TS} {Wo : WX}
/-- try: body, except (A, B) as n: .., except C as n: .. -/
theorem ps_tryM (hs : X.stack = X.env :: X.outer) (hf : X.env.frame = some X.env.locals) (hN : X.N.Nodup) (hi : X.N[i]? = some n) (hln : X.env.kindOf n = some .local) (tk : Takes X Wo)
    (hb : ∀ (W : WX) (pn : List (Addr × Obj)) (xe : Value → Shared → Prop), Takes (X.tr pn xe) W → PassesOwn (model X.prog X.w) X.A X.env xe → PSs (X.tr pn xe) body (tb W)) (hh : HdAs X n (h₀ :: hds) l) :
    PS X (.Try body (h₀ :: hds) [] [] pos) (fun D σ H => tb (fun cls d σ' H' => σ'.length = X.N.length → wAsM X.K i Wo D l cls d σ' H') D σ H) := by
  constructor
  intro pins s σ H D I h
  have ok := I.ok
  have caught : Takes (X.tr (X.pn ++ pins) (onCatch X pins D (h₀ :: hds))) (fun cls d σ' H' => σ'.length = X.N.length → wAsM X.K i Wo D l cls d σ' H') := by
    rintro _ s1 ⟨a, B, sI, _, σ1, H1, cls, d, rfl, J, ground, up, sky, free, os, bare, wish⟩
    exact Sky.land Zc.steady (ok.frames.trans (congrArg some hs)) hf (hs ▸ sky) fun h3 fly up3 => Down.clauses hs hf hN hi hln tk hh ⟨J.ofTry ok, ground, fly, up.trans up3, free, os, bare⟩ (wish J.len)
  refine wpAny_Try_except (wpAny_mono ((hb _ _ _ caught PassesOwn.looking).run [] s σ H D (I.toTry _) h) (fun f s1 ended => ?_) fun _ _ z => z)
  cases f with
  | ret u =>
    obtain ⟨v, σ1, H1, J, r, q⟩ := ended
    exact ⟨v, σ1, H1, J.ofTry ok, r, q⟩
  | next =>
    obtain ⟨σ1, H1, J, q⟩ := ended
    exact wpAny_execs_nil ⟨σ1, H1, J.ofTry ok, q⟩
  | brk =>
    obtain ⟨σ1, H1, J, q⟩ := ended
    exact ⟨σ1, H1, J.ofTry ok, q⟩
  | cont =>
    obtain ⟨σ1, H1, J, q⟩ := ended
    exact ⟨σ1, H1, J.ofTry ok, q⟩
end
end Tw

set_option maxHeartbeats 4000000
/-! own exceptions: fields read in a suite, __init__ called through its class, defs that raise, the head with tables -/
namespace Tw
open PySem PySem.Spec PyProof.Rows L2
/-! ### a field of the caught exception, whatever its class -/
def tXw (K : PySem.W.Frag) (a : Addr) (cls : Value) (d : Option Addr) (f : Str) (te : TE) : TE := fun σ H Q => te σ H fun x H1 => x = .ref a ∧ ∃ (C dd : Addr) (fs : List (Str × V)) (v : V), cls = .ref C ∧ XfC K C ∧ PySem.W.findIn K (.ref C) f = some none ∧ d = some dd ∧ H1 dd = some (.xd fs) ∧ fs.lookup f = some v ∧ Q v H1
theorem xd_field {P : Program} {w : World} {H : Hp} {h : Heap} {dd : Addr} {fs : List (Str × V)} {n : Str} {v : V} (hok : HOk P w H h) (at_ : H dd = some (.xd fs)) (l : fs.lookup n = some v) : ∃ od z, h.get? dd = some od ∧ PySem.W.lookIn n od = some (some z) ∧ RelV v z := by
  obtain ⟨m, ns, rel⟩ := (show ObjOk P w H h dd (.xd fs) from hok dd _ at_)
  obtain ⟨od, ho, look⟩ := lookIn_ns ns
  obtain ⟨z, hz, rz⟩ := RelO.some_of (v := v) (o := m n) (l ▸ rel n)
  exact ⟨od, z, ho, (look n).trans (congrArg some hz), rz⟩
theorem pe_xw {X : Cx} {a : Addr} {oe : Obj} {cls : Value} {d : Option Addr} {pn : List (Addr × Obj)} {e : Expr} {te : TE} {pos : Pos} {n : Str} (hz : Zc cls d oe) (hf : ∃ vs, oe.data = .fields vs) (he : PE (X.suite a ((a, oe) :: pn)) e te)
    (hb : attributeBase e n X.env (eval e X.env) = eval e X.env := by rfl) : PE (X.suite a ((a, oe) :: pn)) (.Attribute e n pos) (tXw X.K a cls d n te) := by
  constructor
  intro pins s σ H Q I h
  refine attr_of hb (thn (he.run pins s σ H _ I h) ?_)
  rintro _ s1 ⟨_, H1, I1, obj, rfl, C, dd, fs, v, rfl, T, no, rfl, ea, l, q⟩
  cases (show _ = Value.ref a from obj)
  obtain ⟨od, z, ho, look, rz⟩ := xd_field I1.hok ea l
  obtain ⟨vs, hd⟩ := hf
  have caught : s1.heap.get? a = some oe := (I1.pin (a, oe) (by simp)).1
  have whole : PySem.W.InstAt s1.heap a oe C (some od) := ⟨caught, hz.1, by simp [PySem.W.notCls, hd], by simpa [hz.2] using ho⟩
  exact HandSPX.exc_get I1.kIn whole T.ga T.gg T.exC (PySem.W.findObj_own T.hdC no rfl look) (handed_of rz) ⟨v, H1, I1.tok _, rz, q⟩
/-! ### the forms of a text: plain values only -/
/-- x(e, ..) -/
structure Flat (X : Cx) (x : Str) (e : Expr) (es : List Expr) (pos : Pos) : Prop where
  dbg : (x == ("__debug__" : Str)) = false
  first : starEach (e :: es) X.env = (false, eval e X.env) :: starEach es X.env
  plain : (backTo pos (starEach es X.env)).any (·.1) = false
/-- o.m(e, ..) -/
structure MeForm (X : Cx) (pl : Sem Bool) (o e : Expr) (es : List Expr) (m : Str) (apos pos : Pos) : Prop where
  first : starEach (e :: es) X.env = (false, eval e X.env) :: starEach es X.env
  plain : (backTo pos (starEach es X.env)).any (·.1) = false
  steps : eval (.Call (.Attribute o m apos) (e :: es) [] pos) X.env =
    (eval o X.env >>= fun ov => standAt apos.atName >>= fun _ => holding [ov] (getMethod ov m pl) >>= fun g => callWith pos g.1 g.2 (backTo pos (starEach (e :: es) X.env)) (backToKw pos (keywordEach [] X.env)))
/-! ### x.m(..): a def read off a class -/
structure ClsDef (K : PySem.W.Frag) (C f : Addr) (m : Str) : Prop where
  reads : PySem.W.readsIn K C (.type "type") = true
  special : PySem.W.specialIn K (.ref C) "__getattribute__" = some (some (.builtin "type.__getattribute__"))
  find : PySem.W.findCls K (.ref C) (.type "type") m = some (.val (.ref f))
section
variable {X : Cx} {k j : Nat} {f C : Addr} {fd : FuncData} {ps : List Str} {sp : Sp} {x m : Str} {p1 p2 pos : Pos} {e : Expr} {es : List Expr} {t : TA} {pl : Sem Bool}
theorem pe_ci (T : ClsDef X.K C f m) (hg : Gl X x) (hm : X.mg x = some (.ref C)) (hk : PySem.W.keepIn X.K (.ref f) = true) (F : FnOk X.prog X.w X.K X.mg X.base CX0 k f fd ps sp) (hr : Room j X.A) (hj : k ≤ j) (hb : Binds X.K fd ps []) (ha : PA X (e :: es) t)
    (form : MeForm X pl (.Name x p1) e es m p2 pos := by exact ⟨rfl, rfl, rfl⟩) (hdb : (x == ("__debug__" : Str)) = false := by decide) :
    PE X (.Call (.Attribute (.Name x p1) m p2) (e :: es) [] pos) (tCall sp [] E0 t) := by
  constructor
  intro pins s σ H Q I h
  refine PySem.W.methodCall_KW (pl := pl) (ld_glob I hg hm (PySem.W.method_cls I.kIn T.special (PySem.W.cls_value I.kIn T.reads T.find rfl ?_)) hdb) form.steps
  refine PySem.W.callWith_K (first := []) (h₀ := X.base) I.ok.mod.kin hk (thn (ha.run pos pins _ σ H _ (I.tok _) h) ?_) form.first form.plain
  rintro us s2 ⟨vs, H2, I2, r, q2⟩
  exact ⟨I2.kIn, run_fn (us := us) (vs := vs) F (hr.mono hj) hb .nil pass0 I2 r q2⟩
end
/-! ### defs that raise -/
structure CalX (P : Program) (w : World) (K : PySem.W.Frag) (mg : Str → Option Value) (base : Heap) (k : Nat) (x : Str) (sp : Sp) : Prop where
  ex : ∃ (f : Addr) (fd : FuncData) (ps : List Str), FnOk P w K mg base (L2.CX P w) k f fd ps sp ∧ mg x = some (.ref f) ∧ PySem.W.keepIn K (.ref f) = true ∧ Binds K fd ps []
structure MetX (P : Program) (w : World) (K : PySem.W.Frag) (mg : Str → Option Value) (base : Heap) (k : Nat) (C : Addr) (m : Str) (sp : Sp) : Prop where
  ex : ∃ (f : Addr) (fd : FuncData) (ps : List Str), Cls K C ∧ Meth K C m f ∧ FnOk P w K mg base (L2.CX P w) k f fd ps sp ∧ Binds K fd ps []
/-- the body's part, what is raised told -/
abbrev BodyX (P : Program) (w : World) (K : PySem.W.Frag) (mg : Str → Option Value) (base : Heap) (k : Nat) (N : List Str) (qual : Str) (body : List Stmt) (scope : Scope) (f : Addr) (sp : Sp) : Prop :=
  ∀ (cdv : Value) (A : Around) (outer : List Env) (s : Shared) (H : Hp) (vs : List V) (Q : VK) (E : XK), Room k (A.deeper (envOfC qual scope s.heap.objs.size f cdv)) → sp vs H Q E →
    Takes (cxOf (L2.CX P w) P w K mg base N qual scope f cdv A outer s H E) (fun cls d _ H' => E cls d H') → ∃ t, PSs (cxOf (L2.CX P w) P w K mg base N qual scope f cdv A outer s H E) body t ∧ t { nx := fun _ H' => Q .non H', rt := Q } (start N vs) H
section
variable {P : Program} {w : World} {K : PySem.W.Frag} {mg : Str → Option Value} {base : Heap} {x qual : Str} {params : Arguments} {body : List Stmt} {scope : Scope} {f C : Addr} {fd : FuncData} {N ps : List Str} {k : Nat} {sp : Sp} {dvs : List V} {kws : List (Str × V)}
theorem fnx_of (F : FunD K x qual params body scope dvs kws f fd) (S : FnScope N ps scope) (len : ∀ vs H Q E, sp vs H Q E → vs.length = ps.length) (hb : BodyX P w K mg base k N qual body scope f sp) : FnOk P w K mg base (L2.CX P w) (k + 1) f fd ps sp :=
  F.ok S len fun cdv A outer s H vs Q E hr hsp => hb cdv A outer s H vs Q E hr hsp (takes_of rfl rfl rfl rfl)
theorem calx_of (F : FunD K x x params body scope [] [] f fd) (hm : mg x = some (.ref f)) (b : Binds K fd ps []) (S : FnScope N ps scope) (len : ∀ vs H Q E, sp vs H Q E → vs.length = ps.length) (hb : BodyX P w K mg base k N x body scope f sp) : CalX P w K mg base (k + 1) x sp :=
  ⟨f, fd, ps, fnx_of F S len hb, hm, F.kp, b⟩
theorem metx_of (F : FunD K x qual params body scope dvs kws f fd) (c : Cls K C) (me : Meth K C x f) (b : Binds K fd ps []) (S : FnScope N ps scope) (len : ∀ vs H Q E, sp vs H Q E → vs.length = ps.length) (hb : BodyX P w K mg base k N qual body scope f sp) : MetX P w K mg base (k + 1) C x sp :=
  ⟨f, fd, ps, c, me, fnx_of F S len hb, b⟩
end
section
variable {X : Cx} {k j : Nat} {C : Addr} {x m : Str} {sp : Sp} {p pos apos : Pos} {e o : Expr} {es : List Expr} {ta : TE} {t : TA} {W : WX} {E : XK}
theorem pe_cx (c : CalX X.prog X.w X.K X.mg X.base k x sp) (tk : Takes X W) (hW : ∀ cls d σ H, E cls d H → W cls d σ H) (hr : Room j X.A) (hk : k ≤ j) (hg : Gl X x) (ha : PA X (e :: es) t) (form : Flat X x e es pos := by exact ⟨by decide, rfl, rfl⟩) :
    PE X (.Call (.Name x p) (e :: es) [] pos) (tCall sp [] E t) :=
  let ⟨_, _, _, F, at_, kept, b⟩ := c.ex
  pe_call F (hr.mono hk) hg at_ kept b .nil (passes_call tk hW) ha form.dbg form.first form.plain
theorem pe_mx {pl : Sem Bool} (c : MetX X.prog X.w X.K X.mg X.base k C m sp) (tk : Takes X W) (hW : ∀ cls d σ H, E cls d H → W cls d σ H) (hr : Room j X.A) (hk : k ≤ j) (he : PE X o ta) (ha : PA X (e :: es) t) (form : MeForm X pl o e es m apos pos := by exact ⟨rfl, rfl, rfl⟩) :
    PE X (.Call (.Attribute o m apos) (e :: es) [] pos) (tMeth C m sp [] E ta t) :=
  let ⟨_, _, _, cls, me, F, b⟩ := c.ex
  pe_meth (pl := pl) he cls me F (hr.mono hk) b .nil (passes_call tk hW) ha form.first form.plain form.steps
end
/-! ### the head: facts, one more Bool, the tables of some defs -/
def frY (g : Addr → Option Obj) (n : Nat) : PySem.W.Frag := He.frT g (He.asD g n ++ [cStatics])
structure SaysY (fa : List He.Fa) (fn : List He.DefD) (tf : List He.Defn) (ex : PySem.W.Frag → Bool) (h : Heap) (K : PySem.W.Frag) : Prop where
  d : He.SaysD fa fn K
  more : ex K = true
  code : ∀ p ∈ tf, PySem.W.codeHdIn K (He.cT K p).1 (He.cT K p).2 = true
  out : ∀ p ∈ tf, K.lookup (He.cT K p).2 = none
  empty : ∀ p ∈ tf, h.get? (He.cT K p).2 = some { cls := .none, data := .fields #[] }
abbrev AlY : Type := He.AlD × Bool
def obsY (n : Nat) (fa : List He.Fa) (fn : List He.DefD) (tf : List He.Defn) (ex : PySem.W.Frag → Bool) (g : Addr → Option Obj) : AlY := (He.obsD fa fn (frY g n), ex (frY g n) && He.tabsB g tf (frY g n))
theorem saysY_of {n : Nat} {fa : List He.Fa} {fn : List He.DefD} {tf : List He.Defn} {ex : PySem.W.Frag → Bool} {h : Heap} (e : obsY n fa fn tf ex h.get? = (He.valD fn, true)) : SaysY fa fn tf ex h (frY h.get? n) := by
  have e1 : He.obsD fa fn (frY h.get? n) = He.valD fn := congrArg (fun z : AlY => z.1) e
  have e2 : (ex (frY h.get? n) && He.tabsB h.get? tf (frY h.get? n)) = true := congrArg (fun z : AlY => z.2) e
  obtain ⟨h1, h2⟩ := Bool.and_eq_true_iff.mp e2
  have tab : ∀ p ∈ tf, PySem.W.codeHdIn (frY h.get? n) (He.cT (frY h.get? n) p).1 (He.cT (frY h.get? n) p).2 = true ∧ ∃ o, h.get? (He.cT (frY h.get? n) p).2 = some o ∧ He.emptyTab o = true := fun p hp => by
    obtain ⟨h3, h4⟩ := Bool.and_eq_true_iff.mp (List.all_eq_true.mp h2 p hp)
    refine ⟨h3, ?_⟩
    cases q : h.get? (He.cT (frY h.get? n) p).2 with
    | none => rw [q] at h4; cases h4
    | some o => rw [q] at h4; exact ⟨o, rfl, h4⟩
  refine ⟨e1, h1, fun p hp => (tab p hp).1, fun p hp => ?_, fun p hp => ?_⟩
  · obtain ⟨_, o, q, z⟩ := tab p hp
    exact He.frT_none q z
  · obtain ⟨_, o, q, z⟩ := tab p hp
    rw [q]
    exact congrArg some (He.emptyTab_eq z)
def hookY (n : Nat) (fa : List He.Fa) (fn : List He.DefD) (tf : List He.Defn) (ex : PySem.W.Frag → Bool) : PySem.W.Hook where
  α := AlY
  obs := fun s => obsY n fa fn tf ex s.heap.get?
  val := fun _ => (He.valD fn, true)
  says := fun _ h => ∃ K : PySem.W.Frag, K.In h ∧ SaysY fa fn tf ex h K
  of := fun _ _ e => ⟨_, He.frT_in, saysY_of e⟩
  keeps := fun _ _ _ ⟨K, hK, c⟩ k => ⟨K, hK.keeps k, c.d, c.more, c.code, c.out, fun p hp => k _ _ (c.empty p hp)⟩
theorem obsY_eq {n : Nat} {fa : List He.Fa} {fn : List He.DefD} {tf : List He.Defn} {ex : PySem.W.Frag → Bool} {g : Addr → Option Obj} {s : Shared} (h : ∀ a, g a = s.heap.get? a) : obsY n fa fn tf ex g = (hookY n fa fn tf ex).obs s := by
  have e : g = s.heap.get? := funext h
  rw [e]
  rfl
def clsDefB (K : PySem.W.Frag) (C f : Addr) (m : Str) : Bool := PySem.W.readsIn K C (.type "type") && (decide (PySem.W.specialIn K (.ref C) "__getattribute__" = some (some (.builtin "type.__getattribute__"))) && (match PySem.W.findCls K (.ref C) (.type "type") m with
  | some (.val (.ref g)) => decide (g = f)
  | _ => false))
theorem clsDefB_ok {K : PySem.W.Frag} {C f : Addr} {m : Str} (h : clsDefB K C f m = true) : ClsDef K C f m := by
  obtain ⟨h1, h⟩ := Bool.and_eq_true_iff.mp h
  obtain ⟨h2, h3⟩ := Bool.and_eq_true_iff.mp h
  refine ⟨h1, of_decide_eq_true h2, ?_⟩
  split at h3
  · rename_i g e
    rw [e, of_decide_eq_true h3]
  · cases h3
/-- the __init__ of an own class -/
structure InitAt (K : PySem.W.Frag) (C f : Addr) : Prop where
  find : PySem.W.findIn K (.ref C) "__init__" = some (some (.ref f))
  fn : PySem.W.typeIn K (.ref f) = some (.type "function")
def initB (K : PySem.W.Frag) (C : Addr) : Bool := decide (PySem.W.findIn K (.ref C) "__init__" = some (some (.ref (He.ma K C "__init__")))) && decide (PySem.W.typeIn K (.ref (He.ma K C "__init__")) = some (.type "function"))
theorem initB_ok {K : PySem.W.Frag} {C : Addr} (h : initB K C = true) : InitAt K C (He.ma K C "__init__") :=
  let ⟨h1, h2⟩ := Bool.and_eq_true_iff.mp h
  ⟨of_decide_eq_true h1, of_decide_eq_true h2⟩
/-- a def with defaults, all parameters handed in -/
theorem bindsD {K : PySem.W.Frag} {x qual : Str} {params : Arguments} {body : List Stmt} {scope : Scope} {dvs : List V} {kws : List (Str × V)} {f : Addr} {fd : FuncData} {ps : List Str} (F : FunD K x qual params body scope dvs kws f fd)
    (h : ∀ (dV kV doc pm : Value) (an : Option Addr) (cdv ct : Value) (us : List Value), us.length = ps.length → bindArgs (PySem.W.fnOf x qual params body scope dV kV doc pm an cdv ct) ⟨us, []⟩ = pure (ps.zip us)) : Binds K fd ps [] := by
  obtain ⟨_, _, dV, kV, doc, pm, an, cdv, ct, _, rfl, _⟩ := F.ex
  exact .all (h dV kV doc pm an cdv ct)
def viB (K : PySem.W.Frag) (b i : String) : Bool := match PySem.W.findCls K (.type b) (.type "type") "__init__" with
  | some (.val (.builtin j)) => decide (j = i)
  | _ => false
theorem viB_ok {K : PySem.W.Frag} {b i : String} (h : viB K b i = true) : PySem.W.findCls K (.type b) (.type "type") "__init__" = some (.val (.builtin i)) := by
  unfold viB at h
  split at h
  · rename_i j e
    rw [e, of_decide_eq_true h]
  · cases h
end Tw

set_option maxHeartbeats 4000000
/-! own exception classes over any of some built-in ones: made, stored into, raised. The class is read off by the library's excInitIn, excOver, hasDictIn; the store goes by osa_openX. -/
namespace Tw
open PySem PySem.Spec PyProof.Rows L2
/-- a built-in class of exceptions: its name, its makers, the line of its elders -/
structure Bs where
  name : String
  newId : String
  initId : String
  tail : List Value
structure BsOk (b : Bs) : Prop where
  fac : ExcBaseFacts b.name b.newId b.initId b.tail
  sto : StoreFacts b.name b.tail "object.__setattr__" "object"
  typ : typeOf (.type b.name) = pure (.type "type")
  stub : Manifest.isStub b.name = false
abbrev bVE : Bs := ⟨"ValueError", "ValueError.__new__", "ValueError.__init__", [.type "ValueError", .type "Exception", .type "BaseException", .type "object"]⟩
abbrev bLE : Bs := ⟨"LookupError", "LookupError.__new__", "LookupError.__init__", [.type "LookupError", .type "Exception", .type "BaseException", .type "object"]⟩
abbrev bRE : Bs := ⟨"RuntimeError", "RuntimeError.__new__", "RuntimeError.__init__", [.type "RuntimeError", .type "Exception", .type "BaseException", .type "object"]⟩
abbrev bIE : Bs := ⟨"IndexError", "IndexError.__new__", "IndexError.__init__", [.type "IndexError", .type "LookupError", .type "Exception", .type "BaseException", .type "object"]⟩
theorem bb_ValueError : bootBuiltins "ValueError" = some (.type "ValueError") := by decide +kernel
theorem bb_LookupError : bootBuiltins "LookupError" = some (.type "LookupError") := by decide +kernel
theorem bb_RuntimeError : bootBuiltins "RuntimeError" = some (.type "RuntimeError") := by decide +kernel
theorem bb_IndexError : bootBuiltins "IndexError" = some (.type "IndexError") := by decide +kernel
theorem bVE_ok : BsOk bVE := ⟨F.excBase_ValueError, F.store_ValueError, by kernel_rfl, by decide +kernel⟩
theorem bIE_ok : BsOk bIE := ⟨F.excBase_IndexError, F.store_IndexError, by kernel_rfl, by decide +kernel⟩
theorem bLE_ok : BsOk bLE := ⟨F.excBase_LookupError, F.store_LookupError, by kernel_rfl, by decide +kernel⟩
theorem bRE_ok : BsOk bRE := ⟨F.excBase_RuntimeError, F.store_RuntimeError, by kernel_rfl, by decide +kernel⟩
/-- what the written part says of an own class over b -/
structure OxC (b : Bs) (K : PySem.W.Frag) (C : Addr) : Prop where
  ok : BsOk b
  makes : PySem.W.excInitIn K C b.tail b.newId = true
  over : PySem.W.excOver K C b.tail = true
  dict : PySem.W.hasDictIn K C = true
  store : PySem.W.findIn K (.ref C) "__setattr__" = some (some (.builtin "object.__setattr__"))
  exc : PySem.W.subIn K (.ref C) (.type "BaseException") = some true
  typ : PySem.W.typeIn K (.ref C) = some (.type "type")
  keep : PySem.W.keepIn K (.ref C) = true
def oxB (b : Bs) (K : PySem.W.Frag) (C : Addr) : Bool :=
  [PySem.W.excInitIn K C b.tail b.newId, PySem.W.excOver K C b.tail, PySem.W.hasDictIn K C, decide (PySem.W.findIn K (.ref C) "__setattr__" = some (some (.builtin "object.__setattr__"))), decide (PySem.W.subIn K (.ref C) (.type "BaseException") = some true), decide (PySem.W.typeIn K (.ref C) = some (.type "type")), PySem.W.keepIn K (.ref C)].all id
theorem oxB_ok {b : Bs} (okb : BsOk b) {K : PySem.W.Frag} {C : Addr} (h : oxB b K C = true) : OxC b K C := by
  simp only [oxB, List.all_cons, List.all_nil, id, Bool.and_true, Bool.and_eq_true, decide_eq_true_eq] at h
  obtain ⟨q1, q2, q3, q4, q5, q6, q7⟩ := h
  exact ⟨okb, q1, q2, q3, q4, q5, q6, q7⟩
section
variable {b : Bs} {X : Cx} {pins : List (Addr × Obj)} {σ : L2.St} {H : Hp} {s : Shared} {a C dx : Addr} {f : Str} {y : V} {u : Value} {fs : List (Str × V)} {E : Value → Shared → Prop} {A : Around}
theorem taker0 {K : PySem.W.Frag} (no : PySem.W.findIn K (.ref C) f = some none) : PySem.W.takerIn K C f = some none := by
  unfold PySem.W.takerIn
  rw [no]
  rfl
/-- the first field: a dict is laid, then the exception is made to hold it -/
theorem oxs_first {Q : Unit → Shared → Prop} (T : OxC b X.K C) (I : Inv X pins σ H s) (e : H a = some (exo a C none)) (no : PySem.W.findIn X.K (.ref C) f = some none) (ry : RelV y u)
    (h : ∀ dx s', H dx = none → dx ≠ a → Inv X pins σ (upd (upd H dx (exd dx [(f, y)])) a (exo a C (some dx))) s' → Q () s') : wpAny (model X.prog X.w) A (setAttr (.ref a) f u) Q E s := by
  obtain ⟨t1, old⟩ := exo_at I.hok e
  obtain ⟨hp, g, d, t, os⟩ := s
  obtain ⟨cd, hc, hd⟩ := PySem.W.any_some T.dict
  have ne : a ≠ hp.objs.size := Nat.ne_of_lt (Heap.lt_size old)
  refine PySem.W.set_plain (od := none) I.kIn ⟨old, rfl, rfl, trivial⟩ T.store (PySem.W.osa_openX (od := none) T.ok.sto I.kIn ⟨old, rfl, rfl, trivial⟩ T.over (taker0 no) fun _ => ?_)
  refine wpAny_bind (wpAny_pure (wpAny_bind (PySem.W.instanceDict_exc old (PySem.W.looks_clsIn I.kIn hc) hd ?_)))
  have held : ((hp.push (PySem.W.dictOf [] 0)).update a fun o => { o with dict := some hp.objs.size }).get? a = some { cls := .ref C, dict := some hp.objs.size, data := .fields #[.ref t1, .none, .none, .none, .bool false, .none] } := Heap.get?_update_self _ (Heap.get?_push_of_some _ old) rfl
  refine HandSPX.store_in_new ⟨_, #[], _, (Heap.get?_update_ne _ _ _ _ ne.symm).trans (Heap.get?_push_at rfl rfl), rfl, fun e he => absurd he (by simp), fun _ => rfl⟩ fun h' tk' hn hs => ?_
  have atA : h'.get? a = _ := (hs.2 a ne).trans held
  -- the heap between: the dict filled, the exception not yet touched
  have back : (h'.update a fun _ => { cls := .ref C, dict := none, data := .fields #[.ref t1, .none, .none, .none, .bool false, .none] }).get? a = some { cls := .ref C, dict := none, data := .fields #[.ref t1, .none, .none, .none, .bool false, .none] } := Heap.get?_update_self _ atA rfl
  have mid := I.laid (h' := h'.update a fun _ => { cls := .ref C, dict := none, data := .fields #[.ref t1, .none, .none, .none, .bool false, .none] }) (t' := tk') (o := exd hp.objs.size [(f, y)]) (fun c o q => ?_) (Nat.le_refl _)
    (exd_ok (hn.at fun o q => (Heap.get?_update_ne _ _ _ _ ne.symm).trans q) (relO_put (fs := []) ry fun _ => True.intro))
  · refine h hp.objs.size _ (I.hok.fresh (Nat.le_refl _)) ne.symm (mid.write (h' := h') (t' := tk') (x := a) (e := a) (o := exo a C (some hp.objs.size)) (by rw [upd_ne ne, e]; exact True.intro) (.inl rfl) (fun c o hc q => ?_) ⟨_, atA⟩ (exo_ok atA))
    exact (Heap.get?_update_ne _ _ _ _ hc).symm.trans q
  · by_cases hca : c = a
    · subst hca
      rw [back]
      exact old.symm.trans q
    · rw [Heap.get?_update_ne _ _ _ _ hca, hs.2 c (Nat.ne_of_lt (Heap.lt_size q)), Heap.get?_update_ne _ _ _ _ hca]
      exact Heap.get?_push_of_some _ q
/-- a further field -/
theorem oxs_more {Q : Unit → Shared → Prop} (T : OxC b X.K C) (I : Inv X pins σ H s) (e : H a = some (exo a C (some dx))) (ed : H dx = some (exd dx fs)) (hl : fs.length ≤ 900) (no : PySem.W.findIn X.K (.ref C) f = some none) (ry : RelV y u) (h : ∀ s', Inv X pins σ (upd H dx (exd dx ((f, y) :: fs))) s' → Q () s') :
    wpAny (model X.prog X.w) A (setAttr (.ref a) f u) Q E s := by
  obtain ⟨t1, old⟩ := exo_at I.hok e
  obtain ⟨m0, ns, rel⟩ := exd_at I.hok ed
  obtain ⟨hp, g, d, t, os⟩ := s
  obtain ⟨cd, hc, hd⟩ := PySem.W.any_some T.dict
  obtain ⟨od, _, _, atD, _⟩ := ns.count (within_of rel)
  refine PySem.W.set_plain (od := some od) I.kIn ⟨old, rfl, rfl, atD⟩ T.store (PySem.W.osa_openX (od := some od) T.ok.sto I.kIn ⟨old, rfl, rfl, atD⟩ T.over (taker0 no) fun _ => ?_)
  refine wpAny_bind (wpAny_pure (wpAny_bind (wpAny_bind (wpAny_loadPart old (wpAny_bind ((PySem.W.looks_clsIn I.kIn hc).at ?_))))))
  rw [hd]
  refine wpAny_pure (a := some dx) (PySem.OEX.store_in_old ns (within_of rel) (by rw [List.length_map]; omega) fun h' tk' hn hs => ?_)
  obtain ⟨_, _, _, there, _⟩ := id hn
  exact h _ (I.write (t' := tk') (x := dx) (e := dx) (o := exd dx ((f, y) :: fs)) (by rw [ed]; exact True.intro) (.inl rfl) (fun c o hc q => (hs.2 c hc).trans q) ⟨_, there⟩ (exd_ok hn (relO_put ry rel)))
theorem upd_idem {o : HO} (e : H a = some o) : upd H a o = H := funext fun c => by
  by_cases hc : c = a
  · subst hc
    exact upd_same.trans e.symm
  · exact upd_ne hc
/-- B.__init__ of the built-in class: the exception keeps its shape -/
theorem ox_init {us : List Value} {Q : Value → Shared → Prop} (T : OxC b X.K C) (I : Inv X pins σ H s) (e : H a = some (exo a C none)) (hl : us.length ≤ sizeLine) (h : ∀ s', Inv X pins σ H s' → Q .none s') : wpAny (model X.prog X.w) A (call (.builtin b.initId) (.ref a :: us)) Q E s := by
  obtain ⟨_, _, _, _, _, _, _, _, _, _, _, _, _, _, _, _, cls, line⟩ := PySem.W.excInit_of I.kIn T.makes
  obtain ⟨t1, old⟩ := exo_at I.hok e
  obtain ⟨hp, g, d, t, os⟩ := s
  refine wpAny_call (PySem.HandSPX.init_base T.ok.fac line cls old hl fun h' t2 k new => h _ ?_)
  have J := I.write (t' := t) (x := a) (e := a) (o := exo a C none) (by rw [e]; exact True.intro) (.inl rfl) k ⟨_, new⟩ (exo_ok new)
  rwa [upd_idem e] at J
end
/-- B.__init__(self, ..), B the built-in one -/
def tBi (b : Bs) (K : PySem.W.Frag) (ta : TA) : TE := fun σ H Q => ta σ H fun vs H1 => ∃ (a C : Addr) (ws : List V), vs = .ref a :: ws ∧ ws.length ≤ 1000 ∧ OxC b K C ∧ H1 a = some (exo a C none) ∧ Q .non H1
/-- self.f = e -/
def tOx (b : Bs) (K : PySem.W.Frag) (f : Str) (to te : TE) : TS := fun D σ H => te σ H fun y H1 => to σ H1 fun x H2 => ∃ a C : Addr, x = .ref a ∧ OxC b K C ∧ PySem.W.findIn K (.ref C) f = some none ∧
  ((H2 a = some (exo a C none) ∧ ∀ dx, H2 dx = none → dx ≠ a → D.nx σ (upd (upd H2 dx (exd dx [(f, y)])) a (exo a C (some dx)))) ∨ ∃ (dx : Addr) (fs : List (Str × V)), H2 a = some (exo a C (some dx)) ∧ H2 dx = some (exd dx fs) ∧ fs.length ≤ 900 ∧ D.nx σ (upd H2 dx (exd dx ((f, y) :: fs))))
section
variable {b : Bs} {X : Cx} {o e : Expr} {es : List Expr} {to te : TE} {ta : TA} {f x : Str} {p p' p1 p2 pos : Pos} {pl : Sem Bool}
theorem pe_binit (okb : BsOk b) (hv : bootBuiltins x = some (.type b.name)) (hg : Gl X x) (hm : X.mg x = none) (vV : PySem.W.findCls X.K (.type b.name) (.type "type") "__init__" = some (.val (.builtin b.initId))) (hh : PySem.W.handedIn (.builtin b.initId) = true) (ha : PA X (e :: es) ta)
    (form : MeForm X pl (.Name x p1) e es "__init__" p2 pos := by exact ⟨rfl, rfl, rfl⟩) (hn : x ≠ "__name__" := by decide) (hdb : (x == ("__debug__" : Str)) = false := by decide) :
    PE X (.Call (.Attribute (.Name x p1) "__init__" p2) (e :: es) [] pos) (tBi b X.K ta) := by
  constructor
  intro pins s σ H Q I h
  obtain ⟨_, fr⟩ := I.fr
  refine PySem.W.methodCall_KW (pl := pl) (ld_blt I hg hm hv (PySem.W.method_type fr I.ok.mod.kin okb.typ okb.stub vV hh ?_) hn hdb) form.steps
  refine PyProof.Rows.callWith_method1 (thn (ha.run pos pins _ σ H _ (I.tok _) h) ?_) form.first form.plain
  rintro _ s1 ⟨_, H1, I1, rel, a, C, ws, rfl, hl, T, ea, q⟩
  cases rel with
  | cons ra rr =>
    cases (show _ = Value.ref a from ra)
    exact ox_init T I1 ea (Nat.le_trans (Nat.le_of_eq (Paired.length rr).symm) (by rw [sizeLine_eq]; omega)) fun s' J => ⟨.non, H1, J, rfl, q⟩
theorem ps_ox (ho : PE X o to) (he : PE X e te) (hs : swapsWith e (some (.Attribute o f p')) pos.line X.env = pure false := by rfl) : PS X (.Assign [.Attribute o f p'] e pos) (tOx b X.K f to te) := by
  constructor
  intro pins s σ H D I h
  refine plainObj_wpAny_Assign_Attribute (thn (he.run pins s σ H _ I h) ?_) hs
  rintro v s1 ⟨y, H1, I1, ry, q1⟩
  refine thn (ho.run pins s1 σ H1 _ I1 q1) ?_
  rintro _ s2 ⟨_, H2, I2, ro, a, C, rfl, T, no, new | more⟩ <;> cases (show _ = Value.ref a from ro)
  · exact oxs_first T I2 new.1 no ry fun dx s' n ne J => ⟨σ, _, J, new.2 dx n ne⟩
  · obtain ⟨dx, fs, ea, ed, hl, q⟩ := more
    exact oxs_more T I2 ea ed hl no ry fun s' J => ⟨σ, _, J, q⟩
/-- an own exception class over b that is made by its name -/
structure MkB (b : Bs) (P : Program) (w : World) (K : PySem.W.Frag) (mg : Str → Option Value) (base : Heap) (k : Nat) (x : Str) (C : Addr) (sp : Sp) : Prop where
  ex : ∃ (f : Addr) (fd : FuncData) (ps : List Str), OxC b K C ∧ InitAt K C f ∧ FnOk P w K mg base CX0 k f fd ps sp ∧ mg x = some (.ref C) ∧ Binds K fd ps []
theorem pmk_b {k j : Nat} {C : Addr} {sp : Sp} (c : MkB b X.prog X.w X.K X.mg X.base k x C sp) (hr : Room j X.A) (hk : k + 1 ≤ j) (hg : Gl X x) (ha : PA X (e :: es) ta) (form : Flat X x e es pos := by exact ⟨by decide, rfl, rfl⟩) : PMk X (.Call (.Name x p) (e :: es) [] pos) (tMkO C sp [] ta) := by
  intro pins s σ H Q I h
  obtain ⟨init, fd, ps, T, at_, F0, hm, bnd⟩ := c.ex
  have F := F0.raw bnd .nil
  refine wpAny_Call_Name_kw (ld_glob I hg hm (PySem.W.callWith_K (h₀ := X.base) I.ok.mod.kin T.keep (thn (ha.run pos pins s σ H _ I h) ?_) form.first form.plain) form.dbg)
  rintro us ⟨hp, g, d, t, os⟩ ⟨vs, H1, I1, rel, few, q⟩
  refine ⟨I1.kIn, ?_⟩
  obtain ⟨_, _, _, _, _, _, _, _, _, _, _, _, _, _, _, _, cls, line⟩ := PySem.W.excInit_of I1.kIn T.makes
  -- the args' tuple and the exception lie behind one another
  have next : hp.objs.size ≤ hp.objs.size + 1 := Nat.le_succ _
  have kept : ∀ c o, hp.get? c = some o → ((hp.push (PySem.W.kdv_tup us)).push (PySem.HandSPX.excO C hp.objs.size)).get? c = some o := fun c o z => Heap.get?_push_of_some _ (Heap.get?_push_of_some _ z)
  have I2 := I1.laid (h' := (hp.push (PySem.W.kdv_tup us)).push (PySem.HandSPX.excO C hp.objs.size)) (t' := t) (o := exo (hp.objs.size + 1) C none) kept next (exo_ok (t1 := hp.objs.size) (by heap_get))
  have fits : us.length ≤ sizeLine := Nat.le_trans (Nat.le_of_eq (Paired.length rel).symm) (by rw [sizeLine_eq]; omega)
  have ran := F _ X.stack _ _ (.ref (hp.objs.size + 1) :: us) (.ref (hp.objs.size + 1) :: vs) _ E0 ((hr.mono hk).make C us []) (I2.env0.make C us []) (.cons rfl rel) (q _ (I1.hok.fresh next))
  refine wpAny_call (PySem.HandSPX.call_own T.ok.fac line cls (PySem.W.looks_findIn I1.kIn at_.find) (fun self => PySem.W.bind_fn I1.kIn self at_.fn) fits (codeAny_mono ran ?_))
  rintro (_ | (_ | _ | _ | _)) ⟨h2, g2, d2, t2, os2⟩ z <;> first
    | exact False.elim z
    | (obtain ⟨_, H2, os', bare, un, hok, rv, rfl, dd, fs, ea, ed, new, q2⟩ := z
       exact ⟨rv, mk_end (raises_own T.exc T.typ) I1 next kept un hok os' bare ea ed new q2⟩)
end
end Tw

set_option maxHeartbeats 4000000
/-! a head that looks only at the globals that are wanted, and what hangs on them; of some at nothing but themselves -/
namespace Tw
open PySem PySem.Spec PyProof.Rows L2
/-- what is met anew, with the marks of all that was met (a number's bits: no list is searched) -/
def metZ (p : Nat × List Addr) (a : Addr) : Nat × List Addr := match p with
  | (m, l) => cond (Nat.beq (Nat.land (Nat.shiftRight m a) 1) 1) (m, l) (Nat.lor m (Nat.shiftLeft 1 a), a :: l)
def nextZ (g : Addr → Option Obj) (m : Nat) (f : List Addr) : Nat × List Addr := f.foldl (fun p a => match g a with
  | some o => (He.refsD o).foldl metZ p
  | none => p) (m, [])
/-- what the addresses f reach in n steps -/
def goZ (g : Addr → Option Obj) : Nat → Nat → List Addr → List Addr
  | 0, _, f => f
  | n + 1, m, f => match nextZ g m f with
    | (m', f') => f ++ goZ g n m' f'
/-- what is wanted: with all that it reaches in n steps; with what it holds itself (defs: their code); as it is -/
abbrev Want : Type := List Str × List Str × List Str
/-- never back into the globals -/
def asZ (g : Addr → Option Obj) (want : Want) (n : Nat) : List Addr := match (want.1.map (He.ga (He.frT g [mainGlobals]))).foldl metZ (Nat.shiftLeft 1 mainGlobals, []) with
  | (m, f) => (want.2.1.map (He.ga (He.frT g [mainGlobals]))).flatMap (fun a => a :: match g a with
    | some o => (He.refsD o).filter fun b => !(Nat.beq b mainGlobals)
    | none => []) ++ goZ g n m f.reverse
def frZ (g : Addr → Option Obj) (want : Want) (n : Nat) : PySem.W.Frag := He.frT g (mainGlobals :: (asZ g want n ++ (want.2.2.map (He.ga (He.frT g [mainGlobals])) ++ [cStatics])))
def obsZ (n : Nat) (want : Want) (fa : List He.Fa) (fn : List He.DefD) (tf : List He.Defn) (ex : PySem.W.Frag → Bool) (g : Addr → Option Obj) : AlY := (He.obsD fa fn (frZ g want n), ex (frZ g want n) && He.tabsB g tf (frZ g want n))
theorem saysZ_of {n : Nat} {want : Want} {fa : List He.Fa} {fn : List He.DefD} {tf : List He.Defn} {ex : PySem.W.Frag → Bool} {h : Heap} (e : obsZ n want fa fn tf ex h.get? = (He.valD fn, true)) : SaysY fa fn tf ex h (frZ h.get? want n) := by
  have e1 := congrArg (fun z : AlY => z.1) e
  obtain ⟨m1, m2⟩ := Bool.and_eq_true_iff.mp (congrArg (fun z : AlY => z.2) e)
  have at_ : ∀ p ∈ tf, PySem.W.codeHdIn (frZ h.get? want n) (He.cT (frZ h.get? want n) p).1 (He.cT (frZ h.get? want n) p).2 = true ∧ ∃ o, h.get? (He.cT (frZ h.get? want n) p).2 = some o ∧ He.emptyTab o = true := by
    intro p hp
    obtain ⟨c1, c2⟩ := Bool.and_eq_true_iff.mp (List.all_eq_true.mp m2 p hp)
    revert c2
    cases h.get? (He.cT (frZ h.get? want n) p).2 with
    | none => exact fun z => nomatch z
    | some o => exact fun z => ⟨c1, o, rfl, z⟩
  refine ⟨e1, m1, fun p hp => (at_ p hp).1, fun p hp => ?_, fun p hp => ?_⟩
  · obtain ⟨_, o, q, z⟩ := at_ p hp
    exact He.frT_none q z
  · obtain ⟨_, o, q, z⟩ := at_ p hp
    rw [q, He.emptyTab_eq z]
def hookZ (n : Nat) (want : Want) (fa : List He.Fa) (fn : List He.DefD) (tf : List He.Defn) (ex : PySem.W.Frag → Bool) : PySem.W.Hook where
  α := AlY
  obs := fun s => obsZ n want fa fn tf ex s.heap.get?
  val := fun _ => (He.valD fn, true)
  says := fun _ h => ∃ K : PySem.W.Frag, K.In h ∧ SaysY fa fn tf ex h K
  of := fun _ _ e => ⟨_, He.frT_in, saysZ_of e⟩
  keeps := fun _ _ _ ⟨K, hK, c⟩ k => ⟨K, hK.keeps k, c.d, c.more, c.code, c.out, fun p hp => k _ _ (c.empty p hp)⟩
theorem obsZ_eq {n : Nat} {want : Want} {fa : List He.Fa} {fn : List He.DefD} {tf : List He.Defn} {ex : PySem.W.Frag → Bool} {g : Addr → Option Obj} {s : Shared} (h : ∀ a, g a = s.heap.get? a) : obsZ n want fa fn tf ex g = (hookZ n want fa fn tf ex).obs s := by
  rw [show g = s.heap.get? from funext h]
  rfl
/-! .. with dicts of the top whose keys are texts -/
structure SaysW (fa : List He.Fa) (fn : List He.DefD) (tf : List He.Defn) (ex : PySem.W.Frag → Bool) (tb : List He.Tab) (w : World) (h : Heap) (K : PySem.W.Frag) : Prop where
  y : SaysY fa fn tf ex h K
  tab : ∀ t ∈ tb, ∃ es n, KDict K w (t.1 K) es n
  tabo : ∀ t ∈ tb, He.dicW K (t.1 K) = some (He.keysIn w.params t.2)
abbrev AlW : Type := AlY × List (Option (List (Option (Str × Int))))
def obsW (n : Nat) (want : Want) (fa : List He.Fa) (fn : List He.DefD) (tf : List He.Defn) (ex : PySem.W.Frag → Bool) (tb : List He.Tab) (g : Addr → Option Obj) : AlW := (obsZ n want fa fn tf ex g, tb.map fun t => He.dicW (frZ g want n) (t.1 (frZ g want n)))
def valW (fn : List He.DefD) (tb : List He.Tab) (w : World) : AlW := ((He.valD fn, true), tb.map fun t => some (He.keysIn w.params t.2))
theorem saysW_of {n : Nat} {want : Want} {fa : List He.Fa} {fn : List He.DefD} {tf : List He.Defn} {ex : PySem.W.Frag → Bool} {tb : List He.Tab} {w : World} {h : Heap} (e : obsW n want fa fn tf ex tb h.get? = valW fn tb w) : SaysW fa fn tf ex tb w h (frZ h.get? want n) := by
  have e2 : (tb.map fun t => He.dicW (frZ h.get? want n) (t.1 (frZ h.get? want n))) = tb.map fun t => some (He.keysIn w.params t.2) := congrArg Prod.snd e
  exact ⟨saysZ_of (congrArg Prod.fst e), fun t ht => He.dicW_ok (ks := t.2) (List.map_inj_left.mp e2 t ht), fun t ht => List.map_inj_left.mp e2 t ht⟩
def hookW (n : Nat) (want : Want) (fa : List He.Fa) (fn : List He.DefD) (tf : List He.Defn) (ex : PySem.W.Frag → Bool) (tb : List He.Tab) : PySem.W.Hook where
  α := AlW
  obs := fun s => obsW n want fa fn tf ex tb s.heap.get?
  val := fun w => valW fn tb w
  says := fun w h => ∃ K : PySem.W.Frag, K.In h ∧ SaysW fa fn tf ex tb w h K
  of := fun _ _ e => ⟨_, He.frT_in, saysW_of e⟩
  keeps := fun _ _ _ ⟨K, hK, c⟩ k => ⟨K, hK.keeps k, ⟨c.y.d, c.y.more, c.y.code, c.y.out, fun p hp => k _ _ (c.y.empty p hp)⟩, c.tab, c.tabo⟩
theorem obsW_eq {n : Nat} {want : Want} {fa : List He.Fa} {fn : List He.DefD} {tf : List He.Defn} {ex : PySem.W.Frag → Bool} {tb : List He.Tab} {g : Addr → Option Obj} {s : Shared} (h : ∀ a, g a = s.heap.get? a) : obsW n want fa fn tf ex tb g = (hookW n want fa fn tf ex tb).obs s := by
  rw [show g = s.heap.get? from funext h]
  rfl
/-- three looks at one end, taken one by one -/
theorem three_of {α β γ δ : Type} {o : Option α} {f : α → β} {g : α → γ} {h : α → δ} {x : β} {y : γ} {z : δ} (e1 : o.map (fun s => (f s, g s)) = some (x, y)) (e2 : o.map h = some z) : o.map (fun s => (f s, g s, h s)) = some (x, y, z) := by
  cases o with
  | none => cases e1
  | some s =>
    have h1 := Option.some.inj e1
    have h2 : h s = z := Option.some.inj e2
    show some (f s, g s, h s) = some (x, y, z)
    rw [h2, show f s = x from congrArg Prod.fst h1, show g s = y from congrArg Prod.snd h1]
end Tw

set_option maxHeartbeats 4000000
namespace Tw
open PySem PySem.Spec PyProof.Rows L2

def top (i : Nat) : Stmt := PySem.Challenge.pw_tidewaiter_k35_runs_refused.main.body.getD i (.Pass ⟨0, 0, 0, 0⟩)
abbrev s_is_number : Stmt := top 4
abbrev s_is_whole : Stmt := top 5
abbrev s_is_one_of : Stmt := top 6
abbrev s_is_name : Stmt := top 7
abbrev s_TideError_UinitU : Stmt := inClass (top 9) 0
abbrev s_BadLength_UinitU : Stmt := inClass (top 14) 0
abbrev s_BadKeeper_UinitU : Stmt := inClass (top 19) 0
abbrev s_Missing_UinitU : Stmt := inClass (top 24) 0
abbrev s_NoSpan_UinitU : Stmt := inClass (top 27) 0
abbrev s_Web_UinitU : Stmt := inClass (top 49) 0
abbrev s_Web_with_moment : Stmt := inClass (top 49) 2
abbrev s_Web_with_span : Stmt := inClass (top 49) 3
abbrev s_Web_with_tie : Stmt := inClass (top 49) 4
abbrev s_Web_moments : Stmt := inClass (top 49) 7
abbrev s_Web_spans : Stmt := inClass (top 49) 8
abbrev s_Web_ties : Stmt := inClass (top 49) 9
abbrev s_Web_points : Stmt := inClass (top 49) 10
abbrev s_Web_UeqU : Stmt := inClass (top 49) 11
abbrev s_Web_UlenU : Stmt := inClass (top 49) 12
abbrev s_Web_UreprU : Stmt := inClass (top 49) 13
abbrev s_woven : Stmt := top 50
abbrev s_is_begin : Stmt := top 51
abbrev s_are_lengths : Stmt := top 52
abbrev s_is_lateness : Stmt := top 53
abbrev s_are_bounds : Stmt := top 54
abbrev s_need_free_name : Stmt := top 55
abbrev s_need_point : Stmt := top 56
abbrev s_play : Stmt := top 58
abbrev s_need_lengths : Stmt := top 59
abbrev s_hear_all : Stmt := top 60
abbrev s_do_all : Stmt := top 61
abbrev s__law_flow : Stmt := top 63
abbrev s__law_draw : Stmt := top 64
abbrev s__law_pick : Stmt := top 65
abbrev s__law_same : Stmt := top 66
abbrev s__law_names : Stmt := top 67
abbrev s__law_model : Stmt := top 68
abbrev s__law_points : Stmt := top 69
abbrev s__law_web : Stmt := top 70
abbrev s__law_wind : Stmt := top 71
abbrev s__law_bond : Stmt := top 72
abbrev s__law_drawn : Stmt := top 73
abbrev s__law_stands : Stmt := top 74
abbrev s__law_strange : Stmt := top 75
abbrev s__law_whole : Stmt := top 76
abbrev s__law_field : Stmt := top 77
abbrev s__law_choice : Stmt := top 78
abbrev s__law_keeper : Stmt := top 79
abbrev s__law_sizes : Stmt := top 80
abbrev s__law_wild : Stmt := top 81
abbrev s_law : Stmt := top 82
abbrev N_is_number : List Str := ["thing"]
theorem sc_is_number : FnScope N_is_number ["thing"] (defScope s_is_number) := ⟨rfl, rfl, rfl, by decide +kernel, rfl, by decide +kernel, by decide +kernel⟩
abbrev N_is_whole : List Str := ["thing", "least", "most"]
theorem sc_is_whole : FnScope N_is_whole ["thing", "least", "most"] (defScope s_is_whole) := ⟨rfl, rfl, rfl, by decide +kernel, rfl, by decide +kernel, by decide +kernel⟩
abbrev N_is_one_of : List Str := ["thing", "names"]
theorem sc_is_one_of : FnScope N_is_one_of ["thing", "names"] (defScope s_is_one_of) := ⟨rfl, rfl, rfl, by decide +kernel, rfl, by decide +kernel, by decide +kernel⟩
abbrev N_is_name : List Str := ["thing", "letter"]
theorem sc_is_name : FnScope N_is_name ["thing"] (defScope s_is_name) := ⟨rfl, rfl, rfl, by decide +kernel, rfl, by decide +kernel, by decide +kernel⟩
abbrev N_TideError_UinitU : List Str := ["self", "word", "why"]
theorem sc_TideError_UinitU : FnScope N_TideError_UinitU ["self", "word", "why"] (defScope s_TideError_UinitU) := ⟨rfl, rfl, rfl, by decide +kernel, rfl, by decide +kernel, by decide +kernel⟩
abbrev N_BadLength_UinitU : List Str := ["self", "low", "high"]
theorem sc_BadLength_UinitU : FnScope N_BadLength_UinitU ["self", "low", "high"] (defScope s_BadLength_UinitU) := ⟨rfl, rfl, rfl, by decide +kernel, rfl, by decide +kernel, by decide +kernel⟩
abbrev N_BadKeeper_UinitU : List Str := ["self", "tick"]
theorem sc_BadKeeper_UinitU : FnScope N_BadKeeper_UinitU ["self", "tick"] (defScope s_BadKeeper_UinitU) := ⟨rfl, rfl, rfl, by decide +kernel, rfl, by decide +kernel, by decide +kernel⟩
abbrev N_Missing_UinitU : List Str := ["self", "word", "why"]
theorem sc_Missing_UinitU : FnScope N_Missing_UinitU ["self", "word", "why"] (defScope s_Missing_UinitU) := ⟨rfl, rfl, rfl, by decide +kernel, rfl, by decide +kernel, by decide +kernel⟩
abbrev N_NoSpan_UinitU : List Str := ["self", "name"]
theorem sc_NoSpan_UinitU : FnScope N_NoSpan_UinitU ["self", "name"] (defScope s_NoSpan_UinitU) := ⟨rfl, rfl, rfl, by decide +kernel, rfl, by decide +kernel, by decide +kernel⟩
abbrev N_Web_UinitU : List Str := ["self", "by"]
theorem sc_Web_UinitU : FnScope N_Web_UinitU ["self", "by"] (defScope s_Web_UinitU) := ⟨rfl, rfl, rfl, by decide +kernel, rfl, by decide +kernel, by decide +kernel⟩
abbrev N_Web_with_moment : List Str := ["self", "name"]
theorem sc_Web_with_moment : FnScope N_Web_with_moment ["self", "name"] (defScope s_Web_with_moment) := ⟨rfl, rfl, rfl, by decide +kernel, rfl, by decide +kernel, by decide +kernel⟩
abbrev N_Web_with_span : List Str := ["self", "end", "begin", "low", "high", "late", "span"]
theorem sc_Web_with_span : FnScope N_Web_with_span ["self", "end", "begin", "low", "high", "late"] (defScope s_Web_with_span) := ⟨rfl, rfl, rfl, by decide +kernel, rfl, by decide +kernel, by decide +kernel⟩
abbrev N_Web_with_tie : List Str := ["self", "one", "other", "least", "most", "tie"]
theorem sc_Web_with_tie : FnScope N_Web_with_tie ["self", "one", "other", "least", "most"] (defScope s_Web_with_tie) := ⟨rfl, rfl, rfl, by decide +kernel, rfl, by decide +kernel, by decide +kernel⟩
abbrev N_Web_moments : List Str := ["self"]
theorem sc_Web_moments : FnScope N_Web_moments ["self"] (defScope s_Web_moments) := ⟨rfl, rfl, rfl, by decide +kernel, rfl, by decide +kernel, by decide +kernel⟩
abbrev N_Web_spans : List Str := ["self"]
theorem sc_Web_spans : FnScope N_Web_spans ["self"] (defScope s_Web_spans) := ⟨rfl, rfl, rfl, by decide +kernel, rfl, by decide +kernel, by decide +kernel⟩
abbrev N_Web_ties : List Str := ["self"]
theorem sc_Web_ties : FnScope N_Web_ties ["self"] (defScope s_Web_ties) := ⟨rfl, rfl, rfl, by decide +kernel, rfl, by decide +kernel, by decide +kernel⟩
abbrev N_Web_points : List Str := ["self", "ends", "span"]
theorem sc_Web_points : FnScope N_Web_points ["self"] (defScope s_Web_points) := ⟨rfl, rfl, rfl, by decide +kernel, rfl, by decide +kernel, by decide +kernel⟩
abbrev N_Web_UeqU : List Str := ["self", "other"]
theorem sc_Web_UeqU : FnScope N_Web_UeqU ["self", "other"] (defScope s_Web_UeqU) := ⟨rfl, rfl, rfl, by decide +kernel, rfl, by decide +kernel, by decide +kernel⟩
abbrev N_Web_UlenU : List Str := ["self"]
theorem sc_Web_UlenU : FnScope N_Web_UlenU ["self"] (defScope s_Web_UlenU) := ⟨rfl, rfl, rfl, by decide +kernel, rfl, by decide +kernel, by decide +kernel⟩
abbrev N_Web_UreprU : List Str := ["self"]
theorem sc_Web_UreprU : FnScope N_Web_UreprU ["self"] (defScope s_Web_UreprU) := ⟨rfl, rfl, rfl, by decide +kernel, rfl, by decide +kernel, by decide +kernel⟩
abbrev N_woven : List Str := ["by", "moments", "spans", "ties", "web"]
theorem sc_woven : FnScope N_woven ["by", "moments", "spans", "ties"] (defScope s_woven) := ⟨rfl, rfl, rfl, by decide +kernel, rfl, by decide +kernel, by decide +kernel⟩
abbrev N_is_begin : List Str := ["web", "name"]
theorem sc_is_begin : FnScope N_is_begin ["web", "name"] (defScope s_is_begin) := ⟨rfl, rfl, rfl, by decide +kernel, rfl, by decide +kernel, by decide +kernel⟩
abbrev N_are_lengths : List Str := ["low", "high"]
theorem sc_are_lengths : FnScope N_are_lengths ["low", "high"] (defScope s_are_lengths) := ⟨rfl, rfl, rfl, by decide +kernel, rfl, by decide +kernel, by decide +kernel⟩
abbrev N_is_lateness : List Str := ["late"]
theorem sc_is_lateness : FnScope N_is_lateness ["late"] (defScope s_is_lateness) := ⟨rfl, rfl, rfl, by decide +kernel, rfl, by decide +kernel, by decide +kernel⟩
abbrev N_are_bounds : List Str := ["least", "most", "told", "bound"]
theorem sc_are_bounds : FnScope N_are_bounds ["least", "most"] (defScope s_are_bounds) := ⟨rfl, rfl, rfl, by decide +kernel, rfl, by decide +kernel, by decide +kernel⟩
abbrev N_need_free_name : List Str := ["web", "name"]
theorem sc_need_free_name : FnScope N_need_free_name ["web", "name"] (defScope s_need_free_name) := ⟨rfl, rfl, rfl, by decide +kernel, rfl, by decide +kernel, by decide +kernel⟩
abbrev N_need_point : List Str := ["web", "name"]
theorem sc_need_point : FnScope N_need_point ["web", "name"] (defScope s_need_point) := ⟨rfl, rfl, rfl, by decide +kernel, rfl, by decide +kernel, by decide +kernel⟩
abbrev N_play : List Str := ["web", "keeper", "lengths", "spans", "done", "heard", "tick", "names", "ends", "ticks", "end", "begin", "low", "high", "late", "length", "name"]
theorem sc_play : FnScope N_play ["web", "keeper", "lengths"] (defScope s_play) := ⟨rfl, rfl, rfl, by decide +kernel, rfl, by decide +kernel, by decide +kernel⟩
abbrev N_need_lengths : List Str := ["web", "lengths", "end", "begin", "low", "high", "late"]
theorem sc_need_lengths : FnScope N_need_lengths ["web", "lengths"] (defScope s_need_lengths) := ⟨rfl, rfl, rfl, by decide +kernel, rfl, by decide +kernel, by decide +kernel⟩
abbrev N_hear_all : List Str := ["spans", "done", "heard", "tick", "end", "begin", "length", "late"]
theorem sc_hear_all : FnScope N_hear_all ["spans", "done", "heard", "tick"] (defScope s_hear_all) := ⟨rfl, rfl, rfl, by decide +kernel, rfl, by decide +kernel, by decide +kernel⟩
abbrev N_do_all : List Str := ["web", "done", "names", "tick", "moments", "name"]
theorem sc_do_all : FnScope N_do_all ["web", "done", "names", "tick"] (defScope s_do_all) := ⟨rfl, rfl, rfl, by decide +kernel, rfl, by decide +kernel, by decide +kernel⟩
abbrev N__law_flow : List Str := ["_law_script"]
theorem sc__law_flow : FnScope N__law_flow ["_law_script"] (defScope s__law_flow) := ⟨rfl, rfl, rfl, by decide +kernel, rfl, by decide +kernel, by decide +kernel⟩
abbrev N__law_draw : List Str := ["_law_flow_here", "_law_size", "_law_found", "_law_cell", "_law_here"]
theorem sc__law_draw : FnScope N__law_draw ["_law_flow_here", "_law_size"] (defScope s__law_draw) := ⟨rfl, rfl, rfl, by decide +kernel, rfl, by decide +kernel, by decide +kernel⟩
abbrev N__law_pick : List Str := ["_law_flow_here", "_law_row"]
theorem sc__law_pick : FnScope N__law_pick ["_law_flow_here", "_law_row"] (defScope s__law_pick) := ⟨rfl, rfl, rfl, by decide +kernel, rfl, by decide +kernel, by decide +kernel⟩
abbrev N__law_same : List Str := ["_law_found", "_law_due", "_law_key", "_law_k"]
theorem sc__law_same : FnScope N__law_same ["_law_found", "_law_due"] (defScope s__law_same) := ⟨rfl, rfl, rfl, by decide +kernel, rfl, by decide +kernel, by decide +kernel⟩
abbrev N__law_names : List Str := ["_law_flow_here", "_law_many", "_law_pool", "_law_found", "_law_k"]
theorem sc__law_names : FnScope N__law_names ["_law_flow_here", "_law_many"] (defScope s__law_names) := ⟨rfl, rfl, rfl, by decide +kernel, rfl, by decide +kernel, by decide +kernel⟩
abbrev N__law_model : List Str := ["_law_last"]
theorem sc__law_model : FnScope N__law_model ["_law_last"] (defScope s__law_model) := ⟨rfl, rfl, rfl, by decide +kernel, rfl, by decide +kernel, by decide +kernel⟩
abbrev N__law_points : List Str := ["_law_m", "_law_wind_here"]
theorem sc__law_points : FnScope N__law_points ["_law_m"] (defScope s__law_points) := ⟨rfl, rfl, rfl, by decide +kernel, rfl, by decide +kernel, by decide +kernel⟩
abbrev N__law_web : List Str := ["_law_m", "_law_web_here", "_law_name", "_law_end", "_law_begin", "_law_low", "_law_high", "_law_hush", "_law_one", "_law_other", "_law_bot", "_law_top"]
theorem sc__law_web : FnScope N__law_web ["_law_m"] (defScope s__law_web) := ⟨rfl, rfl, rfl, by decide +kernel, rfl, by decide +kernel, by decide +kernel⟩
abbrev N__law_wind : List Str := ["_law_flow_here", "_law_end", "_law_own", "_law_far", "_law_low", "_law_high", "_law_hush"]
theorem sc__law_wind : FnScope N__law_wind ["_law_flow_here", "_law_end", "_law_own", "_law_far"] (defScope s__law_wind) := ⟨rfl, rfl, rfl, by decide +kernel, rfl, by decide +kernel, by decide +kernel⟩
abbrev N__law_bond : List Str := ["_law_flow_here", "_law_points_here", "_law_far", "_law_rest", "_law_one", "_law_other", "_law_low", "_law_high", "_law_kind"]
theorem sc__law_bond : FnScope N__law_bond ["_law_flow_here", "_law_points_here", "_law_far"] (defScope s__law_bond) := ⟨rfl, rfl, rfl, by decide +kernel, rfl, by decide +kernel, by decide +kernel⟩
abbrev N__law_drawn : List Str := ["_law_flow_here", "_law_own", "_law_winds", "_law_bonds", "_law_far", "_law_last", "_law_m", "_law_names_here", "_law_end", "_law_k"]
theorem sc__law_drawn : FnScope N__law_drawn ["_law_flow_here", "_law_own", "_law_winds", "_law_bonds", "_law_far", "_law_last"] (defScope s__law_drawn) := ⟨rfl, rfl, rfl, by decide +kernel, rfl, by decide +kernel, by decide +kernel⟩
abbrev N__law_stands : List Str := ["_law_web_here", "_law_m", "_law_points_here", "_law_found", "_law_text"]
theorem sc__law_stands : FnScope N__law_stands ["_law_web_here", "_law_m"] (defScope s__law_stands) := ⟨rfl, rfl, rfl, by decide +kernel, rfl, by decide +kernel, by decide +kernel⟩
abbrev N__law_strange : List Str := ["_law_flow_here", "_law_low", "_law_high", "_law_far"]
theorem sc__law_strange : FnScope N__law_strange ["_law_flow_here", "_law_low", "_law_high"] (defScope s__law_strange) := ⟨rfl, rfl, rfl, by decide +kernel, rfl, by decide +kernel, by decide +kernel⟩
abbrev N__law_whole : List Str := ["_law_thing", "_law_low", "_law_high"]
theorem sc__law_whole : FnScope N__law_whole ["_law_thing", "_law_low", "_law_high"] (defScope s__law_whole) := ⟨rfl, rfl, rfl, by decide +kernel, rfl, by decide +kernel, by decide +kernel⟩
abbrev N__law_field : List Str := ["_law_ask", "_law_found", "e"]
theorem sc__law_field : FnScope N__law_field ["_law_ask"] (defScope s__law_field) := ⟨rfl, rfl, rfl, by decide +kernel, rfl, by decide +kernel, by decide +kernel⟩
abbrev N__law_choice : List Str := ["_law_m", "_law_seed", "_law_tick", "_law_done", "_law_heard", "_law_found", "_law_far", "_law_k", "_law_here", "_law_ripe", "_law_name"]
theorem sc__law_choice : FnScope N__law_choice ["_law_m", "_law_seed", "_law_tick", "_law_done", "_law_heard"] (defScope s__law_choice) := ⟨rfl, rfl, rfl, by decide +kernel, rfl, by decide +kernel, by decide +kernel⟩
abbrev N__law_keeper : List Str := ["_law_m", "_law_seed"]
theorem sc__law_keeper : FnScope N__law_keeper ["_law_m", "_law_seed"] (defScope s__law_keeper) := ⟨rfl, rfl, rfl, by decide +kernel, rfl, by decide +kernel, by decide +kernel⟩
abbrev N__law_sizes : List Str := ["_law_flow_here", "_law_m", "_law_found", "_law_end", "_law_begin", "_law_low", "_law_high", "_law_hush"]
theorem sc__law_sizes : FnScope N__law_sizes ["_law_flow_here", "_law_m"] (defScope s__law_sizes) := ⟨rfl, rfl, rfl, by decide +kernel, rfl, by decide +kernel, by decide +kernel⟩
abbrev N__law_wild : List Str := ["_law_m", "_law_at", "_law_kind", "_law_some"]
theorem sc__law_wild : FnScope N__law_wild ["_law_m", "_law_at", "_law_kind"] (defScope s__law_wild) := ⟨rfl, rfl, rfl, by decide +kernel, rfl, by decide +kernel, by decide +kernel⟩
abbrev N_law : List Str := ["_law_script", "_law_flow_here", "_law_far", "_law_last", "_law_m", "_law_web_here", "_law_turn", "_law_sizes_here", "_law_due", "_law_at", "_law_kind", "_law_keeper_here", "_law_end", "_law_begin", "_law_low", "_law_high", "_law_hush", "_law_gone"]
theorem sc_law : FnScope N_law ["_law_script"] (defScope s_law) := ⟨rfl, rfl, rfl, by decide +kernel, rfl, by decide +kernel, by decide +kernel⟩
def d_is_number : He.DefD := ⟨("is_number", none), "is_number", "is_number", defArgs s_is_number, defBody s_is_number, defScope s_is_number, [], []⟩
def d_is_whole : He.DefD := ⟨("is_whole", none), "is_whole", "is_whole", defArgs s_is_whole, defBody s_is_whole, defScope s_is_whole, [], []⟩
def d_is_one_of : He.DefD := ⟨("is_one_of", none), "is_one_of", "is_one_of", defArgs s_is_one_of, defBody s_is_one_of, defScope s_is_one_of, [], []⟩
def d_is_name : He.DefD := ⟨("is_name", none), "is_name", "is_name", defArgs s_is_name, defBody s_is_name, defScope s_is_name, [], []⟩
def d_TideError_UinitU : He.DefD := ⟨("TideError", some "__init__"), "__init__", "TideError.__init__", defArgs s_TideError_UinitU, defBody s_TideError_UinitU, defScope s_TideError_UinitU, [.str "TideError", .str "refused"], []⟩
def d_BadLength_UinitU : He.DefD := ⟨("BadLength", some "__init__"), "__init__", "BadLength.__init__", defArgs s_BadLength_UinitU, defBody s_BadLength_UinitU, defScope s_BadLength_UinitU, [], []⟩
def d_BadKeeper_UinitU : He.DefD := ⟨("BadKeeper", some "__init__"), "__init__", "BadKeeper.__init__", defArgs s_BadKeeper_UinitU, defBody s_BadKeeper_UinitU, defScope s_BadKeeper_UinitU, [], []⟩
def d_Missing_UinitU : He.DefD := ⟨("Missing", some "__init__"), "__init__", "Missing.__init__", defArgs s_Missing_UinitU, defBody s_Missing_UinitU, defScope s_Missing_UinitU, [.str "Missing", .str "refused"], []⟩
def d_NoSpan_UinitU : He.DefD := ⟨("NoSpan", some "__init__"), "__init__", "NoSpan.__init__", defArgs s_NoSpan_UinitU, defBody s_NoSpan_UinitU, defScope s_NoSpan_UinitU, [], []⟩
def d_Web_UinitU : He.DefD := ⟨("Web", some "__init__"), "__init__", "Web.__init__", defArgs s_Web_UinitU, defBody s_Web_UinitU, defScope s_Web_UinitU, [.int 100], []⟩
def d_Web_with_moment : He.DefD := ⟨("Web", some "with_moment"), "with_moment", "Web.with_moment", defArgs s_Web_with_moment, defBody s_Web_with_moment, defScope s_Web_with_moment, [], []⟩
def d_Web_with_span : He.DefD := ⟨("Web", some "with_span"), "with_span", "Web.with_span", defArgs s_Web_with_span, defBody s_Web_with_span, defScope s_Web_with_span, [], [("late", .int 0)]⟩
def d_Web_with_tie : He.DefD := ⟨("Web", some "with_tie"), "with_tie", "Web.with_tie", defArgs s_Web_with_tie, defBody s_Web_with_tie, defScope s_Web_with_tie, [], [("least", .non), ("most", .non)]⟩
def d_Web_moments : He.DefD := ⟨("Web", some "moments"), "moments", "Web.moments", defArgs s_Web_moments, defBody s_Web_moments, defScope s_Web_moments, [], []⟩
def d_Web_spans : He.DefD := ⟨("Web", some "spans"), "spans", "Web.spans", defArgs s_Web_spans, defBody s_Web_spans, defScope s_Web_spans, [], []⟩
def d_Web_ties : He.DefD := ⟨("Web", some "ties"), "ties", "Web.ties", defArgs s_Web_ties, defBody s_Web_ties, defScope s_Web_ties, [], []⟩
def d_Web_points : He.DefD := ⟨("Web", some "points"), "points", "Web.points", defArgs s_Web_points, defBody s_Web_points, defScope s_Web_points, [], []⟩
def d_Web_UeqU : He.DefD := ⟨("Web", some "__eq__"), "__eq__", "Web.__eq__", defArgs s_Web_UeqU, defBody s_Web_UeqU, defScope s_Web_UeqU, [], []⟩
def d_Web_UlenU : He.DefD := ⟨("Web", some "__len__"), "__len__", "Web.__len__", defArgs s_Web_UlenU, defBody s_Web_UlenU, defScope s_Web_UlenU, [], []⟩
def d_Web_UreprU : He.DefD := ⟨("Web", some "__repr__"), "__repr__", "Web.__repr__", defArgs s_Web_UreprU, defBody s_Web_UreprU, defScope s_Web_UreprU, [], []⟩
def d_woven : He.DefD := ⟨("woven", none), "woven", "woven", defArgs s_woven, defBody s_woven, defScope s_woven, [], []⟩
def d_is_begin : He.DefD := ⟨("is_begin", none), "is_begin", "is_begin", defArgs s_is_begin, defBody s_is_begin, defScope s_is_begin, [], []⟩
def d_are_lengths : He.DefD := ⟨("are_lengths", none), "are_lengths", "are_lengths", defArgs s_are_lengths, defBody s_are_lengths, defScope s_are_lengths, [], []⟩
def d_is_lateness : He.DefD := ⟨("is_lateness", none), "is_lateness", "is_lateness", defArgs s_is_lateness, defBody s_is_lateness, defScope s_is_lateness, [], []⟩
def d_are_bounds : He.DefD := ⟨("are_bounds", none), "are_bounds", "are_bounds", defArgs s_are_bounds, defBody s_are_bounds, defScope s_are_bounds, [], []⟩
def d_need_free_name : He.DefD := ⟨("need_free_name", none), "need_free_name", "need_free_name", defArgs s_need_free_name, defBody s_need_free_name, defScope s_need_free_name, [], []⟩
def d_need_point : He.DefD := ⟨("need_point", none), "need_point", "need_point", defArgs s_need_point, defBody s_need_point, defScope s_need_point, [], []⟩
def d_play : He.DefD := ⟨("play", none), "play", "play", defArgs s_play, defBody s_play, defScope s_play, [], []⟩
def d_need_lengths : He.DefD := ⟨("need_lengths", none), "need_lengths", "need_lengths", defArgs s_need_lengths, defBody s_need_lengths, defScope s_need_lengths, [], []⟩
def d_hear_all : He.DefD := ⟨("hear_all", none), "hear_all", "hear_all", defArgs s_hear_all, defBody s_hear_all, defScope s_hear_all, [], []⟩
def d_do_all : He.DefD := ⟨("do_all", none), "do_all", "do_all", defArgs s_do_all, defBody s_do_all, defScope s_do_all, [], []⟩
def d__law_flow : He.DefD := ⟨("_law_flow", none), "_law_flow", "_law_flow", defArgs s__law_flow, defBody s__law_flow, defScope s__law_flow, [], []⟩
def d__law_draw : He.DefD := ⟨("_law_draw", none), "_law_draw", "_law_draw", defArgs s__law_draw, defBody s__law_draw, defScope s__law_draw, [], []⟩
def d__law_pick : He.DefD := ⟨("_law_pick", none), "_law_pick", "_law_pick", defArgs s__law_pick, defBody s__law_pick, defScope s__law_pick, [], []⟩
def d__law_same : He.DefD := ⟨("_law_same", none), "_law_same", "_law_same", defArgs s__law_same, defBody s__law_same, defScope s__law_same, [], []⟩
def d__law_names : He.DefD := ⟨("_law_names", none), "_law_names", "_law_names", defArgs s__law_names, defBody s__law_names, defScope s__law_names, [], []⟩
def d__law_model : He.DefD := ⟨("_law_model", none), "_law_model", "_law_model", defArgs s__law_model, defBody s__law_model, defScope s__law_model, [], []⟩
def d__law_points : He.DefD := ⟨("_law_points", none), "_law_points", "_law_points", defArgs s__law_points, defBody s__law_points, defScope s__law_points, [], []⟩
def d__law_web : He.DefD := ⟨("_law_web", none), "_law_web", "_law_web", defArgs s__law_web, defBody s__law_web, defScope s__law_web, [], []⟩
def d__law_wind : He.DefD := ⟨("_law_wind", none), "_law_wind", "_law_wind", defArgs s__law_wind, defBody s__law_wind, defScope s__law_wind, [], []⟩
def d__law_bond : He.DefD := ⟨("_law_bond", none), "_law_bond", "_law_bond", defArgs s__law_bond, defBody s__law_bond, defScope s__law_bond, [], []⟩
def d__law_drawn : He.DefD := ⟨("_law_drawn", none), "_law_drawn", "_law_drawn", defArgs s__law_drawn, defBody s__law_drawn, defScope s__law_drawn, [], []⟩
def d__law_stands : He.DefD := ⟨("_law_stands", none), "_law_stands", "_law_stands", defArgs s__law_stands, defBody s__law_stands, defScope s__law_stands, [], []⟩
def d__law_strange : He.DefD := ⟨("_law_strange", none), "_law_strange", "_law_strange", defArgs s__law_strange, defBody s__law_strange, defScope s__law_strange, [], []⟩
def d__law_whole : He.DefD := ⟨("_law_whole", none), "_law_whole", "_law_whole", defArgs s__law_whole, defBody s__law_whole, defScope s__law_whole, [], []⟩
def d__law_field : He.DefD := ⟨("_law_field", none), "_law_field", "_law_field", defArgs s__law_field, defBody s__law_field, defScope s__law_field, [], []⟩
def d__law_choice : He.DefD := ⟨("_law_choice", none), "_law_choice", "_law_choice", defArgs s__law_choice, defBody s__law_choice, defScope s__law_choice, [], []⟩
def d__law_keeper : He.DefD := ⟨("_law_keeper", none), "_law_keeper", "_law_keeper", defArgs s__law_keeper, defBody s__law_keeper, defScope s__law_keeper, [], []⟩
def d__law_sizes : He.DefD := ⟨("_law_sizes", none), "_law_sizes", "_law_sizes", defArgs s__law_sizes, defBody s__law_sizes, defScope s__law_sizes, [], []⟩
def d__law_wild : He.DefD := ⟨("_law_wild", none), "_law_wild", "_law_wild", defArgs s__law_wild, defBody s__law_wild, defScope s__law_wild, [], []⟩
def d_law : He.DefD := ⟨("law", none), "law", "law", defArgs s_law, defBody s_law, defScope s_law, [], []⟩
def fn : List He.DefD := [d_is_number, d_is_whole, d_is_one_of, d_is_name, d_TideError_UinitU, d_BadLength_UinitU, d_BadKeeper_UinitU, d_Missing_UinitU, d_NoSpan_UinitU, d_Web_UinitU, d_Web_with_moment, d_Web_with_span, d_Web_with_tie, d_Web_moments, d_Web_spans, d_Web_ties, d_Web_points, d_Web_UeqU, d_Web_UlenU, d_Web_UreprU, d_woven, d_is_begin, d_are_lengths, d_is_lateness, d_are_bounds, d_need_free_name, d_need_point, d_play, d_need_lengths, d_hear_all, d_do_all, d__law_flow, d__law_draw, d__law_pick, d__law_same, d__law_names, d__law_model, d__law_points, d__law_web, d__law_wind, d__law_bond, d__law_drawn, d__law_stands, d__law_strange, d__law_whole, d__law_field, d__law_choice, d__law_keeper, d__law_sizes, d__law_wild, d_law]
def fa0 : List He.Fa := [.glo "is_number", .glo "is_whole", .glo "is_one_of", .glo "is_name", .glo "woven", .glo "is_begin", .glo "are_lengths", .glo "is_lateness", .glo "are_bounds", .glo "need_free_name", .glo "need_point", .glo "play", .glo "need_lengths", .glo "hear_all", .glo "do_all", .glo "_law_flow", .glo "_law_draw", .glo "_law_pick", .glo "_law_same", .glo "_law_names", .glo "_law_model", .glo "_law_points", .glo "_law_web", .glo "_law_wind", .glo "_law_bond", .glo "_law_drawn", .glo "_law_stands", .glo "_law_strange", .glo "_law_whole", .glo "_law_field"]
def fa1 : List He.Fa := [.glo "_law_choice", .glo "_law_keeper", .glo "_law_sizes", .glo "_law_wild", .glo "law", .free "isinstance", .free "int", .free "bool", .free "str", .free "all", .free "len", .free "ValueError", .free "LookupError", .free "list", .free "tuple", .free "range", .free "dict", .free "abs", .free "repr", .free "sum", .free "_law_tick", .free "_law_done", .free "_law_heard", .str "LETTERS" "abcdefghijklmnopqrstuvwxyz", .int "LONGEST_NAME" 8, .int "BY" 100, .str "START" "start", .int "MOST_BY" 1000, .int "MOST_MOMENTS" 10, .int "MOST_SPANS" 4]
def fa2 : List He.Fa := [.int "MOST_TIES" 40, .int "MOST_LENGTH" 1000, .int "MOST_LATE" 1000, .int "MOST_BOUND" 1000, .glo "Web", .cls "Web", .mkr "Web", .noat "Web" "by", .noat "Web" "moment_rows", .noat "Web" "span_rows", .noat "Web" "tie_rows", .noat "Web" "__bool__", .meth "Web" "__init__", .meth "Web" "with_moment", .meth "Web" "with_span", .meth "Web" "with_tie", .meth "Web" "moments", .meth "Web" "spans", .meth "Web" "ties", .meth "Web" "points", .meth "Web" "__eq__", .meth "Web" "__len__", .meth "Web" "__repr__", .glo "BadBy", .glo "BadDeed", .glo "BadName", .glo "Taken", .glo "Used", .glo "Full", .glo "BadLength"]
def fa3 : List He.Fa := [.glo "BadLate", .glo "BadTie", .glo "NoMoment", .glo "NoPoint", .glo "NoSpan", .glo "NoTie", .glo "NoDeed", .glo "Done", .glo "Unbegun", .glo "Unheard", .glo "TooEarly", .glo "TooLate", .glo "BadNews", .glo "BadKeeper", .glo "Over", .glo "BadPaper", .glo "BadText", .glo "BadPlan", .glo "Unsteered", .glo "NothingBack", .glo "TideError", .glo "Missing"]
def fa : List He.Fa := fa0 ++ fa1 ++ fa2 ++ fa3
def exl0 (K : PySem.W.Frag) : List Bool := [viB K "ValueError" "ValueError.__init__", viB K "LookupError" "LookupError.__init__", clsDefB K (He.ga K "TideError") (He.ma K (He.ga K "TideError") "__init__") "__init__", oxB bVE K (He.ga K "BadLength"), xfB K (He.ga K "BadLength"), initB K (He.ga K "BadLength"), decide (PySem.W.findIn K (.ref (He.ga K "BadLength")) "word" = some none), decide (PySem.W.findIn K (.ref (He.ga K "BadLength")) "low" = some none), decide (PySem.W.findIn K (.ref (He.ga K "BadLength")) "high" = some none), decide (PySem.W.exmAny K (.ref (He.ga K "BadLength")) [.ref (He.ga K "BadBy"), .ref (He.ga K "BadDeed")] = some false), decide (PySem.W.exmAny K (.ref (He.ga K "BadLength")) [.ref (He.ga K "BadName"), .ref (He.ga K "Taken"), .ref (He.ga K "Used")] = some false), decide (PySem.W.exmAny K (.ref (He.ga K "BadLength")) [.ref (He.ga K "Full")] = some false), decide (PySem.W.exmAny K (.ref (He.ga K "BadLength")) [.ref (He.ga K "BadLength")] = some true), oxB bVE K (He.ga K "BadKeeper"), xfB K (He.ga K "BadKeeper"), initB K (He.ga K "BadKeeper"), decide (PySem.W.findIn K (.ref (He.ga K "BadKeeper")) "word" = some none), decide (PySem.W.findIn K (.ref (He.ga K "BadKeeper")) "tick" = some none), decide (PySem.W.exmAny K (.ref (He.ga K "BadKeeper")) [.ref (He.ga K "BadBy"), .ref (He.ga K "BadDeed")] = some false), decide (PySem.W.exmAny K (.ref (He.ga K "BadKeeper")) [.ref (He.ga K "BadName"), .ref (He.ga K "Taken"), .ref (He.ga K "Used")] = some false)]
def exl1 (K : PySem.W.Frag) : List Bool := [decide (PySem.W.exmAny K (.ref (He.ga K "BadKeeper")) [.ref (He.ga K "Full")] = some false), decide (PySem.W.exmAny K (.ref (He.ga K "BadKeeper")) [.ref (He.ga K "BadLength")] = some false), decide (PySem.W.exmAny K (.ref (He.ga K "BadKeeper")) [.ref (He.ga K "BadLate")] = some false), decide (PySem.W.exmAny K (.ref (He.ga K "BadKeeper")) [.ref (He.ga K "BadTie")] = some false), decide (PySem.W.exmAny K (.ref (He.ga K "BadKeeper")) [.ref (He.ga K "NoMoment"), .ref (He.ga K "NoPoint"), .ref (He.ga K "NoSpan")] = some false), decide (PySem.W.exmAny K (.ref (He.ga K "BadKeeper")) [.ref (He.ga K "NoTie"), .ref (He.ga K "NoDeed")] = some false), decide (PySem.W.exmAny K (.ref (He.ga K "BadKeeper")) [.ref (He.ga K "Done"), .ref (He.ga K "Unbegun"), .ref (He.ga K "Unheard")] = some false), decide (PySem.W.exmAny K (.ref (He.ga K "BadKeeper")) [.ref (He.ga K "TooEarly"), .ref (He.ga K "TooLate"), .ref (He.ga K "BadNews")] = some false), decide (PySem.W.exmAny K (.ref (He.ga K "BadKeeper")) [.ref (He.ga K "BadKeeper"), .ref (He.ga K "Over")] = some true), clsDefB K (He.ga K "Missing") (He.ma K (He.ga K "Missing") "__init__") "__init__", oxB bLE K (He.ga K "NoSpan"), xfB K (He.ga K "NoSpan"), initB K (He.ga K "NoSpan"), decide (PySem.W.findIn K (.ref (He.ga K "NoSpan")) "word" = some none), decide (PySem.W.findIn K (.ref (He.ga K "NoSpan")) "name" = some none), decide (PySem.W.exmAny K (.ref (He.ga K "NoSpan")) [.ref (He.ga K "BadBy"), .ref (He.ga K "BadDeed")] = some false), decide (PySem.W.exmAny K (.ref (He.ga K "NoSpan")) [.ref (He.ga K "BadName"), .ref (He.ga K "Taken"), .ref (He.ga K "Used")] = some false), decide (PySem.W.exmAny K (.ref (He.ga K "NoSpan")) [.ref (He.ga K "Full")] = some false), decide (PySem.W.exmAny K (.ref (He.ga K "NoSpan")) [.ref (He.ga K "BadLength")] = some false), decide (PySem.W.exmAny K (.ref (He.ga K "NoSpan")) [.ref (He.ga K "BadLate")] = some false)]
def exl2 (K : PySem.W.Frag) : List Bool := [decide (PySem.W.exmAny K (.ref (He.ga K "NoSpan")) [.ref (He.ga K "BadTie")] = some false), decide (PySem.W.exmAny K (.ref (He.ga K "NoSpan")) [.ref (He.ga K "NoMoment"), .ref (He.ga K "NoPoint"), .ref (He.ga K "NoSpan")] = some true), decide (¬ (He.cT K ("law", none)).2 = (He.cT K ("_law_keeper", none)).2), decide (¬ (He.cT K ("law", none)).2 = (He.cT K ("_law_wild", none)).2), decide (¬ (He.cT K ("_law_keeper", none)).2 = (He.cT K ("_law_wild", none)).2)]
def exl (K : PySem.W.Frag) : List Bool := exl0 K ++ exl1 K ++ exl2 K
def ex (K : PySem.W.Frag) : Bool := (exl K).all id
theorem exAt {K : PySem.W.Frag} (h : ex K = true) {b : Bool} (e : b ∈ exl K) : b = true := List.all_eq_true.mp h b e
theorem exAt0 {K : PySem.W.Frag} (h : ex K = true) (i : Nat) {b : Bool} (e : (exl0 K)[i]? = some b) : b = true := exAt h (List.mem_append_left _ (List.mem_append_left _ (List.mem_of_getElem? e)))
theorem exAt1 {K : PySem.W.Frag} (h : ex K = true) (i : Nat) {b : Bool} (e : (exl1 K)[i]? = some b) : b = true := exAt h (List.mem_append_left _ (List.mem_append_right _ (List.mem_of_getElem? e)))
theorem exAt2 {K : PySem.W.Frag} (h : ex K = true) (i : Nat) {b : Bool} (e : (exl2 K)[i]? = some b) : b = true := exAt h (List.mem_append_right _ (List.mem_of_getElem? e))
/-- what the top has written -/
structure Tp (K : PySem.W.Frag) (mg : Str → Option Value) : Prop where
  c : He.SaysD fa fn K
  m : ex K = true
  glo : ∀ (i : Nat) (x : Str), fa[i]? = some (.glo x) → mg x = some (.ref (He.ga K x))
  free : ∀ (i : Nat) (x : Str), fa[i]? = some (.free x) → mg x = none
  int : ∀ (i : Nat) (x : Str) (n : Int), fa[i]? = some (.int x n) → ∃ u, mg x = some u ∧ RelV (.int n) u
  str : ∀ (i : Nat) (x z : Str), fa[i]? = some (.str x z) → ∃ u, mg x = some u ∧ RelV (.str z) u
theorem tp_mk {K : PySem.W.Frag} {h : Heap} {mg : Str → Option Value} (X : K.In h) (G : h.Ns mainGlobals mg) (c : He.SaysD fa fn K) (m : ex K = true) : Tp K mg :=
  ⟨c, m, fun i x e => He.glo_ok X G (c.fact i e), fun i x e => He.free_ok X G (c.fact i e), fun i x n e => let ⟨t, h⟩ := He.int_ok X G (c.fact i e); ⟨_, h, t, rfl⟩, fun i x z e => let ⟨t, h⟩ := He.str_ok X G (c.fact i e); ⟨_, h, t, rfl⟩⟩
section
variable {K : PySem.W.Frag} {mg : Str → Option Value}
theorem g_is_number (T : Tp K mg) : mg "is_number" = some (.ref (He.ga K "is_number")) := T.glo 0 _ rfl
theorem g_is_whole (T : Tp K mg) : mg "is_whole" = some (.ref (He.ga K "is_whole")) := T.glo 1 _ rfl
theorem g_is_one_of (T : Tp K mg) : mg "is_one_of" = some (.ref (He.ga K "is_one_of")) := T.glo 2 _ rfl
theorem g_is_name (T : Tp K mg) : mg "is_name" = some (.ref (He.ga K "is_name")) := T.glo 3 _ rfl
theorem g_woven (T : Tp K mg) : mg "woven" = some (.ref (He.ga K "woven")) := T.glo 4 _ rfl
theorem g_is_begin (T : Tp K mg) : mg "is_begin" = some (.ref (He.ga K "is_begin")) := T.glo 5 _ rfl
theorem g_are_lengths (T : Tp K mg) : mg "are_lengths" = some (.ref (He.ga K "are_lengths")) := T.glo 6 _ rfl
theorem g_is_lateness (T : Tp K mg) : mg "is_lateness" = some (.ref (He.ga K "is_lateness")) := T.glo 7 _ rfl
theorem g_are_bounds (T : Tp K mg) : mg "are_bounds" = some (.ref (He.ga K "are_bounds")) := T.glo 8 _ rfl
theorem g_need_free_name (T : Tp K mg) : mg "need_free_name" = some (.ref (He.ga K "need_free_name")) := T.glo 9 _ rfl
theorem g_need_point (T : Tp K mg) : mg "need_point" = some (.ref (He.ga K "need_point")) := T.glo 10 _ rfl
theorem g_play (T : Tp K mg) : mg "play" = some (.ref (He.ga K "play")) := T.glo 11 _ rfl
theorem g_need_lengths (T : Tp K mg) : mg "need_lengths" = some (.ref (He.ga K "need_lengths")) := T.glo 12 _ rfl
theorem g_hear_all (T : Tp K mg) : mg "hear_all" = some (.ref (He.ga K "hear_all")) := T.glo 13 _ rfl
theorem g_do_all (T : Tp K mg) : mg "do_all" = some (.ref (He.ga K "do_all")) := T.glo 14 _ rfl
theorem g__law_flow (T : Tp K mg) : mg "_law_flow" = some (.ref (He.ga K "_law_flow")) := T.glo 15 _ rfl
theorem g__law_draw (T : Tp K mg) : mg "_law_draw" = some (.ref (He.ga K "_law_draw")) := T.glo 16 _ rfl
theorem g__law_pick (T : Tp K mg) : mg "_law_pick" = some (.ref (He.ga K "_law_pick")) := T.glo 17 _ rfl
theorem g__law_same (T : Tp K mg) : mg "_law_same" = some (.ref (He.ga K "_law_same")) := T.glo 18 _ rfl
theorem g__law_names (T : Tp K mg) : mg "_law_names" = some (.ref (He.ga K "_law_names")) := T.glo 19 _ rfl
theorem g__law_model (T : Tp K mg) : mg "_law_model" = some (.ref (He.ga K "_law_model")) := T.glo 20 _ rfl
theorem g__law_points (T : Tp K mg) : mg "_law_points" = some (.ref (He.ga K "_law_points")) := T.glo 21 _ rfl
theorem g__law_web (T : Tp K mg) : mg "_law_web" = some (.ref (He.ga K "_law_web")) := T.glo 22 _ rfl
theorem g__law_wind (T : Tp K mg) : mg "_law_wind" = some (.ref (He.ga K "_law_wind")) := T.glo 23 _ rfl
theorem g__law_bond (T : Tp K mg) : mg "_law_bond" = some (.ref (He.ga K "_law_bond")) := T.glo 24 _ rfl
theorem g__law_drawn (T : Tp K mg) : mg "_law_drawn" = some (.ref (He.ga K "_law_drawn")) := T.glo 25 _ rfl
theorem g__law_stands (T : Tp K mg) : mg "_law_stands" = some (.ref (He.ga K "_law_stands")) := T.glo 26 _ rfl
theorem g__law_strange (T : Tp K mg) : mg "_law_strange" = some (.ref (He.ga K "_law_strange")) := T.glo 27 _ rfl
theorem g__law_whole (T : Tp K mg) : mg "_law_whole" = some (.ref (He.ga K "_law_whole")) := T.glo 28 _ rfl
theorem g__law_field (T : Tp K mg) : mg "_law_field" = some (.ref (He.ga K "_law_field")) := T.glo 29 _ rfl
theorem g__law_choice (T : Tp K mg) : mg "_law_choice" = some (.ref (He.ga K "_law_choice")) := T.glo 30 _ rfl
theorem g__law_keeper (T : Tp K mg) : mg "_law_keeper" = some (.ref (He.ga K "_law_keeper")) := T.glo 31 _ rfl
theorem g__law_sizes (T : Tp K mg) : mg "_law_sizes" = some (.ref (He.ga K "_law_sizes")) := T.glo 32 _ rfl
theorem g__law_wild (T : Tp K mg) : mg "_law_wild" = some (.ref (He.ga K "_law_wild")) := T.glo 33 _ rfl
theorem g_law (T : Tp K mg) : mg "law" = some (.ref (He.ga K "law")) := T.glo 34 _ rfl
theorem z_isinstance (T : Tp K mg) : mg "isinstance" = none := T.free 35 _ rfl
theorem z_int (T : Tp K mg) : mg "int" = none := T.free 36 _ rfl
theorem z_bool (T : Tp K mg) : mg "bool" = none := T.free 37 _ rfl
theorem z_str (T : Tp K mg) : mg "str" = none := T.free 38 _ rfl
theorem z_all (T : Tp K mg) : mg "all" = none := T.free 39 _ rfl
theorem z_len (T : Tp K mg) : mg "len" = none := T.free 40 _ rfl
theorem z_ValueError (T : Tp K mg) : mg "ValueError" = none := T.free 41 _ rfl
theorem z_LookupError (T : Tp K mg) : mg "LookupError" = none := T.free 42 _ rfl
theorem z_list (T : Tp K mg) : mg "list" = none := T.free 43 _ rfl
theorem z_tuple (T : Tp K mg) : mg "tuple" = none := T.free 44 _ rfl
theorem z_range (T : Tp K mg) : mg "range" = none := T.free 45 _ rfl
theorem z_dict (T : Tp K mg) : mg "dict" = none := T.free 46 _ rfl
theorem z_abs (T : Tp K mg) : mg "abs" = none := T.free 47 _ rfl
theorem z_repr (T : Tp K mg) : mg "repr" = none := T.free 48 _ rfl
theorem z_sum (T : Tp K mg) : mg "sum" = none := T.free 49 _ rfl
theorem z__law_tick (T : Tp K mg) : mg "_law_tick" = none := T.free 50 _ rfl
theorem z__law_done (T : Tp K mg) : mg "_law_done" = none := T.free 51 _ rfl
theorem z__law_heard (T : Tp K mg) : mg "_law_heard" = none := T.free 52 _ rfl
theorem c_LETTERS (T : Tp K mg) : ∃ u, mg "LETTERS" = some u ∧ RelV (.str "abcdefghijklmnopqrstuvwxyz") u := T.str 53 _ _ rfl
theorem c_LONGEST_NAME (T : Tp K mg) : ∃ u, mg "LONGEST_NAME" = some u ∧ RelV (.int 8) u := T.int 54 _ _ rfl
theorem c_BY (T : Tp K mg) : ∃ u, mg "BY" = some u ∧ RelV (.int 100) u := T.int 55 _ _ rfl
theorem c_START (T : Tp K mg) : ∃ u, mg "START" = some u ∧ RelV (.str "start") u := T.str 56 _ _ rfl
theorem c_MOST_BY (T : Tp K mg) : ∃ u, mg "MOST_BY" = some u ∧ RelV (.int 1000) u := T.int 57 _ _ rfl
theorem c_MOST_MOMENTS (T : Tp K mg) : ∃ u, mg "MOST_MOMENTS" = some u ∧ RelV (.int 10) u := T.int 58 _ _ rfl
theorem c_MOST_SPANS (T : Tp K mg) : ∃ u, mg "MOST_SPANS" = some u ∧ RelV (.int 4) u := T.int 59 _ _ rfl
theorem c_MOST_TIES (T : Tp K mg) : ∃ u, mg "MOST_TIES" = some u ∧ RelV (.int 40) u := T.int 60 _ _ rfl
theorem c_MOST_LENGTH (T : Tp K mg) : ∃ u, mg "MOST_LENGTH" = some u ∧ RelV (.int 1000) u := T.int 61 _ _ rfl
theorem c_MOST_LATE (T : Tp K mg) : ∃ u, mg "MOST_LATE" = some u ∧ RelV (.int 1000) u := T.int 62 _ _ rfl
theorem c_MOST_BOUND (T : Tp K mg) : ∃ u, mg "MOST_BOUND" = some u ∧ RelV (.int 1000) u := T.int 63 _ _ rfl
theorem g_Web (T : Tp K mg) : mg "Web" = some (.ref (He.ga K "Web")) := T.glo 64 _ rfl
theorem cl_Web (T : Tp K mg) : Cls K (He.ga K "Web") := He.cls_ok (T.c.fact 65 (f := .cls "Web") rfl)
theorem mk_Web (T : Tp K mg) : Mk K (He.ga K "Web") (He.ma K (He.ga K "Web") "__init__") := He.mkr_ok (T.c.fact 66 (f := .mkr "Web") rfl)
theorem na_by (T : Tp K mg) : NoAttr K (He.ga K "Web") "by" := He.noat_ok (T.c.fact 67 (f := .noat "Web" "by") rfl)
theorem na_moment_rows (T : Tp K mg) : NoAttr K (He.ga K "Web") "moment_rows" := He.noat_ok (T.c.fact 68 (f := .noat "Web" "moment_rows") rfl)
theorem na_span_rows (T : Tp K mg) : NoAttr K (He.ga K "Web") "span_rows" := He.noat_ok (T.c.fact 69 (f := .noat "Web" "span_rows") rfl)
theorem na_tie_rows (T : Tp K mg) : NoAttr K (He.ga K "Web") "tie_rows" := He.noat_ok (T.c.fact 70 (f := .noat "Web" "tie_rows") rfl)
theorem na_bool (T : Tp K mg) : NoAttr K (He.ga K "Web") "__bool__" := He.noat_ok (T.c.fact 71 (f := .noat "Web" "__bool__") rfl)
theorem me_Web_UinitU (T : Tp K mg) : Meth K (He.ga K "Web") "__init__" (He.ma K (He.ga K "Web") "__init__") := He.meth_ok (T.c.fact 72 (f := .meth "Web" "__init__") rfl)
theorem me_Web_with_moment (T : Tp K mg) : Meth K (He.ga K "Web") "with_moment" (He.ma K (He.ga K "Web") "with_moment") := He.meth_ok (T.c.fact 73 (f := .meth "Web" "with_moment") rfl)
theorem me_Web_with_span (T : Tp K mg) : Meth K (He.ga K "Web") "with_span" (He.ma K (He.ga K "Web") "with_span") := He.meth_ok (T.c.fact 74 (f := .meth "Web" "with_span") rfl)
theorem me_Web_with_tie (T : Tp K mg) : Meth K (He.ga K "Web") "with_tie" (He.ma K (He.ga K "Web") "with_tie") := He.meth_ok (T.c.fact 75 (f := .meth "Web" "with_tie") rfl)
theorem me_Web_moments (T : Tp K mg) : Meth K (He.ga K "Web") "moments" (He.ma K (He.ga K "Web") "moments") := He.meth_ok (T.c.fact 76 (f := .meth "Web" "moments") rfl)
theorem me_Web_spans (T : Tp K mg) : Meth K (He.ga K "Web") "spans" (He.ma K (He.ga K "Web") "spans") := He.meth_ok (T.c.fact 77 (f := .meth "Web" "spans") rfl)
theorem me_Web_ties (T : Tp K mg) : Meth K (He.ga K "Web") "ties" (He.ma K (He.ga K "Web") "ties") := He.meth_ok (T.c.fact 78 (f := .meth "Web" "ties") rfl)
theorem me_Web_points (T : Tp K mg) : Meth K (He.ga K "Web") "points" (He.ma K (He.ga K "Web") "points") := He.meth_ok (T.c.fact 79 (f := .meth "Web" "points") rfl)
theorem me_Web_UeqU (T : Tp K mg) : Meth K (He.ga K "Web") "__eq__" (He.ma K (He.ga K "Web") "__eq__") := He.meth_ok (T.c.fact 80 (f := .meth "Web" "__eq__") rfl)
theorem me_Web_UlenU (T : Tp K mg) : Meth K (He.ga K "Web") "__len__" (He.ma K (He.ga K "Web") "__len__") := He.meth_ok (T.c.fact 81 (f := .meth "Web" "__len__") rfl)
theorem me_Web_UreprU (T : Tp K mg) : Meth K (He.ga K "Web") "__repr__" (He.ma K (He.ga K "Web") "__repr__") := He.meth_ok (T.c.fact 82 (f := .meth "Web" "__repr__") rfl)
theorem g_BadBy (T : Tp K mg) : mg "BadBy" = some (.ref (He.ga K "BadBy")) := T.glo 83 _ rfl
theorem g_BadDeed (T : Tp K mg) : mg "BadDeed" = some (.ref (He.ga K "BadDeed")) := T.glo 84 _ rfl
theorem g_BadName (T : Tp K mg) : mg "BadName" = some (.ref (He.ga K "BadName")) := T.glo 85 _ rfl
theorem g_Taken (T : Tp K mg) : mg "Taken" = some (.ref (He.ga K "Taken")) := T.glo 86 _ rfl
theorem g_Used (T : Tp K mg) : mg "Used" = some (.ref (He.ga K "Used")) := T.glo 87 _ rfl
theorem g_Full (T : Tp K mg) : mg "Full" = some (.ref (He.ga K "Full")) := T.glo 88 _ rfl
theorem g_BadLength (T : Tp K mg) : mg "BadLength" = some (.ref (He.ga K "BadLength")) := T.glo 89 _ rfl
theorem g_BadLate (T : Tp K mg) : mg "BadLate" = some (.ref (He.ga K "BadLate")) := T.glo 90 _ rfl
theorem g_BadTie (T : Tp K mg) : mg "BadTie" = some (.ref (He.ga K "BadTie")) := T.glo 91 _ rfl
theorem g_NoMoment (T : Tp K mg) : mg "NoMoment" = some (.ref (He.ga K "NoMoment")) := T.glo 92 _ rfl
theorem g_NoPoint (T : Tp K mg) : mg "NoPoint" = some (.ref (He.ga K "NoPoint")) := T.glo 93 _ rfl
theorem g_NoSpan (T : Tp K mg) : mg "NoSpan" = some (.ref (He.ga K "NoSpan")) := T.glo 94 _ rfl
theorem g_NoTie (T : Tp K mg) : mg "NoTie" = some (.ref (He.ga K "NoTie")) := T.glo 95 _ rfl
theorem g_NoDeed (T : Tp K mg) : mg "NoDeed" = some (.ref (He.ga K "NoDeed")) := T.glo 96 _ rfl
theorem g_Done (T : Tp K mg) : mg "Done" = some (.ref (He.ga K "Done")) := T.glo 97 _ rfl
theorem g_Unbegun (T : Tp K mg) : mg "Unbegun" = some (.ref (He.ga K "Unbegun")) := T.glo 98 _ rfl
theorem g_Unheard (T : Tp K mg) : mg "Unheard" = some (.ref (He.ga K "Unheard")) := T.glo 99 _ rfl
theorem g_TooEarly (T : Tp K mg) : mg "TooEarly" = some (.ref (He.ga K "TooEarly")) := T.glo 100 _ rfl
theorem g_TooLate (T : Tp K mg) : mg "TooLate" = some (.ref (He.ga K "TooLate")) := T.glo 101 _ rfl
theorem g_BadNews (T : Tp K mg) : mg "BadNews" = some (.ref (He.ga K "BadNews")) := T.glo 102 _ rfl
theorem g_BadKeeper (T : Tp K mg) : mg "BadKeeper" = some (.ref (He.ga K "BadKeeper")) := T.glo 103 _ rfl
theorem g_Over (T : Tp K mg) : mg "Over" = some (.ref (He.ga K "Over")) := T.glo 104 _ rfl
theorem g_BadPaper (T : Tp K mg) : mg "BadPaper" = some (.ref (He.ga K "BadPaper")) := T.glo 105 _ rfl
theorem g_BadText (T : Tp K mg) : mg "BadText" = some (.ref (He.ga K "BadText")) := T.glo 106 _ rfl
theorem g_BadPlan (T : Tp K mg) : mg "BadPlan" = some (.ref (He.ga K "BadPlan")) := T.glo 107 _ rfl
theorem g_Unsteered (T : Tp K mg) : mg "Unsteered" = some (.ref (He.ga K "Unsteered")) := T.glo 108 _ rfl
theorem g_NothingBack (T : Tp K mg) : mg "NothingBack" = some (.ref (He.ga K "NothingBack")) := T.glo 109 _ rfl
theorem g_TideError (T : Tp K mg) : mg "TideError" = some (.ref (He.ga K "TideError")) := T.glo 110 _ rfl
theorem g_Missing (T : Tp K mg) : mg "Missing" = some (.ref (He.ga K "Missing")) := T.glo 111 _ rfl
theorem vi_ValueError (T : Tp K mg) : PySem.W.findCls K (.type "ValueError") (.type "type") "__init__" = some (.val (.builtin "ValueError.__init__")) := viB_ok (exAt0 T.m 0 rfl)
theorem vi_LookupError (T : Tp K mg) : PySem.W.findCls K (.type "LookupError") (.type "type") "__init__" = some (.val (.builtin "LookupError.__init__")) := viB_ok (exAt0 T.m 1 rfl)
theorem cd_TideError (T : Tp K mg) : ClsDef K (He.ga K "TideError") (He.ma K (He.ga K "TideError") "__init__") "__init__" := clsDefB_ok (exAt0 T.m 2 rfl)
theorem oe_BadLength (T : Tp K mg) : OxC bVE K (He.ga K "BadLength") := oxB_ok bVE_ok (exAt0 T.m 3 rfl)
theorem xf_BadLength (T : Tp K mg) : XfC K (He.ga K "BadLength") := xfB_ok (exAt0 T.m 4 rfl)
theorem in_BadLength (T : Tp K mg) : InitAt K (He.ga K "BadLength") (He.ma K (He.ga K "BadLength") "__init__") := initB_ok (exAt0 T.m 5 rfl)
theorem nf_BadLength_word (T : Tp K mg) : PySem.W.findIn K (.ref (He.ga K "BadLength")) "word" = some none := of_decide_eq_true (exAt0 T.m 6 rfl)
theorem nf_BadLength_low (T : Tp K mg) : PySem.W.findIn K (.ref (He.ga K "BadLength")) "low" = some none := of_decide_eq_true (exAt0 T.m 7 rfl)
theorem nf_BadLength_high (T : Tp K mg) : PySem.W.findIn K (.ref (He.ga K "BadLength")) "high" = some none := of_decide_eq_true (exAt0 T.m 8 rfl)
theorem em_BadLength_0 (T : Tp K mg) : PySem.W.exmAny K (.ref (He.ga K "BadLength")) [.ref (He.ga K "BadBy"), .ref (He.ga K "BadDeed")] = some false := of_decide_eq_true (exAt0 T.m 9 rfl)
theorem em_BadLength_1 (T : Tp K mg) : PySem.W.exmAny K (.ref (He.ga K "BadLength")) [.ref (He.ga K "BadName"), .ref (He.ga K "Taken"), .ref (He.ga K "Used")] = some false := of_decide_eq_true (exAt0 T.m 10 rfl)
theorem em_BadLength_2 (T : Tp K mg) : PySem.W.exmAny K (.ref (He.ga K "BadLength")) [.ref (He.ga K "Full")] = some false := of_decide_eq_true (exAt0 T.m 11 rfl)
theorem em_BadLength_3 (T : Tp K mg) : PySem.W.exmAny K (.ref (He.ga K "BadLength")) [.ref (He.ga K "BadLength")] = some true := of_decide_eq_true (exAt0 T.m 12 rfl)
theorem oe_BadKeeper (T : Tp K mg) : OxC bVE K (He.ga K "BadKeeper") := oxB_ok bVE_ok (exAt0 T.m 13 rfl)
theorem xf_BadKeeper (T : Tp K mg) : XfC K (He.ga K "BadKeeper") := xfB_ok (exAt0 T.m 14 rfl)
theorem in_BadKeeper (T : Tp K mg) : InitAt K (He.ga K "BadKeeper") (He.ma K (He.ga K "BadKeeper") "__init__") := initB_ok (exAt0 T.m 15 rfl)
theorem nf_BadKeeper_word (T : Tp K mg) : PySem.W.findIn K (.ref (He.ga K "BadKeeper")) "word" = some none := of_decide_eq_true (exAt0 T.m 16 rfl)
theorem nf_BadKeeper_tick (T : Tp K mg) : PySem.W.findIn K (.ref (He.ga K "BadKeeper")) "tick" = some none := of_decide_eq_true (exAt0 T.m 17 rfl)
theorem em_BadKeeper_0 (T : Tp K mg) : PySem.W.exmAny K (.ref (He.ga K "BadKeeper")) [.ref (He.ga K "BadBy"), .ref (He.ga K "BadDeed")] = some false := of_decide_eq_true (exAt0 T.m 18 rfl)
theorem em_BadKeeper_1 (T : Tp K mg) : PySem.W.exmAny K (.ref (He.ga K "BadKeeper")) [.ref (He.ga K "BadName"), .ref (He.ga K "Taken"), .ref (He.ga K "Used")] = some false := of_decide_eq_true (exAt0 T.m 19 rfl)
theorem em_BadKeeper_2 (T : Tp K mg) : PySem.W.exmAny K (.ref (He.ga K "BadKeeper")) [.ref (He.ga K "Full")] = some false := of_decide_eq_true (exAt1 T.m 0 rfl)
theorem em_BadKeeper_3 (T : Tp K mg) : PySem.W.exmAny K (.ref (He.ga K "BadKeeper")) [.ref (He.ga K "BadLength")] = some false := of_decide_eq_true (exAt1 T.m 1 rfl)
theorem em_BadKeeper_4 (T : Tp K mg) : PySem.W.exmAny K (.ref (He.ga K "BadKeeper")) [.ref (He.ga K "BadLate")] = some false := of_decide_eq_true (exAt1 T.m 2 rfl)
theorem em_BadKeeper_5 (T : Tp K mg) : PySem.W.exmAny K (.ref (He.ga K "BadKeeper")) [.ref (He.ga K "BadTie")] = some false := of_decide_eq_true (exAt1 T.m 3 rfl)
theorem em_BadKeeper_6 (T : Tp K mg) : PySem.W.exmAny K (.ref (He.ga K "BadKeeper")) [.ref (He.ga K "NoMoment"), .ref (He.ga K "NoPoint"), .ref (He.ga K "NoSpan")] = some false := of_decide_eq_true (exAt1 T.m 4 rfl)
theorem em_BadKeeper_7 (T : Tp K mg) : PySem.W.exmAny K (.ref (He.ga K "BadKeeper")) [.ref (He.ga K "NoTie"), .ref (He.ga K "NoDeed")] = some false := of_decide_eq_true (exAt1 T.m 5 rfl)
theorem em_BadKeeper_8 (T : Tp K mg) : PySem.W.exmAny K (.ref (He.ga K "BadKeeper")) [.ref (He.ga K "Done"), .ref (He.ga K "Unbegun"), .ref (He.ga K "Unheard")] = some false := of_decide_eq_true (exAt1 T.m 6 rfl)
theorem em_BadKeeper_9 (T : Tp K mg) : PySem.W.exmAny K (.ref (He.ga K "BadKeeper")) [.ref (He.ga K "TooEarly"), .ref (He.ga K "TooLate"), .ref (He.ga K "BadNews")] = some false := of_decide_eq_true (exAt1 T.m 7 rfl)
theorem em_BadKeeper_10 (T : Tp K mg) : PySem.W.exmAny K (.ref (He.ga K "BadKeeper")) [.ref (He.ga K "BadKeeper"), .ref (He.ga K "Over")] = some true := of_decide_eq_true (exAt1 T.m 8 rfl)
theorem cd_Missing (T : Tp K mg) : ClsDef K (He.ga K "Missing") (He.ma K (He.ga K "Missing") "__init__") "__init__" := clsDefB_ok (exAt1 T.m 9 rfl)
theorem oe_NoSpan (T : Tp K mg) : OxC bLE K (He.ga K "NoSpan") := oxB_ok bLE_ok (exAt1 T.m 10 rfl)
theorem xf_NoSpan (T : Tp K mg) : XfC K (He.ga K "NoSpan") := xfB_ok (exAt1 T.m 11 rfl)
theorem in_NoSpan (T : Tp K mg) : InitAt K (He.ga K "NoSpan") (He.ma K (He.ga K "NoSpan") "__init__") := initB_ok (exAt1 T.m 12 rfl)
theorem nf_NoSpan_word (T : Tp K mg) : PySem.W.findIn K (.ref (He.ga K "NoSpan")) "word" = some none := of_decide_eq_true (exAt1 T.m 13 rfl)
theorem nf_NoSpan_name (T : Tp K mg) : PySem.W.findIn K (.ref (He.ga K "NoSpan")) "name" = some none := of_decide_eq_true (exAt1 T.m 14 rfl)
theorem em_NoSpan_0 (T : Tp K mg) : PySem.W.exmAny K (.ref (He.ga K "NoSpan")) [.ref (He.ga K "BadBy"), .ref (He.ga K "BadDeed")] = some false := of_decide_eq_true (exAt1 T.m 15 rfl)
theorem em_NoSpan_1 (T : Tp K mg) : PySem.W.exmAny K (.ref (He.ga K "NoSpan")) [.ref (He.ga K "BadName"), .ref (He.ga K "Taken"), .ref (He.ga K "Used")] = some false := of_decide_eq_true (exAt1 T.m 16 rfl)
theorem em_NoSpan_2 (T : Tp K mg) : PySem.W.exmAny K (.ref (He.ga K "NoSpan")) [.ref (He.ga K "Full")] = some false := of_decide_eq_true (exAt1 T.m 17 rfl)
theorem em_NoSpan_3 (T : Tp K mg) : PySem.W.exmAny K (.ref (He.ga K "NoSpan")) [.ref (He.ga K "BadLength")] = some false := of_decide_eq_true (exAt1 T.m 18 rfl)
theorem em_NoSpan_4 (T : Tp K mg) : PySem.W.exmAny K (.ref (He.ga K "NoSpan")) [.ref (He.ga K "BadLate")] = some false := of_decide_eq_true (exAt1 T.m 19 rfl)
theorem em_NoSpan_5 (T : Tp K mg) : PySem.W.exmAny K (.ref (He.ga K "NoSpan")) [.ref (He.ga K "BadTie")] = some false := of_decide_eq_true (exAt2 T.m 0 rfl)
theorem em_NoSpan_6 (T : Tp K mg) : PySem.W.exmAny K (.ref (He.ga K "NoSpan")) [.ref (He.ga K "NoMoment"), .ref (He.ga K "NoPoint"), .ref (He.ga K "NoSpan")] = some true := of_decide_eq_true (exAt2 T.m 1 rfl)
theorem dt__law_keeper (T : Tp K mg) : ¬ (He.cT K ("law", none)).2 = (He.cT K ("_law_keeper", none)).2 := of_decide_eq_true (exAt2 T.m 2 rfl)
theorem dt__law_wild (T : Tp K mg) : ¬ (He.cT K ("law", none)).2 = (He.cT K ("_law_wild", none)).2 := of_decide_eq_true (exAt2 T.m 3 rfl)
theorem dt__law_keeper__law_wild (T : Tp K mg) : ¬ (He.cT K ("_law_keeper", none)).2 = (He.cT K ("_law_wild", none)).2 := of_decide_eq_true (exAt2 T.m 4 rfl)
theorem f_is_number (T : Tp K mg) : ∃ fd, FunD K "is_number" "is_number" (defArgs s_is_number) (defBody s_is_number) (defScope s_is_number) [] [] (He.ga K "is_number") fd := T.c.def_ 0 (d := d_is_number) rfl
theorem b_is_number {f : Addr} {fd : FuncData} (F : FunD K "is_number" "is_number" (defArgs s_is_number) (defBody s_is_number) (defScope s_is_number) [] [] f fd) : Binds K fd ["thing"] [] := F.bindsN fun _ _ _ _ _ _ us hl => match us, hl with | [_], _ => rfl
theorem f_is_whole (T : Tp K mg) : ∃ fd, FunD K "is_whole" "is_whole" (defArgs s_is_whole) (defBody s_is_whole) (defScope s_is_whole) [] [] (He.ga K "is_whole") fd := T.c.def_ 1 (d := d_is_whole) rfl
theorem b_is_whole {f : Addr} {fd : FuncData} (F : FunD K "is_whole" "is_whole" (defArgs s_is_whole) (defBody s_is_whole) (defScope s_is_whole) [] [] f fd) : Binds K fd ["thing", "least", "most"] [] := F.bindsN fun _ _ _ _ _ _ us hl => match us, hl with | [_, _, _], _ => rfl
theorem f_is_one_of (T : Tp K mg) : ∃ fd, FunD K "is_one_of" "is_one_of" (defArgs s_is_one_of) (defBody s_is_one_of) (defScope s_is_one_of) [] [] (He.ga K "is_one_of") fd := T.c.def_ 2 (d := d_is_one_of) rfl
theorem b_is_one_of {f : Addr} {fd : FuncData} (F : FunD K "is_one_of" "is_one_of" (defArgs s_is_one_of) (defBody s_is_one_of) (defScope s_is_one_of) [] [] f fd) : Binds K fd ["thing", "names"] [] := F.bindsN fun _ _ _ _ _ _ us hl => match us, hl with | [_, _], _ => rfl
theorem f_is_name (T : Tp K mg) : ∃ fd, FunD K "is_name" "is_name" (defArgs s_is_name) (defBody s_is_name) (defScope s_is_name) [] [] (He.ga K "is_name") fd := T.c.def_ 3 (d := d_is_name) rfl
theorem b_is_name {f : Addr} {fd : FuncData} (F : FunD K "is_name" "is_name" (defArgs s_is_name) (defBody s_is_name) (defScope s_is_name) [] [] f fd) : Binds K fd ["thing"] [] := F.bindsN fun _ _ _ _ _ _ us hl => match us, hl with | [_], _ => rfl
theorem f_TideError_UinitU (T : Tp K mg) : ∃ fd, FunD K "__init__" "TideError.__init__" (defArgs s_TideError_UinitU) (defBody s_TideError_UinitU) (defScope s_TideError_UinitU) [(V.str "TideError" : V), (V.str "refused" : V)] [] (He.ma K (He.ga K "TideError") "__init__") fd := T.c.def_ 4 (d := d_TideError_UinitU) rfl
theorem f_BadLength_UinitU (T : Tp K mg) : ∃ fd, FunD K "__init__" "BadLength.__init__" (defArgs s_BadLength_UinitU) (defBody s_BadLength_UinitU) (defScope s_BadLength_UinitU) [] [] (He.ma K (He.ga K "BadLength") "__init__") fd := T.c.def_ 5 (d := d_BadLength_UinitU) rfl
theorem b_BadLength_UinitU {f : Addr} {fd : FuncData} (F : FunD K "__init__" "BadLength.__init__" (defArgs s_BadLength_UinitU) (defBody s_BadLength_UinitU) (defScope s_BadLength_UinitU) [] [] f fd) : Binds K fd ["self", "low", "high"] [] := F.bindsN fun _ _ _ _ _ _ us hl => match us, hl with | [_, _, _], _ => rfl
theorem f_BadKeeper_UinitU (T : Tp K mg) : ∃ fd, FunD K "__init__" "BadKeeper.__init__" (defArgs s_BadKeeper_UinitU) (defBody s_BadKeeper_UinitU) (defScope s_BadKeeper_UinitU) [] [] (He.ma K (He.ga K "BadKeeper") "__init__") fd := T.c.def_ 6 (d := d_BadKeeper_UinitU) rfl
theorem b_BadKeeper_UinitU {f : Addr} {fd : FuncData} (F : FunD K "__init__" "BadKeeper.__init__" (defArgs s_BadKeeper_UinitU) (defBody s_BadKeeper_UinitU) (defScope s_BadKeeper_UinitU) [] [] f fd) : Binds K fd ["self", "tick"] [] := F.bindsN fun _ _ _ _ _ _ us hl => match us, hl with | [_, _], _ => rfl
theorem f_Missing_UinitU (T : Tp K mg) : ∃ fd, FunD K "__init__" "Missing.__init__" (defArgs s_Missing_UinitU) (defBody s_Missing_UinitU) (defScope s_Missing_UinitU) [(V.str "Missing" : V), (V.str "refused" : V)] [] (He.ma K (He.ga K "Missing") "__init__") fd := T.c.def_ 7 (d := d_Missing_UinitU) rfl
theorem f_NoSpan_UinitU (T : Tp K mg) : ∃ fd, FunD K "__init__" "NoSpan.__init__" (defArgs s_NoSpan_UinitU) (defBody s_NoSpan_UinitU) (defScope s_NoSpan_UinitU) [] [] (He.ma K (He.ga K "NoSpan") "__init__") fd := T.c.def_ 8 (d := d_NoSpan_UinitU) rfl
theorem b_NoSpan_UinitU {f : Addr} {fd : FuncData} (F : FunD K "__init__" "NoSpan.__init__" (defArgs s_NoSpan_UinitU) (defBody s_NoSpan_UinitU) (defScope s_NoSpan_UinitU) [] [] f fd) : Binds K fd ["self", "name"] [] := F.bindsN fun _ _ _ _ _ _ us hl => match us, hl with | [_, _], _ => rfl
theorem f_Web_UinitU (T : Tp K mg) : ∃ fd, FunD K "__init__" "Web.__init__" (defArgs s_Web_UinitU) (defBody s_Web_UinitU) (defScope s_Web_UinitU) [(V.int 100 : V)] [] (He.ma K (He.ga K "Web") "__init__") fd := T.c.def_ 9 (d := d_Web_UinitU) rfl
theorem f_Web_with_moment (T : Tp K mg) : ∃ fd, FunD K "with_moment" "Web.with_moment" (defArgs s_Web_with_moment) (defBody s_Web_with_moment) (defScope s_Web_with_moment) [] [] (He.ma K (He.ga K "Web") "with_moment") fd := T.c.def_ 10 (d := d_Web_with_moment) rfl
theorem b_Web_with_moment {f : Addr} {fd : FuncData} (F : FunD K "with_moment" "Web.with_moment" (defArgs s_Web_with_moment) (defBody s_Web_with_moment) (defScope s_Web_with_moment) [] [] f fd) : Binds K fd ["self", "name"] [] := F.bindsN fun _ _ _ _ _ _ us hl => match us, hl with | [_, _], _ => rfl
theorem f_Web_with_span (T : Tp K mg) : ∃ fd, FunD K "with_span" "Web.with_span" (defArgs s_Web_with_span) (defBody s_Web_with_span) (defScope s_Web_with_span) [] [("late", V.int 0)] (He.ma K (He.ga K "Web") "with_span") fd := T.c.def_ 11 (d := d_Web_with_span) rfl
theorem f_Web_with_tie (T : Tp K mg) : ∃ fd, FunD K "with_tie" "Web.with_tie" (defArgs s_Web_with_tie) (defBody s_Web_with_tie) (defScope s_Web_with_tie) [] [("least", V.non), ("most", V.non)] (He.ma K (He.ga K "Web") "with_tie") fd := T.c.def_ 12 (d := d_Web_with_tie) rfl
theorem f_Web_moments (T : Tp K mg) : ∃ fd, FunD K "moments" "Web.moments" (defArgs s_Web_moments) (defBody s_Web_moments) (defScope s_Web_moments) [] [] (He.ma K (He.ga K "Web") "moments") fd := T.c.def_ 13 (d := d_Web_moments) rfl
theorem b_Web_moments {f : Addr} {fd : FuncData} (F : FunD K "moments" "Web.moments" (defArgs s_Web_moments) (defBody s_Web_moments) (defScope s_Web_moments) [] [] f fd) : Binds K fd ["self"] [] := F.bindsN fun _ _ _ _ _ _ us hl => match us, hl with | [_], _ => rfl
theorem f_Web_spans (T : Tp K mg) : ∃ fd, FunD K "spans" "Web.spans" (defArgs s_Web_spans) (defBody s_Web_spans) (defScope s_Web_spans) [] [] (He.ma K (He.ga K "Web") "spans") fd := T.c.def_ 14 (d := d_Web_spans) rfl
theorem b_Web_spans {f : Addr} {fd : FuncData} (F : FunD K "spans" "Web.spans" (defArgs s_Web_spans) (defBody s_Web_spans) (defScope s_Web_spans) [] [] f fd) : Binds K fd ["self"] [] := F.bindsN fun _ _ _ _ _ _ us hl => match us, hl with | [_], _ => rfl
theorem f_Web_ties (T : Tp K mg) : ∃ fd, FunD K "ties" "Web.ties" (defArgs s_Web_ties) (defBody s_Web_ties) (defScope s_Web_ties) [] [] (He.ma K (He.ga K "Web") "ties") fd := T.c.def_ 15 (d := d_Web_ties) rfl
theorem b_Web_ties {f : Addr} {fd : FuncData} (F : FunD K "ties" "Web.ties" (defArgs s_Web_ties) (defBody s_Web_ties) (defScope s_Web_ties) [] [] f fd) : Binds K fd ["self"] [] := F.bindsN fun _ _ _ _ _ _ us hl => match us, hl with | [_], _ => rfl
theorem f_Web_points (T : Tp K mg) : ∃ fd, FunD K "points" "Web.points" (defArgs s_Web_points) (defBody s_Web_points) (defScope s_Web_points) [] [] (He.ma K (He.ga K "Web") "points") fd := T.c.def_ 16 (d := d_Web_points) rfl
theorem b_Web_points {f : Addr} {fd : FuncData} (F : FunD K "points" "Web.points" (defArgs s_Web_points) (defBody s_Web_points) (defScope s_Web_points) [] [] f fd) : Binds K fd ["self"] [] := F.bindsN fun _ _ _ _ _ _ us hl => match us, hl with | [_], _ => rfl
theorem f_Web_UeqU (T : Tp K mg) : ∃ fd, FunD K "__eq__" "Web.__eq__" (defArgs s_Web_UeqU) (defBody s_Web_UeqU) (defScope s_Web_UeqU) [] [] (He.ma K (He.ga K "Web") "__eq__") fd := T.c.def_ 17 (d := d_Web_UeqU) rfl
theorem b_Web_UeqU {f : Addr} {fd : FuncData} (F : FunD K "__eq__" "Web.__eq__" (defArgs s_Web_UeqU) (defBody s_Web_UeqU) (defScope s_Web_UeqU) [] [] f fd) : Binds K fd ["self", "other"] [] := F.bindsN fun _ _ _ _ _ _ us hl => match us, hl with | [_, _], _ => rfl
theorem f_Web_UlenU (T : Tp K mg) : ∃ fd, FunD K "__len__" "Web.__len__" (defArgs s_Web_UlenU) (defBody s_Web_UlenU) (defScope s_Web_UlenU) [] [] (He.ma K (He.ga K "Web") "__len__") fd := T.c.def_ 18 (d := d_Web_UlenU) rfl
theorem b_Web_UlenU {f : Addr} {fd : FuncData} (F : FunD K "__len__" "Web.__len__" (defArgs s_Web_UlenU) (defBody s_Web_UlenU) (defScope s_Web_UlenU) [] [] f fd) : Binds K fd ["self"] [] := F.bindsN fun _ _ _ _ _ _ us hl => match us, hl with | [_], _ => rfl
theorem f_Web_UreprU (T : Tp K mg) : ∃ fd, FunD K "__repr__" "Web.__repr__" (defArgs s_Web_UreprU) (defBody s_Web_UreprU) (defScope s_Web_UreprU) [] [] (He.ma K (He.ga K "Web") "__repr__") fd := T.c.def_ 19 (d := d_Web_UreprU) rfl
theorem b_Web_UreprU {f : Addr} {fd : FuncData} (F : FunD K "__repr__" "Web.__repr__" (defArgs s_Web_UreprU) (defBody s_Web_UreprU) (defScope s_Web_UreprU) [] [] f fd) : Binds K fd ["self"] [] := F.bindsN fun _ _ _ _ _ _ us hl => match us, hl with | [_], _ => rfl
theorem f_woven (T : Tp K mg) : ∃ fd, FunD K "woven" "woven" (defArgs s_woven) (defBody s_woven) (defScope s_woven) [] [] (He.ga K "woven") fd := T.c.def_ 20 (d := d_woven) rfl
theorem b_woven {f : Addr} {fd : FuncData} (F : FunD K "woven" "woven" (defArgs s_woven) (defBody s_woven) (defScope s_woven) [] [] f fd) : Binds K fd ["by", "moments", "spans", "ties"] [] := F.bindsN fun _ _ _ _ _ _ us hl => match us, hl with | [_, _, _, _], _ => rfl
theorem f_is_begin (T : Tp K mg) : ∃ fd, FunD K "is_begin" "is_begin" (defArgs s_is_begin) (defBody s_is_begin) (defScope s_is_begin) [] [] (He.ga K "is_begin") fd := T.c.def_ 21 (d := d_is_begin) rfl
theorem b_is_begin {f : Addr} {fd : FuncData} (F : FunD K "is_begin" "is_begin" (defArgs s_is_begin) (defBody s_is_begin) (defScope s_is_begin) [] [] f fd) : Binds K fd ["web", "name"] [] := F.bindsN fun _ _ _ _ _ _ us hl => match us, hl with | [_, _], _ => rfl
theorem f_are_lengths (T : Tp K mg) : ∃ fd, FunD K "are_lengths" "are_lengths" (defArgs s_are_lengths) (defBody s_are_lengths) (defScope s_are_lengths) [] [] (He.ga K "are_lengths") fd := T.c.def_ 22 (d := d_are_lengths) rfl
theorem b_are_lengths {f : Addr} {fd : FuncData} (F : FunD K "are_lengths" "are_lengths" (defArgs s_are_lengths) (defBody s_are_lengths) (defScope s_are_lengths) [] [] f fd) : Binds K fd ["low", "high"] [] := F.bindsN fun _ _ _ _ _ _ us hl => match us, hl with | [_, _], _ => rfl
theorem f_is_lateness (T : Tp K mg) : ∃ fd, FunD K "is_lateness" "is_lateness" (defArgs s_is_lateness) (defBody s_is_lateness) (defScope s_is_lateness) [] [] (He.ga K "is_lateness") fd := T.c.def_ 23 (d := d_is_lateness) rfl
theorem b_is_lateness {f : Addr} {fd : FuncData} (F : FunD K "is_lateness" "is_lateness" (defArgs s_is_lateness) (defBody s_is_lateness) (defScope s_is_lateness) [] [] f fd) : Binds K fd ["late"] [] := F.bindsN fun _ _ _ _ _ _ us hl => match us, hl with | [_], _ => rfl
theorem f_are_bounds (T : Tp K mg) : ∃ fd, FunD K "are_bounds" "are_bounds" (defArgs s_are_bounds) (defBody s_are_bounds) (defScope s_are_bounds) [] [] (He.ga K "are_bounds") fd := T.c.def_ 24 (d := d_are_bounds) rfl
theorem b_are_bounds {f : Addr} {fd : FuncData} (F : FunD K "are_bounds" "are_bounds" (defArgs s_are_bounds) (defBody s_are_bounds) (defScope s_are_bounds) [] [] f fd) : Binds K fd ["least", "most"] [] := F.bindsN fun _ _ _ _ _ _ us hl => match us, hl with | [_, _], _ => rfl
theorem f_need_free_name (T : Tp K mg) : ∃ fd, FunD K "need_free_name" "need_free_name" (defArgs s_need_free_name) (defBody s_need_free_name) (defScope s_need_free_name) [] [] (He.ga K "need_free_name") fd := T.c.def_ 25 (d := d_need_free_name) rfl
theorem b_need_free_name {f : Addr} {fd : FuncData} (F : FunD K "need_free_name" "need_free_name" (defArgs s_need_free_name) (defBody s_need_free_name) (defScope s_need_free_name) [] [] f fd) : Binds K fd ["web", "name"] [] := F.bindsN fun _ _ _ _ _ _ us hl => match us, hl with | [_, _], _ => rfl
theorem f_need_point (T : Tp K mg) : ∃ fd, FunD K "need_point" "need_point" (defArgs s_need_point) (defBody s_need_point) (defScope s_need_point) [] [] (He.ga K "need_point") fd := T.c.def_ 26 (d := d_need_point) rfl
theorem b_need_point {f : Addr} {fd : FuncData} (F : FunD K "need_point" "need_point" (defArgs s_need_point) (defBody s_need_point) (defScope s_need_point) [] [] f fd) : Binds K fd ["web", "name"] [] := F.bindsN fun _ _ _ _ _ _ us hl => match us, hl with | [_, _], _ => rfl
theorem f_play (T : Tp K mg) : ∃ fd, FunD K "play" "play" (defArgs s_play) (defBody s_play) (defScope s_play) [] [] (He.ga K "play") fd := T.c.def_ 27 (d := d_play) rfl
theorem b_play {f : Addr} {fd : FuncData} (F : FunD K "play" "play" (defArgs s_play) (defBody s_play) (defScope s_play) [] [] f fd) : Binds K fd ["web", "keeper", "lengths"] [] := F.bindsN fun _ _ _ _ _ _ us hl => match us, hl with | [_, _, _], _ => rfl
theorem f_need_lengths (T : Tp K mg) : ∃ fd, FunD K "need_lengths" "need_lengths" (defArgs s_need_lengths) (defBody s_need_lengths) (defScope s_need_lengths) [] [] (He.ga K "need_lengths") fd := T.c.def_ 28 (d := d_need_lengths) rfl
theorem b_need_lengths {f : Addr} {fd : FuncData} (F : FunD K "need_lengths" "need_lengths" (defArgs s_need_lengths) (defBody s_need_lengths) (defScope s_need_lengths) [] [] f fd) : Binds K fd ["web", "lengths"] [] := F.bindsN fun _ _ _ _ _ _ us hl => match us, hl with | [_, _], _ => rfl
theorem f_hear_all (T : Tp K mg) : ∃ fd, FunD K "hear_all" "hear_all" (defArgs s_hear_all) (defBody s_hear_all) (defScope s_hear_all) [] [] (He.ga K "hear_all") fd := T.c.def_ 29 (d := d_hear_all) rfl
theorem b_hear_all {f : Addr} {fd : FuncData} (F : FunD K "hear_all" "hear_all" (defArgs s_hear_all) (defBody s_hear_all) (defScope s_hear_all) [] [] f fd) : Binds K fd ["spans", "done", "heard", "tick"] [] := F.bindsN fun _ _ _ _ _ _ us hl => match us, hl with | [_, _, _, _], _ => rfl
theorem f_do_all (T : Tp K mg) : ∃ fd, FunD K "do_all" "do_all" (defArgs s_do_all) (defBody s_do_all) (defScope s_do_all) [] [] (He.ga K "do_all") fd := T.c.def_ 30 (d := d_do_all) rfl
theorem b_do_all {f : Addr} {fd : FuncData} (F : FunD K "do_all" "do_all" (defArgs s_do_all) (defBody s_do_all) (defScope s_do_all) [] [] f fd) : Binds K fd ["web", "done", "names", "tick"] [] := F.bindsN fun _ _ _ _ _ _ us hl => match us, hl with | [_, _, _, _], _ => rfl
theorem f__law_flow (T : Tp K mg) : ∃ fd, FunD K "_law_flow" "_law_flow" (defArgs s__law_flow) (defBody s__law_flow) (defScope s__law_flow) [] [] (He.ga K "_law_flow") fd := T.c.def_ 31 (d := d__law_flow) rfl
theorem b__law_flow {f : Addr} {fd : FuncData} (F : FunD K "_law_flow" "_law_flow" (defArgs s__law_flow) (defBody s__law_flow) (defScope s__law_flow) [] [] f fd) : Binds K fd ["_law_script"] [] := F.bindsN fun _ _ _ _ _ _ us hl => match us, hl with | [_], _ => rfl
theorem f__law_draw (T : Tp K mg) : ∃ fd, FunD K "_law_draw" "_law_draw" (defArgs s__law_draw) (defBody s__law_draw) (defScope s__law_draw) [] [] (He.ga K "_law_draw") fd := T.c.def_ 32 (d := d__law_draw) rfl
theorem b__law_draw {f : Addr} {fd : FuncData} (F : FunD K "_law_draw" "_law_draw" (defArgs s__law_draw) (defBody s__law_draw) (defScope s__law_draw) [] [] f fd) : Binds K fd ["_law_flow_here", "_law_size"] [] := F.bindsN fun _ _ _ _ _ _ us hl => match us, hl with | [_, _], _ => rfl
theorem f__law_pick (T : Tp K mg) : ∃ fd, FunD K "_law_pick" "_law_pick" (defArgs s__law_pick) (defBody s__law_pick) (defScope s__law_pick) [] [] (He.ga K "_law_pick") fd := T.c.def_ 33 (d := d__law_pick) rfl
theorem b__law_pick {f : Addr} {fd : FuncData} (F : FunD K "_law_pick" "_law_pick" (defArgs s__law_pick) (defBody s__law_pick) (defScope s__law_pick) [] [] f fd) : Binds K fd ["_law_flow_here", "_law_row"] [] := F.bindsN fun _ _ _ _ _ _ us hl => match us, hl with | [_, _], _ => rfl
theorem f__law_same (T : Tp K mg) : ∃ fd, FunD K "_law_same" "_law_same" (defArgs s__law_same) (defBody s__law_same) (defScope s__law_same) [] [] (He.ga K "_law_same") fd := T.c.def_ 34 (d := d__law_same) rfl
theorem b__law_same {f : Addr} {fd : FuncData} (F : FunD K "_law_same" "_law_same" (defArgs s__law_same) (defBody s__law_same) (defScope s__law_same) [] [] f fd) : Binds K fd ["_law_found", "_law_due"] [] := F.bindsN fun _ _ _ _ _ _ us hl => match us, hl with | [_, _], _ => rfl
theorem f__law_names (T : Tp K mg) : ∃ fd, FunD K "_law_names" "_law_names" (defArgs s__law_names) (defBody s__law_names) (defScope s__law_names) [] [] (He.ga K "_law_names") fd := T.c.def_ 35 (d := d__law_names) rfl
theorem b__law_names {f : Addr} {fd : FuncData} (F : FunD K "_law_names" "_law_names" (defArgs s__law_names) (defBody s__law_names) (defScope s__law_names) [] [] f fd) : Binds K fd ["_law_flow_here", "_law_many"] [] := F.bindsN fun _ _ _ _ _ _ us hl => match us, hl with | [_, _], _ => rfl
theorem f__law_model (T : Tp K mg) : ∃ fd, FunD K "_law_model" "_law_model" (defArgs s__law_model) (defBody s__law_model) (defScope s__law_model) [] [] (He.ga K "_law_model") fd := T.c.def_ 36 (d := d__law_model) rfl
theorem b__law_model {f : Addr} {fd : FuncData} (F : FunD K "_law_model" "_law_model" (defArgs s__law_model) (defBody s__law_model) (defScope s__law_model) [] [] f fd) : Binds K fd ["_law_last"] [] := F.bindsN fun _ _ _ _ _ _ us hl => match us, hl with | [_], _ => rfl
theorem f__law_points (T : Tp K mg) : ∃ fd, FunD K "_law_points" "_law_points" (defArgs s__law_points) (defBody s__law_points) (defScope s__law_points) [] [] (He.ga K "_law_points") fd := T.c.def_ 37 (d := d__law_points) rfl
theorem b__law_points {f : Addr} {fd : FuncData} (F : FunD K "_law_points" "_law_points" (defArgs s__law_points) (defBody s__law_points) (defScope s__law_points) [] [] f fd) : Binds K fd ["_law_m"] [] := F.bindsN fun _ _ _ _ _ _ us hl => match us, hl with | [_], _ => rfl
theorem f__law_web (T : Tp K mg) : ∃ fd, FunD K "_law_web" "_law_web" (defArgs s__law_web) (defBody s__law_web) (defScope s__law_web) [] [] (He.ga K "_law_web") fd := T.c.def_ 38 (d := d__law_web) rfl
theorem b__law_web {f : Addr} {fd : FuncData} (F : FunD K "_law_web" "_law_web" (defArgs s__law_web) (defBody s__law_web) (defScope s__law_web) [] [] f fd) : Binds K fd ["_law_m"] [] := F.bindsN fun _ _ _ _ _ _ us hl => match us, hl with | [_], _ => rfl
theorem f__law_wind (T : Tp K mg) : ∃ fd, FunD K "_law_wind" "_law_wind" (defArgs s__law_wind) (defBody s__law_wind) (defScope s__law_wind) [] [] (He.ga K "_law_wind") fd := T.c.def_ 39 (d := d__law_wind) rfl
theorem b__law_wind {f : Addr} {fd : FuncData} (F : FunD K "_law_wind" "_law_wind" (defArgs s__law_wind) (defBody s__law_wind) (defScope s__law_wind) [] [] f fd) : Binds K fd ["_law_flow_here", "_law_end", "_law_own", "_law_far"] [] := F.bindsN fun _ _ _ _ _ _ us hl => match us, hl with | [_, _, _, _], _ => rfl
theorem f__law_bond (T : Tp K mg) : ∃ fd, FunD K "_law_bond" "_law_bond" (defArgs s__law_bond) (defBody s__law_bond) (defScope s__law_bond) [] [] (He.ga K "_law_bond") fd := T.c.def_ 40 (d := d__law_bond) rfl
theorem b__law_bond {f : Addr} {fd : FuncData} (F : FunD K "_law_bond" "_law_bond" (defArgs s__law_bond) (defBody s__law_bond) (defScope s__law_bond) [] [] f fd) : Binds K fd ["_law_flow_here", "_law_points_here", "_law_far"] [] := F.bindsN fun _ _ _ _ _ _ us hl => match us, hl with | [_, _, _], _ => rfl
theorem f__law_drawn (T : Tp K mg) : ∃ fd, FunD K "_law_drawn" "_law_drawn" (defArgs s__law_drawn) (defBody s__law_drawn) (defScope s__law_drawn) [] [] (He.ga K "_law_drawn") fd := T.c.def_ 41 (d := d__law_drawn) rfl
theorem b__law_drawn {f : Addr} {fd : FuncData} (F : FunD K "_law_drawn" "_law_drawn" (defArgs s__law_drawn) (defBody s__law_drawn) (defScope s__law_drawn) [] [] f fd) : Binds K fd ["_law_flow_here", "_law_own", "_law_winds", "_law_bonds", "_law_far", "_law_last"] [] := F.bindsN fun _ _ _ _ _ _ us hl => match us, hl with | [_, _, _, _, _, _], _ => rfl
theorem f__law_stands (T : Tp K mg) : ∃ fd, FunD K "_law_stands" "_law_stands" (defArgs s__law_stands) (defBody s__law_stands) (defScope s__law_stands) [] [] (He.ga K "_law_stands") fd := T.c.def_ 42 (d := d__law_stands) rfl
theorem b__law_stands {f : Addr} {fd : FuncData} (F : FunD K "_law_stands" "_law_stands" (defArgs s__law_stands) (defBody s__law_stands) (defScope s__law_stands) [] [] f fd) : Binds K fd ["_law_web_here", "_law_m"] [] := F.bindsN fun _ _ _ _ _ _ us hl => match us, hl with | [_, _], _ => rfl
theorem f__law_strange (T : Tp K mg) : ∃ fd, FunD K "_law_strange" "_law_strange" (defArgs s__law_strange) (defBody s__law_strange) (defScope s__law_strange) [] [] (He.ga K "_law_strange") fd := T.c.def_ 43 (d := d__law_strange) rfl
theorem b__law_strange {f : Addr} {fd : FuncData} (F : FunD K "_law_strange" "_law_strange" (defArgs s__law_strange) (defBody s__law_strange) (defScope s__law_strange) [] [] f fd) : Binds K fd ["_law_flow_here", "_law_low", "_law_high"] [] := F.bindsN fun _ _ _ _ _ _ us hl => match us, hl with | [_, _, _], _ => rfl
theorem f__law_whole (T : Tp K mg) : ∃ fd, FunD K "_law_whole" "_law_whole" (defArgs s__law_whole) (defBody s__law_whole) (defScope s__law_whole) [] [] (He.ga K "_law_whole") fd := T.c.def_ 44 (d := d__law_whole) rfl
theorem b__law_whole {f : Addr} {fd : FuncData} (F : FunD K "_law_whole" "_law_whole" (defArgs s__law_whole) (defBody s__law_whole) (defScope s__law_whole) [] [] f fd) : Binds K fd ["_law_thing", "_law_low", "_law_high"] [] := F.bindsN fun _ _ _ _ _ _ us hl => match us, hl with | [_, _, _], _ => rfl
theorem f__law_field (T : Tp K mg) : ∃ fd, FunD K "_law_field" "_law_field" (defArgs s__law_field) (defBody s__law_field) (defScope s__law_field) [] [] (He.ga K "_law_field") fd := T.c.def_ 45 (d := d__law_field) rfl
theorem b__law_field {f : Addr} {fd : FuncData} (F : FunD K "_law_field" "_law_field" (defArgs s__law_field) (defBody s__law_field) (defScope s__law_field) [] [] f fd) : Binds K fd ["_law_ask"] [] := F.bindsN fun _ _ _ _ _ _ us hl => match us, hl with | [_], _ => rfl
theorem f__law_choice (T : Tp K mg) : ∃ fd, FunD K "_law_choice" "_law_choice" (defArgs s__law_choice) (defBody s__law_choice) (defScope s__law_choice) [] [] (He.ga K "_law_choice") fd := T.c.def_ 46 (d := d__law_choice) rfl
theorem b__law_choice {f : Addr} {fd : FuncData} (F : FunD K "_law_choice" "_law_choice" (defArgs s__law_choice) (defBody s__law_choice) (defScope s__law_choice) [] [] f fd) : Binds K fd ["_law_m", "_law_seed", "_law_tick", "_law_done", "_law_heard"] [] := F.bindsN fun _ _ _ _ _ _ us hl => match us, hl with | [_, _, _, _, _], _ => rfl
theorem f__law_keeper (T : Tp K mg) : ∃ fd, FunD K "_law_keeper" "_law_keeper" (defArgs s__law_keeper) (defBody s__law_keeper) (defScope s__law_keeper) [] [] (He.ga K "_law_keeper") fd := T.c.def_ 47 (d := d__law_keeper) rfl
theorem b__law_keeper {f : Addr} {fd : FuncData} (F : FunD K "_law_keeper" "_law_keeper" (defArgs s__law_keeper) (defBody s__law_keeper) (defScope s__law_keeper) [] [] f fd) : Binds K fd ["_law_m", "_law_seed"] [] := F.bindsN fun _ _ _ _ _ _ us hl => match us, hl with | [_, _], _ => rfl
theorem f__law_sizes (T : Tp K mg) : ∃ fd, FunD K "_law_sizes" "_law_sizes" (defArgs s__law_sizes) (defBody s__law_sizes) (defScope s__law_sizes) [] [] (He.ga K "_law_sizes") fd := T.c.def_ 48 (d := d__law_sizes) rfl
theorem b__law_sizes {f : Addr} {fd : FuncData} (F : FunD K "_law_sizes" "_law_sizes" (defArgs s__law_sizes) (defBody s__law_sizes) (defScope s__law_sizes) [] [] f fd) : Binds K fd ["_law_flow_here", "_law_m"] [] := F.bindsN fun _ _ _ _ _ _ us hl => match us, hl with | [_, _], _ => rfl
theorem f__law_wild (T : Tp K mg) : ∃ fd, FunD K "_law_wild" "_law_wild" (defArgs s__law_wild) (defBody s__law_wild) (defScope s__law_wild) [] [] (He.ga K "_law_wild") fd := T.c.def_ 49 (d := d__law_wild) rfl
theorem b__law_wild {f : Addr} {fd : FuncData} (F : FunD K "_law_wild" "_law_wild" (defArgs s__law_wild) (defBody s__law_wild) (defScope s__law_wild) [] [] f fd) : Binds K fd ["_law_m", "_law_at", "_law_kind"] [] := F.bindsN fun _ _ _ _ _ _ us hl => match us, hl with | [_, _, _], _ => rfl
theorem f_law (T : Tp K mg) : ∃ fd, FunD K "law" "law" (defArgs s_law) (defBody s_law) (defScope s_law) [] [] (He.ga K "law") fd := T.c.def_ 50 (d := d_law) rfl
theorem b_law {f : Addr} {fd : FuncData} (F : FunD K "law" "law" (defArgs s_law) (defBody s_law) (defScope s_law) [] [] f fd) : Binds K fd ["_law_script"] [] := F.bindsN fun _ _ _ _ _ _ us hl => match us, hl with | [_], _ => rfl
end
/-! the head -/
def loose0 : List PySem.Str := ["_wall", "__name__", "LETTERS", "LONGEST_NAME", "is_number", "is_whole", "is_one_of", "is_name", "TideError", "BadBy", "BadName", "Taken", "Full", "BadLength", "BadLate", "BadTie", "Used", "BadPaper", "BadKeeper", "BadPlan", "BadText", "BadDeed", "Unsteered", "Missing", "NoMoment", "NoPoint", "NoSpan", "NoTie", "NoDeed", "RunFault"]
def loose1 : List PySem.Str := ["Done", "TooEarly", "TooLate", "Unbegun", "Unheard", "BadNews", "Over", "NothingBack", "BY", "START", "MOST_BY", "MOST_MOMENTS", "MOST_SPANS", "MOST_TIES", "MOST_LENGTH", "MOST_LATE", "MOST_BOUND", "Web", "woven", "is_begin", "are_lengths", "is_lateness", "are_bounds", "need_free_name", "need_point", "play", "need_lengths", "hear_all", "do_all", "_law_flow"]
def loose2 : List PySem.Str := ["_law_draw", "_law_pick", "_law_same", "_law_names", "_law_model", "_law_points", "_law_web", "_law_wind", "_law_bond", "_law_drawn", "_law_stands", "_law_strange", "_law_whole", "_law_field", "_law_choice", "_law_keeper", "_law_sizes", "_law_wild"]
def loose : List PySem.Str := loose0 ++ loose1 ++ loose2
abbrev R : PySem.W.OpenRow := PySem.W.OpenLaw.row PySem.Challenge.rw_tidewaiter_k35_runs_refused
def tf : List He.Defn := [("law", none), ("_law_keeper", none), ("_law_wild", none)]
def wand0 : List PySem.Str := ["is_number", "is_whole", "is_one_of", "is_name", "woven", "is_begin", "are_lengths", "is_lateness", "are_bounds", "need_free_name", "need_point", "play", "need_lengths", "hear_all", "do_all", "_law_flow", "_law_draw", "_law_pick", "_law_same", "_law_names", "_law_model", "_law_points", "_law_web", "_law_wind", "_law_bond", "_law_drawn", "_law_stands", "_law_strange"]
def wand1 : List PySem.Str := ["_law_whole", "_law_field", "_law_choice", "_law_keeper", "_law_sizes", "_law_wild", "law"]
def want3 : List PySem.Str := ["Web", "TideError", "BadLength", "BadKeeper", "Missing", "NoSpan"]
def want : Want := (want3, wand0 ++ wand1, ["BadBy", "BadDeed", "BadName", "Taken", "Used", "Full", "BadLate", "BadTie", "NoMoment", "NoPoint", "NoTie", "NoDeed", "Done", "Unbegun", "Unheard", "TooEarly", "TooLate", "BadNews", "Over", "BadPaper", "BadText", "BadPlan", "Unsteered", "NothingBack"])
abbrev hk : PySem.W.Hook := hookZ 3 want fa fn tf ex
def ob (s : PySem.W.SharedT) : AlY := obsZ 3 want fa fn tf ex (HandSHeadRun.getT s)
theorem ob_eq (s : PySem.W.SharedT) : ob s = hk.obs s.abs := obsZ_eq (HandSHeadRun.getT_eq s)
abbrev lawAt : Nat := 82
end Tw

set_option maxHeartbeats 0
namespace Tw
open PySem PySem.Spec PyProof.Rows L2
/-! a top that fills a dict asks the world one question: both answers, each in two parts -/
abbrev Rn (w : World) : Prop := HandSHeadRun.RunEq R (PySem.W.view R.prog [lawAt]) hk ob 20000 loose w
abbrev wB (w : World) (b : Bool) : World := w.withFollow "special-get-raises" b
noncomputable abbrev en (w : World) (os : OsState) : Option PySem.W.SharedT := HandSHeadRun.endF (HandSHeadRun.stepQ (HandSHeadRun.denQ HandSHeadRun.tabQ) R.prog w) 20000 R.prog w os
abbrev L1 (w : World) (os : OsState) : Prop := (en w os).map (fun s => (HandSHeadRun.looksF R.prog (PySem.W.boot_heap w.params) s.abs, HandSHeadRun.seenQ (PySem.W.view R.prog [lawAt]) loose (importedModules R.prog.main.body) (fun s => PySem.W.xlAt (PySem.W.view R.prog [lawAt]) [] s && PySem.W.recOk R.records s) s.abs)) = some (true, PySem.W.openGood (PySem.W.view R.prog [lawAt]) loose)
abbrev L2' (w : World) (os : OsState) : Prop := (en w os).map ob = some (hk.val w)
theorem no1 (w : World) (os : OsState) : L1 (wB w false) os := by kernel_rfl
theorem no2 (w : World) (os : OsState) : L2' (wB w false) os := by kernel_rfl
theorem yes1 (w : World) (os : OsState) : L1 (wB w true) os := by kernel_rfl
theorem yes2 (w : World) (os : OsState) : L2' (wB w true) os := by kernel_rfl
theorem run (w : World) : Rn w := PySem.W.byRow2 "special-get-raises" (P := Rn) (fun w os => three_of (no1 w os) (no2 w os)) (fun w os => three_of (yes1 w os) (yes2 w os)) w
end Tw

set_option maxHeartbeats 4000000
/-! comprehensions whose block changes nothing -/
namespace Tw
open PySem PySem.Spec PyProof.Rows L2
section
variable {α β : Type} {J : It} {G : Hp → Prop} {Y : Nat → Hp → V → Hp → Prop} {g : TG} {tt : TT} {te : TE} {vs : List Nat} {σ : L2.St} {H0 : Hp} {D : Addr} {Qd : Hp → Prop}
/-- [elt for target in source if test]: as the source's items as data, f the item's own (none: left out), S what a told item is -/
theorem lc_pure (as : List α) (w : Walk J as.length G Y) (f : α → Option β) (S : Hp → V → β → Prop) (Sk : ∀ {H H' v b}, Kt H H' → S H v b → S H' v b) (nD : H0 D = none) (hn : as.length ≤ 1000) (hG : ∀ H, Same H0 H → G H)
    (hs : ∀ i a x H H', as[i]? = some a → Same H0 H → Y i H x H' → ∀ (Good : V → Hp → Prop) (Bad : Hp → Prop), (∀ y c H4, f a = some c → Same H H4 → S H4 y c → Good y H4) → (f a = none → ∀ H3, Same H H3 → Bad H3) →
      g x (wipe σ vs) H' fun σ2 H2 => wipe σ2 vs = wipe σ vs ∧ tt σ2 H2 fun b H3 => if b = true then te σ2 H3 Good else Bad H3)
    (hd : ∀ H acc, Same H0 H → H D = some (.lst acc) → Paired (S H) acc (as.filterMap f) → Qd H) :
    ∃ W : Nat → Nat → Hp → Prop, (∃ m, W 0 m (upd H0 D (.lst []))) ∧ ∀ i m H, W i m H →
      (J.stop i H ∧ Qd H) ∨ (J.go i H ∧ ∃ Nx : Hp → Prop, (∀ H', Nx H' → ∃ m', m' < m ∧ W (i + 1) m' H') ∧ ∀ x H', J.yld i H x H' → g x (wipe σ vs) H' fun σ2 H2 => wipe σ2 vs = wipe σ vs ∧ tt σ2 H2 fun b H3 =>
        if b = true then te σ2 H3 fun y H4 => ∃ acc, H4 D = some (.lst acc) ∧ acc.length < sizeLine ∧ Nx (upd H4 D (.lst (acc ++ [y]))) else Nx H3) := by
  refine lc_it w (fun i H => Same H0 H ∧ ∃ acc, H D = some (.lst acc) ∧ Paired (S H) acc ((as.take i).filterMap f)) ⟨same_upd nD, [], upd_same, .nil⟩ (fun _ H _ h => hG H h.1) ?_ ?_
  · rintro i x H H' hi ⟨s1, acc, d1, p1⟩ y
    obtain ⟨a, ea⟩ : ∃ a, as[i]? = some a := ⟨as[i], by simp [hi]⟩
    have e2 : (as.take (i + 1)).filterMap f = (as.take i).filterMap f ++ (f a).toList := by
      rw [List.take_add_one, ea, List.filterMap_append]
      cases h : f a <;> simp [List.filterMap, h]
    refine hs i a x H H' ea s1 y _ _ (fun z c H4 ec s4 hz => ⟨acc, s4 _ _ d1, ?_, ?_, acc ++ [z], upd_same, ?_⟩) (fun en H3 s3 => ⟨s1.trans s3, acc, s3 _ _ d1, ?_⟩)
    · have hl := Paired.length p1
      have h2 : ((as.take i).filterMap f).length ≤ as.length := Nat.le_trans (List.length_filterMap_le _ _) (by rw [List.length_take]; omega)
      exact small1000 (by omega)
    · intro b o e
      rw [upd_ne (ne_of_none e nD)]
      exact s4 _ _ (s1 b o e)
    · rw [e2, ec]
      have kk : Kt H4 (upd H4 D (.lst (acc ++ [z]))) := Kt.upd fun xs e => by
        rw [s4 _ _ d1] at e
        cases e
      exact Paired.snoc (Paired.mono (fun v b h => Sk kk (Sk (Kt.of s4) h)) p1) (Sk kk hz)
    · rw [e2, en]
      show Paired _ _ (_ ++ [])
      rw [List.append_nil]
      exact Paired.mono (fun v b h => Sk (Kt.of s3) h) p1
  · rintro H ⟨s1, acc, d1, p1⟩
    rw [List.take_of_length_le (Nat.le_refl _)] at p1
    exact hd H acc s1 d1 p1
end
theorem walk_listN {K : PySem.W.Frag} {a : Addr} {xs : List V} {n : Nat} (h : xs.length = n) : Walk (Itl K a) n (fun H => SqL K H a xs) (YAt xs) := h ▸ walk_list
theorem walk_tupN {K : PySem.W.Frag} {a : Addr} {xs : List V} {n : Nat} (h : xs.length = n) : Walk (Itt K a) n (fun H => SqT K H a xs) (YAt xs) := h ▸ walk_tup
theorem sl_tupK {X : Cx} {K : PySem.W.Frag} (h : X.K = K) : SlR X (rSlT K) := h ▸ sl_tup
theorem sl_listK {X : Cx} {K : PySem.W.Frag} (h : X.K = K) : SlR X (rSlL K) := h ▸ sl_list
theorem flat_bls (l : List Bool) : (l.map V.bl).all flatV = true := by
  rw [List.all_map]
  exact List.all_eq_true.mpr fun _ _ => rfl
/-- a told item that is plain -/
def SV {β : Type} (enc : β → V) : Hp → V → β → Prop := fun _ v b => v = enc b
theorem paired_enc {β : Type} {enc : β → V} {H : Hp} : ∀ {acc : List V} {bs : List β}, Paired (SV enc H) acc bs → acc = bs.map enc
  | _, _, .nil => rfl
  | _, _, .cons h t => by
    rw [List.map_cons, ← paired_enc t, ← show _ = _ from h]
/-- a told item that is a tuple -/
def SR {β : Type} (row : β → List V) : Hp → V → β → Prop := fun H v b => ∃ t, v = .ref t ∧ H t = some (.tup (row b))
theorem sr_k {β : Type} {row : β → List V} {H H' : Hp} {v : V} {b : β} (k : Kt H H') (h : SR row H v b) : SR row H' v b := by
  obtain ⟨t, e, ht⟩ := h
  exact ⟨t, e, k _ _ ht⟩
theorem paired_rows {β : Type} {row : β → List V} {H : Hp} : ∀ {acc : List V} {bs : List β}, Paired (SR row H) acc bs → Rows H acc (bs.map row)
  | _, _, .nil => .nil
  | _, _, .cons h t => .cons h (paired_rows t)
theorem rows_at {β : Type} {row : β → List V} {H : Hp} {xs : List V} {bs : List β} {i : Nat} {x : V} {b : β} (h : Rows H xs (bs.map row)) (e : xs[i]? = some x) (eb : bs[i]? = some b) : ∃ t, x = .ref t ∧ H t = some (.tup (row b)) := by
  obtain ⟨t, r, h1, h2, h3⟩ := h.at e
  rw [List.getElem?_map, eb] at h2
  cases h2
  exact ⟨t, h1, h3⟩
end Tw

set_option maxHeartbeats 4000000
/-! own exceptions in the air: none, one or two fields beside the word -/
namespace Tw
open PySem PySem.Spec PyProof.Rows L2
section
variable {P : Program} {w : World} {K : PySem.W.Frag} {mg : Str → Option Value} {base : Heap} {k : Nat} {f C : Addr} {fd : FuncData} {ps : List Str} {sp : Sp} {x m : Str}
/-- where nothing may be raised, the raising promise is a plain one -/
theorem fn_calm (F : FnOk P w K mg base (L2.CX P w) k f fd ps sp) : FnOk P w K mg base CX0 k f fd ps (fun vs H Q _ => sp vs H Q E0) :=
  ⟨fun vs H Q E h => F.len vs H Q E0 h, fun A outer s H args us vs Q E hr e0 hb r h => codeAny_mono (F.run A outer s H args us vs Q E0 hr e0 hb r h) fun r s' hq => by
    cases r with
    | error e =>
      obtain ⟨_, _, _, _, _, _, _, _, _, _, _, _, hE⟩ := hq
      exact False.elim hE
    | ok fl =>
      cases fl with
      | ret u => exact hq
      | next => exact False.elim hq
      | brk => exact False.elim hq
      | cont => exact False.elim hq⟩
theorem MetX.calm (c : MetX P w K mg base k C m sp) : Met P w K mg base k C m (fun vs H Q _ => sp vs H Q E0) :=
  let ⟨f, fd, ps, cls, me, F, b⟩ := c.ex
  ⟨f, fd, ps, [], cls, me, fn_calm F, b, .nil⟩
theorem CalX.calm (c : CalX P w K mg base k x sp) : Cal P w K mg base k x (fun vs H Q _ => sp vs H Q E0) :=
  let ⟨f, fd, ps, F, here, kept, b⟩ := c.ex
  ⟨f, fd, ps, [], fn_calm F, here, kept, b, .nil⟩
end
def OutF (H : Hp) (E : XK) (C : Addr) (fs : List (Str × V)) : Prop := ∀ (d : Addr) (H' : Hp), Same H H' → H d = none → H' d = some (.xd fs) → E (.ref C) (some d) H'
theorem OutF.same {H H1 : Hp} {E : XK} {C : Addr} {fs : List (Str × V)} (o : OutF H E C fs) (s : Same H H1) : OutF H1 E C fs := fun d H' s' n e => o d H' (s.trans s') (s.free n) e
abbrev Out0 (H : Hp) (E : XK) (C : Addr) (w : Str) : Prop := OutF H E C [(("word" : Str), .str w)]
abbrev Out (H : Hp) (E : XK) (C : Addr) (w f : Str) (v : V) : Prop := OutF H E C [(f, v), (("word" : Str), .str w)]
abbrev Out2 (H : Hp) (E : XK) (C : Addr) (w f g : Str) (v u : V) : Prop := OutF H E C [(g, u), (f, v), (("word" : Str), .str w)]
theorem Out.same {H H1 : Hp} {E : XK} {C : Addr} {w f : Str} {v : V} (o : Out H E C w f v) (s : Same H H1) : Out H1 E C w f v := OutF.same o s
def sp_miss (b : Bs) (K : PySem.W.Frag) : Sp := fun vs H Q _ => ∃ (a C : Addr) (u y : Str), vs = [.ref a, .str u, .str y] ∧ OxC b K C ∧ PySem.W.findIn K (.ref C) "word" = some none ∧ H a = some (exo a C none) ∧ u.length ≤ 100 ∧ y.length ≤ 100 ∧
  ∀ d, H d = none → d ≠ a → Q .non (upd (upd H d (exd d [(("word" : Str), .str u)])) a (exo a C (some d)))
/-- what an own exception's making leaves -/
def Made (H : Hp) (a C : Addr) (fs : List (Str × V)) (Q : VK) : Prop := ∀ (d : Addr) (H2 : Hp), H d = none → d ≠ a → (∀ b, b ≠ a → b ≠ d → H2 b = H b) → H2 a = some (exo a C (some d)) → H2 d = some (exd d fs) → Q .non H2
def sp_exc0 (K : PySem.W.Frag) (C : Addr) (u : Str) : Sp := fun vs H Q _ => ∃ (a : Addr), vs = [.ref a] ∧ H a = some (exo a C none) ∧ Made H a C [(("word" : Str), .str u)] Q
def sp_exc1 (K : PySem.W.Frag) (C : Addr) (u f : Str) : Sp := fun vs H Q _ => ∃ (a : Addr) (v : V), vs = [.ref a, v] ∧ H a = some (exo a C none) ∧ Made H a C [(f, v), (("word" : Str), .str u)] Q
def sp_exc2 (K : PySem.W.Frag) (C : Addr) (u f g : Str) : Sp := fun vs H Q _ => ∃ (a : Addr) (v z : V), vs = [.ref a, v, z] ∧ H a = some (exo a C none) ∧ Made H a C [(g, z), (f, v), (("word" : Str), .str u)] Q
theorem made_out {C a : Addr} {fs : List (Str × V)} {H : Hp} {E : XK} (h : OutF H E C fs) (na : H a = none) : Made (upd H a (exo a C none)) a C fs
    (fun x H2 => x = .non ∧ ∃ (d : Addr) (fs : List (Str × V)), H2 a = some (exo a C (some d)) ∧ H2 d = some (exd d fs) ∧ H d = none ∧ E (.ref C) (some d) (upd (del H2 a) d (.xd fs))) := by
  intro d H2 nd da k e1 e2
  have nd2 : H d = none := by
    rw [upd_ne da] at nd
    exact nd
  refine ⟨rfl, d, _, e1, e2, nd2, h d _ (fun b o hb => ?_) nd2 upd_same⟩
  have h1 : b ≠ a := ne_of_none hb na
  have h2 : b ≠ d := ne_of_none hb nd2
  rw [upd_ne h2, del_ne h1, k b h1 h2, upd_ne h1]
  exact hb
section
variable {K : PySem.W.Frag} {C : Addr} {u f g : Str} {v z : V} {H : Hp} {E : XK}
theorem mk_out0 (h : Out0 H E C u) : ([] : List V).length ≤ 1000 ∧ ∀ a, H a = none → sp_exc0 K C u (.ref a :: ([] ++ [])) (upd H a (exo a C none))
    (fun x H2 => x = .non ∧ ∃ (d : Addr) (fs : List (Str × V)), H2 a = some (exo a C (some d)) ∧ H2 d = some (exd d fs) ∧ H d = none ∧ E (.ref C) (some d) (upd (del H2 a) d (.xd fs))) (fun _ _ _ => False) :=
  ⟨by show 0 ≤ 1000; decide, fun a na => ⟨a, rfl, upd_same, made_out h na⟩⟩
theorem mk_out (h : Out H E C u f v) : ([v] : List V).length ≤ 1000 ∧ ∀ a, H a = none → sp_exc1 K C u f (.ref a :: ([v] ++ [])) (upd H a (exo a C none))
    (fun x H2 => x = .non ∧ ∃ (d : Addr) (fs : List (Str × V)), H2 a = some (exo a C (some d)) ∧ H2 d = some (exd d fs) ∧ H d = none ∧ E (.ref C) (some d) (upd (del H2 a) d (.xd fs))) (fun _ _ _ => False) :=
  ⟨by show 1 ≤ 1000; decide, fun a na => ⟨a, v, rfl, upd_same, made_out h na⟩⟩
theorem mk_out2 (h : Out2 H E C u f g v z) : ([v, z] : List V).length ≤ 1000 ∧ ∀ a, H a = none → sp_exc2 K C u f g (.ref a :: ([v, z] ++ [])) (upd H a (exo a C none))
    (fun x H2 => x = .non ∧ ∃ (d : Addr) (fs : List (Str × V)), H2 a = some (exo a C (some d)) ∧ H2 d = some (exd d fs) ∧ H d = none ∧ E (.ref C) (some d) (upd (del H2 a) d (.xd fs))) (fun _ _ _ => False) :=
  ⟨by show 2 ≤ 1000; decide, fun a na => ⟨a, v, z, rfl, upd_same, made_out h na⟩⟩
end
end Tw

set_option maxHeartbeats 4000000
/-! a lambda without parameters that a name keeps: made and stored, handed on by its name, called by its name -/
namespace Tw
open PySem PySem.Spec PyProof.Rows L2
open LamX (ExtN Tabs TabB LamS CodeO)
/-- the object of the lambda made in X -/
abbrev lamAt (X : Cx) (ps : Arguments) (b : Expr) (sc : Scope) (c' : Addr) (pm ct : Value) : Obj := PySem.W.kla_obj "<lambda>" (X.env.qual ++ "<lambda>") ps b sc (cloFrom X.env.cells sc.names []) pm c' ct
/-- the lambda at f is known in X -/
structure KeptL (X : Cx) (ps : Arguments) (b : Expr) (sc : Scope) (f c' : Addr) : Prop where
  ex : ∃ pm ct, (f, lamAt X ps b sc c' pm ct) ∈ X.pn
section
variable {X : Cx} {pins : List (Addr × Obj)} {σ : L2.St} {H : Hp} {s : Shared} {ps : Arguments} {b : Expr} {sc : Scope} {f c' : Addr}
theorem pin_lam {pm ct : Value} (I : Inv X pins σ H s) (h1 : s.heap.get? f = some (lamAt X ps b sc c' pm ct)) (h2 : H f = none) (h3 : f ∉ frs X.stack) : Inv X ((f, lamAt X ps b sc c' pm ct) :: pins) σ H s := by
  have nl : f ≠ X.env.locals := by
    rintro rfl
    obtain ⟨m, ⟨o, es, ep, e1, e2, _⟩, _⟩ := I.loc
    rw [h1] at e1
    cases e1
    cases e2
  have nf : f ∉ X.fs := by
    intro hf
    refine h3 ?_
    rcases I.ok.stk with e | ⟨e, fr⟩
    · rw [e]
      exact hf
    · rw [e]
      show f ∈ List.filterMap (·.frame) (X.env :: X.outer)
      rw [List.filterMap_cons, fr]
      exact List.mem_cons_of_mem _ hf
  refine { I with pin := fun p hp => ?_ }
  rcases List.mem_append.mp hp with h | h
  · exact I.pin p (List.mem_append_left _ h)
  · rcases List.mem_cons.mp h with e | h
    · subst e
      exact ⟨h1, h2, nl, nf, fun v z => by cases z⟩
    · exact I.pin p (List.mem_append_right _ h)
theorem KeptL.at (k : KeptL X ps b sc f c') (I : Inv X pins σ H s) : ∃ pm ct, s.heap.get? f = some (lamAt X ps b sc c' pm ct) ∧ H f = none ∧ f ∉ frs X.stack := by
  obtain ⟨pm, ct, hm⟩ := k.ex
  obtain ⟨h1, h2, h3, h4, _⟩ := I.pin _ (List.mem_append_left _ hm)
  refine ⟨pm, ct, h1, h2, fun hf => ?_⟩
  rcases List.mem_cons.mp (I.stkSub _ hf) with e | e
  · exact h3 e
  · exact h4 e
end
section
variable {X : Cx} {ps : Arguments} {b : Expr} {sc : Scope} {T : List (Addr × Str)} {c P : Addr} {i : Nat} {x : Str} {rest : List Stmt} {u : Addr → Addr → List (Addr × Obj) → TS} {lpos pos' pos : Pos}
def tLamS (T : List (Addr × Str)) (q : Str) (i : Nat) (u : Addr → Addr → List (Addr × Obj) → TS) : TS := fun D σ H => Tabs T H ∧ ∀ (H1 : Hp) (f c' : Addr) (pn : List (Addr × Obj)), ExtN H H1 → Tabs T H1 → H1 c' = some (CodeO c' q) → u f c' pn D (σ.set i (some (.ref f))) H1
/-- x = lambda: b, and what follows -/
theorem pss_lam (hN : X.N.Nodup) (hi : X.N[i]? = some x) (hx : Loc X.env.scope x) (TB : TabB X.base X.mg c P) (hcode : X.env.code = .ref c) (hm : (P, X.env.qual ++ "<lambda>") ∈ T) (hu : ∀ p ∈ T, p.1 = P → p.2 = X.env.qual ++ "<lambda>") (L : LamS X.env.scope sc)
    (hrest : ∀ (f c' : Addr) (pn : List (Addr × Obj)), KeptL (X.tr pn X.xe) ps b sc f c' → PSs (X.tr pn X.xe) rest (u f c' pn)) (hdef : defaultsOf ps X.env = ([], []) := by rfl)
    (hs : swapsWith (.Lambda ps b sc lpos) (some (.Name x pos')) pos.line X.env = pure false := by rfl) (hf : X.fn x = true ∨ X.env.scope.names.lookup x = some .local := by first | exact .inl rfl | exact .inr rfl | assumption) :
    PSs X (.Assign [.Name x pos'] (.Lambda ps b sc lpos) pos :: rest) (tLamS T (X.env.qual ++ "<lambda>") i u) := by
  constructor
  intro pins s σ H D I h
  refine wpAny_execs_cons (wpAny_Assign_Name ?_ hs)
  refine LamX.lam_make2 I TB hcode hm hu h.1 hdef (L.has I.ok) ?_
  intro f c' pm ct H1 s1 I1 e1 t1 g1 g2 g3 g4
  have J := pin_lam I1 g1 g2 g3
  refine store_ok J hN hi hx (v := .ref f) rfl (fun s2 J2 => ?_) hf
  have K2 := J2.toTry X.xe
  have kp : KeptL (X.tr (X.pn ++ ((f, lamAt X ps b sc c' pm ct) :: pins)) X.xe) ps b sc f c' := ⟨pm, ct, List.mem_append_right _ List.mem_cons_self⟩
  have back : ∀ {pn' : List (Addr × Obj)} {σ' : L2.St} {H' : Hp} {s' : Shared}, Inv (X.tr (X.pn ++ ((f, lamAt X ps b sc c' pm ct) :: pins)) X.xe) pn' σ' H' s' → Inv X pins σ' H' s' := fun {pn' σ' H' s'} J' => by
    have Z := J'.ofTry (X := X) I.ok
    refine { Z with pin := fun p hp => Z.pin p ?_ }
    rcases List.mem_append.mp hp with h | h
    · exact List.mem_append_left _ h
    · exact List.mem_append_right _ (List.mem_cons_of_mem _ h)
  refine thn ((hrest f c' _ kp).run [] s2 _ H1 D K2 (h.2 H1 f c' _ e1 t1 g4)) fun fl s3 hq => ?_
  cases fl with
  | next =>
    obtain ⟨σ', H', J', q⟩ := hq
    exact ⟨σ', H', back J', q⟩
  | brk =>
    obtain ⟨σ', H', J', q⟩ := hq
    exact ⟨σ', H', back J', q⟩
  | cont =>
    obtain ⟨σ', H', J', q⟩ := hq
    exact ⟨σ', H', back J', q⟩
  | ret w =>
    obtain ⟨v, σ', H', J', r, q⟩ := hq
    exact ⟨v, σ', H', back J', r, q⟩
end
section
variable {X : Cx} {ps : Arguments} {b : Expr} {sc : Scope} {c P : Addr} {i : Nat} {x : Str} {rest : List Stmt} {u : Addr → Addr → List (Addr × Obj) → TS} {lpos pos' pos : Pos}
theorem pss_lam1 (hN : X.N.Nodup) (hi : X.N[i]? = some x) (hx : Loc X.env.scope x) (TB : TabB X.base X.mg c P) (hcode : X.env.code = .ref c) (L : LamS X.env.scope sc)
    (hrest : ∀ (f c' : Addr) (pn : List (Addr × Obj)), KeptL (X.tr pn X.xe) ps b sc f c' → PSs (X.tr pn X.xe) rest (u f c' pn)) (hdef : defaultsOf ps X.env = ([], []) := by rfl)
    (hs : swapsWith (.Lambda ps b sc lpos) (some (.Name x pos')) pos.line X.env = pure false := by rfl) (hf : X.fn x = true ∨ X.env.scope.names.lookup x = some .local := by first | exact .inl rfl | exact .inr rfl | assumption) :
    PSs X (.Assign [.Name x pos'] (.Lambda ps b sc lpos) pos :: rest) (tLamS [(P, X.env.qual ++ "<lambda>")] (X.env.qual ++ "<lambda>") i u) :=
  pss_lam hN hi hx TB hcode List.mem_cons_self (fun p hp _ => by rw [List.mem_singleton.mp hp]) L hrest hdef hs hf
end
section
variable {X : Cx} {ps : Arguments} {b : Expr} {sc : Scope} {f c' : Addr} {i k : Nat} {v : Str} {p p2 pos : Pos}
def tHand (q : Str) (f c' : Addr) (i : Nat) (TT : (XK → Hp → VK → Prop) → Hp → VK → Prop) (t : XK → TE) : TE := fun σ H Q => σ[i]? = some (some (.ref f)) ∧ H c' = some (CodeO c' q) ∧ TT (fun E H' Q' => t E σ H' Q') H Q
/-- g(v), v a name that keeps a lambda -/
theorem pe_hand {TT : (XK → Hp → VK → Prop) → Hp → VK → Prop} {x a : Str} {g : Addr} {ag : Arguments} {bg : List Stmt} {sg : Scope} {dV kV doc pm cdv ct oc : Value} {an od : Option Addr} {osl : Array (Option Value)} {Ng : List Str} {t : XK → TE}
    (hg : Gl X x) (hm : X.mg x = some (.ref g)) (hk : PySem.W.keepIn X.K (.ref g) = true) (lk : X.K.lookup g = some ⟨oc, od, .func (PySem.W.fnOf x x ag bg sg dV kV doc pm an cdv ct), osl⟩) (hcg : PySem.W.codeIn X.K cdv x = true)
    (hb : L2.Binds X.K (PySem.W.fnOf x x ag bg sg dV kV doc pm an cdv ct) [a] []) (Sg : FnScope Ng [a] sg) (hNg : Ng[0]? = some a) (hva : Vis sg a) (hG : LamX.GivesTo X Ng x sg g cdv bg a (X.env.qual ++ "<lambda>") TT)
    (kp : KeptL X ps b sc f c') (hN : X.N[i]? = some v) (hv : Vis X.env.scope v) (hr : Room (k + 2) X.A) (L : LamS X.env.scope sc)
    (hbind : ∀ (q : Str) (cl : List (Str × Addr)) (pm cv ctv : Value), bindArgs (PySem.W.kla_fn "<lambda>" q ps b sc cl pm cv ctv) ⟨[], []⟩ = pure [])
    (hbody : ∀ (A : Around) (outer : List Env) (s : Shared) (H : Hp) (E : XK), Room k (A.deeper (LamX.lamEnv X sc s.heap.objs.size f c')) → PE (LamX.lamCx X A outer s H E sc f c') b (t E))
    (hdb : (x == ("__debug__" : Str)) = false := by decide) (hd : (a == ("__debug__" : Str)) = false := by decide) (hcd : (a == ("__classdict__" : Str)) = false := by decide)
    (hd2 : (v == ("__debug__" : Str)) = false := by decide) (hcd2 : (v == ("__classdict__" : Str)) = false := by decide) :
    PE X (.Call (.Name x p) [.Name v p2] [] pos) (tHand (X.env.qual ++ "<lambda>") f c' i TT t) := by
  constructor
  intro pins s σ H Q I ⟨w1, w2, w3⟩
  have ev := (pe_var (pos := p2) hN hv hd2 hcd2).run pins s σ H (fun z H1 => z = .ref f ∧ H1 = H) I ⟨.ref f, w1, rfl, rfl⟩
  refine wpAny_Call_Name_kw (ld_glob I hg hm (PySem.W.callWith_K (h₀ := X.base) I.ok.mod.kin hk ?_ (by rfl) (by rfl)) hdb)
  show wpAny _ _ (spliced ((false, eval (.Name v p2) X.env) :: backTo pos (starEach [] X.env))) _ _ s
  refine Calls.spliced_cons (thn ev ?_)
  rintro val s1 ⟨z, H1, I1, rz, ez, eH⟩
  subst ez eH
  obtain rfl : val = Value.ref f := rz
  refine Calls.spliced_nil ⟨I1.kIn, ?_⟩
  obtain ⟨pm1, ct1, g1, g2, g3⟩ := kp.at I1
  refine wpAny_call (codeAny_mono (LamX.run_ofS (CX := C8.CX0) (Q := Q) (E := C8.E0) (N := Ng) (us := [.ref f]) (vs := [.ref f]) lk hcg Sg hr I1.env0 (hb s1 [.ref f] I1.kIn rfl) (.cons rfl .nil) rfl ?_) ?_)
  · intro hr'
    have act := hG f c' s1 H1 Q (fun E H' Q' => t E σ H' Q') (fun W pn xe E p1 p2 tk hW => LamX.pe_act (i := 0) I1 L g1 g2 g3 (hbind _ _ _ _ _) tk hW hr' (fun A outer s H hr2 => hbody A outer s H E hr2) hNg hva hd hcd) w2 w3
    obtain ⟨t', ht, hq⟩ := act
    exact ⟨t', ht.nox, hq⟩
  · intro r s2 hq
    match r, hq with
    | .error _, hq => exact (show False from hq).elim
    | .ok (.ret _), hq => exact I1.after hq
    | .ok .next, hq => exact False.elim hq
    | .ok .brk, hq => exact False.elim hq
    | .ok .cont, hq => exact False.elim hq
def tAct (q : Str) (f c' : Addr) (i : Nat) (t : TE) : TE := fun σ H Q => σ[i]? = some (some (.ref f)) ∧ H c' = some (CodeO c' q) ∧ t σ H Q
/-- v(), v a name that keeps a lambda; nothing is raised -/
theorem pe_act0 {t : TE} (kp : KeptL X ps b sc f c') (hN : X.N[i]? = some v) (hv : Vis X.env.scope v) (hr : Room (k + 1) X.A) (L : LamS X.env.scope sc)
    (hbind : ∀ (q : Str) (cl : List (Str × Addr)) (pm cv ctv : Value), bindArgs (PySem.W.kla_fn "<lambda>" q ps b sc cl pm cv ctv) ⟨[], []⟩ = pure [])
    (hbody : ∀ (A : Around) (outer : List Env) (s : Shared) (H : Hp), Room k (A.deeper (LamX.lamEnv X sc s.heap.objs.size f c')) → PE (LamX.lamCx X A outer s H E0 sc f c') b t)
    (hd2 : (v == ("__debug__" : Str)) = false := by decide) (hcd2 : (v == ("__classdict__" : Str)) = false := by decide) : PE X (.Call (.Name v p) [] [] pos) (tAct (X.env.qual ++ "<lambda>") f c' i t) := by
  constructor
  intro pins s σ H Q I ⟨w1, w2, w3⟩
  have ev := (pe_var (pos := p) hN hv hd2 hcd2).run pins s σ H (fun z H1 => z = .ref f ∧ H1 = H) I ⟨.ref f, w1, rfl, rfl⟩
  refine wpAny_Call_Name_kw (thn ev ?_)
  rintro val s1 ⟨z, H1, I1, rz, ez, eH⟩
  subst ez eH
  obtain rfl : val = Value.ref f := rz
  obtain ⟨pm1, ct1, g1, g2, g3⟩ := kp.at I1
  obtain ⟨⟨oc, vs, tk, k1, k2, k3⟩, _, _⟩ := I1.hok c' _ w2
  refine PySem.W.callWith_F0 ⟨_, _, _, _, g1⟩ (wpAny_call (codeAny_mono (R := CR (L2.CX X.prog X.w) X.stack X.prog X.w H1 s1 Q E0) ?_ ?_))
  · refine PySem.W.kla_callFunE hr.depth g1 rfl L.co L.gen rfl ⟨c', oc, vs, tk, rfl, k1, k2, k3⟩ ?_
    rw [show ([] : List Value) ++ [] = [] from rfl, hbind]
    refine wpAny_pure (wpAny_newFunctionEnv (fun y hy => (L.own y hy).2) (fun y hy => absurd hy (by simp)) (fun h1 n1 n2 => ⟨I1.nolimit.fresh _ n2, ?_⟩) L.kind)
    have kk : ∀ a o, s1.heap.get? a = some o → h1.get? a = some o := fun a o e => n2.extBut a o (Nat.ne_of_lt (Heap.lt_size e)) (Heap.get?_push_of_some _ e)
    have J := LamX.lam_start2 (E := E0) (f := f) (c' := c') (tk := s1.toks + ([] : List (Str × Value)).length) I1 L I1.env0 hr.hd Un.refl n1 kk
    refine PySem.W.kla_codeExpr (wpAny_mono ((hbody _ _ s1 H1 (hr.deeper _)).run [] _ _ H1 Q J w3) ?_ fun e s' hq => hq)
    rintro r s' ⟨z, H', J', rz, q⟩
    exact ⟨z, H', J'.os, J'.bare, J'.base, J'.hok, rz, q⟩
  · intro r s2 hq
    match r, hq with
    | .error _, hq =>
      obtain ⟨_, _, _, _, _, _, _, _, _, _, _, _, hE⟩ := hq
      exact False.elim hE
    | .ok (.ret _), hq => exact I1.after hq
    | .ok .next, hq => exact False.elim hq
    | .ok .brk, hq => exact False.elim hq
    | .ok .cont, hq => exact False.elim hq
end
end Tw

set_option maxHeartbeats 400000
/-! a lambda with parameters that is handed to a def as its third value, and called there by the parameter's name -/
namespace Tw
open PySem PySem.Spec PyProof.Rows L2
open LamX (ExtN Tabs TabB CodeO)
open NdefX (NF NScope CellsAt startF ncx Caps slotAt)
/-- the lambda as the layer's nested functions tell of theirs -/
abbrev parF (X : Cx) (pr : Arguments) (sc : Scope) (c' : Addr) : NF := ⟨"<lambda>", X.env.qual ++ "<lambda>", pr, [], sc, cloFrom X.env.cells sc.names [], c'⟩
section
variable {X : Cx} {pr : Arguments} {b : Expr} {sc : Scope} {f c' : Addr} {pm ct : Value} {N ps fr : List Str} {A : Around} {outer : List Env} {s : Shared} {H : Hp} {us : List Value} {vs : List V} {ws : List (Option V)} {Q : VK} {k : Nat} {t : TE}
/-- its run: the parameters' values, and what the captured cells hold -/
theorem par_run (S : NScope N ps fr sc) (here : s.heap.get? f = some (lamAt X pr b sc c' pm ct)) (known : s.heap.CodeRec (.ref c') (X.env.qual ++ "<lambda>")) (room : Room (k + 1) A) (e0 : Env0 X.prog X.w X.K X.mg X.base A outer s H)
    (C : CellsAt (cloFrom X.env.cells sc.names []) fr ws s.heap H) (r : Vals vs us) (many : vs.length = ps.length) (bind : bindArgs (PySem.W.kla_fn "<lambda>" (X.env.qual ++ "<lambda>") pr b sc (cloFrom X.env.cells sc.names []) pm (.ref c') ct) ⟨us, []⟩ = pure (ps.zip us))
    (body : Room k (A.deeper (NdefX.envF (parF X pr sc c') f s.heap.objs.size)) → PE (ncx CX0 X.prog X.w X.K X.mg X.base N (parF X pr sc c') f A outer s H E0) b t) (h : t (startF N vs ws) H Q) :
    codeAny (model X.prog X.w) A (.call (.ref f) ⟨us, []⟩) (CR CX0 outer X.prog X.w H s Q E0) s := by
  have free_ := e0.mod.nolimit.keeps fun a o z => (e0.bs a o z).1
  refine PySem.W.kla_callFunE room.depth here rfl S.co S.gen rfl known ?_
  rw [bind]
  refine wpAny_pure (wpAny_newFunctionEnv S.nocell (fun y hy => S.par y.1 (List.of_mem_zip (a := y.1) (b := y.2) hy).1) (fun h1 named new => ⟨free_.fresh _ new, ?_⟩) S.kind)
  have J := NdefX.inv_startN (E := E0) (CX := CX0) (f := f) (F := parF X pr sc c') (tk := s.toks + (ps.zip us).length) S room.hd e0 many r C named fun a o z => new.extBut a o (Nat.ne_of_lt (Heap.lt_size z)) (Heap.get?_push_of_some _ z)
  refine PySem.W.kla_codeExpr (wpAny_mono ((body (room.deeper _)).run [] _ _ H Q J h) ?_ fun _ _ z => z)
  rintro u s1 ⟨v, H1, J1, rv, q⟩
  exact ⟨v, H1, J1.os, J1.bare, J1.base, J1.hok, rv, q⟩
end
/-- captured cells hold still, whatever happens to the frames -/
theorem cells_un {cl : List (Str × Addr)} {fr : List Str} {ws : List (Option V)} {fs ex : List Addr} {H H' : Hp} {h h' : Heap} (C : CellsAt cl fr ws h H) (un : Un fs ex H H' h h') (hx : ∀ a, a ∉ ex) : CellsAt cl fr ws h' H' := by
  have still : ∀ {a : Addr} {v : Option Value}, H a = none → h.IsCell a v → h'.IsCell a v := fun {a v} n ⟨o, ho, hd⟩ =>
    let ⟨_, there⟩ := un.any ho n (hx a)
    ⟨_, there, hd⟩
  refine { len := C.len, inj := C.inj, all := fun y a e => ?_, has := fun i y e => ?_ }
  · obtain ⟨n, v, z⟩ := C.all y a e
    have z2 := still n z
    obtain ⟨o, ho, _⟩ := z
    exact ⟨un.free a o ho n (hx a), v, z2⟩
  · obtain ⟨a, ha, hv⟩ := C.has i y e
    exact ⟨a, ha, fun v ev => (hv v ev).imp fun u z => ⟨z.1, still (C.all y a ha).1 z.2⟩⟩
/-- the context of the def that is handed the lambda -/
abbrev toldCx (X : Cx) (Ng : List Str) (x : Str) (sg : Scope) (g : Addr) (cdg : Value) (s : Shared) (H : Hp) : Cx := (cxOf CX0 X.prog X.w X.K X.mg X.base Ng x sg g cdg X.A X.stack s H E0).nox
/-- what the def does with it: TT tells, from the two values ahead and the lambda's reading tl -/
def GivesP (X : Cx) (Ng : List Str) (x : Str) (sg : Scope) (g : Addr) (cdg : Value) (bg : List Stmt) (a : Str) (i : Nat) (q : Str) (TT : V → V → (V → Hp → VK → Prop) → Hp → VK → Prop) : Prop :=
  ∀ (f c' : Addr) (s : Shared) (H : Hp) (Q : VK) (v1 v2 : V) (tl : V → Hp → VK → Prop),
    (∀ (e : Expr) (te : TE) (p1 p2 : Pos), PE (toldCx X Ng x sg g cdg s H) e te → starEach [e] (toldCx X Ng x sg g cdg s H).env = (false, eval e (toldCx X Ng x sg g cdg s H).env) :: starEach [] (toldCx X Ng x sg g cdg s H).env →
      PE (toldCx X Ng x sg g cdg s H) (.Call (.Name a p1) [e] [] p2) (fun σ1 H1 Q1 => σ1[i]? = some (some (.ref f)) ∧ te σ1 H1 fun v H2 => H2 c' = some (CodeO c' q) ∧ tl v H2 Q1)) →
    H c' = some (CodeO c' q) → TT v1 v2 tl H Q →
    ∃ t, PSs (toldCx X Ng x sg g cdg s H) bg t ∧ t { nx := fun _ H' => Q .non H', rt := Q } (L2.start Ng [v1, v2, .ref f]) H
def tHandP (T : List (Addr × Str)) (N : List Str) (js : List Nat) (TT : V → V → (V → Hp → VK → Prop) → Hp → VK → Prop) (t1 t2 tb : TE) : TE := fun σ H Q => t1 σ H fun v1 H1 => t2 σ H1 fun v2 H2 => Tabs T H2 ∧
  ∀ H3, ExtN H2 H3 → Tabs T H3 → TT v1 v2 (fun v H' Q' => tb (startF N [v] (js.map (slotAt σ))) H' Q') H3 Q
section
variable {X : Cx} {pr : Arguments} {b : Expr} {sc : Scope} {N fr : List Str} {y : Str} {js : List Nat} {T : List (Addr × Str)} {c Pt : Addr} {k i : Nat} {x a : Str} {g : Addr} {ag : Arguments} {bg : List Stmt} {sg : Scope} {dV kV doc pm cdv ct oc : Value} {an od : Option Addr}
  {osl : Array (Option Value)} {Ng pg : List Str} {TT : V → V → (V → Hp → VK → Prop) → Hp → VK → Prop} {t1 t2 tb : TE} {e1 e2 : Expr} {p lp pos : Pos}
/-- x(e1, e2, lambda y: b) -/
theorem pe_handP (hg : Gl X x) (hm : X.mg x = some (.ref g)) (hk : PySem.W.keepIn X.K (.ref g) = true) (lk : X.K.lookup g = some ⟨oc, od, .func (PySem.W.fnOf x x ag bg sg dV kV doc pm an cdv ct), osl⟩) (hcg : PySem.W.codeIn X.K cdv x = true)
    (hb : L2.Binds X.K (PySem.W.fnOf x x ag bg sg dV kV doc pm an cdv ct) pg []) (Sg : FnScope Ng pg sg) (h3 : pg.length = 3) (hNg : Ng[i]? = some a) (hva : Vis sg a) (hG : GivesP X Ng x sg g cdv bg a i (X.env.qual ++ "<lambda>") TT)
    (TB : TabB X.base X.mg c Pt) (hcode : X.env.code = .ref c) (hmT : (Pt, X.env.qual ++ "<lambda>") ∈ T) (hu : ∀ z ∈ T, z.1 = Pt → z.2 = X.env.qual ++ "<lambda>") (room : Room (k + 2) X.A) (S : NScope N [y] fr sc) (look : NdefX.ndefB X.env.scope sc fr = true) (hjs : js.map (fun j => X.N[j]?) = fr.map some)
    (h1 : PE X e1 t1) (h2 : PE X e2 t2)
    (hbody : ∀ (A : Around) (outer : List Env) (s : Shared) (H : Hp) (f c' : Addr), Room k (A.deeper (NdefX.envF (parF X pr sc c') f s.heap.objs.size)) → PE (ncx CX0 X.prog X.w X.K X.mg X.base N (parF X pr sc c') f A outer s H E0) b tb)
    (hdef : defaultsOf pr X.env = ([], []) := by rfl) (hbind : ∀ (q : Str) (cl : List (Str × Addr)) (pm cv ctv u : Value), bindArgs (PySem.W.kla_fn "<lambda>" q pr b sc cl pm cv ctv) ⟨[u], []⟩ = pure [(y, u)] := by intros; rfl)
    (hdb : (x == ("__debug__" : Str)) = false := by decide) (hd : (a == ("__debug__" : Str)) = false := by decide) (hcd : (a == ("__classdict__" : Str)) = false := by decide)
    (f1 : starEach [e1, e2, .Lambda pr b sc lp] X.env = (false, eval e1 X.env) :: starEach [e2, .Lambda pr b sc lp] X.env := by rfl) (f2 : starEach [e2, .Lambda pr b sc lp] X.env = (false, eval e2 X.env) :: starEach [.Lambda pr b sc lp] X.env := by rfl) :
    PE X (.Call (.Name x p) [e1, e2, .Lambda pr b sc lp] [] pos) (tHandP T N js TT t1 t2 tb) := by
  constructor
  intro pins s σ H Q I w
  have plain : (backTo pos (starEach [e2, .Lambda pr b sc lp] X.env)).any (·.1) = false := by
    rw [f2]
    rfl
  refine wpAny_Call_Name_kw (ld_glob I hg hm (PySem.W.callWith_K (first := []) (h₀ := X.base) I.ok.mod.kin hk ?_ f1 plain) hdb)
  rw [f1, f2]
  show wpAny _ _ (spliced ((false, eval e1 X.env) :: (false, eval e2 X.env) :: (false, eval (.Lambda pr b sc lp) X.env) :: backTo pos (starEach [] X.env))) _ _ _
  refine Calls.spliced_cons (thn (h1.run pins _ σ H _ (I.tok _) w) ?_)
  rintro u1 s1 ⟨v1, H1, I1, r1, w1⟩
  refine Calls.spliced_cons (thn (h2.run pins s1 σ H1 _ I1 w1) ?_)
  rintro u2 s2 ⟨v2, H2, I2, r2, tabs, w2⟩
  refine Calls.spliced_cons (LamX.lam_make2 I2 TB hcode hmT hu tabs hdef (fun y hy e => ?_) ?_)
  · rcases NdefX.ndef_free look y hy e with z | z
    · exact I2.ok.has _ (.inl z)
    · exact I2.ok.has _ (.inr z)
  intro f c' pm1 ct1 H3 s3 I3 grown tabs3 here untold nofr known
  refine Calls.spliced_nil ⟨I3.kIn, ?_⟩
  have C0 := NdefX.cells_of I3 (Caps.made I3.ok (NdefX.ndef_free look) (NdefX.ndef_fr look) hjs)
  refine wpAny_call (codeAny_mono (LamX.run_ofS (CX := CX0) (Q := Q) (E := E0) (k := k + 1) (N := Ng) (us := [u1, u2, .ref f]) (vs := [v1, v2, .ref f]) lk hcg Sg room I3.env0 (hb s3 [u1, u2, .ref f] I3.kIn h3.symm) (.cons r1 (.cons r2 (.cons rfl .nil))) h3.symm ?_) ?_)
  · intro room2
    refine (hG f c' s3 H3 Q v1 v2 (fun v H' Q' => tb (startF N [v] (js.map (slotAt σ))) H' Q') (fun e te q1 q2 he hst => ⟨?_⟩) known (w2 H3 grown tabs3)).imp fun t z => ⟨z.1.nox, z.2⟩
    intro pinsZ sZ σZ HZ QZ IZ ⟨slot, wz⟩
    refine wpAny_Call_Name_kw (thn ((pe_var (pos := q1) hNg hva hd hcd).run pinsZ sZ σZ HZ (fun z H' => z = .ref f ∧ H' = HZ) IZ ⟨.ref f, slot, rfl, rfl⟩) ?_)
    rintro u s4 ⟨z, H4, I4, rz, ez, eH⟩
    subst ez eH
    obtain rfl : u = Value.ref f := rz
    have stays : ∀ {s5 : Shared} {H5 : Hp}, Inv (toldCx X Ng x sg g cdv s3 H3) pinsZ σZ H5 s5 → s5.heap.get? f = some (lamAt X pr b sc c' pm1 ct1) := fun J => J.base.keep f _ here untold nofr (fun z => nomatch (show f ∈ ([] : List Addr) from z))
    refine PySem.W.callWith_F (first := []) ⟨_, _, _, _, stays I4⟩ (thn ((pa_cons he pa_nil hst).run q2 pinsZ s4 σZ H4 (fun vs H' => match vs with
      | [v] => H' c' = some (CodeO c' (X.env.qual ++ "<lambda>")) ∧ tb (startF N [v] (js.map (slotAt σ))) H' QZ
      | _ => False) I4 wz) ?_) hst rfl
    rintro us s5 ⟨vs, H5, I5, rv, w5⟩
    refine ⟨⟨_, _, _, _, stays I5⟩, ?_⟩
    match vs, us, rv, w5 with
    | [v], [u], rv, ⟨kn, w6⟩ =>
      have e5 : Env0 X.prog X.w X.K X.mg X.base (toldCx X Ng x sg g cdv s3 H3).A (toldCx X Ng x sg g cdv s3 H3).stack s5 H5 := I5.env0
      have known5 : s5.heap.CodeRec (.ref c') (X.env.qual ++ "<lambda>") := NdefX.codeO_at I5.hok kn
      have C5 : CellsAt (cloFrom X.env.cells sc.names []) fr (js.map (slotAt σ)) s5.heap H5 := cells_un C0 I5.base fun a z => nomatch (show a ∈ ([] : List Addr) from z)
      have ran := par_run (X := X) (pr := pr) (b := b) (sc := sc) (f := f) (c' := c') (pm := pm1) (ct := ct1) (N := N) (ps := [y]) (fr := fr) (A := (toldCx X Ng x sg g cdv s3 H3).A) (outer := (toldCx X Ng x sg g cdv s3 H3).stack) (s := s5) (H := H5) (us := [u]) (vs := [v]) (ws := js.map (slotAt σ)) (Q := QZ) (k := k) (t := tb) S (stays I5) known5 room2 e5 C5 rv rfl (hbind _ _ _ _ _ _) (fun r6 => hbody _ _ _ _ _ _ r6) w6
      refine wpAny_call (codeAny_mono ran ?_)
      intro r s6 hq
      match r, hq with
      | .error _, hq => exact hq.elim
      | .ok (.ret _), hq => exact I5.after hq
      | .ok .next, hq => exact False.elim hq
      | .ok .brk, hq => exact False.elim hq
      | .ok .cont, hq => exact False.elim hq
  · intro r s4 hq
    match r, hq with
    | .error _, hq => exact hq.elim
    | .ok (.ret _), hq => exact I3.after hq
    | .ok .next, hq => exact False.elim hq
    | .ok .brk, hq => exact False.elim hq
    | .ok .cont, hq => exact False.elim hq
end
/-! an own exception class that is made without values -/
section
variable {b : Bs} {X : Cx} {o e : Expr} {es : List Expr} {to te : TE} {ta : TA} {f x : Str} {p p' p1 p2 pos : Pos} {pl : Sem Bool}
theorem pmk_b0 {k j : Nat} {C : Addr} {sp : Sp} (c : MkB b X.prog X.w X.K X.mg X.base k x C sp) (hr : Room j X.A) (hk : k + 1 ≤ j) (hg : Gl X x) (hdb : (x == ("__debug__" : Str)) = false := by decide) : PMk X (.Call (.Name x p) [] [] pos) (tMkO C sp [] tNil) := by
  rintro pins ⟨hp, g, d, t, os⟩ σ H Q I1 ⟨few, q⟩
  obtain ⟨init, fd, ps, T, at_, F0, hm, bnd⟩ := c.ex
  have F := F0.raw bnd .nil
  refine wpAny_Call_Name_kw (ld_glob I1 hg hm (PySem.W.callWith_K0 (first := []) I1.kIn T.keep ?_) hdb)
  obtain ⟨_, _, _, _, _, _, _, _, _, _, _, _, _, _, _, _, cls, line⟩ := PySem.W.excInit_of I1.kIn T.makes
  have next := Nat.le_succ hp.objs.size
  have kept : ∀ c o, hp.get? c = some o → ((hp.push (PySem.W.kdv_tup [])).push (PySem.HandSPX.excO C hp.objs.size)).get? c = some o := fun c o z => Heap.get?_push_of_some _ (Heap.get?_push_of_some _ z)
  have I2 := I1.laid (h' := (hp.push (PySem.W.kdv_tup [])).push (PySem.HandSPX.excO C hp.objs.size)) (t' := t) (o := exo (hp.objs.size + 1) C none) kept next (exo_ok (t1 := hp.objs.size) (by heap_get))
  have fits : ([] : List Value).length ≤ sizeLine := Nat.zero_le _
  have ran := F _ X.stack _ _ [.ref (hp.objs.size + 1)] [.ref (hp.objs.size + 1)] _ E0 ((hr.mono hk).make C [] []) (I2.env0.make C [] []) (.cons rfl .nil) (q _ (I1.hok.fresh next))
  refine wpAny_call (PySem.HandSPX.call_own T.ok.fac line cls (PySem.W.looks_findIn I1.kIn at_.find) (fun self => PySem.W.bind_fn I1.kIn self at_.fn) fits (codeAny_mono ran ?_))
  rintro (_ | (_ | _ | _ | _)) ⟨h2, g2, d2, t2, os2⟩ z <;> first
    | exact False.elim z
    | (obtain ⟨_, H2, os', bare, un, hok, rv, rfl, dd, fs, ea, ed, new, q2⟩ := z
       exact ⟨rv, mk_end (raises_own T.exc T.typ) I1 next kept un hok os' bare ea ed new q2⟩)
end
end Tw

set_option maxHeartbeats 4000000
/-! functions that are handed back from the def that makes them: the function, its code, and the cells that it captured stand in the told heap; while it runs, its cells do not -/
namespace Tw
open PySem PySem.Spec PyProof.Rows L2
open LamX (ExtN Tabs TabB CodeO)
open NdefX (NF NScope CellsAt startF ncx Caps slotAt FnO)
/-- a captured cell and what it holds -/
def CellO (c : Addr) (v : V) : HO := .ext fun h => ∃ u, RelV v u ∧ h.IsCell c (some u)
abbrev Cels := Addr → Option V
def putC (cs : Cels) (H : Hp) : Hp := fun b => match cs b with
  | some v => some (CellO b v)
  | none => H b
def cutC (cs : Cels) (H : Hp) : Hp := fun b => match cs b with
  | some _ => none
  | none => H b
section
variable {cs : Cels} {H : Hp} {b : Addr} {v : V}
theorem putC_in (e : cs b = some v) : putC cs H b = some (CellO b v) := by unfold putC; rw [e]
theorem putC_out (e : cs b = none) : putC cs H b = H b := by unfold putC; rw [e]
theorem cutC_in (e : cs b = some v) : cutC cs H b = none := by unfold cutC; rw [e]
theorem cutC_out (e : cs b = none) : cutC cs H b = H b := by unfold cutC; rw [e]
theorem cutC_some {o : HO} (e : cutC cs H b = some o) : cs b = none ∧ H b = some o := by
  cases q : cs b with
  | none => exact ⟨rfl, by rw [cutC_out q] at e; exact e⟩
  | some v =>
    rw [cutC_in q] at e
    cases e
theorem cutC_none (e : H b = none) : cutC cs H b = none := by
  cases q : cs b with
  | none => rw [cutC_out q]; exact e
  | some v => exact cutC_in q
theorem cellO_own {x : Addr} : CellO b v ≠ .own x := fun z => by
  have z : HO.ext _ = HO.own x := z
  cases z
theorem cellO_tup {xs : List V} : CellO b v ≠ .tup xs := fun z => by
  have z : HO.ext _ = HO.tup xs := z
  cases z
end
section
variable {P : Program} {w : World} {cs : Cels} {H H' : Hp} {h h' : Heap}
/-- what may be laid beside: cells that were not told of -/
def CelsAt (cs : Cels) (H : Hp) (h : Heap) : Prop := ∀ b v, cs b = some v → H b = none ∧ ∃ u, RelV v u ∧ h.IsCell b (some u)
/-- what stands told -/
def CelsIn (cs : Cels) (H : Hp) : Prop := ∀ b v, cs b = some v → H b = some (CellO b v)
theorem hok_put (ok : HOk P w H h) (c : CelsAt cs H h) : HOk P w (putC cs H) h := fun a o e => by
  have out : ∀ {b : Addr} {x : HO}, H b = some x → cs b = none := fun {b x} z => by
    cases q : cs b with
    | none => rfl
    | some v =>
      rw [(c b v q).1] at z
      cases z
  cases q : cs a with
  | some v =>
    rw [putC_in q] at e
    cases e
    obtain ⟨_, u, r, z⟩ := c a v q
    exact ⟨⟨u, r, z⟩, z.imp fun _ y => y.1, fun h1 h2 ⟨u1, r1, o1, g1, d1⟩ k => ⟨u1, r1, o1, k _ g1, d1⟩⟩
  | none =>
    rw [putC_out q] at e
    exact (ok a o e).stay (fun _ _ _ z => z) (fun b z => by rw [putC_out (out z)]; exact z) fun b xs z => by rw [putC_out (out z)]; exact z
theorem hok_cut (ok : HOk P w H h) (c : CelsIn cs H) : HOk P w (cutC cs H) h := fun a o e => by
  obtain ⟨q, e⟩ := cutC_some e
  refine (ok a o e).stay (fun _ _ _ z => z) (fun b z => ?_) fun b xs z => ?_
  · cases q2 : cs b with
    | none => rw [cutC_out q2]; exact z
    | some v =>
      rw [c b v q2] at z
      exact absurd (Option.some.inj z) cellO_own
  · cases q2 : cs b with
    | none => rw [cutC_out q2]; exact z
    | some v =>
      rw [c b v q2] at z
      exact absurd (Option.some.inj z) cellO_tup
theorem env0_cut {K : PySem.W.Frag} {mg : Str → Option Value} {base : Heap} {A : Around} {outer : List Env} {s : Shared} (e : Env0 P w K mg base A outer s H) (c : CelsIn cs H) : Env0 P w K mg base A outer s (cutC cs H) :=
  ⟨e.frames, e.mod, fun b o z => ⟨(e.bs b o z).1, cutC_none (e.bs b o z).2⟩, e.bsz, e.funs, fun b z => cutC_none (e.frf b z), hok_cut e.hok c, e.bare⟩
/-- the cells stay as they are while they are not told of -/
theorem cels_un {fs : List Addr} (c : CelsAt cs H h) (un : Un fs [] H H' h h') : CelsAt cs H' h' := fun b v e => by
  obtain ⟨n, u, r, o, g, d⟩ := c b v e
  obtain ⟨sl, z⟩ := un.any g n (fun y => nomatch y)
  exact ⟨un.free b o g n (fun y => nomatch y), u, r, _, z, d⟩
theorem cels_cut (ok : HOk P w H h) (c : CelsIn cs H) : CelsAt cs (cutC cs H) h := fun b v e => by
  obtain ⟨⟨u, r, z⟩, _⟩ := ok b _ (c b v e)
  exact ⟨cutC_in e, u, r, z⟩
/-- a run without them, seen with them -/
theorem un_put {fs : List Addr} (c : CelsIn cs H) (un : Un fs [] (cutC cs H) H' h h') : Un fs [] H (putC cs H') h h' := by
  have out : ∀ {b : Addr}, H b = none → cs b = none := fun {b} z => by
    cases q : cs b with
    | none => rfl
    | some v =>
      rw [c b v q] at z
      cases z
  have no : ∀ {b : Addr} {o : HO}, (∀ v, o ≠ CellO b v) → H b = some o → cs b = none := fun {b o} n z => by
    cases q : cs b with
    | none => rfl
    | some v =>
      rw [c b v q] at z
      exact absurd (Option.some.inj z).symm (n v)
  refine ⟨fun b o e n f x => un.keep b o e (cutC_none n) f x, fun b o e n f x => un.slot b o e (cutC_none n) f x, fun b o e n x => ?_, un.there, fun b xs e => ?_, fun b o u e => ?_, fun b ps e => ?_⟩
  · rw [putC_out (out n)]
    exact un.free b o e (cutC_none n) x
  · have q := no (fun v z => cellO_tup z.symm) e
    rw [putC_out q]
    exact un.tups b xs (by rw [cutC_out q]; exact e)
  · have q := no (fun v z => by have z : HO.frz o u = HO.ext _ := z; cases z) e
    rw [putC_out q]
    exact un.frzs b o u (by rw [cutC_out q]; exact e)
  · have q := no (fun v z => by have z : HO.tbl ps = HO.ext _ := z; cases z) e
    rw [putC_out q]
    exact un.tbls b ps (by rw [cutC_out q]; exact e)
/-- .. and where they are told of behind it only -/
theorem un_new {fs : List Addr} (c : ∀ b v, cs b = some v → ∀ o, h.get? b ≠ some o) (hn : ∀ b v, cs b = some v → H b = none) (un : Un fs [] H H' h h') : Un fs [] H (putC cs H') h h' := by
  have out : ∀ {b : Addr} {o : HO}, H b = some o → cs b = none := fun {b o} z => by
    cases q : cs b with
    | none => rfl
    | some v =>
      rw [hn b v q] at z
      cases z
  refine ⟨un.keep, un.slot, fun b o e n x => ?_, un.there, fun b xs e => ?_, fun b o u e => ?_, fun b ps e => ?_⟩
  · cases q : cs b with
    | none => rw [putC_out q]; exact un.free b o e n x
    | some v => exact absurd e (c b v q o)
  · rw [putC_out (out e)]; exact un.tups b xs e
  · rw [putC_out (out e)]; exact un.frzs b o u e
  · rw [putC_out (out e)]; exact un.tbls b ps e
end
/-- how a function's captured names lie to the cells: ws what they hold -/
structure Cap (cl : List (Str × Addr)) (fr : List Str) (ws : List V) (cs : Cels) : Prop where
  len : ws.length = fr.length
  inj : ∀ x y c, cl.lookup x = some c → cl.lookup y = some c → x = y
  sub : ∀ y c, cl.lookup y = some c → y ∈ fr
  rel : ∀ (i : Nat) (y : Str), fr[i]? = some y → ∃ c v, cl.lookup y = some c ∧ ws[i]? = some v ∧ cs c = some v
section
variable {cl : List (Str × Addr)} {fr : List Str} {ws : List V} {cs : Cels} {H : Hp} {h : Heap}
theorem Cap.at_ (C : Cap cl fr ws cs) (c : CelsAt cs H h) : CellsAt cl fr (ws.map some) h H := by
  refine ⟨by rw [List.length_map]; exact C.len, fun y a e => ?_, C.inj, fun i y e => ?_⟩
  · obtain ⟨i, hi⟩ := List.mem_iff_getElem?.mp (C.sub y a e)
    obtain ⟨a2, v, e2, _, e3⟩ := C.rel i y hi
    rw [e] at e2
    cases e2
    obtain ⟨n, u, _, z⟩ := c a v e3
    exact ⟨n, _, z⟩
  · obtain ⟨a, v, e2, e3, e4⟩ := C.rel i y e
    refine ⟨a, e2, fun v2 z => ?_⟩
    rw [List.getElem?_map, e3] at z
    cases z
    obtain ⟨_, u, r, q⟩ := c a v e4
    exact ⟨u, r, q⟩
open Classical in
/-- the cells of a function that is just made -/
theorem cap_of (C : CellsAt cl fr (ws.map some) h H) (nd : fr.Nodup) (sub : ∀ y c, cl.lookup y = some c → y ∈ fr) : ∃ cs : Cels, Cap cl fr ws cs ∧ CelsAt cs H h ∧ ∀ b v, cs b = some v → ∃ y, cl.lookup y = some b := by
  have len : ws.length = fr.length := by
    have := C.len
    rwa [List.length_map] at this
  let φ : Addr → V → Prop := fun b v => ∃ (i : Nat) (y : Str), fr[i]? = some y ∧ cl.lookup y = some b ∧ ws[i]? = some v
  refine ⟨fun b => if q : ∃ v, φ b v then some (Classical.choose q) else none, ⟨len, C.inj, sub, fun i y e => ?_⟩, fun b v e => ?_, fun b v e => ?_⟩
  · obtain ⟨c, ec, _⟩ := C.has i y e
    have li : i < ws.length := by rw [len]; exact (List.getElem?_eq_some_iff.mp e).1
    have ev : ws[i]? = some ws[i] := List.getElem?_eq_getElem li
    have q : ∃ v, φ c v := ⟨_, i, y, e, ec, ev⟩
    refine ⟨c, ws[i], ec, ev, ?_⟩
    show (if q : ∃ v, φ c v then some (Classical.choose q) else none) = _
    rw [dif_pos q]
    obtain ⟨i2, y2, e2, ec2, ev2⟩ := Classical.choose_spec q
    have : y2 = y := C.inj y2 y c ec2 ec
    subst this
    have : i2 = i := nodup_ix nd e2 e
    subst this
    rw [ev] at ev2
    exact ev2.symm
  · have e : (if q : ∃ v, φ b v then some (Classical.choose q) else none) = some v := e
    by_cases q : ∃ v, φ b v
    · rw [dif_pos q] at e
      cases e
      obtain ⟨i, y, e1, e2, e3⟩ := Classical.choose_spec q
      refine ⟨(C.all y b e2).1, ?_⟩
      obtain ⟨c, ec, hv⟩ := C.has i y e1
      rw [e2] at ec
      cases ec
      exact hv _ (by rw [List.getElem?_map, e3]; rfl)
    · rw [dif_neg q] at e
      cases e
  · have e : (if q : ∃ v, φ b v then some (Classical.choose q) else none) = some v := e
    by_cases q : ∃ v, φ b v
    · obtain ⟨i, y, e1, e2, e3⟩ := Classical.choose_spec q
      exact ⟨y, e2⟩
    · rw [dif_neg q] at e
      cases e
end
/-- a function that is held in a told heap: what it does when it is called there -/
structure Clo (P : Program) (w : World) (K : PySem.W.Frag) (mg : Str → Option Value) (base : Heap) (k : Nat) (f : Addr) (G : Hp → Prop) (sp : Sp) : Prop where
  fn : ∀ {h : Heap} {H : Hp}, HOk P w H h → G H → PySem.W.FnAt f h
  run : ∀ (A : Around) (outer : List Env) (s : Shared) (H : Hp) (us : List Value) (vs : List V) (Q : VK), Room k A → Env0 P w K mg base A outer s H → G H → Vals vs us → sp vs H Q E0 → codeAny (model P w) A (.call (.ref f) ⟨us, []⟩) (CR CX0 outer P w H s Q E0) s
/-- f(..), f a name that holds such a function -/
def tClo (i : Nat) (f : Addr) (G : Hp → Prop) (sp : Sp) (t : TA) : TE := fun σ H Q => σ[i]? = some (some (.ref f)) ∧ G H ∧ t σ H fun vs H1 => G H1 ∧ sp vs H1 Q E0
section
variable {X : Cx} {i j k : Nat} {f : Addr} {G : Hp → Prop} {sp : Sp} {x : Str} {p pos : Pos} {e : Expr} {es : List Expr} {t : TA}
theorem pe_clo (F : Clo X.prog X.w X.K X.mg X.base k f G sp) (hr : Room j X.A) (hk : k ≤ j) (hN : X.N[i]? = some x) (hv : Vis X.env.scope x) (ha : PA X (e :: es) t) (hd : (x == ("__debug__" : Str)) = false := by decide) (hcd : (x == ("__classdict__" : Str)) = false := by decide)
    (he : starEach (e :: es) X.env = (false, eval e X.env) :: starEach es X.env := by rfl) (hpl : (backTo pos (starEach es X.env)).any (·.1) = false := by rfl) : PE X (.Call (.Name x p) (e :: es) [] pos) (tClo i f G sp t) := by
  constructor
  rintro pins s σ H Q I ⟨at_, g, w⟩
  refine wpAny_Call_Name_kw (thn ((pe_var (pos := p) hN hv hd hcd).run pins s σ H (fun v H1 => v = .ref f ∧ H1 = H) I ⟨.ref f, at_, rfl, rfl⟩) ?_)
  rintro u s1 ⟨v, H1, I1, r1, ev, eH⟩
  subst ev eH
  obtain rfl : u = Value.ref f := r1
  refine PySem.W.callWith_F (first := []) (F.fn I1.hok g) (thn (ha.run pos pins s1 σ H1 _ I1 w) ?_) he hpl
  rintro us s2 ⟨vs, H2, I2, r, g2, q⟩
  refine ⟨F.fn I2.hok g2, ?_⟩
  refine wpAny_call (codeAny_mono (F.run X.A X.stack s2 H2 us vs Q (hr.mono hk) I2.env0 g2 r q) ?_)
  rintro (er | (_ | _ | _ | u)) s3 hq
  · exact False.elim hq
  · exact False.elim hq
  · exact False.elim hq
  · exact False.elim hq
  · exact I2.after hq
end
/-! ### lambdas -/
/-- a lambda as it stands behind the def that made it -/
structure LF where
  qual : Str
  pr : Arguments
  b : Expr
  sc : Scope
  cl : List (Str × Addr)
  c : Addr
abbrev LF.nf (F : LF) : NF := ⟨"<lambda>", F.qual, F.pr, [], F.sc, F.cl, F.c⟩
abbrev LF.obj (F : LF) (pm ct : Value) : Obj := PySem.W.kla_obj "<lambda>" F.qual F.pr F.b F.sc F.cl pm F.c ct
def LamO (f : Addr) (F : LF) : HO := .ext fun h => ∃ pm ct, h.get? f = some (F.obj pm ct)
/-- it stands told, with its cells -/
structure LamIn (f : Addr) (F : LF) (cs : Cels) (H : Hp) : Prop where
  fn : H f = some (LamO f F)
  code : H F.c = some (CodeO F.c F.qual)
  cels : CelsIn cs H
theorem LamIn.imp {f : Addr} {F : LF} {cs : Cels} {H H' : Hp} (g : LamIn f F cs H) (k : ∀ b φ, H b = some (.ext φ) → H' b = some (.ext φ)) : LamIn f F cs H' := ⟨k _ _ g.fn, k _ _ g.code, fun b v e => k _ _ (g.cels b v e)⟩
theorem lamIn_ext {f : Addr} {F : LF} {cs : Cels} {H H' : Hp} (g : LamIn f F cs H) (e : ExtN H H') : LamIn f F cs H' := g.imp fun b φ z => e b _ z fun ps q => by cases q
section
variable {P : Program} {w : World} {K : PySem.W.Frag} {mg : Str → Option Value} {base : Heap} {F : LF} {f : Addr} {cs : Cels} {N ps fr : List Str} {ws : List V} {k : Nat} {t : TE}
/-- what it does: by its body, over the told heap without its cells -/
def sp_lam (N : List Str) (ws : List V) (n : Nat) (cs : Cels) (t : TE) : Sp := fun vs H Q _ => vs.length = n ∧ t (startF N vs (ws.map some)) (cutC cs H) fun v H' => (∀ b v, cs b = some v → H' b = none) → Q v (putC cs H')
theorem lam_clo (C : Cap F.cl fr ws cs) (S : NScope N ps fr F.sc) (hbind : ∀ (pm ct : Value) (us : List Value), us.length = ps.length → bindArgs (PySem.W.kla_fn "<lambda>" F.qual F.pr F.b F.sc F.cl pm (.ref F.c) ct) ⟨us, []⟩ = pure (ps.zip us))
    (hbody : ∀ (A : Around) (outer : List Env) (s : Shared) (H : Hp), Room k (A.deeper (NdefX.envF F.nf f s.heap.objs.size)) → PE (ncx CX0 P w K mg base N F.nf f A outer s H E0) F.b t) : Clo P w K mg base (k + 1) f (LamIn f F cs) (sp_lam N ws ps.length cs t) := by
  refine ⟨fun {h H} ok g => ?_, fun A outer s H us vs Q room e0 g r h => ?_⟩
  · obtain ⟨⟨pm, ct, z⟩, _⟩ := ok f _ g.fn
    exact ⟨_, _, _, _, z⟩
  obtain ⟨many, h⟩ := h
  obtain ⟨⟨pm, ct, here⟩, _⟩ := e0.hok f _ g.fn
  have e1 := env0_cut e0 g.cels
  have ca := cels_cut e0.hok g.cels
  have known : s.heap.CodeRec (.ref F.c) F.qual := NdefX.codeO_at e0.hok g.code
  have lim := e0.mod.nolimit.keeps fun a o z => (e0.bs a o z).1
  have ul : us.length = ps.length := by rw [← r.length]; exact many
  refine PySem.W.kla_callFunE room.depth here rfl S.co S.gen rfl known ?_
  show wpAny _ _ (bindArgs (PySem.W.kla_fn "<lambda>" F.qual F.pr F.b F.sc F.cl pm (.ref F.c) ct) ⟨us, []⟩) _ _ _
  rw [hbind pm ct us ul]
  refine wpAny_pure (wpAny_newFunctionEnv S.nocell (fun y hy => S.par y.1 (List.of_mem_zip (a := y.1) (b := y.2) hy).1) (fun h1 named new => ⟨lim.fresh _ new, ?_⟩) S.kind)
  have J := NdefX.inv_startN (E := E0) (CX := CX0) (f := f) (F := F.nf) (tk := s.toks + (ps.zip us).length) S room.hd e1 many r (C.at_ ca) named fun a o z => new.extBut a o (Nat.ne_of_lt (Heap.lt_size z)) (Heap.get?_push_of_some _ z)
  refine PySem.W.kla_codeExpr (wpAny_mono ((hbody A outer s _ (room.deeper _)).run [] _ _ _ _ J h) ?_ fun _ _ z => z)
  rintro u s1 ⟨v, H1, J1, rv, q⟩
  have cn := cels_un ca J1.base
  exact ⟨v, putC cs H1, J1.os, J1.bare, un_put g.cels J1.base, hok_put J1.hok cn, rv, q fun b u e => (cn b u e).1⟩
end
/-! ### the def that hands a lambda back -/
theorem lamO_ne {f : Addr} {F : LF} (ps : Array Value) : LamO f F ≠ .tbl ps := fun z => by
  have z : HO.ext _ = HO.tbl ps := z
  cases z
section
variable {X : Cx} {pins : List (Addr × Obj)} {σ : L2.St} {H : Hp} {s : Shared}
/-- a lambda is made and told of: its code object is new, or the table tells it -/
theorem lam_told {T : List (Addr × Str)} {c Pt : Addr} {pr : Arguments} {b : Expr} {sc : Scope} {pos : Pos} {E : Value → Shared → Prop} {Q : Value → Shared → Prop} (I : Inv X pins σ H s) (TB : TabB X.base X.mg c Pt) (hcode : X.env.code = .ref c) (hm : (Pt, X.env.qual ++ "<lambda>") ∈ T)
    (hu : ∀ z ∈ T, z.1 = Pt → z.2 = X.env.qual ++ "<lambda>") (tabs : Tabs T H) (hdef : defaultsOf pr X.env = ([], [])) (hfree : ∀ y ∈ sc.names, y.2 = .free → ∃ c, X.env.cells.lookup y.1 = some c)
    (h : ∀ (f c' : Addr) (H1 : Hp) (s' : Shared), Inv X pins σ H1 s' → ExtN H H1 → Tabs T H1 → (∀ b, H1 b = none → H b = none) → H f = none → H1 f = some (LamO f ⟨X.env.qual ++ "<lambda>", pr, b, sc, cloFrom X.env.cells sc.names [], c'⟩) → H1 c' = some (CodeO c' (X.env.qual ++ "<lambda>")) → Q (.ref f) s') :
    wpAny (model X.prog X.w) X.A (eval (.Lambda pr b sc pos) X.env) Q E s := by
  obtain ⟨ps, tP, triples, told⟩ := tabs _ hm
  have bP := TB.bm.keeps I.bk
  have atP : s.heap.get? Pt = some { cls := .none, data := .fields ps } := I.hok Pt _ tP
  have fin : ∀ (h1 : Heap) (tk : Nat) (H1 : Hp) (c' : Addr) (pm ct : Value), Inv X pins σ H1 { s with heap := h1, toks := tk } → ExtN H H1 → Tabs T H1 → (∀ b, H1 b = none → H b = none) → H1 c' = some (CodeO c' (X.env.qual ++ "<lambda>")) →
      Q (.ref h1.objs.size) { s with heap := h1.push (PySem.W.kla_obj "<lambda>" (X.env.qual ++ "<lambda>") pr b sc (cloFrom X.env.cells sc.names []) pm c' ct), toks := tk } := fun h1 tk H1 c' pm ct I1 e1 t1 d1 k1 => by
    have nF : H1 h1.objs.size = none := I1.hok.fresh (Nat.le_refl _)
    have at_ := Heap.get?_push_size h1 (o := PySem.W.kla_obj "<lambda>" (X.env.qual ++ "<lambda>") pr b sc (cloFrom X.env.cells sc.names []) pm c' ct) rfl
    have J := I1.laid (t' := tk) (a := h1.objs.size) (o := LamO h1.objs.size ⟨X.env.qual ++ "<lambda>", pr, b, sc, cloFrom X.env.cells sc.names [], c'⟩) (h' := h1.push (PySem.W.kla_obj "<lambda>" (X.env.qual ++ "<lambda>") pr b sc (cloFrom X.env.cells sc.names []) pm c' ct)) (fun _ _ z => Heap.get?_push_of_some _ z) (Nat.le_refl _)
      ⟨⟨pm, ct, at_⟩, ⟨_, at_⟩, fun _ _ ⟨p2, c2, z⟩ k => ⟨p2, c2, k _ z⟩⟩
    refine h _ c' _ _ J (fun a o z n => (upd_ne (ne_of_none (e1 a o z n) nF)).trans (e1 a o z n)) (fun z hz => (t1 z hz).ext fun a o y => (upd_ne (ne_of_none y nF)).trans y) (fun a z => d1 a ?_) (d1 _ nF) upd_same ((upd_ne (ne_of_none k1 nF)).trans k1)
    by_cases q : a = h1.objs.size
    · rw [q]; exact nF
    · rwa [upd_ne q] at z
  refine PySem.W.kla_eval hdef ?_
  cases look : codeAmong pos ps.toList with
  | some cv =>
    obtain ⟨c', rfl, k⟩ := told pos cv look
    exact PySem.W.kla_makeFunctionHit (mg := X.mg) (c := c) (P := Pt) (ps := ps) (closure_ok hfree) I.ok.glob (I.mod.glob.keeps I.bk) hcode (TB.code.keeps I.bk) atP triples look bP fun ct h1 tk kept _ => fin h1 tk H c' _ ct (I.kept kept) (ExtN.refl H) tabs (fun _ z => z) k
  | none =>
    refine PySem.W.kla_makeFunction (mg := X.mg) (c := c) (P := Pt) (ps := ps) (closure_ok hfree) I.ok.glob (I.mod.glob.keeps I.bk) hcode (TB.code.keeps I.bk) atP triples look TB.gP bP fun c' ct h1 tk kept ge lt rec here => ?_
    obtain ⟨_, oc, vs, tt, e2, oc1, oc2, oc3⟩ := rec
    cases e2
    have nC : H c' = none := I.hok.fresh ge
    have I1 := LamX.inv_table (t' := tk) (more := #[rawInt pos.line, rawInt pos.col, .ref c']) (h' := h1) I tP kept here ge ⟨oc, vs, tt, oc1, oc2, oc3⟩
    have grows : ExtN H (upd (upd H Pt (.tbl (ps ++ #[rawInt pos.line, rawInt pos.col, .ref c']))) c' (CodeO c' (X.env.qual ++ "<lambda>"))) := fun a o z n =>
      (upd_ne (ne_of_none z nC)).trans ((upd_ne fun q => n ps (Option.some.inj (z.symm.trans (by rw [q]; exact tP)))).trans z)
    refine fin h1 tk _ c' _ ct I1 grows (fun z hz => ?_) (fun a q => NdefX.upd_none (NdefX.upd_none q)) upd_same
    by_cases zp : z.1 = Pt
    · have lst : (ps ++ #[rawInt pos.line, rawInt pos.col, .ref c']).toList = ps.toList ++ [rawInt pos.line, rawInt pos.col, .ref c'] := by simp
      rw [hu z hz zp, zp]
      refine ⟨_, (upd_ne (ne_of_none tP nC)).trans upd_same, by rw [lst]; exact PySem.TriplesOk_snoc _ _ _ _ triples, fun p2 cv q => ?_⟩
      rw [lst] at q
      rcases LamX.among_app _ triples q with q | q
      · exact (told p2 cv q).imp fun c0 y => ⟨y.1, grows _ _ y.2 LamX.codeO_ne⟩
      · exact ⟨c', q, upd_same⟩
    · obtain ⟨ps2, q1, q2, q3⟩ := tabs z hz
      exact ⟨ps2, (upd_ne (ne_of_none q1 nC)).trans ((upd_ne zp).trans q1), q2, fun p2 cv q => (q3 p2 cv q).imp fun c0 y => ⟨y.1, grows _ _ y.2 LamX.codeO_ne⟩⟩
end
theorem slot_start {N : List Str} {vs : List V} {j : Nat} (h : j < vs.length) : slotAt (start N vs) j = vs[j]? := by
  have e : (start N vs)[j]? = some (some vs[j]) := by
    show (vs.map some ++ _)[j]? = _
    rw [List.getElem?_append_left (by rw [List.length_map]; exact h), List.getElem?_map, List.getElem?_eq_getElem h]
    rfl
  rw [NdefX.slotAt_of e, List.getElem?_eq_getElem h]
section
variable {P : Program} {w : World} {K : PySem.W.Frag} {mg : Str → Option Value} {base : Heap} {x : Str} {params pr : Arguments} {b : Expr} {sc scope : Scope} {fd : FuncData} {N ps fr : List Str} {js : List Nat} {k : Nat} {T : List (Addr × Str)} {Pt : Addr} {lp pos : Pos}
/-- f is new, its cells are -/
def sp_mkl (T : List (Addr × Str)) (n : Nat) (fr : List Str) (js : List Nat) (q : Str) (pr : Arguments) (b : Expr) (sc : Scope) : Sp := fun vs H Q _ => ∃ ws : List V, vs.length = n ∧ Tabs T H ∧ js.map (fun j => vs[j]?) = ws.map some ∧
  ∀ (f : Addr) (F : LF) (cs : Cels) (H' : Hp), F.qual = q → F.pr = pr → F.b = b → F.sc = sc → Cap F.cl fr ws cs → LamIn f F cs H' → ExtN H H' → Tabs T H' → H f = none → (∀ c v, cs c = some v → H c = none) → Q (.ref f) H'
theorem fnlam_of (F : FunD K x x params [.Return (some (.Lambda pr b sc lp)) pos] scope [] [] (He.ga K x) fd) (S : FnScope N ps scope) (TB : TabB base mg (He.cT K (x, none)).1 Pt) (hmT : (Pt, (x ++ ".<locals>.") ++ "<lambda>") ∈ T) (hu : ∀ z ∈ T, z.1 = Pt → z.2 = (x ++ ".<locals>.") ++ "<lambda>")
    (look : NdefX.ndefB scope sc fr = true) (nd : fr.Nodup) (sub : ∀ y ∈ sc.names, y.2 = .free → y.1 ∈ fr) (hjs : js.map (fun j => N[j]?) = fr.map some) (hps : ∀ j ∈ js, j < ps.length) (hcell : ∀ y ∈ fr, scope.names.lookup y = some .cell)
    (hdef : ∀ env : Env, defaultsOf pr env = ([], []) := by intro; rfl) : FnOk P w K mg base CX0 (k + 1) (He.ga K x) fd ps (sp_mkl T ps.length fr js ((x ++ ".<locals>.") ++ "<lambda>") pr b sc) := by
  obtain ⟨_, _, _, _, _, _, _, cdv, _, _, rfl, lk, known, _, _⟩ := F.ex
  obtain ⟨cc, rfl⟩ := He.codeIn_ref known
  obtain rfl : He.codeOf K (x, none) = cc := He.codeOf_eq lk rfl
  refine ⟨fun vs H Q E h => h.elim fun _ z => z.1, fun A outer s H args us vs Q E hr e0 hb r h => ?_⟩
  obtain ⟨ws, hl, tabs, ew, q⟩ := h
  have KX : K.In s.heap := e0.mod.kin.keeps fun b o e => (e0.bs b o e).1
  have lim : s.heap.NoLimit := e0.mod.nolimit.keeps fun b o e => (e0.bs b o e).1
  refine codeAny_call_function hr.depth (KX _ _ lk) rfl S.co S.gen rfl (PySem.W.codeRec_of KX known) (hb _ _ _ _ ?_)
  refine wpAny_newFunctionEnv_cells S.kind (fun y hy => ?_) fun env he s1 xx => ?_
  · rcases S.par y.1 (List.of_mem_zip (a := y.1) (b := y.2) hy).1 with z | z
    · exact .inl z
    · exact .inr ⟨z, PySem.W.cellsFrom_some _ _ _ (.inl z)⟩
  subst he
  refine ⟨lim.keeps xx.toInCall.keep, codeAny_func ?_⟩
  have I := inv_start (CX := CX0) (E := E) S hr.hd e0 hl r xx
  have hfree : ∀ y ∈ sc.names, y.2 = .free → ∃ c, (cxOf CX0 P w K mg base N x scope (He.ga K x) (.ref (He.cT K (x, none)).1) A outer s H E).env.cells.lookup y.1 = some c := fun y hy e =>
    (NdefX.ndef_free look y hy e).elim (fun z => I.ok.has _ (.inl z)) fun z => I.ok.has _ (.inr z)
  refine wpAny_execs_cons (wpAny_Return_some (lam_told I TB rfl hmT hu tabs (hdef _) hfree fun f c' H3 s3 I3 grown tabs3 dn nf here code => ?_))
  have caps := Caps.made (X := cxOf CX0 P w K mg base N x scope (He.ga K x) (.ref (He.cT K (x, none)).1) A outer s H E) (scope := sc) I3.ok (NdefX.ndef_free look) (NdefX.ndef_fr look) hjs
  have C := NdefX.cells_of I3 caps
  have ews : js.map (slotAt (start N vs)) = ws.map some := by
    rw [← ew]
    exact List.map_congr_left fun j hj => slot_start (by rw [hl]; exact hps j hj)
  rw [ews] at C
  obtain ⟨cs, cap, ca, from_⟩ := cap_of C nd fun y c e => by
    rcases cloFrom_mem (PySem.mem_of_lookup e) with z | ⟨z, _⟩
    · cases z
    · exact sub _ z rfl
  have out : ∀ {a : Addr} {o : HO}, H3 a = some o → cs a = none := fun {a o} z => by
    cases q : cs a with
    | none => rfl
    | some v =>
      rw [(ca a v q).1] at z
      cases z
  have keep : ∀ {a : Addr} {o : HO}, H3 a = some o → putC cs H3 a = some o := fun {a o} z => (putC_out (out z)).trans z
  refine ⟨.ref f, putC cs H3, I3.os, I3.bare, un_new (fun a v e o g => ?_) (fun a v e => dn a (ca a v e).1) I3.base, hok_put I3.hok ca, rfl, q f ⟨_, pr, b, sc, _, c'⟩ cs _ rfl rfl rfl rfl cap ⟨keep here, keep code, fun a v e => putC_in e⟩ (fun a o z n => keep (grown a o z n)) (fun z hz => (tabs3 z hz).ext fun a o y => keep y) nf fun a v e => dn a (ca a v e).1⟩
  obtain ⟨y, hy⟩ := from_ a v e
  have yf : y ∈ fr := cap.sub y a hy
  have low := I3.ok.cab y a rfl (caps.sub y a hy)
  exact absurd (Heap.lt_size g) (Nat.not_lt.2 low)
/-- what is told of a function value keeps while what stood keeps -/
def GKeep (G : Hp → Prop) : Prop := ∀ H0 H1 H2 : Hp, G H0 → G H1 → (∀ b o, H1 b = some o → (H0 b).isSome = true → H2 b = some o) → G H2
theorem lamIn_keep {f : Addr} {F : LF} {cs : Cels} : GKeep (LamIn f F cs) := fun H0 H1 H2 g0 g1 k => ⟨k _ _ g1.fn (by rw [g0.fn]; rfl), k _ _ g1.code (by rw [g0.code]; rfl), fun b v e => k _ _ (g1.cels b v e) (by rw [g0.cels b v e]; rfl)⟩
def GExt (G : Hp → Prop) : Prop := ∀ H1 H2 : Hp, G H1 → (∀ b φ, H1 b = some (.ext φ) → H2 b = some (.ext φ)) → G H2
/-- f is new, its cells are; it runs t -/
def sp_mkc (P : Program) (w : World) (K : PySem.W.Frag) (mg : Str → Option Value) (base : Heap) (T : List (Addr × Str)) (n : Nat) (js : List Nat) (k : Nat) (NL : List Str) (m : Nat) (t : TE) : Sp := fun vs H Q _ => ∃ ws : List V, vs.length = n ∧ Tabs T H ∧ js.map (fun j => vs[j]?) = ws.map some ∧
  ∀ (f : Addr) (G : Hp → Prop) (cs : Cels) (H' : Hp), Clo P w K mg base (k + 1) f G (sp_lam NL ws m cs t) → GKeep G → GExt G → (∀ H, G H → CelsIn cs H) → G H' → ExtN H H' → Tabs T H' → H f = none → (∀ c v, cs c = some v → H c = none) → Q (.ref f) H'
theorem fnmkc_of {NL pl : List Str} {t : TE} {k1 : Nat} (F : FunD K x x params [.Return (some (.Lambda pr b sc lp)) pos] scope [] [] (He.ga K x) fd) (S : FnScope N ps scope) (TB : TabB base mg (He.cT K (x, none)).1 Pt) (hmT : (Pt, (x ++ ".<locals>.") ++ "<lambda>") ∈ T) (hu : ∀ z ∈ T, z.1 = Pt → z.2 = (x ++ ".<locals>.") ++ "<lambda>")
    (look : NdefX.ndefB scope sc fr = true) (nd : fr.Nodup) (sub : ∀ y ∈ sc.names, y.2 = .free → y.1 ∈ fr) (hjs : js.map (fun j => N[j]?) = fr.map some) (hps : ∀ j ∈ js, j < ps.length) (hcell : ∀ y ∈ fr, scope.names.lookup y = some .cell)
    (SL : NScope NL pl fr sc) (hbind : ∀ (q : Str) (cl : List (Str × Addr)) (c : Addr) (pm ct : Value) (us : List Value), us.length = pl.length → bindArgs (PySem.W.kla_fn "<lambda>" q pr b sc cl pm (.ref c) ct) ⟨us, []⟩ = pure (pl.zip us))
    (hbody : ∀ (q : Str) (cl : List (Str × Addr)) (c f : Addr) (A : Around) (outer : List Env) (s : Shared) (H : Hp), Room k (A.deeper (NdefX.envF (LF.nf ⟨q, pr, b, sc, cl, c⟩) f s.heap.objs.size)) → PE (ncx CX0 P w K mg base NL (LF.nf ⟨q, pr, b, sc, cl, c⟩) f A outer s H E0) b t)
    (hdef : ∀ env : Env, defaultsOf pr env = ([], []) := by intro; rfl) : FnOk P w K mg base CX0 (k1 + 1) (He.ga K x) fd ps (sp_mkc P w K mg base T ps.length js k NL pl.length t) := by
  refine (fnlam_of F S TB hmT hu look nd sub hjs hps hcell hdef).imp fun vs H Q E h => ?_
  obtain ⟨ws, h1, h2, h3, q⟩ := h
  refine ⟨ws, h1, h2, h3, fun f L cs H' e1 e2 e3 e4 cap g ext tb nf nc => ?_⟩
  obtain ⟨ql, pr', b', sc', cl, c⟩ := L
  cases e1; cases e2; cases e3; cases e4
  exact q f _ cs H' (lam_clo (F := ⟨_, _, _, _, cl, c⟩) cap SL (fun pm ct us hl => hbind _ cl c pm ct us hl) fun A outer s H room => hbody _ cl c f A outer s H room) lamIn_keep (fun H1 H2 g k => g.imp k) (fun H g => g.cels) g ext tb nf nc
end
/-! ### told heaps with and without the cells -/
theorem cut_keep {cs : Cels} {H : Hp} {a : Addr} {o : HO} (c : CelsIn cs H) (e : H a = some o) (n : ∀ φ, o ≠ .ext φ) : cs a = none ∧ cutC cs H a = some o := by
  have q : cs a = none := by
    cases q : cs a with
    | none => rfl
    | some v =>
      rw [c a v q] at e
      exact absurd (Option.some.inj e).symm (n _)
  exact ⟨q, (cutC_out q).trans e⟩
theorem nxK {D : List (Key × V)} (φ) : HO.dK D ≠ .ext φ := fun z => by cases z
theorem nxL {xs : List V} (φ) : HO.lst xs ≠ .ext φ := fun z => by cases z
/-- what stood when some cells were put away, but d1 and d2 and what M tells, stands when they are back -/
theorem put_back {cs : Cels} {H H' : Hp} {W : Addr → Prop} (c : CelsIn cs H) (s : ∀ b o, cutC cs H b = some o → ¬ W b → H' b = some o) {b : Addr} {o : HO} (e : H b = some o) (n : ¬ W b) : putC cs H' b = some o := by
  cases q : cs b with
  | some v =>
    rw [c b v q] at e
    rw [putC_in q]
    exact e
  | none =>
    rw [putC_out q]
    exact s b o ((cutC_out q).trans e) n
end Tw

set_option maxHeartbeats 4000000
/-! a def with statements and ifs ahead of the lambdas that it hands back -/
namespace Tw
open PySem PySem.Spec PyProof.Rows L2
open LamX (ExtN Tabs TabB CodeO)
open NdefX (NF NScope CellsAt startF ncx Caps slotAt)
abbrev KR := Expr → L2.St → Hp → Prop
/-- a body whose every way ends in `return e`: R tells of e, of the slots and of the heap there -/
structure PL (X : Cx) (b : List Stmt) (t : KR → L2.St → Hp → Prop) : Prop where
  run : ∀ (pins : List (Addr × Obj)) (s : Shared) (σ : L2.St) (H : Hp) (R : KR) (Post : PySem.Flow → Shared → Prop) (E : Value → Shared → Prop), L2.Inv X pins σ H s → t R σ H →
    (∀ e σ' H' s', L2.Inv X pins σ' H' s' → R e σ' H' → wpAny (model X.prog X.w) X.A (eval e X.env) (fun v s'' => Post (.ret v) s'') E s') → (∀ v s', X.xe v s' → E v s') → wpAny (model X.prog X.w) X.A (execs b X.env) Post E s
section
variable {X : Cx} {st : Stmt} {rest body : List Stmt} {pos : Pos} {e : Expr} {ts : TS} {tc : TT} {ta tr : KR → L2.St → Hp → Prop}
theorem pl_ret : PL X [.Return (some e) pos] (fun R σ H => R e σ H) :=
  ⟨fun pins s σ H R Post E I q k _ => wpAny_execs_cons (wpAny_Return_some (k e σ H s I q))⟩
theorem pl_cons (h : PS X st ts) (r : PL X rest tr) : PL X (st :: rest) (fun R σ H => ts { nx := fun σ' H' => tr R σ' H', rt := fun _ _ => False } σ H) := by
  refine ⟨fun pins s σ H R Post E I q k xe => wpAny_execs_cons (wpAny_mono (h.run pins s σ H _ I q) (fun f s' z => ?_) fun v s' z => xe v s' z)⟩
  match f, z with
  | .next, ⟨σ', H', I', z⟩ => exact r.run pins s' σ' H' R Post E I' z k xe
  | .brk, ⟨_, _, _, z⟩ => exact False.elim z
  | .cont, ⟨_, _, _, z⟩ => exact False.elim z
  | .ret u, ⟨_, _, _, _, _, z⟩ => exact False.elim z
theorem pl_if (c : PT X e tc) (a : PL X body ta) (r : PL X rest tr) : PL X (.If e body [] pos :: rest) (fun R σ H => tc σ H fun b H' => if b = true then ta R σ H' else tr R σ H') := by
  refine ⟨fun pins s σ H R Post E I q k xe => wpAny_execs_cons (wpAny_If (wpAny_mono (c.run pins s σ H _ I q) (fun b s' z => ?_) fun v s' z => xe v s' z))⟩
  obtain ⟨H', I', z⟩ := z
  cases b with
  | true =>
    rw [if_pos rfl] at z ⊢
    refine a.run pins s' σ H' R _ E I' z (fun e σ2 H2 s2 I2 r2 => ?_) xe
    exact k e σ2 H2 s2 I2 r2
  | false =>
    rw [if_neg (by decide)] at z ⊢
    exact wpAny_pure (r.run pins s' σ H' R Post E I' z k xe)
/-- without a way out for exceptions -/
theorem PL.nox {t : KR → L2.St → Hp → Prop} (h : PL X.nox body t) : PL X body t :=
  ⟨fun pins s σ H R Post E I q k _ => h.run pins s σ H R Post E (I.wish _) q (fun e σ' H' s' I' r => k e σ' H' s' I'.unwish r) (fun _ _ z => z.elim)⟩
end
section
variable {P : Program} {w : World} {K : PySem.W.Frag} {mg : Str → Option Value} {base : Heap}
/-- what is asked at `return e`: e is a lambda; f is new, its cells are; it runs t -/
def LamR (P : Program) (w : World) (K : PySem.W.Frag) (mg : Str → Option Value) (base : Heap) (scope : Scope) (T : List (Addr × Str)) (k : Nat) (N : List Str) (Q : VK) : KR := fun e σ H => ∃ (pr : Arguments) (b : Expr) (sc : Scope) (lp : Pos) (fr : List Str) (js : List Nat) (ws : List V) (NL pl : List Str) (t : TE),
  e = .Lambda pr b sc lp ∧ NdefX.ndefB scope sc fr = true ∧ fr.Nodup ∧ (∀ y ∈ sc.names, y.2 = .free → y.1 ∈ fr) ∧ js.map (fun j => N[j]?) = fr.map some ∧ NScope NL pl fr sc ∧
  (∀ (q : Str) (cl : List (Str × Addr)) (c : Addr) (pm ct : Value) (us : List Value), us.length = pl.length → bindArgs (PySem.W.kla_fn "<lambda>" q pr b sc cl pm (.ref c) ct) ⟨us, []⟩ = pure (pl.zip us)) ∧
  (∀ (q : Str) (cl : List (Str × Addr)) (c f : Addr) (A : Around) (outer : List Env) (s : Shared) (H : Hp), Room k (A.deeper (NdefX.envF (LF.nf ⟨q, pr, b, sc, cl, c⟩) f s.heap.objs.size)) → PE (ncx CX0 P w K mg base NL (LF.nf ⟨q, pr, b, sc, cl, c⟩) f A outer s H E0) b t) ∧
  (∀ env : Env, defaultsOf pr env = ([], [])) ∧ Tabs T H ∧ js.map (slotAt σ) = ws.map some ∧
  ∀ (f : Addr) (G : Hp → Prop) (cs : Cels) (H' : Hp), Clo P w K mg base (k + 1) f G (sp_lam NL ws pl.length cs t) → GKeep G → GExt G → (∀ H, G H → CelsIn cs H) → G H' → ExtN H H' → Tabs T H' → H f = none → (∀ c v, cs c = some v → H c = none) → Q (.ref f) H'
theorem fnmkp_of {x : Str} {params : Arguments} {body : List Stmt} {scope : Scope} {fd : FuncData} {N ps : List Str} {T : List (Addr × Str)} {Pt : Addr} {k k1 : Nat} {sp : Sp} (F : FunD K x x params body scope [] [] (He.ga K x) fd) (S : FnScope N ps scope) (TB : TabB base mg (He.cT K (x, none)).1 Pt) (hmT : (Pt, (x ++ ".<locals>.") ++ "<lambda>") ∈ T) (hu : ∀ z ∈ T, z.1 = Pt → z.2 = (x ++ ".<locals>.") ++ "<lambda>")
    (len : ∀ vs H Q E, sp vs H Q E → vs.length = ps.length)
    (owed : ∀ (A : Around) (outer : List Env) (s : Shared) (H : Hp) (vs : List V) (Q : VK) (E : XK), Room k1 (A.deeper (envOfC x scope s.heap.objs.size (He.ga K x) (.ref (He.cT K (x, none)).1))) → sp vs H Q E →
      ∃ t, PL (cxOf CX0 P w K mg base N x scope (He.ga K x) (.ref (He.cT K (x, none)).1) A outer s H E).nox body t ∧ t (LamR P w K mg base scope T k N Q) (start N vs) H) : FnOk P w K mg base CX0 (k1 + 1) (He.ga K x) fd ps sp := by
  obtain ⟨_, _, _, _, _, _, _, cdv, _, _, rfl, lk, known, _, _⟩ := F.ex
  obtain ⟨cc, rfl⟩ := He.codeIn_ref known
  obtain rfl : He.codeOf K (x, none) = cc := He.codeOf_eq lk rfl
  refine ⟨len, fun A outer s H args us vs Q E hr e0 hb r h => ?_⟩
  have hl := len vs H Q E h
  have KX : K.In s.heap := e0.mod.kin.keeps fun b o e => (e0.bs b o e).1
  have lim : s.heap.NoLimit := e0.mod.nolimit.keeps fun b o e => (e0.bs b o e).1
  refine codeAny_call_function hr.depth (KX _ _ lk) rfl S.co S.gen rfl (PySem.W.codeRec_of KX known) (hb _ _ _ _ ?_)
  refine wpAny_newFunctionEnv_cells S.kind (fun y hy => ?_) fun env he s1 xx => ?_
  · rcases S.par y.1 (List.of_mem_zip (a := y.1) (b := y.2) hy).1 with z | z
    · exact .inl z
    · exact .inr ⟨z, PySem.W.cellsFrom_some _ _ _ (.inl z)⟩
  subst he
  refine ⟨lim.keeps xx.toInCall.keep, codeAny_func ?_⟩
  have I := inv_start (CX := CX0) (E := E) S hr.hd e0 hl r xx
  obtain ⟨t, pl, ht⟩ := owed A outer s H vs Q E (hr.deeper _) h
  refine pl.nox.run [] _ _ _ _ _ _ I ht (fun e σ H2 s2 I2 lr => ?_) (fun _ _ z => z)
  obtain ⟨pr, b, sc, lp, fr, js, ws, NL, pls, tb, rfl, look, nd, sub, hjs, SL, hbind, hbody, hdef, tabs, ews, q⟩ := lr
  have hfree : ∀ y ∈ sc.names, y.2 = .free → ∃ c, (cxOf CX0 P w K mg base N x scope (He.ga K x) (.ref (He.cT K (x, none)).1) A outer s H E).env.cells.lookup y.1 = some c := fun y hy e =>
    (NdefX.ndef_free look y hy e).elim (fun z => I2.ok.has _ (.inl z)) fun z => I2.ok.has _ (.inr z)
  refine lam_told I2 TB rfl hmT hu tabs (hdef _) hfree fun f c' H3 s3 I3 grown tabs3 dn nf here code => ?_
  have caps := Caps.made (X := cxOf CX0 P w K mg base N x scope (He.ga K x) (.ref (He.cT K (x, none)).1) A outer s H E) (scope := sc) I3.ok (NdefX.ndef_free look) (NdefX.ndef_fr look) hjs
  have C := NdefX.cells_of I3 caps
  rw [ews] at C
  obtain ⟨cs, cap, ca, from_⟩ := cap_of C nd fun y c e => by
    rcases cloFrom_mem (PySem.mem_of_lookup e) with z | ⟨z, _⟩
    · cases z
    · exact sub _ z rfl
  have out : ∀ {a : Addr} {o : HO}, H3 a = some o → cs a = none := fun {a o} z => by
    cases q : cs a with
    | none => rfl
    | some v =>
      rw [(ca a v q).1] at z
      cases z
  have keep : ∀ {a : Addr} {o : HO}, H3 a = some o → putC cs H3 a = some o := fun {a o} z => (putC_out (out z)).trans z
  have LI : LamIn f ⟨_, pr, b, sc, _, c'⟩ cs (putC cs H3) := ⟨keep here, keep code, fun a v e => putC_in e⟩
  refine ⟨.ref f, putC cs H3, I3.os, I3.bare, un_new (fun a v e o g => ?_) (fun a v e => ?_) I3.base, hok_put I3.hok ca, rfl, q f _ cs _ (lam_clo (F := ⟨_, pr, b, sc, _, c'⟩) cap SL (fun pm ct us hl => hbind _ _ c' pm ct us hl) fun A outer s H room => hbody _ _ c' f A outer s H room) lamIn_keep (fun H1 H2 g k => g.imp k) (fun H g => g.cels) LI (fun a o z n => keep (grown a o z n)) (fun z hz => (tabs3 z hz).ext fun a o y => keep y) nf fun a v e => dn a (ca a v e).1⟩
  · obtain ⟨y, hy⟩ := from_ a v e
    have yf : y ∈ fr := cap.sub y a hy
    have low := I3.ok.cab y a rfl (caps.sub y a hy)
    exact absurd (Heap.lt_size g) (Nat.not_lt.2 low)
  · obtain ⟨y, hy⟩ := from_ a v e
    exact e0.hok.fresh (I3.ok.cab y a rfl (caps.sub y a hy))
end
end Tw

set_option maxHeartbeats 4000000
/-! runs of a keeper, as data: what is done and heard by tick, the ends behind them -/
namespace Tw
open PySem PySem.Spec PyProof.Rows L2
abbrev kS (z : Str) : Key := .inr z
abbrev Dct := List (Key × V)
theorem kS_eq {a b : Str} (h : kS a = kS b) : a = b := by
  have h : (Sum.inr a : Key) = Sum.inr b := h
  injection h
/-- the ends that are heard in this tick -/
def heard1 (L : Str → Int) (t : Int) (D h : Dct) (x : Wd) : Dct := match x.la, valV D (kS x.bg) with
  | some k, some (.int b) => if b + L x.en + k = t then putK h (kS x.en) (.int t) else h
  | _, _ => h
def hearA (L : Str → Int) (wd : List Wd) (t : Int) (D h : Dct) : Dct := wd.foldl (heard1 L t D) h
def doA (t : Int) (D : Dct) (ns : List Str) : Dct := ns.foldl (fun d z => putK d (kS z) (.int t)) D
/-- how done and heard stand ahead of the n-th tick -/
def standA (L : Str → Int) (wd : List Wd) (kf : Nat → Dct → Dct → List Str) : Nat → Dct × Dct
  | 0 => ([(kS "start", .int 0)], [])
  | n + 1 => (doA (n : Int) (standA L wd kf n).1 (kf n (standA L wd kf n).1 (hearA L wd (n : Int) (standA L wd kf n).1 (standA L wd kf n).2)), hearA L wd (n : Int) (standA L wd kf n).1 (standA L wd kf n).2)
/-- whole numbers up to b at some of these points -/
structure TkD (ps : List Str) (b : Int) (D : Dct) : Prop where
  val : ∀ k v, valV D k = some v → ∃ z i, k = kS z ∧ z ∈ ps ∧ v = .int i ∧ 0 ≤ i ∧ i ≤ b
  nd : (D.map (·.1)).Nodup
theorem put_keys (k : Key) (v : V) (D : Dct) : (putK D k v).map (·.1) = D.map (·.1) ∨ ((putK D k v).map (·.1) = D.map (·.1) ++ [k] ∧ k ∉ D.map (·.1)) := by
  unfold putK
  by_cases a : (D.any fun kv => decide (kv.1 = k)) = true
  · rw [if_pos a]
    refine .inl ?_
    rw [List.map_map]
    refine List.map_congr_left fun p _ => ?_
    show (if p.1 = k then (p.1, v) else p).1 = p.1
    split <;> rfl
  · rw [if_neg a]
    refine .inr ⟨by rw [List.map_append]; rfl, fun h => a ?_⟩
    obtain ⟨p, hp, e⟩ := List.mem_map.1 h
    exact List.any_eq_true.2 ⟨p, hp, decide_eq_true e⟩
theorem put_nd {D : Dct} (h : (D.map (·.1)).Nodup) (k : Key) (v : V) : ((putK D k v).map (·.1)).Nodup := by
  rcases put_keys k v D with e | ⟨e, n⟩
  · rw [e]
    exact h
  · rw [e]
    refine List.nodup_append.2 ⟨h, List.nodup_cons.2 ⟨List.not_mem_nil, List.nodup_nil⟩, fun a ha b hb => ?_⟩
    rw [List.mem_singleton.1 hb]
    exact fun z => n (by rw [← z]; exact ha)
theorem key_some {D : Dct} {k : Key} : k ∈ D.map (·.1) ↔ (valV D k).isSome = true := by
  rw [← valV_any]
  constructor
  · intro h
    obtain ⟨p, hp, e⟩ := List.mem_map.1 h
    exact List.any_eq_true.2 ⟨p, hp, decide_eq_true e⟩
  · intro h
    obtain ⟨p, hp, e⟩ := List.any_eq_true.1 h
    exact List.mem_map.2 ⟨p, hp, of_decide_eq_true e⟩
theorem nd_len {β : Type} [DecidableEq β] : ∀ (l m : List β), l.Nodup → (∀ x ∈ l, x ∈ m) → l.length ≤ m.length
  | [], m, _, _ => Nat.zero_le _
  | x :: l, m, h, s => by
    obtain ⟨hx, hl⟩ := List.nodup_cons.1 h
    have mx := s x List.mem_cons_self
    have sub : ∀ y ∈ l, y ∈ m.erase x := fun y hy => (List.mem_erase_of_ne fun e => hx (by rw [← e]; exact hy)).2 (s y (List.mem_cons_of_mem _ hy))
    have le := nd_len l (m.erase x) hl sub
    have lm := List.length_erase_of_mem mx
    have p := List.length_pos_of_mem mx
    rw [List.length_cons]
    omega
/-- two dicts that tell the same are of one length -/
theorem same_len {D E : Dct} (h1 : (D.map (·.1)).Nodup) (h2 : (E.map (·.1)).Nodup) (h : ∀ k, (valV D k).isSome = (valV E k).isSome) : D.length = E.length := by
  have a := nd_len _ _ h1 fun k hk => key_some.2 (by rw [← h k]; exact key_some.1 hk)
  have b := nd_len _ _ h2 fun k hk => key_some.2 (by rw [h k]; exact key_some.1 hk)
  rw [List.length_map, List.length_map] at a b
  omega
theorem TkD.len {ps : List Str} {b : Int} {D : Dct} (h : TkD ps b D) : D.length ≤ ps.length := by
  have := nd_len (D.map (·.1)) (ps.map kS) h.nd fun k hk => by
    obtain ⟨v, e⟩ := Option.isSome_iff_exists.1 (key_some.1 hk)
    obtain ⟨z, i, rfl, hz, _⟩ := h.val k v e
    exact List.mem_map_of_mem hz
  rwa [List.length_map, List.length_map] at this
theorem TkD.put {ps : List Str} {b : Int} {D : Dct} (h : TkD ps b D) {z : Str} (hz : z ∈ ps) {i : Int} (i0 : 0 ≤ i) (ib : i ≤ b) : TkD ps b (putK D (kS z) (.int i)) := by
  refine ⟨fun k v e => ?_, put_nd h.nd _ _⟩
  rw [valV_put] at e
  by_cases c : k = kS z
  · rw [if_pos c] at e
    exact ⟨z, i, c, hz, (Option.some.inj e).symm, i0, ib⟩
  · rw [if_neg c] at e
    exact h.val k v e
theorem TkD.up {ps : List Str} {b c : Int} {D : Dct} (h : TkD ps b D) (l : b ≤ c) : TkD ps c D := ⟨fun k v e => by
  obtain ⟨z, i, h1, h2, h3, h4, h5⟩ := h.val k v e
  exact ⟨z, i, h1, h2, h3, h4, by omega⟩, h.nd⟩
theorem TkD.int {ps : List Str} {b : Int} {D : Dct} (h : TkD ps b D) {k : Key} {v : V} (e : valV D k = some v) : ∃ i : Int, v = .int i ∧ 0 ≤ i ∧ i ≤ b := by
  obtain ⟨z, i, _, _, h3, h4, h5⟩ := h.val k v e
  exact ⟨i, h3, h4, h5⟩
theorem hear_snoc (L : Str → Int) (wd : List Wd) (t : Int) (D h : Dct) (x : Wd) : hearA L (wd ++ [x]) t D h = heard1 L t D (hearA L wd t D h) x := by
  unfold hearA
  rw [List.foldl_append]
  rfl
theorem do_snoc (t : Int) (D : Dct) (ns : List Str) (z : Str) : doA t D (ns ++ [z]) = putK (doA t D ns) (kS z) (.int t) := by
  unfold doA
  rw [List.foldl_append]
  rfl
theorem TkD.heard1 {es : List Str} {b t : Int} {L : Str → Int} {D h : Dct} {x : Wd} (H : TkD es b h) (hx : x.en ∈ es) (t0 : 0 ≤ t) (tb : t ≤ b) : TkD es b (Tw.heard1 L t D h x) := by
  unfold Tw.heard1
  split
  · split
    · exact H.put hx t0 tb
    · exact H
  · exact H
theorem TkD.hear {es : List Str} {b t : Int} {L : Str → Int} {D : Dct} (t0 : 0 ≤ t) (tb : t ≤ b) : ∀ (wd : List Wd) (h : Dct), TkD es b h → (∀ x ∈ wd, x.en ∈ es) → TkD es b (hearA L wd t D h)
  | [], _, H, _ => H
  | x :: r, h, H, s => TkD.hear t0 tb r _ (H.heard1 (s x List.mem_cons_self) t0 tb) fun y hy => s y (List.mem_cons_of_mem _ hy)
theorem TkD.doA {ps : List Str} {b t : Int} (t0 : 0 ≤ t) (tb : t ≤ b) : ∀ (ns : List Str) (D : Dct), TkD ps b D → (∀ z ∈ ns, z ∈ ps) → TkD ps b (Tw.doA t D ns)
  | [], _, H, _ => H
  | z :: r, D, H, s => TkD.doA t0 tb r _ (H.put (s z List.mem_cons_self) t0 tb) fun y hy => s y (List.mem_cons_of_mem _ hy)
theorem do_val (t : Int) : ∀ (ns : List Str) (D : Dct) (k : Key), (∀ z ∈ ns, kS z ≠ k) → valV (doA t D ns) k = valV D k
  | [], _, _, _ => rfl
  | z :: r, D, k, h => by
    have := do_val t r (putK D (kS z) (.int t)) k fun y hy => h y (List.mem_cons_of_mem _ hy)
    rw [show doA t D (z :: r) = doA t (putK D (kS z) (.int t)) r from rfl, this, valV_put, if_neg fun e => h z List.mem_cons_self e.symm]
/-- a keeper that tells what may be told: moments, once, that are not done -/
def KeepOk (own : List Str) (kf : Nat → Dct → Dct → List Str) : Prop := ∀ (n : Nat) (D h : Dct), (kf n D h).Nodup ∧ ∀ z ∈ kf n D h, z ∈ own ∧ valV D (kS z) = none
theorem stand_ok {L : Str → Int} {wd : List Wd} {own : List Str} {kf : Nat → Dct → Dct → List Str} (ko : KeepOk own kf) {b : Int} : ∀ n : Nat, 0 ≤ b → (n : Int) ≤ b + 1 → TkD ("start" :: own) b (standA L wd kf n).1 ∧ TkD (wd.map (·.en)) b (standA L wd kf n).2
  | 0, b0, _ => by
    refine ⟨⟨fun k v e => ?_, List.nodup_cons.2 ⟨List.not_mem_nil, List.nodup_nil⟩⟩, ⟨fun k v e => (by cases e), List.nodup_nil⟩⟩
    by_cases c : kS "start" = k
    · have e : valV [(kS "start", V.int 0)] k = some v := e
      rw [valV_pos (p := (kS "start", V.int 0)) c] at e
      exact ⟨"start", 0, c.symm, List.mem_cons_self, (Option.some.inj e).symm, Int.le_refl _, b0⟩
    · have e : valV [(kS "start", V.int 0)] k = some v := e
      rw [valV_neg (p := (kS "start", V.int 0)) c] at e
      cases e
  | n + 1, b0, le => by
    obtain ⟨h1, h2⟩ := stand_ok ko n b0 (by omega)
    have hb : (n : Int) ≤ b := by omega
    have h3 := TkD.hear (L := L) (D := (standA L wd kf n).1) (t := (n : Int)) (by omega) hb wd _ h2 fun x hx => List.mem_map_of_mem hx
    exact ⟨TkD.doA (by omega) hb _ _ h1 fun z hz => List.mem_cons_of_mem _ ((ko n _ _).2 z hz).1, h3⟩
/-- the ends behind the spans that were begun -/
def end1 (L : Str → Int) (D e : Dct) (x : Wd) : Dct := match valV D (kS x.bg) with
  | some (.int b) => putK e (kS x.en) (.int (b + L x.en))
  | _ => e
def endA (L : Str → Int) (wd : List Wd) (D : Dct) : Dct := wd.foldl (end1 L D) []
/-- all ticks by points -/
def tickA (D E : Dct) (k : Key) : Option V := match valV E k with
  | some v => some v
  | none => valV D k
theorem merge_val : ∀ (E D : Dct) (k : Key), (E.map (·.1)).Nodup → valV (mergeK D E) k = tickA D E k
  | [], _, _, _ => rfl
  | p :: r, D, k, h => by
    obtain ⟨h1, h2⟩ := List.nodup_cons.1 (show (p.1 :: r.map (·.1)).Nodup from h)
    have ih := merge_val r (putK D p.1 p.2) k h2
    rw [show mergeK D (p :: r) = mergeK (putK D p.1 p.2) r from rfl, ih]
    unfold tickA
    by_cases e : p.1 = k
    · have no : valV r k = none := by
        cases q : valV r k with
        | none => rfl
        | some v => exact absurd (key_some.2 (by rw [q]; rfl)) (by rw [← e]; exact h1)
      rw [valV_pos e, no, valV_put, if_pos e.symm]
    · rw [valV_neg e, valV_put, if_neg fun z => e z.symm]
theorem merge_nd : ∀ (E D : Dct), (D.map (·.1)).Nodup → ((mergeK D E).map (·.1)).Nodup
  | [], _, h => h
  | p :: r, D, h => merge_nd r _ (put_nd h p.1 p.2)
/-- told by points -/
def outA (ps : List Str) (f : Key → Option V) : Dct := ps.filterMap fun z => (f (kS z)).map fun v => (kS z, v)
theorem out_val {f : Key → Option V} {k : Key} : ∀ {ps : List Str}, valV (outA ps f) k = if (∃ z ∈ ps, kS z = k) then f k else none
  | [] => by
    rw [if_neg fun ⟨z, hz, _⟩ => absurd hz List.not_mem_nil]
    rfl
  | z :: r => by
    have ih := out_val (f := f) (k := k) (ps := r)
    cases e : f (kS z) with
    | none =>
      have e1 : outA (z :: r) f = outA r f := by
        unfold outA
        rw [List.filterMap_cons, e]
        rfl
      rw [e1, ih]
      by_cases c : ∃ y ∈ r, kS y = k
      · obtain ⟨y, hy, ey⟩ := c
        rw [if_pos ⟨y, hy, ey⟩, if_pos ⟨y, List.mem_cons_of_mem _ hy, ey⟩]
      · rw [if_neg c]
        split
        · rename_i d
          obtain ⟨y, hy, ey⟩ := d
          rcases List.mem_cons.1 hy with rfl | hy
          · rw [← ey, e]
          · exact absurd ⟨y, hy, ey⟩ c
        · rfl
    | some v =>
      have e1 : outA (z :: r) f = (kS z, v) :: outA r f := by
        unfold outA
        rw [List.filterMap_cons, e]
        rfl
      rw [e1]
      by_cases d : kS z = k
      · rw [valV_pos (p := (kS z, v)) d, if_pos ⟨z, List.mem_cons_self, d⟩, ← d, e]
      · rw [valV_neg (p := (kS z, v)) d, ih]
        by_cases c : ∃ y ∈ r, kS y = k
        · obtain ⟨y, hy, ey⟩ := c
          rw [if_pos ⟨y, hy, ey⟩, if_pos ⟨y, List.mem_cons_of_mem _ hy, ey⟩]
        · rw [if_neg c, if_neg]
          rintro ⟨y, hy, ey⟩
          rcases List.mem_cons.1 hy with rfl | hy
          · exact d ey
          · exact c ⟨y, hy, ey⟩
theorem out_nd {f : Key → Option V} : ∀ {ps : List Str}, ps.Nodup → ((outA ps f).map (·.1)).Nodup
  | [], _ => List.nodup_nil
  | z :: r, h => by
    obtain ⟨h1, h2⟩ := List.nodup_cons.1 h
    have ih := out_nd (f := f) h2
    cases e : f (kS z) with
    | none =>
      rw [show outA (z :: r) f = outA r f by unfold outA; rw [List.filterMap_cons, e]; rfl]
      exact ih
    | some v =>
      rw [show outA (z :: r) f = (kS z, v) :: outA r f by unfold outA; rw [List.filterMap_cons, e]; rfl]
      refine List.nodup_cons.2 ⟨fun hm => ?_, ih⟩
      have := key_some.1 hm
      rw [out_val] at this
      split at this
      · rename_i d
        obtain ⟨y, hy, ey⟩ := d
        exact h1 (by rw [← kS_eq ey]; exact hy)
      · cases this
end Tw

set_option maxHeartbeats 4000000
namespace Tw
open PySem PySem.Spec PyProof.Rows L2
theorem flat_strs (l : List Str) : (l.map V.str).all flatV = true := by
  rw [List.all_map]
  exact List.all_eq_true.mpr fun _ _ => rfl
theorem in_strs (z : Str) (l : List Str) : inV (.str z) (l.map V.str) = decide (z ∈ l) := by
  unfold inV
  rw [List.any_map]
  induction l with
  | nil => rfl
  | cons a r ih =>
    rw [List.any_cons, ih]
    have e : ((fun y => eqV y (.str z)) ∘ V.str) a = decide (z = a) := by
      show (a == z) = decide (z = a)
      by_cases h : z = a
      · subst h
        simp
      · rw [decide_eq_false h]
        exact beq_eq_false_iff_ne.mpr fun q => h q.symm
    rw [e]
    simp only [List.mem_cons]
    by_cases h : z = a <;> simp [h]
section
variable {P : Program} {w : World} {K : PySem.W.Frag} {mg : Str → Option Value} {base : Heap}
/-! ### is_number, is_whole, is_one_of -/
/-- None, a truth, an int or a text: its kind -/
def plK : V → Option String
  | .non => some "NoneType"
  | .bl _ => some "bool"
  | .int _ => some "int"
  | .str _ => some "str"
  | _ => none
theorem plK_ty {H : Hp} {v : V} {a : String} (h : plK v = some a) : TyX K H v (.type a) ∧ a ∈ kinds := by
  cases v with
  | non => cases h; exact ⟨.base .non, by decide⟩
  | bl b => cases h; exact ⟨.base (.bl _), by decide⟩
  | int i => cases h; exact ⟨.base (.int _), by decide⟩
  | str z => cases h; exact ⟨.base (.str _), by decide⟩
  | byt b => cases h
  | flt b => cases h
  | ref b => cases h
  | ty b => cases h
def numB (a : String) : Bool := kitT a "int" && !kitT a "bool"
def sp_is_number : Sp := fun vs H Q _ => ∃ (v : V) (a : String), vs = [v] ∧ plK v = some a ∧ Q (.bl (numB a)) H
theorem cal_is_number (T : Tp K mg) : Cal P w K mg base 1 "is_number" sp_is_number := by
  obtain ⟨fd, F⟩ := f_is_number T
  refine cal_of F (g_is_number T) (b_is_number F) sc_is_number (fun vs H Q E h => ?_) (fun cdv A outer s H vs Q E hr h => ?_)
  · obtain ⟨v, a, rfl, _⟩ := h
    rfl
  · obtain ⟨v, a, rfl, hk, q⟩ := h
    obtain ⟨ty, ha⟩ := plK_ty (K := K) (H := H) hk
    refine ⟨_, (pss_one (ps_ret (pe_and (pe_callB call_isK (by rfl) (z_isinstance T) bb_isinstance (pa_cons (pv 0) (pa_cons (pe_bltn (v := .ty "int") (by rfl) (z_int T) bb_int rfl) pa_nil))) (pe_one (pe_not (pe_callB call_isK (by rfl) (z_isinstance T) bb_isinstance (pa_cons (pv 0) (pa_cons (pe_bltn (v := .ty "bool") (by rfl) (z_bool T) bb_bool rfl) pa_nil)))))))), ?_⟩
    refine ⟨_, rfl, _, "int", a, rfl, ty, ha, by decide, _, rfl, ?_⟩
    unfold numB at q
    cases e : kitT a "int" with
    | true =>
      rw [e] at q
      exact iteT ⟨_, rfl, _, "bool", a, rfl, ty, ha, by decide, _, rfl, q⟩
    | false =>
      rw [e] at q
      exact iteF q
def sp_is_whole : Sp := fun vs H Q _ => ∃ (i lo hi : Int), vs = [.int i, .int lo, .int hi] ∧ Q (.bl (decide (lo ≤ i ∧ i ≤ hi))) H
theorem cal_is_whole (T : Tp K mg) : Cal P w K mg base 2 "is_whole" sp_is_whole := by
  obtain ⟨fd, F⟩ := f_is_whole T
  refine cal_of F (g_is_whole T) (b_is_whole F) sc_is_whole (fun vs H Q E h => ?_) (fun cdv A outer s H vs Q E hr h => ?_)
  · obtain ⟨i, lo, hi, rfl, _⟩ := h
    rfl
  · obtain ⟨i, lo, hi, rfl, q⟩ := h
    refine ⟨_, (pss_one (ps_ret (pe_and (C8.pe_c (cal_is_number T) hr (by decide) rfl (pa_cons (pv 0) pa_nil)) (pe_one (pe_chain op_le op_le (pv 1) (pv 0) (pv 2)))))), ?_⟩
    refine ⟨_, rfl, .int i, "int", rfl, rfl, _, rfl, ?_⟩
    refine iteT ⟨_, rfl, _, rfl, _, _, rfl, rfl, _, rfl, ite2 (fun e => ?_) (fun e => ?_)⟩
    · have e1 : lo ≤ i := of_decide_eq_true e
      refine ⟨_, rfl, _, _, rfl, rfl, ?_⟩
      have e2 : decide (lo ≤ i ∧ i ≤ hi) = decide (i ≤ hi) := by simp [e1]
      rw [e2] at q
      exact q
    · have e1 : ¬ lo ≤ i := fun z => e (decide_eq_true z)
      have e2 : decide (lo ≤ i ∧ i ≤ hi) = false := by simp [e1]
      rw [e2] at q
      exact q
/-- is_whole of any plain value -/
def whB (lo hi : Int) : V → Bool
  | .int i => decide (lo ≤ i ∧ i ≤ hi)
  | _ => false
def sp_iswh : Sp := fun vs H Q _ => ∃ (v : V) (lo hi : Int), vs = [v, .int lo, .int hi] ∧ (plK v).isSome = true ∧ Q (.bl (whB lo hi v)) H
theorem cal_iswh (T : Tp K mg) : Cal P w K mg base 2 "is_whole" sp_iswh := by
  obtain ⟨fd, F⟩ := f_is_whole T
  refine cal_of F (g_is_whole T) (b_is_whole F) sc_is_whole (fun vs H Q E h => ?_) (fun cdv A outer s H vs Q E hr h => ?_)
  · obtain ⟨v, lo, hi, rfl, _⟩ := h
    rfl
  · obtain ⟨v, lo, hi, rfl, hk, q⟩ := h
    refine ⟨_, (pss_one (ps_ret (pe_and (C8.pe_c (cal_is_number T) hr (by decide) rfl (pa_cons (pv 0) pa_nil)) (pe_one (pe_chain op_le op_le (pv 1) (pv 0) (pv 2)))))), ?_⟩
    cases v with
    | non => exact ⟨_, rfl, .non, "NoneType", rfl, rfl, _, rfl, iteF q⟩
    | bl b => exact ⟨_, rfl, .bl b, "bool", rfl, rfl, _, rfl, iteF q⟩
    | str z => exact ⟨_, rfl, .str z, "str", rfl, rfl, _, rfl, iteF q⟩
    | byt b => cases hk
    | flt b => cases hk
    | ref b => cases hk
    | ty b => cases hk
    | int i =>
      refine ⟨_, rfl, .int i, "int", rfl, rfl, _, rfl, ?_⟩
      refine iteT ⟨_, rfl, _, rfl, _, _, rfl, rfl, _, rfl, ite2 (fun e => ?_) (fun e => ?_)⟩
      · have e1 : lo ≤ i := of_decide_eq_true e
        refine ⟨_, rfl, _, _, rfl, rfl, ?_⟩
        have e2 : decide (lo ≤ i ∧ i ≤ hi) = decide (i ≤ hi) := by simp [e1]
        have q : Q (.bl (decide (lo ≤ i ∧ i ≤ hi))) H := q
        rw [e2] at q
        exact q
      · have e1 : ¬ lo ≤ i := fun z => e (decide_eq_true z)
        have e2 : decide (lo ≤ i ∧ i ≤ hi) = false := by simp [e1]
        have q : Q (.bl (decide (lo ≤ i ∧ i ≤ hi))) H := q
        rw [e2] at q
        exact q
def sp_is_one_of : Sp := fun vs H Q _ => ∃ (z : Str) (p : Addr) (l : List Str), vs = [.str z, .ref p] ∧ H p = some (.lst (l.map V.str)) ∧ Q (.bl (decide (z ∈ l))) H
theorem cal_is_one_of (T : Tp K mg) : Cal P w K mg base 1 "is_one_of" sp_is_one_of := by
  obtain ⟨fd, F⟩ := f_is_one_of T
  refine cal_of F (g_is_one_of T) (b_is_one_of F) sc_is_one_of (fun vs H Q E h => ?_) (fun cdv A outer s H vs Q E hr h => ?_)
  · obtain ⟨z, p, l, rfl, _⟩ := h
    rfl
  · obtain ⟨z, p, l, rfl, hp, q⟩ := h
    refine ⟨_, (pss_one (ps_ret (pe_and (pe_callB call_isK (by rfl) (z_isinstance T) bb_isinstance (pa_cons (pv 0) (pa_cons (pe_bltn (v := .ty "str") (by rfl) (z_str T) bb_str rfl) pa_nil))) (pe_one (pe_cmpR op_in_seq (pv 0) (pv 1) (by rfl)))))), ?_⟩
    refine ⟨_, rfl, _, "str", "str", rfl, .base (.str _), by decide, by decide, _, rfl, iteT ⟨_, rfl, _, rfl, p, _, rfl, .inl (.inl (.inl hp)), rfl, flat_strs _, ?_⟩⟩
    show Q (.bl (inV (.str z) (l.map V.str))) _
    rw [in_strs]
    exact q
/-! ### is_name -/
def sp_is_name : Sp := fun vs H Q _ => ∃ z : Str, vs = [.str z] ∧ Nm z ∧ ∀ H', Same H H' → Q (.bl true) H'
theorem cal_is_name (T : Tp K mg) : Cal P w K mg base 2 "is_name" sp_is_name := by
  obtain ⟨fd, F⟩ := f_is_name T
  refine cal_of F (g_is_name T) (b_is_name F) sc_is_name (fun vs H Q E h => ?_) (fun cdv A outer s H vs Q E hr h => ?_)
  · obtain ⟨z, rfl, _⟩ := h
    rfl
  · obtain ⟨z, rfl, ⟨n1, n2, n3⟩, q⟩ := h
    refine ⟨_, (pss_cons (ps_if (PW.pt (pw_or (pt_not (pt_val (pe_callB call_isK (by rfl) (z_isinstance T) bb_isinstance (pa_cons (pv 0) (pa_cons (pe_bltn (v := .ty "str") (by rfl) (z_str T) bb_str rfl) pa_nil))))) (pw_or1 (pt_not (pt_chain op_le op_le pe_int (pe_callB call_len_str (by rfl) (z_len T) bb_len (pa_cons (pv 0) pa_nil)) (C8.pe_gc (by rfl) (c_LONGEST_NAME T))))))) (pss_one (ps_ret pe_bl)) pss_nil)
      (pss_one (ps_ret (pe_callB (cr_all rfl) (by rfl) (z_all T) bb_all (pa_cons (pe_lc (own := [("letter", 1)]) (g := gName 1) (tt := tYes) rfl sc_is_name.nd (pi_str (pv 0)) (blkOk_by (N := N_is_name) (sc := defScope s_is_name) (by decide +kernel)) (fun _ _ _ _ _ => (pg_name (i := 1) sc_is_name.nd rfl (.inl rfl))) (fun _ _ _ _ _ => pts_nil) (fun _ _ _ _ _ => (pe_cmpR op_in_sign (pv 1) (C8.pe_gc (by rfl) (c_LETTERS T)) (by rfl)))) pa_nil))))), ?_⟩
    refine ⟨_, rfl, _, "str", "str", rfl, .base (.str _), by decide, by decide, _, rfl, ?_⟩
    refine iteF ⟨_, rfl, _, rfl, Nat.le_trans n2 (by decide), _, _, rfl, rfl, _, rfl, ?_⟩
    have e1 : decide ((1 : Int) ≤ (z.length : Int)) = true := decide_eq_true (by omega)
    rw [e1]
    refine iteT ⟨_, _, rfl, rfl, _, rfl, ?_⟩
    have e2 : decide ((z.length : Int) ≤ 8) = true := decide_eq_true (by omega)
    rw [e2]
    refine iteF ?_
    refine ⟨_, rfl, _, rfl, fun D nD => ?_⟩
    refine lc_it walk_str (fun i H1 => Same H H1 ∧ H1 D = some (.lst ((List.replicate i true).map V.bl))) ⟨same_upd nD, upd_same⟩ (fun _ _ _ _ => trivial) ?_ ?_
    · rintro i x H1 H2 hi ⟨s1, d1⟩ ⟨rfl, c, hc, rfl⟩
      refine ⟨rfl, yes_i (iteT ⟨_, rfl, c, letters, rfl, rfl, ?_⟩)⟩
      have hcm : c ∈ z.cps.toList := by
        obtain ⟨hi', hc'⟩ := Array.getElem?_eq_some_iff.mp hc
        rw [← hc']
        exact Array.mem_toList_iff.mpr (Array.getElem_mem hi')
      refine ⟨_, d1, ?_, ?_, ?_⟩
      · rw [List.length_map, List.length_replicate]
        have : z.cps.size = z.length := rfl
        exact small1000 (by omega)
      · exact fun b o e => by
          rw [upd_ne (ne_of_none e nD)]
          exact s1 b o e
      · rw [upd_same, decide_eq_true (n3 c hcm), List.replicate_succ', List.map_append]
        rfl
    · rintro H1 ⟨s1, d1⟩
      refine ⟨D, List.replicate z.cps.size true, rfl, .inl (.inl d1), ?_⟩
      rw [show (List.replicate z.cps.size true).all id = true by simp]
      exact q H1 s1
end
end Tw

set_option maxHeartbeats 4000000
namespace Tw
open PySem PySem.Spec PyProof.Rows L2
/-! ### attributes stored -/
theorem ne_mb : ¬ (("by" : Str) = "moment_rows") := by decide +kernel
theorem ne_sb : ¬ (("by" : Str) = "span_rows") := by decide +kernel
theorem ne_tb : ¬ (("by" : Str) = "tie_rows") := by decide +kernel
theorem ne_sm : ¬ (("moment_rows" : Str) = "span_rows") := by decide +kernel
theorem ne_tm : ¬ (("moment_rows" : Str) = "tie_rows") := by decide +kernel
theorem ne_ts : ¬ (("span_rows" : Str) = "tie_rows") := by decide +kernel
theorem pf0 {v : V} : putF "by" v ([] : List (Str × V)) = ([("by", v)] : List (Str × V)) := rfl
theorem pf1 {v x : V} : putF "moment_rows" v ([("by", x)] : List (Str × V)) = ([("by", x), ("moment_rows", v)] : List (Str × V)) := by
  simp only [putF, if_neg ne_mb]
theorem pf2 {v x y : V} : putF "span_rows" v ([("by", x), ("moment_rows", y)] : List (Str × V)) = ([("by", x), ("moment_rows", y), ("span_rows", v)] : List (Str × V)) := by
  simp only [putF, if_neg ne_sb, if_neg ne_sm]
theorem pf3 {v x y z : V} : putF "tie_rows" v ([("by", x), ("moment_rows", y), ("span_rows", z)] : List (Str × V)) = ([("by", x), ("moment_rows", y), ("span_rows", z), ("tie_rows", v)] : List (Str × V)) := by
  simp only [putF, if_neg ne_tb, if_neg ne_tm, if_neg ne_ts]
theorem wf_pm {l : Int} {a b c d : Addr} : putF "moment_rows" (.ref d) (wf l a b c) = wf l d b c := by
  unfold wf
  simp only [putF, if_neg ne_mb, if_true]
theorem wf_ps {l : Int} {a b c d : Addr} : putF "span_rows" (.ref d) (wf l a b c) = wf l a d c := by
  unfold wf
  simp only [putF, if_neg ne_sb, if_neg ne_sm, if_true]
theorem wf_pt {l : Int} {a b c d : Addr} : putF "tie_rows" (.ref d) (wf l a b c) = wf l a b d := by
  unfold wf
  simp only [putF, if_neg ne_tb, if_neg ne_tm, if_neg ne_ts, if_true]
theorem up_eq {H : Hp} {p : Addr} {o u : HO} (h : o = u) : (upd H p o) p = some u := by
  rw [upd_same, h]
section
variable {P : Program} {w : World} {K : PySem.W.Frag} {mg : Str → Option Value} {base : Heap}
abbrev CW (K : PySem.W.Frag) : Addr := He.ga K "Web"
/-! ### Web.__init__ -/
def sp_init (K : PySem.W.Frag) : Sp := fun vs H Q _ => ∃ (p dx : Addr) (l : Int), vs = [.ref p, .int l] ∧ H p = some (.ins (CW K) dx []) ∧ 1 ≤ l ∧ l ≤ 1000 ∧
  ∀ (a b c : Addr) (H' : Hp), (∀ x o, H x = some o → x ≠ p → H' x = some o) → H' p = some (.ins (CW K) dx (wf l a b c)) → H' a = some (.tup []) → H' b = some (.tup []) → H' c = some (.tup []) → Q .non H'
theorem fn_init (T : Tp K mg) {fd : FuncData} (F : FunD K "__init__" "Web.__init__" (defArgs s_Web_UinitU) (defBody s_Web_UinitU) (defScope s_Web_UinitU) [(V.int 100 : V)] [] (He.ma K (He.ga K "Web") "__init__") fd) :
    FnOk P w K mg base CX0 3 (He.ma K (He.ga K "Web") "__init__") fd ["self", "by"] (sp_init K) := by
  refine fnok_of F sc_Web_UinitU (fun vs H Q E h => ?_) (fun cdv A outer s H vs Q E hr h => ?_)
  · obtain ⟨p, dx, l, rfl, _⟩ := h
    rfl
  · obtain ⟨p, dx, l, rfl, hp, l1, l2, q⟩ := h
    refine ⟨_, (pss_cons (ps_if (pt_not (pt_val (C8.pe_c (cal_is_whole T) hr (by decide) rfl (pa_cons (pv 1) (pa_cons pe_int (pa_cons (C8.pe_gc (by rfl) (c_MOST_BY T)) pa_nil)))))) (pss_one ps_never) pss_nil)
      (pss_cons (ps_fld (pv 0) (pv 1) rfl)
      (pss_cons (ps_fld (pv 0) (pe_tup pa_nil) rfl)
      (pss_cons (ps_fld (pv 0) (pe_tup pa_nil) rfl)
      (pss_one (ps_fld (pv 0) (pe_tup pa_nil) rfl)))))), ?_⟩
    refine ⟨_, rfl, l, 1, 1000, rfl, _, rfl, ?_⟩
    rw [decide_eq_true (show (1 : Int) ≤ l ∧ l ≤ 1000 from ⟨l1, l2⟩)]
    refine iteF ?_
    -- self.by = by
    refine ⟨_, rfl, _, rfl, p, CW K, dx, [], rfl, hp, cl_Web T, na_by T, (by show 0 < 1000; decide), ?_⟩
    -- the three rows
    refine ⟨Nat.zero_le _, fun a na => ?_⟩
    have npa : p ≠ a := fun e => by
      rw [← e, upd_same] at na
      cases na
    refine ⟨_, rfl, p, CW K, dx, _, rfl, (by rw [upd_ne npa]; exact up_eq rfl), cl_Web T, na_moment_rows T, (by show 1 < 1000; decide), ?_⟩
    refine ⟨Nat.zero_le _, fun b nb => ?_⟩
    have npb : p ≠ b := fun e => by
      rw [← e, upd_same] at nb
      cases nb
    have nab : a ≠ b := fun e => by
      rw [← e, upd_ne npa.symm, upd_same] at nb
      cases nb
    refine ⟨_, rfl, p, CW K, dx, _, rfl, (by rw [upd_ne npb]; exact up_eq rfl), cl_Web T, na_span_rows T, (by rw [pf0, pf1]; show 2 < 1000; decide), ?_⟩
    refine ⟨Nat.zero_le _, fun c nc => ?_⟩
    have npc : p ≠ c := fun e => by
      rw [← e, upd_same] at nc
      cases nc
    have nbc : b ≠ c := fun e => by
      rw [← e, upd_ne npb.symm, upd_same] at nc
      cases nc
    have nac : a ≠ c := fun e => by
      rw [← e, upd_ne npa.symm, upd_ne nab, upd_ne npa.symm, upd_same] at nc
      cases nc
    refine ⟨_, rfl, p, CW K, dx, _, rfl, (by rw [upd_ne npc]; exact up_eq rfl), cl_Web T, na_tie_rows T, (by rw [pf0, pf1, pf2]; show 3 < 1000; decide), ?_⟩
    refine q a b c _ (fun x o e hx => ?_) (up_eq (by rw [pf0, pf1, pf2, pf3]; rfl)) ?_ ?_ ?_
    · have ea : (upd H p (.ins (CW K) dx (putF "by" (.int l) []))) x = some o := by
        rw [upd_ne hx]
        exact e
      have nxa : x ≠ a := ne_of_none ea na
      have eb : (upd (upd (upd H p (.ins (CW K) dx (putF "by" (.int l) []))) a (.tup [])) p (.ins (CW K) dx (putF "moment_rows" (.ref a) (putF "by" (.int l) [])))) x = some o := by
        rw [upd_ne hx, upd_ne nxa]
        exact ea
      have nxb : x ≠ b := ne_of_none eb nb
      have nxc : x ≠ c := ne_of_none (by rw [upd_ne hx, upd_ne nxb]; exact eb) nc
      rw [upd_ne hx, upd_ne nxc, upd_ne hx, upd_ne nxb]
      exact eb
    · rw [upd_ne npa.symm, upd_ne nac, upd_ne npa.symm, upd_ne nab, upd_ne npa.symm, upd_same]
    · rw [upd_ne npb.symm, upd_ne nbc, upd_ne npb.symm, upd_same]
    · rw [upd_ne npc.symm, upd_same]
theorem mak_Web (T : Tp K mg) : Mak P w K mg base 3 "Web" (CW K) (sp_init K) [] := by
  obtain ⟨fd, F⟩ := f_Web_UinitU T
  obtain ⟨ds, hv, hb⟩ := F.binds1 (ps := ["self", "by"]) 2 1 (by simp) rfl fun T kV doc pm an cdv ct us its h1 h2 => match us, its, h1, h2 with
    | [_, _], [_], _, _ => ⟨_, rfl, rfl⟩
  exact ⟨_, fd, ["self", "by"], ds, mk_Web T, fn_init T F, g_Web T, hb, hv⟩
theorem mak0_Web (T : Tp K mg) : Mak P w K mg base 3 "Web" (CW K) (sp_init K) [.int 100] := by
  obtain ⟨fd, F⟩ := f_Web_UinitU T
  obtain ⟨ds, hv, hb⟩ := F.binds1 (ps := ["self", "by"]) 1 0 (by simp) rfl fun T kV doc pm an cdv ct us its h1 h2 => match us, its, h1, h2 with
    | [_], [_], _, _ => ⟨_, rfl, rfl⟩
  exact ⟨_, fd, ["self", "by"], ds, mk_Web T, fn_init T F, g_Web T, hb, hv⟩
end
end Tw

set_option maxHeartbeats 4000000
namespace Tw
open PySem PySem.Spec PyProof.Rows L2
theorem Same.upd' {H H1 : Hp} {p : Addr} {o : HO} (s : Same H H1) (h : H1 p = none) : Same H (upd H1 p o) := s.trans (same_upd h)
/-- a new list is written again: what was ahead of it stays -/
theorem same_put {H H1 : Hp} {D : Addr} {o : HO} (s : Same H H1) (nD : H D = none) : Same H (upd H1 D o) := fun b x e => by
  rw [upd_ne (ne_of_none e nD)]
  exact s b x e
section
variable {P : Program} {w : World} {K : PySem.W.Frag} {mg : Str → Option Value} {base : Heap}
/-! ### woven -/
def sp_woven (K : PySem.W.Frag) : Sp := fun vs H Q _ => ∃ (m : Md) (a b c : Addr) (ws bs : List V), vs = [.int m.last, .ref a, .ref b, .ref c] ∧ H a = some (.tup (m.own.map V.str)) ∧ H b = some (.tup ws) ∧ Rows H ws (m.wd.map Wd.row) ∧ H c = some (.tup bs) ∧ Rows H bs (m.bd.map Bd.row) ∧
  (m.own.length ≤ 10 ∧ m.wd.length ≤ 4 ∧ m.bd.length ≤ 40) ∧ (1 ≤ m.last ∧ m.last ≤ 1000) ∧ ∀ (p : Addr) (H' : Hp), Same H H' → H p = none → WebAt (CW K) H' p m → Q (.ref p) H'
theorem cal_woven (T : Tp K mg) : Cal P w K mg base 5 "woven" (sp_woven K) := by
  obtain ⟨fd, F⟩ := f_woven T
  refine cal_of F (g_woven T) (b_woven F) sc_woven (fun vs H Q E h => ?_) (fun cdv A outer s H vs Q E hr h => ?_)
  · obtain ⟨m, a, b, c, ws, bs, rfl, _⟩ := h
    rfl
  · obtain ⟨m, a, b, c, ws, bs, rfl, ha, hb, rb, hc, rc, hl, hla, q⟩ := h
    refine ⟨_, (pss_cons (ps_set (i := 4) sc_woven.nd rfl (.inl rfl) (C8.pe_mk (mak_Web T) hr (by decide) rfl (pa_cons (pv 0) pa_nil)))
      (pss_cons (ps_fld (pv 4) (pe_callTy call_tuple_of (by rfl) (z_tuple T) bb_tuple (pa_cons (pv 1) pa_nil)) rfl)
      (pss_cons (ps_fld (pv 4) (pe_callTy call_tuple_of (by rfl) (z_tuple T) bb_tuple (pa_cons (pv 2) pa_nil)) rfl)
      (pss_cons (ps_fld (pv 4) (pe_callTy call_tuple_of (by rfl) (z_tuple T) bb_tuple (pa_cons (pv 3) pa_nil)) rfl)
      (pss_one (ps_ret (pv 4))))))), ?_⟩
    refine ⟨_, rfl, fun x dx nx ndx ne => ⟨x, dx, m.last, rfl, upd_same, hla.1, hla.2, fun a0 b0 c0 H1 kp hp ha0 hb0 hc0 => ⟨rfl, ?_⟩⟩⟩
    have s1 : Same H H1 := Same.made nx ndx kp
    have nax : a ≠ x := ne_of_none ha nx
    have nbx : b ≠ x := ne_of_none hb nx
    have ncx : c ≠ x := ne_of_none hc nx
    refine ⟨_, rfl, a, _, rfl, .inr ⟨.inl (.inl (s1 _ _ ha)), _, rfl, x, CW K, dx, _, rfl, hp, cl_Web T, na_moment_rows T, (by show 4 < 1000; decide), ?_⟩⟩
    refine ⟨_, rfl, b, _, rfl, .inr ⟨.inl (.inl (by rw [upd_ne nbx]; exact s1 _ _ hb)), _, rfl, x, CW K, dx, _, rfl, up_eq (by rw [wf_pm]), cl_Web T, na_span_rows T, (by show 4 < 1000; decide), ?_⟩⟩
    refine ⟨_, rfl, c, _, rfl, .inr ⟨.inl (.inl (by rw [upd_ne ncx, upd_ne ncx]; exact s1 _ _ hc)), _, rfl, x, CW K, dx, _, rfl, up_eq (by rw [wf_ps]), cl_Web T, na_tie_rows T, (by show 4 < 1000; decide), ?_⟩⟩
    have s2 : Same H (upd (upd (upd H1 x (.ins (CW K) dx (putF "moment_rows" (.ref a) (wf m.last a0 b0 c0)))) x (.ins (CW K) dx (putF "span_rows" (.ref b) (wf m.last a b0 c0)))) x (.ins (CW K) dx (putF "tie_rows" (.ref c) (wf m.last a b c0)))) := fun y o e => by
      have ny : y ≠ x := ne_of_none e nx
      rw [upd_ne ny, upd_ne ny, upd_ne ny]
      exact s1 _ _ e
    refine ⟨_, rfl, q x _ s2 nx ⟨⟨dx, a, b, c, ws, bs, up_eq (by rw [wf_pt]), s2 _ _ ha, s2 _ _ hb, rb.keep (Kt.of s2), s2 _ _ hc, rc.keep (Kt.of s2)⟩, hl, hla⟩⟩
/-! ### moments, spans, ties -/
def sp_moments (K : PySem.W.Frag) : Sp := fun vs H Q _ => ∃ (p : Addr) (m : Md), vs = [.ref p] ∧ WebAt (CW K) H p m ∧ ∀ q, H q = none → Q (.ref q) (upd H q (.lst (m.own.map V.str)))
theorem met_Web_moments (T : Tp K mg) : Met P w K mg base 2 (CW K) "moments" (sp_moments K) := by
  obtain ⟨fd, F⟩ := f_Web_moments T
  refine met_of F (cl_Web T) (me_Web_moments T) (b_Web_moments F) sc_Web_moments (fun vs H Q E h => ?_) (fun cdv A outer s H vs Q E hr h => ?_)
  · obtain ⟨p, m, rfl, _⟩ := h
    rfl
  · obtain ⟨p, m, rfl, W, q⟩ := h
    obtain ⟨dx, a, b, c, ws, bs, h1, h2, h3, h4, h5, h6⟩ := W.ex
    refine ⟨_, (pss_one (ps_ret (pe_callTy call_list_of (by rfl) (z_list T) bb_list (pa_cons (pe_fld (pv 0) rfl) pa_nil)))), ?_⟩
    exact ⟨_, rfl, p, CW K, dx, _, _, rfl, h1, cl_Web T, na_moment_rows T, wf_m, a, _, rfl, .inr (.inl (.inl h2)), q⟩
def sp_spans (K : PySem.W.Frag) : Sp := fun vs H Q _ => ∃ (p : Addr) (m : Md), vs = [.ref p] ∧ WebAt (CW K) H p m ∧ ∀ ws q, Rows H ws (m.wd.map Wd.row) → H q = none → Q (.ref q) (upd H q (.lst ws))
theorem met_Web_spans (T : Tp K mg) : Met P w K mg base 2 (CW K) "spans" (sp_spans K) := by
  obtain ⟨fd, F⟩ := f_Web_spans T
  refine met_of F (cl_Web T) (me_Web_spans T) (b_Web_spans F) sc_Web_spans (fun vs H Q E h => ?_) (fun cdv A outer s H vs Q E hr h => ?_)
  · obtain ⟨p, m, rfl, _⟩ := h
    rfl
  · obtain ⟨p, m, rfl, W, q⟩ := h
    obtain ⟨dx, a, b, c, ws, bs, h1, h2, h3, h4, h5, h6⟩ := W.ex
    refine ⟨_, (pss_one (ps_ret (pe_callTy call_list_of (by rfl) (z_list T) bb_list (pa_cons (pe_fld (pv 0) rfl) pa_nil)))), ?_⟩
    exact ⟨_, rfl, p, CW K, dx, _, _, rfl, h1, cl_Web T, na_span_rows T, wf_s, b, _, rfl, .inr (.inl (.inl h3)), fun l => q ws l h4⟩
def sp_ties (K : PySem.W.Frag) : Sp := fun vs H Q _ => ∃ (p : Addr) (m : Md), vs = [.ref p] ∧ WebAt (CW K) H p m ∧ ∀ bs q, Rows H bs (m.bd.map Bd.row) → H q = none → Q (.ref q) (upd H q (.lst bs))
theorem met_Web_ties (T : Tp K mg) : Met P w K mg base 2 (CW K) "ties" (sp_ties K) := by
  obtain ⟨fd, F⟩ := f_Web_ties T
  refine met_of F (cl_Web T) (me_Web_ties T) (b_Web_ties F) sc_Web_ties (fun vs H Q E h => ?_) (fun cdv A outer s H vs Q E hr h => ?_)
  · obtain ⟨p, m, rfl, _⟩ := h
    rfl
  · obtain ⟨p, m, rfl, W, q⟩ := h
    obtain ⟨dx, a, b, c, ws, bs, h1, h2, h3, h4, h5, h6⟩ := W.ex
    refine ⟨_, (pss_one (ps_ret (pe_callTy call_list_of (by rfl) (z_list T) bb_list (pa_cons (pe_fld (pv 0) rfl) pa_nil)))), ?_⟩
    exact ⟨_, rfl, p, CW K, dx, _, _, rfl, h1, cl_Web T, na_tie_rows T, wf_t, c, _, rfl, .inr (.inl (.inl h5)), fun l => q bs l h6⟩
/-! ### points -/
def sp_points (K : PySem.W.Frag) : Sp := fun vs H Q _ => ∃ (p : Addr) (m : Md), vs = [.ref p] ∧ WebAt (CW K) H p m ∧ ∀ q H', Same H H' → H q = none → H' q = some (.lst (m.pts.map V.str)) → Q (.ref q) H'
theorem met_Web_points (T : Tp K mg) : Met P w K mg base 3 (CW K) "points" (sp_points K) := by
  obtain ⟨fd, F⟩ := f_Web_points T
  refine met_of F (cl_Web T) (me_Web_points T) (b_Web_points F) sc_Web_points (fun vs H Q E h => ?_) (fun cdv A outer s H vs Q E hr h => ?_)
  · obtain ⟨p, m, rfl, _⟩ := h
    rfl
  · obtain ⟨p, m, rfl, W, q⟩ := h
    obtain ⟨dx, a, b, c, ws, bs, h1, h2, h3, h4, h5, h6⟩ := W.ex
    have hl := W.len
    have hw : ws.length = m.wd.length := by
      rw [h4.len, List.length_map]
    refine ⟨_, (pss_cons (ps_setLc (i := 1) (own := [("span", 2)]) (g := gName 2) (tt := tYes) rfl sc_Web_points.nd rfl rfl (sw_true rfl rfl rfl (by decide +kernel)) (pi_tup (pe_fld (pv 0) rfl)) (blkOk_by (N := N_Web_points) (sc := defScope s_Web_points) (by decide +kernel)) (fun _ _ _ _ _ => (pg_name (i := 2) sc_Web_points.nd rfl (.inl rfl))) (fun _ _ _ _ _ => pts_nil) (fun _ _ _ _ _ => (pe_ix (ix_tupK (K := K) rfl) (pv 2) pe_int (fun _ _ => rfl))))
      (pss_one (ps_ret (pe_op op_cat (pe_op op_cat (pe_lst (pa_cons (C8.pe_gc (by rfl) (c_START T)) pa_nil)) (C8.pe_mt0 (met_Web_moments T) hr (by decide) (pv 0))) (pv 1))))), ?_⟩
    refine ⟨_, rfl, p, CW K, dx, _, _, rfl, h1, cl_Web T, na_span_rows T, wf_s, b, rfl, ⟨_, .inl (.inl h3)⟩, fun D nD => ?_⟩
    refine lc_tup (K := K) (a := b) (xs := ws) (fun i H1 => Same H H1 ∧ H1 D = some (.lst (((m.wd.map (·.en)).take i).map V.str))) ⟨same_upd nD, upd_same⟩ (fun i H1 _ ⟨s1, _⟩ => .inl (.inl (s1 _ _ h3))) ?_ ?_
    · rintro i x H1 hx ⟨s1, d1⟩
      obtain ⟨t, r, rfl, hr', ht⟩ := h4.at hx
      rw [List.getElem?_map] at hr'
      cases e : m.wd[i]? with
      | none =>
        rw [e] at hr'
        cases hr'
      | some y =>
        rw [e] at hr'
        cases hr'
        have hi : i < m.wd.length := (List.getElem?_eq_some_iff.mp e).1
        refine ⟨rfl, yes_i (iteT ⟨_, rfl, t, _, 0, _, rfl, rfl, .inl (.inl (s1 _ _ ht)), atI_nat (j := 0) rfl, _, d1, ?_, ?_, ?_⟩)⟩
        · rw [List.length_map, List.length_take]
          exact small1000 (by omega)
        · exact same_put s1 nD
        · rw [upd_same, List.take_add_one, List.getElem?_map, e, List.map_append]
          rfl
    · rintro H1 ⟨s1, d1⟩
      have en : (m.wd.map (·.en)).take ws.length = m.wd.map (·.en) := List.take_of_length_le (by rw [List.length_map]; omega)
      rw [en] at d1
      -- [START] + self.moments() + ends
      refine ⟨by show 1 ≤ sizeLine; decide, fun l nl => ?_⟩
      have s2 : Same H1 (upd H1 l (.lst [.str "start"])) := same_upd nl
      have W2 := (W.same s1).same s2
      obtain ⟨dx2, _, _, _, _, _, g1, _⟩ := W2.ex
      refine ⟨_, rfl, p, _, _, rfl, g1, wf_no (by decide +kernel), p, m, rfl, W2, fun k nk => ?_⟩
      have nlk : l ≠ k := fun z => by
        rw [← z, upd_same] at nk
        cases nk
      have s3 := same_upd (o := .lst (m.own.map V.str)) nk
      refine ⟨l, k, _, _, rfl, rfl, (by rw [upd_ne nlk]; exact upd_same), upd_same, ?_, fun r nr => ?_⟩
      · rw [List.length_map]
        exact Nat.le_of_lt (small1000 (by show 1 + _ ≤ 1000; omega))
      · have s4 := same_upd (o := .lst ([.str "start"] ++ m.own.map V.str)) nr
        have nDr : D ≠ r := ne_of_none (s3 _ _ (s2 _ _ d1)) nr
        refine ⟨_, rfl, r, D, _, _, rfl, rfl, upd_same, (s4 _ _ (s3 _ _ (s2 _ _ d1))), ?_, fun u nu => ?_⟩
        · rw [List.length_append, List.length_map, List.length_map, List.length_map]
          exact Nat.le_of_lt (small1000 (by show 1 + _ + _ ≤ 1000; omega))
        · have s5 := same_upd (o := .lst ([.str "start"] ++ m.own.map V.str ++ (m.wd.map (·.en)).map V.str)) nu
          have sa := ((s1.trans s2).trans s3).trans s4
          refine q u _ (sa.trans s5) (sa.free nu) ?_
          rw [upd_same]
          unfold Md.pts
          rw [List.map_cons, List.map_append]
          rfl
end
end Tw

set_option maxHeartbeats 4000000
namespace Tw
open PySem PySem.Spec PyProof.Rows L2
/-- the two bounds of a tie, good -/
structure BOk (bo to : Option Int) : Prop where
  one : ¬ (bo = none ∧ to = none)
  lo : ∀ x, bo = some x → -1000 ≤ x ∧ x ≤ 1000
  hi : ∀ x, to = some x → -1000 ≤ x ∧ x ≤ 1000
  le : ∀ x y, bo = some x → to = some y → x ≤ y
def tls (bo to : Option Int) : List Int := bo.toList ++ to.toList
theorem BOk.sh {bo to : Option Int} (h : BOk bo to) : (∀ x ∈ tls bo to, -1000 ≤ x ∧ x ≤ 1000) ∧ ((∃ u, tls bo to = [u]) ∨ ∃ u v, tls bo to = [u, v] ∧ u ≤ v) := by
  cases bo with
  | none =>
    cases to with
    | none => exact absurd ⟨rfl, rfl⟩ h.one
    | some y =>
      refine ⟨fun x hx => ?_, .inl ⟨y, rfl⟩⟩
      have e : x = y := by simpa [tls] using hx
      rw [e]
      exact h.hi y rfl
  | some x0 =>
    cases to with
    | none =>
      refine ⟨fun x hx => ?_, .inl ⟨x0, rfl⟩⟩
      have e : x = x0 := by simpa [tls] using hx
      rw [e]
      exact h.lo x0 rfl
    | some y =>
      refine ⟨fun x hx => ?_, .inr ⟨x0, y, rfl, h.le x0 y rfl rfl⟩⟩
      have e : x = x0 ∨ x = y := by simpa [tls] using hx
      rcases e with e | e
      · rw [e]
        exact h.lo x0 rfl
      · rw [e]
        exact h.hi y rfl
theorem oV_non {o : Option Int} : decide (oV o = V.non) = o.isNone := by
  cases o <;> simp [oV]
section
variable {P : Program} {w : World} {K : PySem.W.Frag} {mg : Str → Option Value} {base : Heap}
/-! ### are_bounds -/
def sp_are_bounds : Sp := fun vs H Q _ => ∃ bo to : Option Int, vs = [oV bo, oV to] ∧ BOk bo to ∧ ∀ H', Same H H' → Q (.bl true) H'
theorem cal_are_bounds (T : Tp K mg) : Cal P w K mg base 3 "are_bounds" sp_are_bounds := by
  obtain ⟨fd, F⟩ := f_are_bounds T
  refine cal_of F (g_are_bounds T) (b_are_bounds F) sc_are_bounds (fun vs H Q E h => ?_) (fun cdv A outer s H vs Q E hr h => ?_)
  · obtain ⟨bo, to, rfl, _⟩ := h
    rfl
  · obtain ⟨bo, to, rfl, B, q⟩ := h
    obtain ⟨hin, hsh⟩ := B.sh
    refine ⟨_, (pss_cons (ps_setLc (i := 2) (own := [("bound", 3)]) (g := gName 3) rfl sc_are_bounds.nd rfl rfl (sw_true rfl rfl rfl (by decide +kernel)) (pi_tup (pe_tup (pa_cons (pv 0) (pa_cons (pv 1) pa_nil)))) (blkOk_by (N := N_are_bounds) (sc := defScope s_are_bounds) (by decide +kernel)) (fun _ _ _ _ _ => (pg_name (i := 3) sc_are_bounds.nd rfl (.inl rfl))) (fun _ _ _ _ _ => (pts_one (pt_cmpR op_notN (pv 3) pe_non (nomark _)))) (fun _ _ _ _ _ => (pv 3)))
      (pss_cons (ps_if (pt_not (pt_val (pe_callB (cr_all rfl) (by rfl) (z_all T) bb_all (pa_cons (pe_lc (own := [("bound", 3)]) (g := gName 3) (tt := tYes) rfl sc_are_bounds.nd (pi_list (pv 2)) (blkOk_by (N := N_are_bounds) (sc := defScope s_are_bounds) (by decide +kernel)) (fun _ _ _ _ _ => (pg_name (i := 3) sc_are_bounds.nd rfl (.inl rfl))) (fun _ _ _ _ _ => pts_nil) (fun _ _ _ _ _ => (C8.pe_c (cal_is_whole T) hr (by decide) rfl (pa_cons (pv 3) (pa_cons (pe_un un_neg (C8.pe_gc (by rfl) (c_MOST_BOUND T))) (pa_cons (C8.pe_gc (by rfl) (c_MOST_BOUND T)) pa_nil)))))) pa_nil)))) (pss_one (ps_ret pe_bl)) pss_nil)
      (pss_one (ps_ret (pe_and (pe_cmpR op_gt (pe_callB call_len_seq (by rfl) (z_len T) bb_len (pa_cons (pv 2) pa_nil)) pe_int (nomark _)) (pe_one (pe_cmpR op_le (pe_ix ix_list (pv 2) pe_int (fun _ _ => rfl)) (pe_ix ix_list (pv 2) (pe_un un_neg pe_int) (fun _ _ => rfl)) (nomark _)))))))), ?_⟩
    refine ⟨_, rfl, _, rfl, (by show 2 ≤ sizeLine; decide), fun t nt => ?_⟩
    have s1 : Same H (upd H t (.tup [oV bo, oV to])) := same_upd nt
    refine ⟨t, rfl, ⟨_, .inl (.inl upd_same)⟩, fun D nD => ?_⟩
    have nDH : H D = none := s1.free nD
    refine lc_tup (K := K) (a := t) (xs := [oV bo, oV to]) (fun i H1 => Same (upd H t (.tup [oV bo, oV to])) H1 ∧ H1 D = some (.lst ((((([bo, to] : List (Option Int)).take i).filterMap id)).map V.int)))
      ⟨same_upd nD, upd_same⟩ (fun i H1 _ ⟨s2, _⟩ => .inl (.inl (s2 _ _ upd_same))) ?_ ?_
    · rintro i x H1 hx ⟨s2, d1⟩
      obtain ⟨o, eo, ex⟩ : ∃ o : Option Int, ([bo, to] : List (Option Int))[i]? = some o ∧ x = oV o := by
        match i, hx with
        | 0, hx => exact ⟨bo, rfl, (Option.some.inj hx).symm⟩
        | 1, hx => exact ⟨to, rfl, (Option.some.inj hx).symm⟩
      subst ex
      have hi : i < 2 := (List.getElem?_eq_some_iff.mp eo).1
      have e2 : (([bo, to] : List (Option Int)).take (i + 1)).filterMap id = (([bo, to] : List (Option Int)).take i).filterMap id ++ o.toList := by
        rw [List.take_add_one, eo, List.filterMap_append]
        cases o <;> rfl
      refine ⟨rfl, _, rfl, rfl, _, rfl, ?_⟩
      rw [oV_non]
      cases o with
      | none =>
        refine iteF ⟨s2, ?_⟩
        rw [e2, d1]
        show _ = some (HO.lst (List.map V.int (_ ++ [])))
        rw [List.append_nil]
      | some z =>
        refine iteT ⟨_, rfl, _, d1, ?_, ?_, ?_⟩
        · rw [List.length_map]
          refine Nat.lt_of_le_of_lt (List.length_filterMap_le _ _) ?_
          rw [List.length_take]
          exact small1000 (by show min i 2 ≤ 1000; omega)
        · exact same_put s2 nD
        · rw [upd_same, e2, List.map_append]
          rfl
    · rintro H1 ⟨s2, d1⟩
      have d2 : H1 D = some (.lst ((tls bo to).map V.int)) := by
        rw [d1]
        cases bo <;> cases to <;> rfl
      have s3 : Same H H1 := s1.trans s2
      have hlen : (tls bo to).length ≤ 2 := by
        rcases hsh with ⟨u, e⟩ | ⟨u, v, e, _⟩ <;> rw [e] <;> simp
      -- all([is_whole(..) for bound in told])
      refine ⟨_, rfl, D, rfl, ⟨_, .inl (.inl d2)⟩, fun L nL => ?_⟩
      have nLH : H L = none := s3.free nL
      have nDL : D ≠ L := ne_of_none d2 nL
      refine lc_list (K := K) (a := D) (xs := (tls bo to).map V.int) (fun i H2 => Same H H2 ∧ H2 D = some (.lst ((tls bo to).map V.int)) ∧ H2 L = some (.lst ((List.replicate i true).map V.bl)))
        ⟨s3.trans (same_upd nL), by rw [upd_ne nDL]; exact d2, upd_same⟩ (fun i H2 _ ⟨_, d, _⟩ => .inl (.inl d)) ?_ ?_
      · rintro i x H2 hx ⟨s4, d4, l4⟩
        rw [List.getElem?_map] at hx
        cases e : (tls bo to)[i]? with
        | none =>
          rw [e] at hx
          cases hx
        | some z =>
          rw [e] at hx
          cases hx
          have hi : i < (tls bo to).length := (List.getElem?_eq_some_iff.mp e).1
          have hz := hin z (List.mem_of_getElem? e)
          refine ⟨rfl, yes_i (iteT ⟨_, rfl, 1000, rfl, z, -1000, 1000, rfl, _, l4, ?_, ?_, ?_, ?_⟩)⟩
          · rw [List.length_map, List.length_replicate]
            exact small1000 (by omega)
          · exact same_put s4 nLH
          · rw [upd_ne nDL]
            exact d4
          · rw [upd_same, decide_eq_true hz, List.replicate_succ', List.map_append]
            rfl
      · rintro H2 ⟨s4, d4, l4⟩
        refine ⟨L, _, rfl, .inl (.inl l4), _, rfl, ?_⟩
        rw [show (List.replicate ((tls bo to).map V.int).length true).all id = true by simp]
        refine iteF ?_
        -- len(told) > 0 and told[0] <= told[-1]
        refine ⟨_, rfl, D, _, rfl, .inl (.inl (.inl d4)), _, 0, rfl, rfl, _, rfl, ?_⟩
        have fin : ∀ (u v : Int) (pre : List Int), (tls bo to)[0]? = some u → tls bo to = pre ++ [v] → u ≤ v → (if decide ((0 : Int) < ((tls bo to).map V.int).length) = true then
            tOp (rI0 fun i j => .bl (decide (i ≤ j))) (tOp (rIxL K) (tVar 2) (tC (.int 0))) (tOp (rIxL K) (tVar 2) (tUn (rU fun i => .int (-i)) (tC (.int 1)))) [some (oV bo), some (oV to), some (.ref D), none] H2 Q else Q (.bl false) H2) := by
          intro u v pre hu hv huv
          have h0 : 0 < (tls bo to).length := by
            rw [hv, List.length_append]
            exact Nat.succ_pos _
          rw [decide_eq_true (by rw [List.length_map]; omega)]
          have hz : (tls bo to).map V.int = pre.map V.int ++ [.int v] := by
            rw [hv, List.map_append]
            rfl
          refine iteT ⟨_, rfl, D, _, 0, .int u, rfl, rfl, .inl (.inl d4), atI_nat (j := 0) (by rw [List.getElem?_map, hu]; rfl), _, rfl, _, rfl, D, _, _, .int v, rfl, rfl, .inl (.inl d4), ?_, u, v, rfl, rfl, ?_⟩
          · rw [hz]
            exact atI_last _ _
          · show Q (.bl (decide (u ≤ v))) H2
            rw [decide_eq_true huv]
            exact q H2 s4
        rcases hsh with ⟨u, e⟩ | ⟨u, v, e, huv⟩
        · exact fin u u [] (by rw [e]; rfl) (by rw [e]; rfl) (Int.le_refl _)
        · exact fin u v [u] (by rw [e]; rfl) (by rw [e]; rfl) huv
/-! ### is_begin, need_free_name, need_point -/
def sp_is_begin (K : PySem.W.Frag) : Sp := fun vs H Q _ => ∃ (p : Addr) (m : Md) (z : Str), vs = [.ref p, .str z] ∧ WebAt (CW K) H p m ∧ (z = "start" ∨ z ∈ m.own) ∧ ∀ H', Same H H' → Q (.bl true) H'
theorem cal_is_begin (T : Tp K mg) : Cal P w K mg base 3 "is_begin" (sp_is_begin K) := by
  obtain ⟨fd, F⟩ := f_is_begin T
  refine cal_of F (g_is_begin T) (b_is_begin F) sc_is_begin (fun vs H Q E h => ?_) (fun cdv A outer s H vs Q E hr h => ?_)
  · obtain ⟨p, m, z, rfl, _⟩ := h
    rfl
  · obtain ⟨p, m, z, rfl, W, hz, q⟩ := h
    obtain ⟨dx, a, b, c, ws, bs, h1, _⟩ := W.ex
    refine ⟨_, (pss_one (ps_ret (C8.pe_c (cal_is_one_of T) hr (by decide) rfl (pa_cons (pv 1) (pa_cons (pe_op op_cat (pe_lst (pa_cons (C8.pe_gc (by rfl) (c_START T)) pa_nil)) (C8.pe_mt0 (met_Web_moments T) hr (by decide) (pv 0))) pa_nil))))), ?_⟩
    refine ⟨_, rfl, by show 1 ≤ sizeLine; decide, fun l nl => ?_⟩
    have s1 : Same H (upd H l (.lst [.str "start"])) := same_upd nl
    refine ⟨_, rfl, p, dx, _, rfl, s1 _ _ h1, wf_no (by decide +kernel), p, m, rfl, W.same s1, fun k nk => ?_⟩
    have nlk : l ≠ k := fun e => by
      rw [← e, upd_same] at nk
      cases nk
    have s2 := same_upd (o := .lst (m.own.map V.str)) nk
    refine ⟨l, k, _, _, rfl, rfl, (by rw [upd_ne nlk]; exact upd_same), upd_same, ?_, fun r nr => ?_⟩
    · rw [List.length_map]
      have hl := W.len
      exact Nat.le_of_lt (small1000 (by show 1 + _ ≤ 1000; omega))
    · have s3 := same_upd (o := .lst ([.str "start"] ++ m.own.map V.str)) nr
      refine ⟨z, r, "start" :: m.own, rfl, upd_same, ?_⟩
      rw [decide_eq_true (List.mem_cons.mpr hz)]
      exact q _ ((s1.trans s2).trans s3)
def sp_need_free_name (K : PySem.W.Frag) : Sp := fun vs H Q _ => ∃ (p : Addr) (m : Md) (z : Str), vs = [.ref p, .str z] ∧ WebAt (CW K) H p m ∧ Nm z ∧ ¬ z ∈ m.pts ∧ ∀ H', Same H H' → Q .non H'
theorem cal_need_free_name (T : Tp K mg) : Cal P w K mg base 4 "need_free_name" (sp_need_free_name K) := by
  obtain ⟨fd, F⟩ := f_need_free_name T
  refine cal_of F (g_need_free_name T) (b_need_free_name F) sc_need_free_name (fun vs H Q E h => ?_) (fun cdv A outer s H vs Q E hr h => ?_)
  · obtain ⟨p, m, z, rfl, _⟩ := h
    rfl
  · obtain ⟨p, m, z, rfl, W, hn, hz, q⟩ := h
    refine ⟨_, (pss_cons (ps_if (pt_not (pt_val (C8.pe_c (cal_is_name T) hr (by decide) rfl (pa_cons (pv 1) pa_nil)))) (pss_one ps_never) pss_nil)
      (pss_one (ps_if (pt_cmpR op_in_seq (pv 1) (C8.pe_mt0 (met_Web_points T) hr (by decide) (pv 0)) (by rfl)) (pss_one ps_never) pss_nil))), ?_⟩
    refine ⟨_, rfl, z, rfl, hn, fun H1 s1 => ⟨_, rfl, iteF ?_⟩⟩
    have W1 := W.same s1
    obtain ⟨dx, a, b, c, ws, bs, h1, _⟩ := W1.ex
    refine ⟨_, rfl, _, rfl, p, dx, _, rfl, h1, wf_no (by decide +kernel), p, m, rfl, W1, fun k H2 s2 nk ek => ?_⟩
    refine ⟨k, _, rfl, .inl (.inl (.inl ek)), rfl, flat_strs _, _, rfl, ?_⟩
    show if inV (.str z) (m.pts.map V.str) = true then _ else _
    rw [in_strs, decide_eq_false hz]
    exact iteF (q H2 (s1.trans s2))
def sp_need_point (K : PySem.W.Frag) : Sp := fun vs H Q _ => ∃ (p : Addr) (m : Md) (z : Str), vs = [.ref p, .str z] ∧ WebAt (CW K) H p m ∧ z ∈ m.pts ∧ ∀ H', Same H H' → Q .non H'
theorem cal_need_point (T : Tp K mg) : Cal P w K mg base 4 "need_point" (sp_need_point K) := by
  obtain ⟨fd, F⟩ := f_need_point T
  refine cal_of F (g_need_point T) (b_need_point F) sc_need_point (fun vs H Q E h => ?_) (fun cdv A outer s H vs Q E hr h => ?_)
  · obtain ⟨p, m, z, rfl, _⟩ := h
    rfl
  · obtain ⟨p, m, z, rfl, W, hz, q⟩ := h
    obtain ⟨dx, a, b, c, ws, bs, h1, _⟩ := W.ex
    refine ⟨_, (pss_one (ps_if (pt_not (pt_val (C8.pe_c (cal_is_one_of T) hr (by decide) rfl (pa_cons (pv 1) (pa_cons (C8.pe_mt0 (met_Web_points T) hr (by decide) (pv 0)) pa_nil))))) (pss_one ps_never) pss_nil)), ?_⟩
    refine ⟨_, rfl, _, rfl, p, dx, _, rfl, h1, wf_no (by decide +kernel), p, m, rfl, W, fun k H2 s2 nk ek => ?_⟩
    refine ⟨z, k, _, rfl, ek, _, rfl, ?_⟩
    rw [decide_eq_true hz]
    exact iteF (q H2 s2)
/-! ### __len__ -/
def sp_len (K : PySem.W.Frag) : Sp := fun vs H Q _ => ∃ (p : Addr) (m : Md), vs = [.ref p] ∧ WebAt (CW K) H p m ∧ ∀ H', Same H H' → Q (.int (m.pts.length : Nat)) H'
theorem met_Web_UlenU (T : Tp K mg) : Met P w K mg base 4 (CW K) "__len__" (sp_len K) := by
  obtain ⟨fd, F⟩ := f_Web_UlenU T
  refine met_of F (cl_Web T) (me_Web_UlenU T) (b_Web_UlenU F) sc_Web_UlenU (fun vs H Q E h => ?_) (fun cdv A outer s H vs Q E hr h => ?_)
  · obtain ⟨p, m, rfl, _⟩ := h
    rfl
  · obtain ⟨p, m, rfl, W, q⟩ := h
    obtain ⟨dx, a, b, c, ws, bs, h1, _⟩ := W.ex
    refine ⟨_, (pss_one (ps_ret (pe_callB call_len_seq (by rfl) (z_len T) bb_len (pa_cons (C8.pe_mt0 (met_Web_points T) hr (by decide) (pv 0)) pa_nil)))), ?_⟩
    refine ⟨_, rfl, p, dx, _, rfl, h1, wf_no (by decide +kernel), p, m, rfl, W, fun k H2 s2 nk ek => ⟨k, _, rfl, .inl (.inl (.inl ek)), ?_⟩⟩
    rw [List.length_map]
    exact q H2 s2
theorem pts_len {C : Addr} {H : Hp} {p : Addr} {m : Md} (W : WebAt C H p m) : m.pts.length ≤ 15 := by
  have h := W.len
  unfold Md.pts
  rw [List.length_cons, List.length_append, List.length_map]
  omega
/-! ### __repr__ -/
def num (i : Int) : Str := (toString i : String)
theorem num_len : ∀ n : Fin 1001, (num ((n : Nat) : Int)).length ≤ 4 := by decide +kernel
theorem num_le {i : Int} (h0 : 0 ≤ i) (h1 : i ≤ 1000) : (num i).length ≤ 4 := by
  have h := num_len ⟨i.toNat, by omega⟩
  rw [show (((⟨i.toNat, by omega⟩ : Fin 1001) : Nat) : Int) = i from Int.toNat_of_nonneg h0] at h
  exact h
theorem num_log {i : Int} (h0 : 0 ≤ i) (h1 : i ≤ 1000) : i.natAbs.log2 < 1920 := by
  have h : i.natAbs < 2 ^ 1920 := Nat.lt_of_lt_of_le (show i.natAbs < 1024 by omega) (by decide +kernel)
  by_cases hz : i.natAbs = 0
  · rw [hz]
    decide
  · exact (Nat.log2_lt hz).mpr h
def webText (m : Md) : Str := ((((((Str.empty ++ ("Web(" : Str)) ++ num (m.pts.length : Nat)) ++ (" points, " : Str)) ++ num (m.bd.length : Nat)) ++ (" ties, by " : Str)) ++ num m.last) ++ (")" : Str)
theorem short {z : Str} {n : Nat} (h : z.length ≤ n) (hn : n ≤ 1000) : z.length ≤ sizeLine := Nat.le_of_lt (small1000 (Nat.le_trans h hn))
theorem app_le {a b : Str} {m n : Nat} (ha : a.length ≤ m) (hb : b.length ≤ n) : (a ++ b).length ≤ m + n := by
  rw [Str.length_append]
  omega
def sp_repr (K : PySem.W.Frag) : Sp := fun vs H Q _ => ∃ (p : Addr) (m : Md), vs = [.ref p] ∧ WebAt (CW K) H p m ∧ ∀ H', Same H H' → Q (.str (webText m)) H'
theorem met_Web_UreprU (T : Tp K mg) : Met P w K mg base 6 (CW K) "__repr__" (sp_repr K) := by
  obtain ⟨fd, F⟩ := f_Web_UreprU T
  refine met_of F (cl_Web T) (me_Web_UreprU T) (b_Web_UreprU F) sc_Web_UreprU (fun vs H Q E h => ?_) (fun cdv A outer s H vs Q E hr h => ?_)
  · obtain ⟨p, m, rfl, _⟩ := h
    rfl
  · obtain ⟨p, m, rfl, W, q⟩ := h
    obtain ⟨dx, a, b, c, ws, bs, h1, _⟩ := W.ex
    have hp := pts_len W
    have hl := W.len
    have hla := W.last
    refine ⟨_, (pss_one (ps_ret (pe_joined (.cons pe_str (.cons (pe_fmt (pe_callB (call_lenO (met_Web_UlenU T) hr (by decide)) (by rfl) (z_len T) bb_len (pa_cons (pv 0) pa_nil))) (.cons pe_str (.cons (pe_fmt (pe_callB call_len_seq (by rfl) (z_len T) bb_len (pa_cons (pe_fld (pv 0) rfl) pa_nil))) (.cons pe_str (.cons (pe_fmt (pe_fld (pv 0) rfl)) (.cons pe_str .nil)))))))))), ?_⟩
    have l0 : (Str.empty ++ ("Web(" : Str)).length ≤ 4 := by decide +kernel
    have l1 := app_le l0 (num_le (i := (m.pts.length : Nat)) (by omega) (by omega))
    have l2 := app_le l1 (show (" points, " : Str).length ≤ 9 by decide +kernel)
    have l3 := app_le l2 (num_le (i := (m.bd.length : Nat)) (by omega) (by omega))
    have l4 := app_le l3 (show (" ties, by " : Str).length ≤ 10 by decide +kernel)
    have l5 := app_le l4 (num_le (i := m.last) (by omega) (by omega))
    have l6 := app_le l5 (show (")" : Str).length ≤ 1 by decide +kernel)
    refine ⟨("Web(" : Str), rfl, short l0 (by decide), _, rfl, p, dx, _, rfl, h1, p, m, rfl, W, fun H2 s2 => ⟨_, rfl, by omega, by omega, .inr ⟨_, rfl, num_log (by omega) (by omega), _, rfl, short l1 (by decide), ?_⟩⟩⟩
    have W2 := W.same s2
    obtain ⟨dx2, a2, b2, c2, ws2, bs2, g1, g2, g3, g4, g5, g6⟩ := W2.ex
    have hb2 : bs2.length = m.bd.length := by rw [g6.len, List.length_map]
    refine ⟨_, rfl, short l2 (by decide), _, rfl, p, CW K, dx2, _, _, rfl, g1, cl_Web T, na_tie_rows T, wf_t, c2, _, rfl, .inr (.inl (.inl g5)), .inr ⟨_, rfl, num_log (by omega) (by omega), _, rfl, ?_, ?_⟩⟩
    · rw [hb2]
      exact short l3 (by decide)
    · rw [hb2]
      refine ⟨_, rfl, short l4 (by decide), _, rfl, p, CW K, dx2, _, _, rfl, g1, cl_Web T, na_by T, wf_by, .inr ⟨_, rfl, num_log (by omega) (by omega), _, rfl, short l5 (by decide), _, rfl, short l6 (by decide), ?_⟩⟩
      exact q H2 s2
end
end Tw

set_option maxHeartbeats 4000000
namespace Tw
open PySem PySem.Spec PyProof.Rows L2
theorem wh_int {lo hi : Int} {v : V} (h : whB lo hi v = true) : ∃ i : Int, v = .int i ∧ lo ≤ i ∧ i ≤ hi := by
  cases v with
  | int j =>
    have hj := of_decide_eq_true (show decide (lo ≤ j ∧ j ≤ hi) = true from h)
    exact ⟨j, rfl, hj.1, hj.2⟩
  | non => cases h
  | bl b => cases h
  | str z => cases h
  | byt b => cases h
  | flt b => cases h
  | ref b => cases h
  | ty b => cases h
/-- the two lengths are good -/
def lenB (a b : V) : Bool := whB 1 1000 a && match a with
  | .int i => whB i 1000 b
  | _ => false
def lateB (h : V) : Bool := decide (h = .non) || whB 0 1000 h
theorem len_ok {a b : V} (h : lenB a b = true) : ∃ i j : Int, a = .int i ∧ b = .int j ∧ 1 ≤ i ∧ i ≤ j ∧ j ≤ 1000 := by
  obtain ⟨h1, h2⟩ := Bool.and_eq_true_iff.mp h
  obtain ⟨i, rfl, i1, _⟩ := wh_int h1
  obtain ⟨j, rfl, j1, j2⟩ := wh_int (show whB i 1000 b = true from h2)
  exact ⟨i, j, rfl, rfl, i1, j1, j2⟩
theorem late_ok {h : V} (e : lateB h = true) : ∃ o : Option Int, h = oV o ∧ ∀ i, o = some i → 0 ≤ i ∧ i ≤ 1000 := by
  by_cases hn : h = .non
  · exact ⟨none, hn, fun i z => by cases z⟩
  · unfold lateB at e
    rw [decide_eq_false hn, Bool.false_or] at e
    obtain ⟨i, rfl, h1, h2⟩ := wh_int e
    exact ⟨some i, rfl, fun j z => by cases z; exact ⟨h1, h2⟩⟩
section
variable {P : Program} {w : World} {K : PySem.W.Frag} {mg : Str → Option Value} {base : Heap}
/-! ### are_lengths, is_lateness -/
def sp_are_lengths : Sp := fun vs H Q _ => ∃ a b : V, vs = [a, b] ∧ (plK a).isSome = true ∧ (plK b).isSome = true ∧ Q (.bl (lenB a b)) H
theorem cal_are_lengths (T : Tp K mg) : Cal P w K mg base 3 "are_lengths" sp_are_lengths := by
  obtain ⟨fd, F⟩ := f_are_lengths T
  refine cal_of F (g_are_lengths T) (b_are_lengths F) sc_are_lengths (fun vs H Q E h => ?_) (fun cdv A outer s H vs Q E hr h => ?_)
  · obtain ⟨a, b, rfl, _⟩ := h
    rfl
  · obtain ⟨a, b, rfl, pa, pb, q⟩ := h
    refine ⟨_, (pss_one (ps_ret (pe_and (C8.pe_c (cal_iswh T) hr (by decide) rfl (pa_cons (pv 0) (pa_cons pe_int (pa_cons (C8.pe_gc (by rfl) (c_MOST_LENGTH T)) pa_nil)))) (pe_one (C8.pe_c (cal_iswh T) hr (by decide) rfl (pa_cons (pv 1) (pa_cons (pv 0) (pa_cons (C8.pe_gc (by rfl) (c_MOST_LENGTH T)) pa_nil)))))))), ?_⟩
    refine ⟨_, rfl, a, 1, 1000, rfl, pa, _, rfl, ?_⟩
    cases ha : whB 1 1000 a with
    | false =>
      refine iteF ?_
      have e : lenB a b = false := by
        unfold lenB
        rw [ha, Bool.false_and]
      rw [e] at q
      exact q
    | true =>
      obtain ⟨i, rfl, i1, i2⟩ := wh_int ha
      refine iteT ⟨_, rfl, _, rfl, b, i, 1000, rfl, pb, ?_⟩
      have e : lenB (.int i) b = whB i 1000 b := by
        show (whB 1 1000 (.int i) && whB i 1000 b) = _
        rw [ha, Bool.true_and]
      rw [e] at q
      exact q
def sp_is_lateness : Sp := fun vs H Q _ => ∃ h : V, vs = [h] ∧ (plK h).isSome = true ∧ Q (.bl (lateB h)) H
theorem cal_is_lateness (T : Tp K mg) : Cal P w K mg base 3 "is_lateness" sp_is_lateness := by
  obtain ⟨fd, F⟩ := f_is_lateness T
  refine cal_of F (g_is_lateness T) (b_is_lateness F) sc_is_lateness (fun vs H Q E h => ?_) (fun cdv A outer s H vs Q E hr h => ?_)
  · obtain ⟨h, rfl, _⟩ := h
    rfl
  · obtain ⟨h, rfl, ph, q⟩ := h
    refine ⟨_, (pss_one (ps_ret (pe_or (pe_cmpR op_isN (pv 0) pe_non (nomark _)) (pe_one (C8.pe_c (cal_iswh T) hr (by decide) rfl (pa_cons (pv 0) (pa_cons pe_int (pa_cons (C8.pe_gc (by rfl) (c_MOST_LATE T)) pa_nil)))))))), ?_⟩
    refine ⟨_, rfl, rfl, _, rfl, ?_⟩
    unfold lateB at q
    by_cases hn : h = .non
    · rw [decide_eq_true hn] at q ⊢
      exact iteT q
    · rw [decide_eq_false hn, Bool.false_or] at q
      rw [decide_eq_false hn]
      exact iteF ⟨_, rfl, h, 0, 1000, rfl, ph, q⟩
end
section
variable {P : Program} {w : World} {K : PySem.W.Frag} {mg : Str → Option Value} {base : Heap}
/-! ### with_moment -/
def Md.addM (m : Md) (z : Str) : Md := { m with own := m.own ++ [z] }
def Md.addS (m : Md) (x : Wd) : Md := { m with wd := m.wd ++ [x] }
def Md.addT (m : Md) (x : Bd) : Md := { m with bd := m.bd ++ [x] }
def sp_with_moment (K : PySem.W.Frag) : Sp := fun vs H Q _ => ∃ (p : Addr) (m : Md) (z : Str), vs = [.ref p, .str z] ∧ WebAt (CW K) H p m ∧ Nm z ∧ ¬ z ∈ m.pts ∧ m.own.length < 10 ∧ ∀ (q : Addr) (H' : Hp), Same H H' → H q = none → WebAt (CW K) H' q (m.addM z) → Q (.ref q) H'
theorem met_Web_with_moment (T : Tp K mg) : Met P w K mg base 6 (CW K) "with_moment" (sp_with_moment K) := by
  obtain ⟨fd, F⟩ := f_Web_with_moment T
  refine met_of F (cl_Web T) (me_Web_with_moment T) (b_Web_with_moment F) sc_Web_with_moment (fun vs H Q E h => ?_) (fun cdv A outer s H vs Q E hr h => ?_)
  · obtain ⟨p, m, z, rfl, _⟩ := h
    rfl
  · obtain ⟨p, m, z, rfl, W, hn, hz, hl, q⟩ := h
    refine ⟨_, (pss_cons (ps_expr (C8.pe_c (cal_need_free_name T) hr (by decide) rfl (pa_cons (pv 0) (pa_cons (pv 1) pa_nil))))
      (pss_cons (ps_if (pt_cmpR op_ge (pe_callB call_len_seq (by rfl) (z_len T) bb_len (pa_cons (pe_fld (pv 0) rfl) pa_nil)) (C8.pe_gc (by rfl) (c_MOST_MOMENTS T)) (nomark _)) (pss_one ps_never) pss_nil)
      (pss_one (ps_ret (C8.pe_c (cal_woven T) hr (by decide) rfl (pa_cons (pe_fld (pv 0) rfl) (pa_cons (pe_tup (StX.pa_star (pe_fld (pv 0) rfl) (pa_cons (pv 1) pa_nil))) (pa_cons (pe_fld (pv 0) rfl) (pa_cons (pe_fld (pv 0) rfl) pa_nil))))))))), ?_⟩
    refine ⟨_, rfl, _, rfl, p, m, z, rfl, W, hn, hz, fun H1 s1 => ?_⟩
    have W1 := W.same s1
    obtain ⟨dx, a, b, c, ws, bs, h1, h2, h3, h4, h5, h6⟩ := W1.ex
    have hlen := W.len
    refine ⟨_, rfl, p, CW K, dx, _, _, rfl, h1, cl_Web T, na_moment_rows T, wf_m, a, _, rfl, .inr (.inl (.inl h2)), _, _, rfl, rfl, _, rfl, ?_⟩
    rw [decide_eq_false (by rw [List.length_map]; omega)]
    refine iteF ?_
    refine ⟨_, rfl, p, CW K, dx, _, _, rfl, h1, cl_Web T, na_by T, wf_by, _, rfl, p, CW K, dx, _, _, rfl, h1, cl_Web T, na_moment_rows T, wf_m, a, _, rfl, .inl (.inl (.inl h2)), _, rfl, ?_, fun t nt => ?_⟩
    · rw [List.length_append, List.length_map]
      exact Nat.le_of_lt (small1000 (by show _ + 1 ≤ 1000; omega))
    · have s2 := same_upd (o := .tup (m.own.map V.str ++ [.str z])) nt
      refine ⟨_, rfl, p, CW K, dx, _, _, rfl, s2 _ _ h1, cl_Web T, na_span_rows T, wf_s, _, rfl, p, CW K, dx, _, _, rfl, s2 _ _ h1, cl_Web T, na_tie_rows T, wf_t, ?_⟩
      refine ⟨m.addM z, t, b, c, ws, bs, rfl, ?_, s2 _ _ h3, h4.keep (Kt.of s2), s2 _ _ h5, h6.keep (Kt.of s2), ⟨?_, hlen.2.1, hlen.2.2⟩, W.last, fun x H2 s3 nx W3 => q x H2 ((s1.trans s2).trans s3) ((s1.trans s2).free nx) W3⟩
      · rw [upd_same]
        show _ = some (HO.tup ((m.own ++ [z]).map V.str))
        rw [List.map_append]
        rfl
      · show (m.own ++ [z]).length ≤ 10
        rw [List.length_append]
        show _ + 1 ≤ 10
        omega
/-! ### with_span -/
structure SpOk (m : Md) (x : Wd) : Prop where
  nm : Nm x.en
  fresh : ¬ x.en ∈ m.pts
  bg : x.bg = "start" ∨ x.bg ∈ m.own
  lo : 1 ≤ x.lo
  hi : x.lo ≤ x.hi
  top : x.hi ≤ 1000
  la : ∀ i, x.la = some i → 0 ≤ i ∧ i ≤ 1000
  few : m.wd.length < 4
def sp_with_span (K : PySem.W.Frag) : Sp := fun vs H Q _ => ∃ (p : Addr) (m : Md) (x : Wd), vs = [.ref p, .str x.en, .str x.bg, .int x.lo, .int x.hi, oV x.la] ∧ WebAt (CW K) H p m ∧ SpOk m x ∧ ∀ (q : Addr) (H' : Hp), Same H H' → H q = none → WebAt (CW K) H' q (m.addS x) → Q (.ref q) H'
theorem met_Web_with_span (T : Tp K mg) : MetN P w K mg base 6 (CW K) "with_span" (sp_with_span K) 5 ["late"] := by
  obtain ⟨fd, F⟩ := f_Web_with_span T
  refine ⟨_, fd, ["self", "end", "begin", "low", "high", "late"], _, cl_Web T, me_Web_with_span T, fnok_of (k := 5) F sc_Web_with_span (fun vs H Q E h => ?_) (fun cdv A outer s H vs Q E hr h => ?_), kbn_of F fun kV doc pm an cdv ct us ws h1 h2 => match us, ws, h1, h2 with
    | [_, _, _, _, _], [_], _, _ => rfl⟩
  · obtain ⟨p, m, x, rfl, _⟩ := h
    rfl
  · obtain ⟨p, m, x, rfl, W, S, q⟩ := h
    refine ⟨_, (pss_cons (ps_expr (C8.pe_c (cal_need_free_name T) hr (by decide) rfl (pa_cons (pv 0) (pa_cons (pv 1) pa_nil))))
      (pss_cons (ps_if (pt_not (pt_val (C8.pe_c (cal_is_begin T) hr (by decide) rfl (pa_cons (pv 0) (pa_cons (pv 2) pa_nil))))) (pss_one ps_never) pss_nil)
      (pss_cons (ps_if (pt_not (pt_val (C8.pe_c (cal_are_lengths T) hr (by decide) rfl (pa_cons (pv 3) (pa_cons (pv 4) pa_nil))))) (pss_one ps_never) pss_nil)
      (pss_cons (ps_if (pt_not (pt_val (C8.pe_c (cal_is_lateness T) hr (by decide) rfl (pa_cons (pv 5) pa_nil)))) (pss_one ps_never) pss_nil)
      (pss_cons (ps_if (pt_cmpR op_ge (pe_callB call_len_seq (by rfl) (z_len T) bb_len (pa_cons (pe_fld (pv 0) rfl) pa_nil)) (C8.pe_gc (by rfl) (c_MOST_SPANS T)) (nomark _)) (pss_one ps_never) pss_nil)
      (pss_cons (ps_set (i := 6) sc_Web_with_span.nd rfl (.inl rfl) (pe_tup (pa_cons (pv 1) (pa_cons (pv 2) (pa_cons (pv 3) (pa_cons (pv 4) (pa_cons (pv 5) pa_nil)))))))
      (pss_one (ps_ret (C8.pe_c (cal_woven T) hr (by decide) rfl (pa_cons (pe_fld (pv 0) rfl) (pa_cons (pe_fld (pv 0) rfl) (pa_cons (pe_tup (StX.pa_star (pe_fld (pv 0) rfl) (pa_cons (pv 6) pa_nil))) (pa_cons (pe_fld (pv 0) rfl) pa_nil))))))))))))), ?_⟩
    have hlen := W.len
    have few := S.few
    refine ⟨_, rfl, _, rfl, p, m, x.en, rfl, W, S.nm, S.fresh, fun H1 s1 => ?_⟩
    refine ⟨_, rfl, _, rfl, p, m, x.bg, rfl, W.same s1, S.bg, fun H2 s2 => ⟨_, rfl, iteF ?_⟩⟩
    have W2 := (W.same s1).same s2
    refine ⟨_, rfl, _, rfl, .int x.lo, .int x.hi, rfl, rfl, rfl, _, rfl, ?_⟩
    have eL : lenB (.int x.lo) (.int x.hi) = true := by
      show (decide (1 ≤ x.lo ∧ x.lo ≤ 1000) && decide (x.lo ≤ x.hi ∧ x.hi ≤ 1000)) = true
      rw [decide_eq_true ⟨S.lo, Int.le_trans S.hi S.top⟩, decide_eq_true ⟨S.hi, S.top⟩]
      rfl
    have eH : (plK (oV x.la)).isSome = true ∧ lateB (oV x.la) = true := by
      cases e : x.la with
      | none => exact ⟨rfl, rfl⟩
      | some i =>
        refine ⟨rfl, ?_⟩
        show (decide (V.int i = V.non) || decide (0 ≤ i ∧ i ≤ 1000)) = true
        rw [decide_eq_true (S.la i e), Bool.or_true]
    rw [eL]
    refine iteF ⟨_, rfl, oV x.la, rfl, eH.1, _, rfl, ?_⟩
    rw [eH.2]
    refine iteF ?_
    obtain ⟨dx, a, b, c, ws, bs, h1, h2, h3, h4, h5, h6⟩ := W2.ex
    have hw : ws.length = m.wd.length := by rw [h4.len, List.length_map]
    refine ⟨_, rfl, p, CW K, dx, _, _, rfl, h1, cl_Web T, na_span_rows T, wf_s, b, _, rfl, .inr (.inl (.inl h3)), _, _, rfl, rfl, _, rfl, ?_⟩
    rw [decide_eq_false (by rw [hw]; omega)]
    refine iteF ?_
    refine ⟨_, rfl, _, rfl, _, rfl, _, rfl, _, rfl, (by show 5 ≤ sizeLine; decide), fun t nt => ?_⟩
    have s3 := same_upd (o := .tup x.row) nt
    refine ⟨_, rfl, p, CW K, dx, _, _, rfl, s3 _ _ h1, cl_Web T, na_by T, wf_by, _, rfl, p, CW K, dx, _, _, rfl, s3 _ _ h1, cl_Web T, na_moment_rows T, wf_m, _, rfl, p, CW K, dx, _, _, rfl, s3 _ _ h1, cl_Web T, na_span_rows T, wf_s, b, _, rfl, .inl (.inl (.inl (s3 _ _ h3))), .ref t, rfl, ?_, fun u nu => ?_⟩
    · rw [List.length_append]
      exact Nat.le_of_lt (small1000 (by show _ + 1 ≤ 1000; omega))
    · have s4 := same_upd (o := .tup (ws ++ [.ref t])) nu
      have s5 := s3.trans s4
      refine ⟨_, rfl, p, CW K, dx, _, _, rfl, s5 _ _ h1, cl_Web T, na_tie_rows T, wf_t, ?_⟩
      have rw' : Rows (upd (upd H2 t (.tup x.row)) u (.tup (ws ++ [.ref t]))) (ws ++ [.ref t]) ((m.addS x).wd.map Wd.row) := by
        show Rows _ _ ((m.wd ++ [x]).map Wd.row)
        rw [List.map_append]
        exact (h4.keep (Kt.of s5)).snoc (s4 _ _ upd_same)
      refine ⟨m.addS x, a, u, c, ws ++ [V.ref t], bs, rfl, s5 _ _ h2, upd_same, rw', s5 _ _ h5, h6.keep (Kt.of s5), ⟨hlen.1, ?_, hlen.2.2⟩, W.last, fun y H5 s6 ny W5 => q y H5 (((s1.trans s2).trans s5).trans s6) (((s1.trans s2).trans s5).free ny) W5⟩
      show (m.wd ++ [x]).length ≤ 4
      rw [List.length_append]
      show _ + 1 ≤ 4
      omega
/-! ### with_tie -/
structure TiOk (m : Md) (x : Bd) : Prop where
  one : x.one ∈ m.pts
  oth : x.oth ∈ m.pts
  ne : ¬ x.one = x.oth
  b : BOk x.bot x.top
  few : m.bd.length < 40
def sp_with_tie (K : PySem.W.Frag) : Sp := fun vs H Q _ => ∃ (p : Addr) (m : Md) (x : Bd), vs = [.ref p, .str x.one, .str x.oth, oV x.bot, oV x.top] ∧ WebAt (CW K) H p m ∧ TiOk m x ∧ ∀ (q : Addr) (H' : Hp), Same H H' → H q = none → WebAt (CW K) H' q (m.addT x) → Q (.ref q) H'
theorem fno_Web_with_tie (T : Tp K mg) {fd : FuncData} (F : FunD K "with_tie" "Web.with_tie" (defArgs s_Web_with_tie) (defBody s_Web_with_tie) (defScope s_Web_with_tie) [] [("least", V.non), ("most", V.non)] (He.ma K (He.ga K "Web") "with_tie") fd) : FnOk P w K mg base CX0 6 (He.ma K (He.ga K "Web") "with_tie") fd ["self", "one", "other", "least", "most"] (sp_with_tie K) := by
  refine fnok_of (k := 5) F sc_Web_with_tie (fun vs H Q E h => ?_) (fun cdv A outer s H vs Q E hr h => ?_)
  · obtain ⟨p, m, x, rfl, _⟩ := h
    rfl
  · obtain ⟨p, m, x, rfl, W, S, q⟩ := h
    refine ⟨_, (pss_cons (ps_expr (C8.pe_c (cal_need_point T) hr (by decide) rfl (pa_cons (pv 0) (pa_cons (pv 1) pa_nil))))
      (pss_cons (ps_expr (C8.pe_c (cal_need_point T) hr (by decide) rfl (pa_cons (pv 0) (pa_cons (pv 2) pa_nil))))
      (pss_cons (ps_if (PW.pt (pw_or (pt_cmpR op_eq (pv 1) (pv 2) (nomark _)) (pw_or1 (pt_not (pt_val (C8.pe_c (cal_are_bounds T) hr (by decide) rfl (pa_cons (pv 3) (pa_cons (pv 4) pa_nil)))))))) (pss_one ps_never) pss_nil)
      (pss_cons (ps_if (pt_cmpR op_ge (pe_callB call_len_seq (by rfl) (z_len T) bb_len (pa_cons (pe_fld (pv 0) rfl) pa_nil)) (C8.pe_gc (by rfl) (c_MOST_TIES T)) (nomark _)) (pss_one ps_never) pss_nil)
      (pss_cons (ps_set (i := 5) sc_Web_with_tie.nd rfl (.inl rfl) (pe_tup (pa_cons (pv 1) (pa_cons (pv 2) (pa_cons (pv 3) (pa_cons (pv 4) pa_nil))))))
      (pss_one (ps_ret (C8.pe_c (cal_woven T) hr (by decide) rfl (pa_cons (pe_fld (pv 0) rfl) (pa_cons (pe_fld (pv 0) rfl) (pa_cons (pe_fld (pv 0) rfl) (pa_cons (pe_tup (StX.pa_star (pe_fld (pv 0) rfl) (pa_cons (pv 5) pa_nil))) pa_nil)))))))))))), ?_⟩
    have hlen := W.len
    have few := S.few
    refine ⟨_, rfl, _, rfl, p, m, x.one, rfl, W, S.one, fun H1 s1 => ?_⟩
    refine ⟨_, rfl, _, rfl, p, m, x.oth, rfl, W.same s1, S.oth, fun H2 s2 => ?_⟩
    have W2 := (W.same s1).same s2
    refine ⟨_, rfl, _, rfl, rfl, _, rfl, ?_⟩
    rw [decide_eq_false (show ¬ V.str x.one = V.str x.oth from fun e => S.ne (V.str.inj e))]
    refine iteF ⟨_, rfl, _, rfl, x.bot, x.top, rfl, S.b, fun H3 s3 => ⟨_, rfl, iteF ?_⟩⟩
    have W3 := W2.same s3
    obtain ⟨dx, a, b, c, ws, bs, h1, h2, h3, h4, h5, h6⟩ := W3.ex
    have hb : bs.length = m.bd.length := by rw [h6.len, List.length_map]
    refine ⟨_, rfl, p, CW K, dx, _, _, rfl, h1, cl_Web T, na_tie_rows T, wf_t, c, _, rfl, .inr (.inl (.inl h5)), _, _, rfl, rfl, _, rfl, ?_⟩
    rw [decide_eq_false (by rw [hb]; omega)]
    refine iteF ?_
    refine ⟨_, rfl, _, rfl, _, rfl, _, rfl, (by show 4 ≤ sizeLine; decide), fun t nt => ?_⟩
    have s4 := same_upd (o := .tup x.row) nt
    refine ⟨_, rfl, p, CW K, dx, _, _, rfl, s4 _ _ h1, cl_Web T, na_by T, wf_by, _, rfl, p, CW K, dx, _, _, rfl, s4 _ _ h1, cl_Web T, na_moment_rows T, wf_m, _, rfl, p, CW K, dx, _, _, rfl, s4 _ _ h1, cl_Web T, na_span_rows T, wf_s, _, rfl, p, CW K, dx, _, _, rfl, s4 _ _ h1, cl_Web T, na_tie_rows T, wf_t, c, _, rfl, .inl (.inl (.inl (s4 _ _ h5))), .ref t, rfl, ?_, fun u nu => ?_⟩
    · rw [List.length_append]
      exact Nat.le_of_lt (small1000 (by show _ + 1 ≤ 1000; omega))
    · have s5 := same_upd (o := .tup (bs ++ [.ref t])) nu
      have s6 := s4.trans s5
      have rb' : Rows (upd (upd H3 t (.tup x.row)) u (.tup (bs ++ [.ref t]))) (bs ++ [.ref t]) ((m.addT x).bd.map Bd.row) := by
        show Rows _ _ ((m.bd ++ [x]).map Bd.row)
        rw [List.map_append]
        exact (h6.keep (Kt.of s6)).snoc (s5 _ _ upd_same)
      have sa := ((s1.trans s2).trans s3).trans s6
      refine ⟨m.addT x, a, b, u, ws, bs ++ [V.ref t], rfl, s6 _ _ h2, s6 _ _ h3, h4.keep (Kt.of s6), upd_same, rb', ⟨hlen.1, hlen.2.1, ?_⟩, W.last, fun y H5 s7 ny W5 => q y H5 (sa.trans s7) (sa.free ny) W5⟩
      show (m.bd ++ [x]).length ≤ 40
      rw [List.length_append]
      show _ + 1 ≤ 40
      omega
theorem met_Web_with_tie (T : Tp K mg) : MetN P w K mg base 6 (CW K) "with_tie" (sp_with_tie K) 3 ["least", "most"] := by
  obtain ⟨fd, F⟩ := f_Web_with_tie T
  exact ⟨_, fd, ["self", "one", "other", "least", "most"], _, cl_Web T, me_Web_with_tie T, fno_Web_with_tie T F, kbn_of F fun kV doc pm an cdv ct us ws h1 h2 => match us, ws, h1, h2 with
    | [_, _, _], [_, _], _, _ => rfl⟩
end
end Tw

set_option maxHeartbeats 4000000
namespace Tw
open PySem PySem.Spec PyProof.Rows L2
section
variable {P : Program} {w : World} {K : PySem.W.Frag} {mg : Str → Option Value} {base : Heap}
theorem fn_TideError (T : Tp K mg) {fd : FuncData} (F : FunD K "__init__" "TideError.__init__" (defArgs s_TideError_UinitU) (defBody s_TideError_UinitU) (defScope s_TideError_UinitU) [V.str "TideError", V.str "refused"] [] (He.ma K (He.ga K "TideError") "__init__") fd) : FnOk P w K mg base CX0 2 (He.ma K (He.ga K "TideError") "__init__") fd ["self", "word", "why"] (sp_miss bVE K) := by
  refine fnok_of F sc_TideError_UinitU (fun vs H Q E h => ?_) (fun cdv A outer s H vs Q E hr h => ?_)
  · obtain ⟨a, C, u, y, rfl, _⟩ := h
    rfl
  · obtain ⟨a, C, u, y, rfl, O, nw, ha, lu, ly, q⟩ := h
    refine ⟨_, (pss_cons (ps_expr (pe_binit bVE_ok bb_ValueError rfl (z_ValueError T) (vi_ValueError T) rfl (pa_cons (pv 0) (pa_cons (pe_joined (.cons (pe_fmt (pv 1)) (.cons pe_str (.cons (pe_fmt (pv 2)) .nil)))) pa_nil))))
      (pss_one (ps_ox (b := bVE) (pv 0) (pv 1)))), ?_⟩
    have l1 : (Str.empty ++ u).length ≤ 0 + 100 := app_le (show Str.empty.length ≤ 0 by decide) lu
    have l2 := app_le l1 (show (": " : Str).length ≤ 2 by decide +kernel)
    have l3 := app_le l2 ly
    refine ⟨_, rfl, _, rfl, .inl ⟨u, rfl, short (show u.length ≤ 100 from lu) (by decide), u, rfl, short l1 (by decide), _, rfl, short l2 (by decide), _, rfl, .inl ⟨y, rfl, short (show y.length ≤ 100 from ly) (by decide), y, rfl, short l3 (by decide), ?_⟩⟩⟩
    refine ⟨a, C, _, rfl, by show 1 ≤ 1000; decide, O, ha, ?_⟩
    exact ⟨_, rfl, _, rfl, a, C, rfl, O, nw, .inl ⟨ha, q⟩⟩
theorem b_TideError {fd : FuncData} (F : FunD K "__init__" "TideError.__init__" (defArgs s_TideError_UinitU) (defBody s_TideError_UinitU) (defScope s_TideError_UinitU) [V.str "TideError", V.str "refused"] [] (He.ma K (He.ga K "TideError") "__init__") fd) : Binds K fd ["self", "word", "why"] [] := by
  obtain ⟨ds, hv, hb⟩ := F.binds1 (ps := ["self", "word", "why"]) 3 2 (by simp) rfl fun T kV doc pm an cdv ct us its h1 h2 => match us, its, h1, h2 with
    | [_, _, _], [_, _], _, _ => ⟨_, rfl, rfl⟩
  have hv : Vals [] ds := hv
  cases hv
  exact hb
theorem fn_Missing (T : Tp K mg) {fd : FuncData} (F : FunD K "__init__" "Missing.__init__" (defArgs s_Missing_UinitU) (defBody s_Missing_UinitU) (defScope s_Missing_UinitU) [V.str "Missing", V.str "refused"] [] (He.ma K (He.ga K "Missing") "__init__") fd) : FnOk P w K mg base CX0 2 (He.ma K (He.ga K "Missing") "__init__") fd ["self", "word", "why"] (sp_miss bLE K) := by
  refine fnok_of F sc_Missing_UinitU (fun vs H Q E h => ?_) (fun cdv A outer s H vs Q E hr h => ?_)
  · obtain ⟨a, C, u, y, rfl, _⟩ := h
    rfl
  · obtain ⟨a, C, u, y, rfl, O, nw, ha, lu, ly, q⟩ := h
    refine ⟨_, (pss_cons (ps_expr (pe_binit bLE_ok bb_LookupError rfl (z_LookupError T) (vi_LookupError T) rfl (pa_cons (pv 0) (pa_cons (pe_joined (.cons (pe_fmt (pv 1)) (.cons pe_str (.cons (pe_fmt (pv 2)) .nil)))) pa_nil))))
      (pss_one (ps_ox (b := bLE) (pv 0) (pv 1)))), ?_⟩
    have l1 : (Str.empty ++ u).length ≤ 0 + 100 := app_le (show Str.empty.length ≤ 0 by decide) lu
    have l2 := app_le l1 (show (": " : Str).length ≤ 2 by decide +kernel)
    have l3 := app_le l2 ly
    refine ⟨_, rfl, _, rfl, .inl ⟨u, rfl, short (show u.length ≤ 100 from lu) (by decide), u, rfl, short l1 (by decide), _, rfl, short l2 (by decide), _, rfl, .inl ⟨y, rfl, short (show y.length ≤ 100 from ly) (by decide), y, rfl, short l3 (by decide), ?_⟩⟩⟩
    refine ⟨a, C, _, rfl, by show 1 ≤ 1000; decide, O, ha, ?_⟩
    exact ⟨_, rfl, _, rfl, a, C, rfl, O, nw, .inl ⟨ha, q⟩⟩
theorem b_Missing {fd : FuncData} (F : FunD K "__init__" "Missing.__init__" (defArgs s_Missing_UinitU) (defBody s_Missing_UinitU) (defScope s_Missing_UinitU) [V.str "Missing", V.str "refused"] [] (He.ma K (He.ga K "Missing") "__init__") fd) : Binds K fd ["self", "word", "why"] [] := by
  obtain ⟨ds, hv, hb⟩ := F.binds1 (ps := ["self", "word", "why"]) 3 2 (by simp) rfl fun T kV doc pm an cdv ct us its h1 h2 => match us, its, h1, h2 with
    | [_, _, _], [_, _], _, _ => ⟨_, rfl, rfl⟩
  have hv : Vals [] ds := hv
  cases hv
  exact hb
theorem mkx_BadLength (T : Tp K mg) : MkB bVE P w K mg base 3 "BadLength" (He.ga K "BadLength") (sp_exc2 K (He.ga K "BadLength") "BadLength" "low" "high") := by
  obtain ⟨fd, F⟩ := f_BadLength_UinitU T
  obtain ⟨fdT, FT⟩ := f_TideError_UinitU T
  have F1 := fn_TideError (P := P) (w := w) (base := base) T FT
  have kp := FT.kp
  have b1 := b_TideError FT
  refine ⟨_, fd, ["self", "low", "high"], oe_BadLength T, in_BadLength T, fnok_of F sc_BadLength_UinitU (fun vs H Q E h => ?_) (fun cdv A outer s H vs Q E hr h => ?_), g_BadLength T, b_BadLength_UinitU F⟩
  · obtain ⟨a, v, u, rfl, _⟩ := h
    rfl
  · obtain ⟨a, v, u, rfl, ha, q⟩ := h
    refine ⟨_, (pss_cons (ps_expr (pe_ci (cd_TideError T) rfl (g_TideError T) kp F1 hr (by decide) b1 (pa_cons (pv 0) (pa_cons pe_str (pa_cons pe_str pa_nil)))))
      (pss_cons (ps_ox (b := bVE) (pv 0) (pv 1))
      (pss_one (ps_ox (b := bVE) (pv 0) (pv 2))))), ?_⟩
    refine ⟨_, rfl, a, He.ga K "BadLength", _, _, rfl, oe_BadLength T, nf_BadLength_word T, ha, by decide +kernel, by decide +kernel, fun d nd da => ?_⟩
    refine ⟨_, rfl, _, rfl, a, He.ga K "BadLength", rfl, oe_BadLength T, nf_BadLength_low T, .inr ⟨d, _, upd_same, by rw [upd_ne da]; exact upd_same, by show 1 ≤ 900; decide, ?_⟩⟩
    refine ⟨_, rfl, _, rfl, a, He.ga K "BadLength", rfl, oe_BadLength T, nf_BadLength_high T, .inr ⟨d, _, by rw [upd_ne (Ne.symm da)]; exact upd_same, upd_same, by show 2 ≤ 900; decide, ?_⟩⟩
    refine q d _ nd da (fun b h1 h2 => ?_) ?_ upd_same
    · rw [upd_ne h2, upd_ne h2, upd_ne h1, upd_ne h2]
    · rw [upd_ne (Ne.symm da), upd_ne (Ne.symm da)]
      exact upd_same
theorem mkx_BadKeeper (T : Tp K mg) : MkB bVE P w K mg base 3 "BadKeeper" (He.ga K "BadKeeper") (sp_exc1 K (He.ga K "BadKeeper") "BadKeeper" "tick") := by
  obtain ⟨fd, F⟩ := f_BadKeeper_UinitU T
  obtain ⟨fdT, FT⟩ := f_TideError_UinitU T
  have F1 := fn_TideError (P := P) (w := w) (base := base) T FT
  have kp := FT.kp
  have b1 := b_TideError FT
  refine ⟨_, fd, ["self", "tick"], oe_BadKeeper T, in_BadKeeper T, fnok_of F sc_BadKeeper_UinitU (fun vs H Q E h => ?_) (fun cdv A outer s H vs Q E hr h => ?_), g_BadKeeper T, b_BadKeeper_UinitU F⟩
  · obtain ⟨a, v, rfl, _⟩ := h
    rfl
  · obtain ⟨a, v, rfl, ha, q⟩ := h
    refine ⟨_, (pss_cons (ps_expr (pe_ci (cd_TideError T) rfl (g_TideError T) kp F1 hr (by decide) b1 (pa_cons (pv 0) (pa_cons pe_str (pa_cons pe_str pa_nil)))))
      (pss_one (ps_ox (b := bVE) (pv 0) (pv 1)))), ?_⟩
    refine ⟨_, rfl, a, He.ga K "BadKeeper", _, _, rfl, oe_BadKeeper T, nf_BadKeeper_word T, ha, by decide +kernel, by decide +kernel, fun d nd da => ?_⟩
    refine ⟨_, rfl, _, rfl, a, He.ga K "BadKeeper", rfl, oe_BadKeeper T, nf_BadKeeper_tick T, .inr ⟨d, _, upd_same, by rw [upd_ne da]; exact upd_same, by show 1 ≤ 900; decide, ?_⟩⟩
    refine q d _ nd da (fun b h1 h2 => ?_) ?_ upd_same
    · rw [upd_ne h2, upd_ne h1, upd_ne h2]
    · rw [upd_ne (Ne.symm da)]
      exact upd_same
theorem mkx_NoSpan (T : Tp K mg) : MkB bLE P w K mg base 3 "NoSpan" (He.ga K "NoSpan") (sp_exc1 K (He.ga K "NoSpan") "NoSpan" "name") := by
  obtain ⟨fd, F⟩ := f_NoSpan_UinitU T
  obtain ⟨fdT, FT⟩ := f_Missing_UinitU T
  have F1 := fn_Missing (P := P) (w := w) (base := base) T FT
  have kp := FT.kp
  have b1 := b_Missing FT
  refine ⟨_, fd, ["self", "name"], oe_NoSpan T, in_NoSpan T, fnok_of F sc_NoSpan_UinitU (fun vs H Q E h => ?_) (fun cdv A outer s H vs Q E hr h => ?_), g_NoSpan T, b_NoSpan_UinitU F⟩
  · obtain ⟨a, v, rfl, _⟩ := h
    rfl
  · obtain ⟨a, v, rfl, ha, q⟩ := h
    refine ⟨_, (pss_cons (ps_expr (pe_ci (cd_Missing T) rfl (g_Missing T) kp F1 hr (by decide) b1 (pa_cons (pv 0) (pa_cons pe_str (pa_cons pe_str pa_nil)))))
      (pss_one (ps_ox (b := bLE) (pv 0) (pv 1)))), ?_⟩
    refine ⟨_, rfl, a, He.ga K "NoSpan", _, _, rfl, oe_NoSpan T, nf_NoSpan_word T, ha, by decide +kernel, by decide +kernel, fun d nd da => ?_⟩
    refine ⟨_, rfl, _, rfl, a, He.ga K "NoSpan", rfl, oe_NoSpan T, nf_NoSpan_name T, .inr ⟨d, _, upd_same, by rw [upd_ne da]; exact upd_same, by show 1 ≤ 900; decide, ?_⟩⟩
    refine q d _ nd da (fun b h1 h2 => ?_) ?_ upd_same
    · rw [upd_ne h2, upd_ne h1, upd_ne h2]
    · rw [upd_ne (Ne.symm da)]
      exact upd_same
end
end Tw

set_option maxHeartbeats 4000000
namespace Tw
open PySem PySem.Spec PyProof.Rows L2
/-- the refusals that are met: the class, its word, its field -/
inductive Fld (K : PySem.W.Frag) : Addr → Str → List V → List (Str × V) → Prop
  | cNoSpan (v0 : V) : Fld K (He.ga K "NoSpan") "NoSpan" [v0] [(("name" : Str), v0), (("word" : Str), V.str "NoSpan")]
  | cBadLength (v0 v1 : V) : Fld K (He.ga K "BadLength") "BadLength" [v0, v1] [(("high" : Str), v1), (("low" : Str), v0), (("word" : Str), V.str "BadLength")]
  | cBadKeeper (v0 : V) : Fld K (He.ga K "BadKeeper") "BadKeeper" [v0] [(("tick" : Str), v0), (("word" : Str), V.str "BadKeeper")]
def FieldE (K : PySem.W.Frag) (Q : VK) : XK := fun cls d H => ∃ (C dd : Addr) (u : Str) (ws : List V) (fs : List (Str × V)), Fld K C u ws fs ∧ cls = .ref C ∧ d = some dd ∧ H dd = some (.xd fs) ∧ ∀ t, H t = none → Q (.ref t) (upd H t (.tup (.str u :: ws)))
def TTf (K : PySem.W.Frag) : (XK → Hp → VK → Prop) → Hp → VK → Prop := fun tl H Q => tl (FieldE K Q) H fun _ H' => ∃ v, (some (some V.non) : Option (Option V)) = some (some v) ∧ Q v H'
section
variable {X : Cx}
theorem field_gives (T : Tp X.K X.mg) {g : Addr} {cdg : Value} {q : Str} : LamX.GivesTo X N__law_field "_law_field" (defScope s__law_field) g cdg (defBody s__law_field) "_law_ask" q (TTf X.K) := by
  intro f c' s H Q tl act hc h
  refine ⟨_, pss_cons (ps_set (i := 1) sc__law_field.nd rfl (.inl rfl) pe_non) (pss_cons (ps_tryM (X := (cxOf C8.CX0 X.prog X.w X.K X.mg X.base N__law_field "_law_field" (defScope s__law_field) g cdg X.A X.stack s H C8.E0).nox) (i := 2)
    (tb := fun W D σ H => ∃ Ech : XK, (∀ cls d σ' H', Ech cls d H' → W cls d σ' H') ∧ σ[0]? = some (some (.ref f)) ∧ H c' = some (LamX.CodeO c' q) ∧ tl Ech H (fun _ H' => D.nx σ H')) rfl rfl sc__law_field.nd rfl rfl LamX.takes0 (fun W pn xe tk _ => ?_)
    (.cons (.two ⟨rfl, by decide, .inl (g_BadBy T)⟩ ⟨rfl, by decide, .inl (g_BadDeed T)⟩) (ts := fun _ _ _ => tNever) (fun a oe cls d pn hz hf => pss_never)
      (.cons (.three ⟨rfl, by decide, .inl (g_BadName T)⟩ ⟨rfl, by decide, .inl (g_Taken T)⟩ ⟨rfl, by decide, .inl (g_Used T)⟩) (ts := fun _ _ _ => tNever) (fun a oe cls d pn hz hf => pss_never)
      (.cons (.one ⟨rfl, by decide, .inl (g_Full T)⟩) (ts := fun _ _ _ => tNever) (fun a oe cls d pn hz hf => pss_never)
      (.cons (.one ⟨rfl, by decide, .inl (g_BadLength T)⟩) (fun a oe cls d pn hz hf => pss_one (ps_set (i := 1) sc__law_field.nd rfl (.inl rfl) (pe_tup (pa_cons (pe_xw hz hf (pv 2)) (pa_cons (pe_xw hz hf (pv 2)) (pa_cons (pe_xw hz hf (pv 2)) pa_nil))))))
      (.cons (.one ⟨rfl, by decide, .inl (g_BadLate T)⟩) (ts := fun _ _ _ => tNever) (fun a oe cls d pn hz hf => pss_never)
      (.cons (.one ⟨rfl, by decide, .inl (g_BadTie T)⟩) (ts := fun _ _ _ => tNever) (fun a oe cls d pn hz hf => pss_never)
      (.cons (.three ⟨rfl, by decide, .inl (g_NoMoment T)⟩ ⟨rfl, by decide, .inl (g_NoPoint T)⟩ ⟨rfl, by decide, .inl (g_NoSpan T)⟩) (fun a oe cls d pn hz hf => pss_one (ps_set (i := 1) sc__law_field.nd rfl (.inl rfl) (pe_tup (pa_cons (pe_xw hz hf (pv 2)) (pa_cons (pe_xw hz hf (pv 2)) pa_nil)))))
      (.cons (.two ⟨rfl, by decide, .inl (g_NoTie T)⟩ ⟨rfl, by decide, .inl (g_NoDeed T)⟩) (ts := fun _ _ _ => tNever) (fun a oe cls d pn hz hf => pss_never)
      (.cons (.three ⟨rfl, by decide, .inl (g_Done T)⟩ ⟨rfl, by decide, .inl (g_Unbegun T)⟩ ⟨rfl, by decide, .inl (g_Unheard T)⟩) (ts := fun _ _ _ => tNever) (fun a oe cls d pn hz hf => pss_never)
      (.cons (.three ⟨rfl, by decide, .inl (g_TooEarly T)⟩ ⟨rfl, by decide, .inl (g_TooLate T)⟩ ⟨rfl, by decide, .inl (g_BadNews T)⟩) (ts := fun _ _ _ => tNever) (fun a oe cls d pn hz hf => pss_never)
      (.cons (.two ⟨rfl, by decide, .inl (g_BadKeeper T)⟩ ⟨rfl, by decide, .inl (g_Over T)⟩) (fun a oe cls d pn hz hf => pss_one (ps_set (i := 1) sc__law_field.nd rfl (.inl rfl) (pe_tup (pa_cons (pe_xw hz hf (pv 2)) (pa_cons (pe_xw hz hf (pv 2)) pa_nil)))))
      (.cons (.two ⟨rfl, by decide, .inl (g_BadPaper T)⟩ ⟨rfl, by decide, .inl (g_BadText T)⟩) (ts := fun _ _ _ => tNever) (fun a oe cls d pn hz hf => pss_never)
      (.cons (.three ⟨rfl, by decide, .inl (g_BadPlan T)⟩ ⟨rfl, by decide, .inl (g_Unsteered T)⟩ ⟨rfl, by decide, .inl (g_NothingBack T)⟩) (ts := fun _ _ _ => tNever) (fun a oe cls d pn hz hf => pss_never)
      .nil)))))))))))))) (pss_one (ps_ret (pv 1)))), ?_⟩
  · refine ⟨fun pins s' σ H' D I h' => ?_⟩
    obtain ⟨Ech, hW, h1, h2, h3⟩ := h'
    exact (pss_one (ps_expr (act W pn xe Ech _ _ tk hW))).run pins s' σ H' D I ⟨h1, h2, h3⟩
  · refine ⟨FieldE X.K Q, fun cls d σ' H' ⟨C, dd, u, ws, fs, hF, ec, ed, hd, hq⟩ hl => ?_, rfl, hc, h⟩
    subst ec ed
    obtain ⟨x0, x1, x2, rfl⟩ : ∃ x0 x1 x2, σ' = [x0, x1, x2] := match σ', hl with
      | [x0, x1, x2], _ => ⟨x0, x1, x2, rfl⟩
    cases hF with
    | cNoSpan v0 => exact ⟨_, em_NoSpan_0 T, (fun z => nomatch z), fun _ => ⟨_, em_NoSpan_1 T, (fun z => nomatch z), fun _ => ⟨_, em_NoSpan_2 T, (fun z => nomatch z), fun _ => ⟨_, em_NoSpan_3 T, (fun z => nomatch z), fun _ => ⟨_, em_NoSpan_4 T, (fun z => nomatch z), fun _ => ⟨_, em_NoSpan_5 T, (fun z => nomatch z), fun _ => ⟨_, em_NoSpan_6 T, fun _ a na => ⟨_, rfl, rfl, _, dd, _, _, rfl, xf_NoSpan T, nf_NoSpan_word T, rfl, hd, rfl, _, rfl, rfl, _, dd, _, _, rfl, xf_NoSpan T, nf_NoSpan_name T, rfl, hd, rfl, (by show 2 ≤ sizeLine; decide), fun t nt => ⟨_, rfl, hq t nt⟩⟩, (fun z => nomatch z)⟩⟩⟩⟩⟩⟩⟩
    | cBadLength v0 v1 => exact ⟨_, em_BadLength_0 T, (fun z => nomatch z), fun _ => ⟨_, em_BadLength_1 T, (fun z => nomatch z), fun _ => ⟨_, em_BadLength_2 T, (fun z => nomatch z), fun _ => ⟨_, em_BadLength_3 T, fun _ a na => ⟨_, rfl, rfl, _, dd, _, _, rfl, xf_BadLength T, nf_BadLength_word T, rfl, hd, rfl, _, rfl, rfl, _, dd, _, _, rfl, xf_BadLength T, nf_BadLength_low T, rfl, hd, rfl, _, rfl, rfl, _, dd, _, _, rfl, xf_BadLength T, nf_BadLength_high T, rfl, hd, rfl, (by show 3 ≤ sizeLine; decide), fun t nt => ⟨_, rfl, hq t nt⟩⟩, (fun z => nomatch z)⟩⟩⟩⟩
    | cBadKeeper v0 => exact ⟨_, em_BadKeeper_0 T, (fun z => nomatch z), fun _ => ⟨_, em_BadKeeper_1 T, (fun z => nomatch z), fun _ => ⟨_, em_BadKeeper_2 T, (fun z => nomatch z), fun _ => ⟨_, em_BadKeeper_3 T, (fun z => nomatch z), fun _ => ⟨_, em_BadKeeper_4 T, (fun z => nomatch z), fun _ => ⟨_, em_BadKeeper_5 T, (fun z => nomatch z), fun _ => ⟨_, em_BadKeeper_6 T, (fun z => nomatch z), fun _ => ⟨_, em_BadKeeper_7 T, (fun z => nomatch z), fun _ => ⟨_, em_BadKeeper_8 T, (fun z => nomatch z), fun _ => ⟨_, em_BadKeeper_9 T, (fun z => nomatch z), fun _ => ⟨_, em_BadKeeper_10 T, fun _ a na => ⟨_, rfl, rfl, _, dd, _, _, rfl, xf_BadKeeper T, nf_BadKeeper_word T, rfl, hd, rfl, _, rfl, rfl, _, dd, _, _, rfl, xf_BadKeeper T, nf_BadKeeper_tick T, rfl, hd, rfl, (by show 2 ≤ sizeLine; decide), fun t nt => ⟨_, rfl, hq t nt⟩⟩, (fun z => nomatch z)⟩⟩⟩⟩⟩⟩⟩⟩⟩⟩⟩
/-- _law_field(lambda: body) -/
theorem pe_lam (T : Tp X.K X.mg) {c Pt : Addr} {k : Nat} {params : Arguments} {body : Expr} {scope : Scope} {t : XK → TE} {p lpos pos : Pos} (TB : LamX.TabB X.base X.mg c Pt) (hcode : X.env.code = .ref c) (hr : Room (k + 2) X.A) (L : LamX.LamS X.env.scope scope)
    (hbody : ∀ (A : Around) (outer : List Env) (s : Shared) (H : Hp) (E : XK) (f c' : Addr), Room k (A.deeper (LamX.lamEnv X scope s.heap.objs.size f c')) → Takes (LamX.lamCx X A outer s H E scope f c') (fun cls d _ H' => E cls d H') → PE (LamX.lamCx X A outer s H E scope f c') body (t E))
    (hg : Gl X "_law_field" := by rfl) (hdef : defaultsOf params X.env = ([], []) := by rfl) (hbind : ∀ (q : Str) (cl : List (Str × Addr)) (pm cv ctv : Value), bindArgs (PySem.W.kla_fn "<lambda>" q params body scope cl pm cv ctv) ⟨[], []⟩ = pure [] := by intros; rfl) :
    PE X (.Call (.Name "_law_field" p) [.Lambda params body scope lpos] [] pos) (LamX.tLam [(Pt, X.env.qual ++ "<lambda>")] (TTf X.K) t) := by
  obtain ⟨fd, F⟩ := f__law_field T
  have b := b__law_field F
  have kp := F.kp
  obtain ⟨oc, od, dV, kV, doc, pm, an, cdv, ct, osl, rfl, lk, hcd, _, _⟩ := F.ex
  exact LamX.pe_lamcall hg (g__law_field T) kp lk hcd b sc__law_field rfl (.inl rfl) (field_gives T) TB hcode List.mem_cons_self (fun p hp _ => by rw [List.mem_singleton.mp hp]) hr L hdef hbind (fun A outer s H E f c' hr' => hbody A outer s H E f c' hr' (takes_of rfl rfl rfl rfl))
/-- .. beside other tables -/
theorem pe_lamT {Ts : List (Addr × Str)} (T : Tp X.K X.mg) {c Pt : Addr} {k : Nat} {params : Arguments} {body : Expr} {scope : Scope} {t : XK → TE} {p lpos pos : Pos} (TB : LamX.TabB X.base X.mg c Pt) (hmT : (Pt, X.env.qual ++ "<lambda>") ∈ Ts) (hu : ∀ p ∈ Ts, p.1 = Pt → p.2 = X.env.qual ++ "<lambda>") (hcode : X.env.code = .ref c) (hr : Room (k + 2) X.A) (L : LamX.LamS X.env.scope scope)
    (hbody : ∀ (A : Around) (outer : List Env) (s : Shared) (H : Hp) (E : XK) (f c' : Addr), Room k (A.deeper (LamX.lamEnv X scope s.heap.objs.size f c')) → Takes (LamX.lamCx X A outer s H E scope f c') (fun cls d _ H' => E cls d H') → PE (LamX.lamCx X A outer s H E scope f c') body (t E))
    (hg : Gl X "_law_field" := by rfl) (hdef : defaultsOf params X.env = ([], []) := by rfl) (hbind : ∀ (q : Str) (cl : List (Str × Addr)) (pm cv ctv : Value), bindArgs (PySem.W.kla_fn "<lambda>" q params body scope cl pm cv ctv) ⟨[], []⟩ = pure [] := by intros; rfl) :
    PE X (.Call (.Name "_law_field" p) [.Lambda params body scope lpos] [] pos) (LamX.tLam Ts (TTf X.K) t) := by
  obtain ⟨fd, F⟩ := f__law_field T
  have b := b__law_field F
  have kp := F.kp
  obtain ⟨oc, od, dV, kV, doc, pm, an, cdv, ct, osl, rfl, lk, hcd, _, _⟩ := F.ex
  exact LamX.pe_lamcall hg (g__law_field T) kp lk hcd b sc__law_field rfl (.inl rfl) (field_gives T) TB hcode hmT hu hr L hdef hbind (fun A outer s H E f c' hr' => hbody A outer s H E f c' hr' (takes_of rfl rfl rfl rfl))
/-- _law_field(v), v a name that keeps a lambda -/
theorem pe_lamv (T : Tp X.K X.mg) {f c' : Addr} {i k : Nat} {v : Str} {params : Arguments} {body : Expr} {scope : Scope} {t : XK → TE} {p p2 pos : Pos} (kp : KeptL X params body scope f c') (hN : X.N[i]? = some v) (hv : Vis X.env.scope v) (hr : Room (k + 2) X.A) (L : LamX.LamS X.env.scope scope)
    (hbody : ∀ (A : Around) (outer : List Env) (s : Shared) (H : Hp) (E : XK), Room k (A.deeper (LamX.lamEnv X scope s.heap.objs.size f c')) → Takes (LamX.lamCx X A outer s H E scope f c') (fun cls d _ H' => E cls d H') → PE (LamX.lamCx X A outer s H E scope f c') body (t E))
    (hg : Gl X "_law_field" := by rfl) (hbind : ∀ (q : Str) (cl : List (Str × Addr)) (pm cv ctv : Value), bindArgs (PySem.W.kla_fn "<lambda>" q params body scope cl pm cv ctv) ⟨[], []⟩ = pure [] := by intros; rfl)
    (hd2 : (v == ("__debug__" : Str)) = false := by decide) (hcd2 : (v == ("__classdict__" : Str)) = false := by decide) :
    PE X (.Call (.Name "_law_field" p) [.Name v p2] [] pos) (tHand (X.env.qual ++ "<lambda>") f c' i (TTf X.K) t) := by
  obtain ⟨fd, F⟩ := f__law_field T
  have b := b__law_field F
  have kk := F.kp
  obtain ⟨oc, od, dV, kV, doc, pm, an, cdv, ct, osl, rfl, lk, hcd, _, _⟩ := F.ex
  exact pe_hand hg (g__law_field T) kk lk hcd b sc__law_field rfl (.inl rfl) (field_gives T) kp hN hv hr L hbind (fun A outer s H E hr' => hbody A outer s H E hr' (takes_of rfl rfl rfl rfl)) (hd2 := hd2) (hcd2 := hcd2)
end
end Tw

set_option maxHeartbeats 4000000
namespace Tw
open PySem PySem.Spec PyProof.Rows L2
/-! ### the law's flow of numbers -/
structure Flow (H : Hp) (f c : Addr) : Prop where
  ex : ∃ (ns : List Int) (i r st : Int), H f = some (.lst [.ref c, .int i, .int r, .int st]) ∧ H c = some (.lst (ns.map V.int)) ∧ 0 ≤ i ∧ 0 ≤ r ∧ 0 ≤ st ∧ st < 2147483647
theorem Flow.lst {H : Hp} {f c : Addr} (h : Flow H f c) : ∃ xs, H f = some (.lst xs) := let ⟨_, _, _, _, e, _⟩ := h.ex; ⟨_, e⟩
theorem Flow.cells {H : Hp} {f c : Addr} (h : Flow H f c) : ∃ xs, H c = some (.lst xs) := let ⟨_, _, _, _, _, e, _⟩ := h.ex; ⟨_, e⟩
theorem Flow.keep {H H' : Hp} {f c : Addr} (h : Flow H f c) (h1 : ∀ o, H f = some o → H' f = some o) (h2 : ∀ o, H c = some o → H' c = some o) : Flow H' f c := by
  obtain ⟨ns, i, r, st, e1, e2, e3⟩ := h.ex
  exact ⟨ns, i, r, st, h1 _ e1, h2 _ e2, e3⟩
theorem Flow.same {H H' : Hp} {f c : Addr} (h : Flow H f c) (s : Same H H') : Flow H' f c := h.keep (fun _ e => s _ _ e) (fun _ e => s _ _ e)
theorem Flow.upd {H : Hp} {f c p : Addr} {o : HO} (h : Flow H f c) (n1 : f ≠ p) (n2 : c ≠ p) : Flow (upd H p o) f c := h.keep (fun _ e => by rw [upd_ne n1]; exact e) (fun _ e => by rw [upd_ne n2]; exact e)
theorem flow_ne {H : Hp} {f c : Addr} {i r st : Int} {ns : List Int} (h1 : H f = some (.lst [.ref c, .int i, .int r, .int st])) (h2 : H c = some (.lst (ns.map V.int))) : c ≠ f := by
  refine ne_of h2 h1 fun e => ?_
  have e := HO.lst.inj e
  cases ns with
  | nil => cases e
  | cons x l =>
    have e1 := (List.cons.inj e).1
    cases e1
theorem Flow.put {H : Hp} {f c : Addr} {i r st : Int} {ns : List Int} (h1 : H f = some (.lst [.ref c, .int i, .int r, .int st])) (h2 : H c = some (.lst (ns.map V.int))) {i' r' st' : Int} (a : 0 ≤ i') (b : 0 ≤ r') (d : 0 ≤ st') (e : st' < 2147483647) :
    Flow (L2.upd H f (.lst [.ref c, .int i', .int r', .int st'])) f c := ⟨ns, i', r', st', upd_same, by rw [upd_ne (flow_ne h1 h2)]; exact h2, a, b, d, e⟩
theorem cut_ints (ns : List Int) (lo hi : Option Int) : ∃ ms : List Int, cutV (ns.map V.int) lo hi = ms.map V.int := by
  unfold cutV
  refine ⟨(ns.drop (HT.sIx (ns.map V.int).length 0 lo)).take (HT.sIx (ns.map V.int).length (ns.map V.int).length hi - HT.sIx (ns.map V.int).length 0 lo), ?_⟩
  rw [List.map_take, List.map_drop]
theorem fm_lo (x : Int) {n : Int} (h : 0 < n) : 0 ≤ x.fmod n := by
  rw [Int.fmod_eq_emod_of_nonneg _ (Int.le_of_lt h)]
  exact Int.emod_nonneg _ (Int.ne_of_gt h)
theorem fm_hi (x : Int) {n : Int} (h : 0 < n) : x.fmod n < n := by
  rw [Int.fmod_eq_emod_of_nonneg _ (Int.le_of_lt h)]
  exact Int.emod_lt_of_pos _ h
theorem fd_lo {x n : Int} (hx : 0 ≤ x) (h : 0 < n) : 0 ≤ x.fdiv n := by
  rw [Int.fdiv_eq_ediv_of_nonneg _ (Int.le_of_lt h)]
  exact Int.ediv_nonneg hx (Int.le_of_lt h)
theorem abs_lo (x : Int) : (0 : Int) ≤ if x < 0 then -x else x := by
  split <;> omega
section
variable {P : Program} {w : World} {K : PySem.W.Frag} {mg : Str → Option Value} {base : Heap}
def CDivX (_ j : Int) : Prop := j ≠ 0 ∧ j.natAbs.log2 < 9000
theorem op_fdivX {X : Cx} : OpR X (binaryOp .FloorDiv) (rI CDivX fun i j => .int (i.fdiv j)) := opI fun _ _ _ _ _ _ _ hc q => floordiv_int hc.1 q (.inl (PyProof.noPylong_of_log2 hc.2))
theorem big_log {n : Int} (h1 : n < 1606938044258990275541962092341162602522202993782792835301376) (h0 : 0 < n) : n.natAbs.log2 < 9000 := by
  have h : n.natAbs < 2 ^ 200 := by
    have e : (2 : Nat) ^ 200 = 1606938044258990275541962092341162602522202993782792835301376 := by decide +kernel
    rw [e]
    omega
  exact Nat.lt_trans ((Nat.log2_lt (by omega)).mpr h) (by decide)
def sp_flow (K : PySem.W.Frag) : Sp := fun vs H Q _ => ∃ (a : Addr) (ns : List Int), vs = [.ref a] ∧ SqL K H a (ns.map V.int) ∧ ∀ (f c : Addr) (H' : Hp), Same H H' → H f = none → H c = none → Flow H' f c → Q (.ref f) H'
theorem cal__law_flow (T : Tp K mg) : Cal P w K mg base 2 "_law_flow" (sp_flow K) := by
  obtain ⟨fd, F⟩ := f__law_flow T
  refine cal_of F (g__law_flow T) (b__law_flow F) sc__law_flow (fun vs H Q E h => ?_) (fun cdv A outer s H vs Q E hr h => ?_)
  · obtain ⟨a, ns, rfl, _⟩ := h
    rfl
  · obtain ⟨a, ns, rfl, hS, q⟩ := h
    refine ⟨_, (pss_one (ps_ret (pe_lst (pa_cons (pe_callTy call_list_of (by rfl) (z_list T) bb_list (pa_cons (pe_slice sl_list (pv 0) po_none (po_some pe_int)) pa_nil)) (pa_cons pe_int (pa_cons pe_int (pa_cons pe_int pa_nil))))))), ?_⟩
    refine ⟨_, rfl, 63, rfl, a, _, rfl, hS, fun p np => ?_⟩
    obtain ⟨ms, e⟩ := cut_ints ns none (some 63)
    rw [e]
    have s1 := same_upd (o := .lst (ms.map V.int)) np
    refine ⟨p, _, rfl, .inl (.inl (.inl upd_same)), fun l nl => ?_⟩
    have s2 := same_upd (o := .lst (ms.map V.int)) nl
    refine ⟨by show 4 ≤ sizeLine; decide, fun f nf => ?_⟩
    have s3 := same_upd (o := .lst [.ref l, .int 0, .int 0, .int 11]) nf
    have sa := s1.trans s2
    exact q f l _ (sa.trans s3) (sa.free nf) (s1.free nl) ⟨ms, 0, 0, 11, upd_same, s3 _ _ upd_same, by decide, by decide, by decide, by decide⟩
/-! ### _law_draw -/
def sp_draw : Sp := fun vs H Q _ => ∃ (f c : Addr) (n : Int), vs = [.ref f, .int n] ∧ Flow H f c ∧ 0 < n ∧ n < 1606938044258990275541962092341162602522202993782792835301376 ∧ ∀ (v : Int) (H' : Hp), 0 ≤ v → v < n → Sb f H H' → Flow H' f c → Q (.int v) H'
theorem cal__law_draw (T : Tp K mg) : Cal P w K mg base 2 "_law_draw" sp_draw := by
  obtain ⟨fd, F⟩ := f__law_draw T
  refine cal_of F (g__law_draw T) (b__law_draw F) sc__law_draw (fun vs H Q E h => ?_) (fun cdv A outer s H vs Q E hr h => ?_)
  · obtain ⟨f, c, n, rfl, _⟩ := h
    rfl
  · obtain ⟨f, c, n, rfl, FL, n0, n1, q⟩ := h
    obtain ⟨ns, i, r, st, hf, hc, i0, r0, st0, st1⟩ := FL.ex
    have hn : n ≠ 0 := by omega
    have hdiv : CDivX r n := ⟨hn, big_log n1 n0⟩
    have ncf := flow_ne hf hc
    refine ⟨_, (pss_cons (ps_if (pt_cmpR op_gt (pe_ix ix_list (pv 0) pe_int (fun _ _ => rfl)) pe_int (nomark _)) (pss_cons (ps_set (i := 2) sc__law_draw.nd rfl (.inl rfl) (pe_op op_modN (pe_ix ix_list (pv 0) pe_int (fun _ _ => rfl)) (pv 1)))
        (pss_cons (ps_asg (pe_op op_fdivX (pe_ix ix_list (pv 0) pe_int (fun _ _ => rfl)) (pv 1)) (pg_sub (pv 0) pe_int set_list))
        (pss_one (ps_ret (pv 2))))) pss_nil)
      (pss_cons (ps_set (i := 3) sc__law_draw.nd rfl (.inl rfl) pe_int)
      (C8.pss_cut (ps_if (pt_cmpR op_lt (pe_ix ix_list (pv 0) pe_int (fun _ _ => rfl)) (pe_callB call_len_seq (by rfl) (z_len T) bb_len (pa_cons (pe_ix ix_list (pv 0) pe_int (fun _ _ => rfl)) pa_nil)) (nomark _)) (pss_one (ps_set (i := 3) sc__law_draw.nd rfl (.inl rfl) (pe_ix ix_list (pe_ix ix_list (pv 0) pe_int (fun _ _ => rfl)) (pe_ix ix_list (pv 0) pe_int (fun _ _ => rfl)) (fun _ _ => rfl)))) pss_nil)
      (pss_cons (ps_asg (pe_op op_add (pe_ix ix_list (pv 0) pe_int (fun _ _ => rfl)) pe_int) (pg_sub (pv 0) pe_int set_list))
      (pss_cons (ps_if (pt_cmpR op_ge (pe_callB call_abs (by rfl) (z_abs T) bb_abs (pa_cons (pv 3) pa_nil)) (pe_op op_pow pe_int pe_int) (nomark _)) (pss_cons (ps_asg (pe_op op_fdivX (pe_callB call_abs (by rfl) (z_abs T) bb_abs (pa_cons (pv 3) pa_nil)) (pv 1)) (pg_sub (pv 0) pe_int set_list))
        (pss_one (ps_ret (pe_op op_modN (pe_callB call_abs (by rfl) (z_abs T) bb_abs (pa_cons (pv 3) pa_nil)) (pv 1))))) pss_nil)
      (pss_cons (ps_set (i := 4) sc__law_draw.nd rfl (.inl rfl) (pe_op op_add (pe_op op_add (pe_op op_pow (pe_ix ix_list (pv 0) pe_int (fun _ _ => rfl)) pe_int) (pe_op op_mul (pe_ix ix_list (pv 0) pe_int (fun _ _ => rfl)) pe_int)) (pe_op op_mul (pe_ix ix_list (pv 0) pe_int (fun _ _ => rfl)) pe_int)))
      (pss_cons (ps_set (i := 4) sc__law_draw.nd rfl (.inl rfl) (pe_op op_modN (pe_op op_add (pv 4) (pe_op op_mul (pe_op op_modN (pv 3) pe_int) pe_int)) pe_int))
      (pss_cons (ps_asg (pv 4) (pg_sub (pv 0) pe_int set_list))
      (pss_one (ps_ret (pe_op op_modN (pe_op op_add (pe_op op_fdivN (pv 4) pe_int) (pe_op op_mul (pe_op op_modN (pv 4) pe_int) pe_int)) (pv 1)))))))))))), ?_⟩
    refine ⟨_, rfl, f, _, 2, _, rfl, rfl, .inl (.inl hf), atI_nat (j := 2) rfl, _, _, rfl, rfl, _, rfl, ite2 (fun e => ?_) (fun e => ?_)⟩
    · -- numbers are left of a great one
      refine ⟨_, rfl, f, _, 2, _, rfl, rfl, .inl (.inl hf), atI_nat (j := 2) rfl, _, rfl, _, _, rfl, rfl, hn, ?_⟩
      refine ⟨_, rfl, f, _, 2, _, rfl, rfl, .inl (.inl hf), atI_nat (j := 2) rfl, _, rfl, _, _, rfl, rfl, hdiv, _, rfl, f, _, 2, 2, rfl, rfl, hf, rfl, ?_⟩
      exact ⟨_, rfl, q _ _ (fm_lo _ n0) (fm_hi _ n0) Sb.upd (Flow.put hf hc i0 (fd_lo r0 n0) st0 st1)⟩
    · -- the next cell
      refine ⟨fun σ' H' => H' = H ∧ ∃ x : Int, σ' = [some (.ref f), some (.int n), none, some (.int x), none], ?_, ?_⟩
      · refine ⟨_, rfl, f, _, 1, _, rfl, rfl, .inl (.inl hf), atI_nat (j := 1) rfl, _, rfl, f, _, 0, _, rfl, rfl, .inl (.inl hf), atI_nat (j := 0) rfl, c, _, rfl, .inl (.inl (.inl hc)), _, _, rfl, rfl, _, rfl, ite2 (fun e => ?_) (fun e => ?_)⟩
        · have hi : i < ((ns.map V.int).length : Int) := of_decide_eq_true e
          rw [List.length_map] at hi
          have hj : i.toNat < ns.length := by omega
          refine ⟨_, rfl, f, _, 0, _, rfl, rfl, .inl (.inl hf), atI_nat (j := 0) rfl, _, rfl, f, _, 1, _, rfl, rfl, .inl (.inl hf), atI_nat (j := 1) rfl, c, _, i, .int ns[i.toNat], rfl, rfl, .inl (.inl hc), ?_, rfl, ns[i.toNat], rfl⟩
          refine at_of (j := i.toNat) (by omega) ?_
          rw [List.getElem?_map, List.getElem?_eq_getElem hj]
          rfl
        · exact ⟨rfl, 0, rfl⟩
      · rintro σ' H' ⟨rfl, x, rfl⟩
        -- flow[1] = flow[1] + 1
        refine ⟨_, rfl, f, _, 1, _, rfl, rfl, .inl (.inl hf), atI_nat (j := 1) rfl, _, _, rfl, rfl, _, rfl, f, _, 1, 1, rfl, rfl, hf, rfl, ?_⟩
        have hf1 : (upd H' f (.lst [.ref c, .int (i + 1), .int r, .int st])) f = some (.lst [.ref c, .int (i + 1), .int r, .int st]) := upd_same
        have hc1 : (upd H' f (.lst [.ref c, .int (i + 1), .int r, .int st])) c = some (.lst (ns.map V.int)) := by
          rw [upd_ne ncf]
          exact hc
        have sb1 : Sb f H' (upd H' f (.lst [.ref c, .int (i + 1), .int r, .int st])) := Sb.upd
        have a0 := abs_lo x
        refine ⟨_, rfl, _, rfl, 10, 18, rfl, rfl, ⟨by decide, by decide, by decide⟩, _, _, rfl, rfl, _, rfl, ite2 (fun e => ?_) (fun e => ?_)⟩
        · refine ⟨_, rfl, _, rfl, _, rfl, _, _, rfl, rfl, ⟨hn, big_log n1 n0⟩, _, rfl, f, _, 2, 2, rfl, rfl, hf1, rfl, ?_⟩
          exact ⟨_, rfl, _, rfl, _, rfl, _, _, rfl, rfl, hn, q _ _ (fm_lo _ n0) (fm_hi _ n0) (sb1.trans Sb.upd) (Flow.put hf1 hc1 (by omega) (fd_lo a0 n0) st0 st1)⟩
        · refine ⟨_, rfl, f, _, 3, _, rfl, rfl, .inl (.inl hf1), atI_nat (j := 3) rfl, st, 3, rfl, rfl, ⟨by decide, by decide, by omega⟩, ?_⟩
          refine ⟨_, rfl, f, _, 3, _, rfl, rfl, .inl (.inl hf1), atI_nat (j := 3) rfl, st, 31, rfl, rfl, .inr ⟨by decide, by decide⟩, _, _, rfl, rfl, ?_⟩
          refine ⟨_, rfl, f, _, 1, _, rfl, rfl, .inl (.inl hf1), atI_nat (j := 1) rfl, i + 1, 69621, rfl, rfl, .inr ⟨by decide, by decide⟩, _, _, rfl, rfl, ?_⟩
          refine ⟨_, rfl, _, rfl, x, 2147483629, rfl, rfl, (show (2147483629 : Int) ≠ 0 by decide), _, 48271, rfl, rfl, .inr ⟨by decide, by decide⟩, _, _, rfl, rfl, _, 2147483647, rfl, rfl, (show (2147483647 : Int) ≠ 0 by decide), ?_⟩
          have b0 := fm_lo (st ^ (3 : Int).toNat + st * 31 + (i + 1) * 69621 + x.fmod 2147483629 * 48271) (n := 2147483647) (by decide)
          have b1 := fm_hi (st ^ (3 : Int).toNat + st * 31 + (i + 1) * 69621 + x.fmod 2147483629 * 48271) (n := 2147483647) (by decide)
          refine ⟨_, rfl, _, rfl, f, _, 3, 3, rfl, rfl, hf1, rfl, ?_⟩
          refine ⟨_, rfl, _, 8192, rfl, rfl, ⟨by decide, by decide⟩, _, rfl, _, 8191, rfl, rfl, (show (8191 : Int) ≠ 0 by decide), _, 40503, rfl, rfl, .inr ⟨by decide, by decide⟩, _, _, rfl, rfl, _, rfl, _, n, rfl, rfl, hn, ?_⟩
          exact q _ _ (fm_lo _ n0) (fm_hi _ n0) (sb1.trans Sb.upd) (Flow.put hf1 hc1 (by omega) r0 b0 b1)
/-! ### _law_pick -/
def sp_pick : Sp := fun vs H Q _ => ∃ (f c l : Addr) (xs : List V), vs = [.ref f, .ref l] ∧ Flow H f c ∧ H l = some (.lst xs) ∧ l ≠ f ∧ 0 < xs.length ∧ xs.length ≤ 1000 ∧ ∀ (v : V) (H' : Hp), v ∈ xs → Sb f H H' → Flow H' f c → Q v H'
theorem cal__law_pick (T : Tp K mg) : Cal P w K mg base 3 "_law_pick" sp_pick := by
  obtain ⟨fd, F⟩ := f__law_pick T
  refine cal_of F (g__law_pick T) (b__law_pick F) sc__law_pick (fun vs H Q E h => ?_) (fun cdv A outer s H vs Q E hr h => ?_)
  · obtain ⟨f, c, l, xs, rfl, _⟩ := h
    rfl
  · obtain ⟨f, c, l, xs, rfl, FL, hl, nlf, h0, h1, q⟩ := h
    refine ⟨_, (pss_one (ps_ret (pe_ix ix_list (pv 1) (C8.pe_c (cal__law_draw T) hr (by decide) rfl (pa_cons (pv 0) (pa_cons (pe_callB call_len_seq (by rfl) (z_len T) bb_len (pa_cons (pv 1) pa_nil)) pa_nil))) (fun _ _ => rfl)))), ?_⟩
    refine ⟨_, rfl, _, rfl, _, rfl, l, _, rfl, .inl (.inl (.inl hl)), f, c, _, rfl, FL, by omega, by omega, fun v H1 v0 v1 sb F1 => ?_⟩
    have hv : v.toNat < xs.length := by omega
    exact ⟨l, xs, v, xs[v.toNat], rfl, rfl, .inl (.inl (sb _ _ hl nlf)), at_of (j := v.toNat) (by omega) (List.getElem?_eq_getElem hv), q _ H1 (List.getElem_mem hv) sb F1⟩
end
end Tw

set_option maxHeartbeats 4000000
namespace Tw
open PySem PySem.Spec PyProof.Rows L2
/-! ### the law's own picture of a web: a dict -/
abbrev kBy : Key := .inr "by"
abbrev kOwn : Key := .inr "own"
abbrev kWd : Key := .inr "winds"
abbrev kBd : Key := .inr "bonds"
theorem k1 : ¬ kBy = kOwn := by decide +kernel
theorem k2 : ¬ kBy = kWd := by decide +kernel
theorem k3 : ¬ kBy = kBd := by decide +kernel
theorem k4 : ¬ kOwn = kWd := by decide +kernel
theorem k5 : ¬ kOwn = kBd := by decide +kernel
theorem k6 : ¬ kWd = kBd := by decide +kernel
def mk (l : Int) (o w b : Addr) : List (Key × V) := [(kBy, .int l), (kOwn, .ref o), (kWd, .ref w), (kBd, .ref b)]
section
variable {l : Int} {o w b o2 : Addr} {H : Hp} {d : Addr}
theorem mk_by (h : H d = some (.dK (mk l o w b))) : DGet H d (.str "by") (some (.int l)) := .inl ⟨_, kBy, .inl h, rfl, by
  unfold mk
  rw [valV_pos rfl]⟩
theorem mk_own (h : H d = some (.dK (mk l o w b))) : DGet H d (.str "own") (some (.ref o)) := .inl ⟨_, kOwn, .inl h, rfl, by
  unfold mk
  rw [valV_neg k1, valV_pos rfl]⟩
theorem mk_wd (h : H d = some (.dK (mk l o w b))) : DGet H d (.str "winds") (some (.ref w)) := .inl ⟨_, kWd, .inl h, rfl, by
  unfold mk
  rw [valV_neg k2, valV_neg k4, valV_pos rfl]⟩
theorem mk_bd (h : H d = some (.dK (mk l o w b))) : DGet H d (.str "bonds") (some (.ref b)) := .inl ⟨_, kBd, .inl h, rfl, by
  unfold mk
  rw [valV_neg k3, valV_neg k5, valV_neg k6, valV_pos rfl]⟩
theorem mk_putOwn : putK (mk l o w b) kOwn (.ref o2) = mk l o2 w b := by
  have n4 : ¬ kWd = kOwn := fun e => k4 e.symm
  have n5 : ¬ kBd = kOwn := fun e => k5 e.symm
  unfold putK mk
  rw [if_pos (by rw [List.any_cons, List.any_cons, decide_eq_true (rfl : kOwn = kOwn)]; simp)]
  simp only [List.map_cons, List.map_nil, if_neg k1, if_neg n4, if_neg n5, if_true]
end
theorem mk_merge (l : Int) (o w b : Addr) : mergeK [] [(kBy, .int l), (kOwn, .ref o), (kWd, .ref w), (kBd, .ref b)] = mk l o w b := by
  show putK (putK (putK (putK [] kBy (.int l)) kOwn (.ref o)) kWd (.ref w)) kBd (.ref b) = mk l o w b
  rw [putK_new (kvs := []) _ valV_nil, List.nil_append]
  rw [putK_new (kvs := [(kBy, V.int l)]) _ (by rw [valV_neg k1]; rfl), List.singleton_append]
  rw [putK_new (kvs := [(kBy, V.int l), (kOwn, V.ref o)]) _ (by rw [valV_neg k2, valV_neg k4]; rfl), List.cons_append, List.singleton_append]
  rw [putK_new (kvs := [(kBy, V.int l), (kOwn, V.ref o), (kWd, V.ref w)]) _ (by rw [valV_neg k3, valV_neg k5, valV_neg k6]; rfl)]
  rfl
/-- the picture m stands at d -/
structure MdAt (H : Hp) (d : Addr) (m : Md) : Prop where
  ex : ∃ (o w b : Addr) (ws bs : List V), H d = some (.dK (mk m.last o w b)) ∧ H o = some (.lst (m.own.map V.str)) ∧ H w = some (.lst ws) ∧ Rows H ws (m.wd.map Wd.row) ∧ H b = some (.lst bs) ∧ Rows H bs (m.bd.map Bd.row) ∧ o ≠ w ∧ o ≠ b ∧ w ≠ b
/-- .. with its three lists at o, w, b -/
structure MdX (H : Hp) (d o w b : Addr) (m : Md) : Prop where
  dk : H d = some (.dK (mk m.last o w b))
  own : H o = some (.lst (m.own.map V.str))
  wd : ∃ ws, H w = some (.lst ws) ∧ Rows H ws (m.wd.map Wd.row)
  bd : ∃ bs, H b = some (.lst bs) ∧ Rows H bs (m.bd.map Bd.row)
  now : o ≠ w
  nob : o ≠ b
  nwb : w ≠ b
theorem MdX.at {H : Hp} {d o w b : Addr} {m : Md} (M : MdX H d o w b m) : MdAt H d m := by
  obtain ⟨ws, h1, h2⟩ := M.wd
  obtain ⟨bs, h3, h4⟩ := M.bd
  exact ⟨o, w, b, ws, bs, M.dk, M.own, h1, h2, h3, h4, M.now, M.nob, M.nwb⟩
theorem strs_flow {H : Hp} {f c a : Addr} {l : List Str} (F : Flow H f c) (h : H a = some (.lst (l.map V.str))) : a ≠ f := by
  obtain ⟨ns, i, r, st, h1, _⟩ := F.ex
  refine ne_of h h1 fun e => ?_
  have e := HO.lst.inj e
  cases l with
  | nil => cases e
  | cons x t =>
    have e1 := (List.cons.inj e).1
    cases e1
theorem rows_flow {H : Hp} {f c a : Addr} {xs : List V} {rs : List (List V)} (F : Flow H f c) (h : H a = some (.lst xs)) (R : Rows H xs rs) : a ≠ f := by
  obtain ⟨ns, i, r, st, h1, _⟩ := F.ex
  refine ne_of h h1 fun e => ?_
  have e := HO.lst.inj e
  subst e
  obtain ⟨t, r', e1, _⟩ := R.at (i := 1) (x := .int i) rfl
  cases e1
theorem MdAt.same {H H' : Hp} {d : Addr} {m : Md} (M : MdAt H d m) (s : Same H H') : MdAt H' d m := by
  obtain ⟨o, w, b, ws, bs, h1, h2, h3, h4, h5, h6, h7⟩ := M.ex
  exact ⟨o, w, b, ws, bs, s _ _ h1, s _ _ h2, s _ _ h3, h4.keep (Kt.of s), s _ _ h5, h6.keep (Kt.of s), h7⟩
theorem MdAt.sb {H H' : Hp} {f c d : Addr} {m : Md} (M : MdAt H d m) (F : Flow H f c) (s : Sb f H H') : MdAt H' d m := by
  obtain ⟨o, w, b, ws, bs, h1, h2, h3, h4, h5, h6, h7⟩ := M.ex
  obtain ⟨xs, hf⟩ := F.lst
  have k := s.kt hf
  exact ⟨o, w, b, ws, bs, s _ _ h1 (ne_of h1 hf (by intro z; cases z)), s _ _ h2 (strs_flow F h2), s _ _ h3 (rows_flow F h3 h4), h4.keep k, s _ _ h5 (rows_flow F h5 h6), h6.keep k, h7⟩
theorem MdX.same {H H' : Hp} {d o w b : Addr} {m : Md} (M : MdX H d o w b m) (s : Same H H') : MdX H' d o w b m := by
  obtain ⟨ws, h1, h2⟩ := M.wd
  obtain ⟨bs, h3, h4⟩ := M.bd
  exact ⟨s _ _ M.dk, s _ _ M.own, ⟨ws, s _ _ h1, h2.keep (Kt.of s)⟩, ⟨bs, s _ _ h3, h4.keep (Kt.of s)⟩, M.now, M.nob, M.nwb⟩
theorem MdX.sb {H H' : Hp} {f c d o w b : Addr} {m : Md} (M : MdX H d o w b m) (F : Flow H f c) (s : Sb f H H') : MdX H' d o w b m := by
  obtain ⟨ws, h1, h2⟩ := M.wd
  obtain ⟨bs, h3, h4⟩ := M.bd
  obtain ⟨xs, hf⟩ := F.lst
  have k := s.kt hf
  exact ⟨s _ _ M.dk (ne_of M.dk hf (by intro z; cases z)), s _ _ M.own (strs_flow F M.own), ⟨ws, s _ _ h1 (rows_flow F h1 h2), h2.keep k⟩, ⟨bs, s _ _ h3 (rows_flow F h3 h4), h4.keep k⟩, M.now, M.nob, M.nwb⟩
/-- a span more -/
theorem MdX.addW {H : Hp} {d o w b t : Addr} {m : Md} {x : Wd} {ws : List V} (M : MdX H d o w b m) (e : H w = some (.lst ws)) (R : Rows H ws (m.wd.map Wd.row)) (ht : H t = some (.tup x.row)) : MdX (upd H w (.lst (ws ++ [.ref t]))) d o w b (m.addS x) := by
  obtain ⟨bs, h3, h4⟩ := M.bd
  have k : Kt H (upd H w (.lst (ws ++ [.ref t]))) := Kt.upd fun xs z => by
    rw [e] at z
    cases z
  refine ⟨?_, ?_, ⟨_, upd_same, ?_⟩, ⟨bs, ?_, h4.keep k⟩, M.now, M.nob, M.nwb⟩
  · rw [upd_ne (ne_of M.dk e (by intro z; cases z))]
    exact M.dk
  · rw [upd_ne M.now]
    exact M.own
  · show Rows _ _ ((m.wd ++ [x]).map Wd.row)
    rw [List.map_append]
    exact (R.keep k).snoc (k _ _ ht)
  · rw [upd_ne M.nwb.symm]
    exact h3
/-- a tie more -/
theorem MdX.addB {H : Hp} {d o w b t : Addr} {m : Md} {x : Bd} {bs : List V} (M : MdX H d o w b m) (e : H b = some (.lst bs)) (R : Rows H bs (m.bd.map Bd.row)) (ht : H t = some (.tup x.row)) : MdX (upd H b (.lst (bs ++ [.ref t]))) d o w b (m.addT x) := by
  obtain ⟨ws, h3, h4⟩ := M.wd
  have k : Kt H (upd H b (.lst (bs ++ [.ref t]))) := Kt.upd fun xs z => by
    rw [e] at z
    cases z
  refine ⟨?_, ?_, ⟨ws, ?_, h4.keep k⟩, ⟨_, upd_same, ?_⟩, M.now, M.nob, M.nwb⟩
  · rw [upd_ne (ne_of M.dk e (by intro z; cases z))]
    exact M.dk
  · rw [upd_ne M.nob]
    exact M.own
  · rw [upd_ne M.nwb]
    exact h3
  · show Rows _ _ ((m.bd ++ [x]).map Bd.row)
    rw [List.map_append]
    exact (R.keep k).snoc (k _ _ ht)
/-- the names that are drawn -/
def pool : List Str := ["a", "bb", "c", "zzzzzzzz", "ab", "x", "late", "by", "q", "tie", "ends", "waits", "k", "ba"]
theorem pool_nd : pool.Nodup := by decide +kernel
theorem pool_ok : (pool.all fun z => decide (1 ≤ z.length) && decide (z.length ≤ 8) && (z.cps.toList.all fun c => decide (c ∈ letters.cps.toList)) && !decide (z = "start")) = true := by decide +kernel
theorem pool_nm {z : Str} (h : z ∈ pool) : Nm z ∧ ¬ z = "start" := by
  have e := List.all_eq_true.mp pool_ok z h
  simp only [Bool.and_eq_true, decide_eq_true_eq, List.all_eq_true, Bool.not_eq_true', decide_eq_false_iff_not] at e
  exact ⟨⟨e.1.1.1, e.1.1.2, e.1.2⟩, e.2⟩
theorem pull_perm {α : Type} : ∀ (r : List α) (v : Nat) (h : v < r.length), (r[v] :: r.eraseIdx v).Perm r
  | [], v, h => absurd h (Nat.not_lt_zero _)
  | a :: r, 0, h => List.Perm.refl _
  | a :: r, v + 1, h => by
    have ih := pull_perm r v (Nat.lt_of_succ_lt_succ h)
    exact (List.Perm.swap a (r[v]'(Nat.lt_of_succ_lt_succ h)) (r.eraseIdx v)).trans (ih.cons a)
theorem erase_map {α β : Type} (g : α → β) : ∀ (r : List α) (v : Nat), (r.map g).eraseIdx v = (r.eraseIdx v).map g
  | [], _ => rfl
  | a :: r, 0 => rfl
  | a :: r, v + 1 => congrArg (g a :: ·) (erase_map g r v)
theorem nd_pull {l r : List Str} {v : Nat} (h : v < r.length) (nd : (l ++ r).Nodup) : ((l ++ [r[v]]) ++ r.eraseIdx v).Nodup := by
  have p : (r[v] :: r.eraseIdx v).Perm r := pull_perm r v h
  rw [List.append_assoc, List.singleton_append]
  exact (p.append_left l).nodup_iff.mpr nd
theorem mem_pull {r : List Str} {v : Nat} {z : Str} (h : v < r.length) : z ∈ r[v] :: r.eraseIdx v ↔ z ∈ r := (pull_perm r v h).mem_iff
section
variable {P : Program} {w : World} {K : PySem.W.Frag} {mg : Str → Option Value} {base : Heap}
/-! ### _law_names -/
def sp_names : Sp := fun vs H Q _ => ∃ (f c : Addr) (n : Int), vs = [.ref f, .int n] ∧ Flow H f c ∧ 0 ≤ n ∧ n ≤ 14 ∧ ∀ (q : Addr) (ns : List Str) (H' : Hp), Sb f H H' → Flow H' f c → H q = none → H' q = some (.lst (ns.map V.str)) → ns.length = n.toNat → ns.Nodup → (∀ z ∈ ns, z ∈ pool) → Q (.ref q) H'
theorem cal__law_names (T : Tp K mg) : Cal P w K mg base 3 "_law_names" sp_names := by
  obtain ⟨fd, F⟩ := f__law_names T
  refine cal_of F (g__law_names T) (b__law_names F) sc__law_names (fun vs H Q E h => ?_) (fun cdv A outer s H vs Q E hr h => ?_)
  · obtain ⟨f, c, n, rfl, _⟩ := h
    rfl
  · obtain ⟨f, c, n, rfl, FL, n0, n1, q⟩ := h
    refine ⟨_, (pss_cons (ps_set (i := 2) sc__law_names.nd rfl (.inl rfl) (pe_lst (pa_cons pe_str (pa_cons pe_str (pa_cons pe_str (pa_cons pe_str (pa_cons pe_str (pa_cons pe_str (pa_cons pe_str (pa_cons pe_str (pa_cons pe_str (pa_cons pe_str (pa_cons pe_str (pa_cons pe_str (pa_cons pe_str (pa_cons pe_str pa_nil))))))))))))))))
      (pss_cons (ps_set (i := 3) sc__law_names.nd rfl (.inl rfl) (pe_lst pa_nil))
      (pss_cons (ps_for PassesOwn.never rfl (pi_range1 rfl (z_range T) (pa_cons (pv 1) pa_nil)) (pg_name (i := 4) sc__law_names.nd rfl (.inl rfl))
        (pss_one (ps_expr (pe_bm PySem.F.plainAttrs_list PySem.F.slot_list_append PySem.F.type_list_append mt_append (pv 3) (pa_cons (pe_bm PySem.F.plainAttrs_list PySem.F.slot_list_pop PySem.F.type_list_pop mt_popAt (pv 2) (pa_cons (C8.pe_c (cal__law_draw T) hr (by decide) rfl (pa_cons (pv 0) (pa_cons (pe_callB call_len_seq (by rfl) (z_len T) bb_len (pa_cons (pv 2) pa_nil)) pa_nil))) pa_nil)) pa_nil)))))
      (pss_one (ps_ret (pv 3)))))), ?_⟩
    refine ⟨by show 14 ≤ sizeLine; decide, fun l nl => ?_⟩
    have s1 := same_upd (o := .lst (pool.map V.str)) nl
    refine ⟨Nat.zero_le _, fun k nk => ?_⟩
    have s2 := same_upd (o := .lst []) nk
    have sa := s1.trans s2
    have nkH : H k = none := s1.free nk
    have nlk : l ≠ k := fun z => by
      rw [← z, upd_same] at nk
      cases nk
    obtain ⟨xs, hf⟩ := FL.lst
    have nlf : l ≠ f := (ne_of_none hf nl).symm
    have nkf : k ≠ f := (ne_of_none hf nkH).symm
    obtain ⟨ys, hc⟩ := FL.cells
    have ncl : c ≠ l := ne_of_none hc nl
    have nck : c ≠ k := ne_of_none hc nkH
    refine ⟨_, rfl, n, rfl, by omega, by omega, ?_⟩
    refine for_range (lo := 0) (n := n.toNat) (fun i σ H1 => ∃ (y : Option V) (ns rest : List Str), σ = [some (.ref f), some (.int n), some (.ref l), some (.ref k), y] ∧ Sb f H H1 ∧ Flow H1 f c ∧ H1 l = some (.lst (rest.map V.str)) ∧ H1 k = some (.lst (ns.map V.str)) ∧
      ns.length = i ∧ rest.length + i = 14 ∧ (ns ++ rest).Nodup ∧ ∀ z ∈ ns ++ rest, z ∈ pool) ?_ ?_ ?_
    · exact ⟨none, [], pool, rfl, Sb.of sa, FL.same sa, s2 _ _ upd_same, upd_same, rfl, rfl, pool_nd, fun z h => h⟩
    · rintro i σ H1 hi ⟨y, ns, rest, rfl, sb, F1, hl1, hk1, el, er, nd, hp⟩
      have hlen : (rest.map V.str).length = 14 - i := by
        rw [List.length_map]
        omega
      refine ⟨_, rfl, .inl ⟨rfl, _, .inl (.inl hk1)⟩, _, rfl, .inl ⟨rfl, _, .inl (.inl hl1)⟩, _, rfl, _, rfl, l, _, rfl, .inl (.inl (.inl hl1)), f, c, _, rfl, F1, by omega, by omega, fun v H2 v0 v1 sb2 F2 => ?_⟩
      have hv : v.toNat < rest.length := by
        rw [hlen] at v1
        omega
      have hl2 := sb2 _ _ hl1 nlf
      have hk2 := sb2 _ _ hk1 nkf
      refine ⟨l, _, v, v.toNat, .str rest[v.toNat], rfl, rfl, hl2, by omega, by omega, ?_, ?_, k, _, _, rfl, rfl, (by rw [upd_ne nlk.symm]; exact hk2), ?_, ?_⟩
      · unfold seqIndex?
        rw [if_neg (show ¬ v < 0 by omega), if_pos (by simp only [Bool.and_eq_true, decide_eq_true_eq]; omega)]
      · rw [List.getElem?_map, List.getElem?_eq_getElem hv]
        rfl
      · rw [List.length_map]
        exact small1000 (by omega)
      · refine ⟨_, ns ++ [rest[v.toNat]], rest.eraseIdx v.toNat, rfl, ?_, ?_, ?_, ?_, ?_, ?_, nd_pull hv nd, ?_⟩
        · refine fun b o e nb => ?_
          have e1 := sb2 _ _ (sb _ _ e nb) nb
          rw [upd_ne (ne_of_none e nkH), upd_ne (ne_of_none e nl)]
          exact e1
        · exact (F2.upd nlf.symm ncl).upd nkf.symm nck
        · rw [upd_ne nlk, upd_same, erase_map]
        · rw [upd_same, List.map_append]
          rfl
        · rw [List.length_append, el]
          rfl
        · rw [List.length_eraseIdx_of_lt hv]
          omega
        · intro z hz
          refine hp z ?_
          rw [List.append_assoc, List.singleton_append] at hz
          rcases List.mem_append.mp hz with h | h
          · exact List.mem_append.mpr (.inl h)
          · exact List.mem_append.mpr (.inr ((mem_pull hv).mp h))
    · rintro σ H1 ⟨y, ns, rest, rfl, sb, F1, hl1, hk1, el, er, nd, hp⟩
      exact ⟨_, rfl, q k ns H1 sb F1 nkH hk1 el (List.nodup_append.mp nd).1 fun z hz => hp z (List.mem_append.mpr (.inl hz))⟩
end
end Tw

set_option maxHeartbeats 4000000
namespace Tw
open PySem PySem.Spec PyProof.Rows L2
section
variable {P : Program} {w : World} {K : PySem.W.Frag} {mg : Str → Option Value} {base : Heap}
/-! ### _law_model -/
def sp_model : Sp := fun vs H Q _ => ∃ l : Int, vs = [.int l] ∧ ∀ (d o u b : Addr) (H' : Hp), Same H H' → H d = none → H o = none → H u = none → H b = none → MdX H' d o u b ⟨l, [], [], []⟩ → Q (.ref d) H'
theorem cal__law_model (T : Tp K mg) : Cal P w K mg base 2 "_law_model" sp_model := by
  obtain ⟨fd, F⟩ := f__law_model T
  refine cal_of F (g__law_model T) (b__law_model F) sc__law_model (fun vs H Q E h => ?_) (fun cdv A outer s H vs Q E hr h => ?_)
  · obtain ⟨l, rfl, _⟩ := h
    rfl
  · obtain ⟨l, rfl, q⟩ := h
    refine ⟨_, (pss_one (ps_ret (pe_disp (pps_cons pe_str (pv 0) (pps_cons pe_str (pe_lst pa_nil) (pps_cons pe_str (pe_lst pa_nil) (pps_cons pe_str (pe_lst pa_nil) pps_nil)))) (by rfl) (by rfl) (fun z => by cases z) (by decide)))), ?_⟩
    refine fun d nd => ⟨_, rfl, Nat.zero_le _, fun o no => ⟨Nat.zero_le _, fun u nu => ⟨Nat.zero_le _, fun b nb => ?_⟩⟩⟩
    have s0 := same_upd (o := .dK []) nd
    have s1 := same_upd (o := .lst []) no
    have s2 := same_upd (o := .lst []) nu
    have s3 := same_upd (o := .lst []) nb
    have ed := s3 _ _ (s2 _ _ (s1 _ _ (upd_same (H := H) (a := d) (o := .dK []))))
    have eo := s3 _ _ (s2 _ _ (upd_same (H := upd H d (.dK [])) (a := o) (o := .lst [])))
    have eu := s3 _ _ (upd_same (H := upd (upd H d (.dK [])) o (.lst [])) (a := u) (o := .lst []))
    have eb := upd_same (H := upd (upd (upd H d (.dK [])) o (.lst [])) u (.lst [])) (a := b) (o := .lst [])
    have nod : o ≠ d := (ne_of ed eo (by intro z; cases z)).symm
    have nud : u ≠ d := (ne_of ed eu (by intro z; cases z)).symm
    have nbd : b ≠ d := (ne_of ed eb (by intro z; cases z)).symm
    have nou : o ≠ u := ne_of_none (s1 _ _ upd_same |> fun _ => upd_same) nu
    have nob : o ≠ b := ne_of_none (s2 _ _ upd_same) nb
    have nub : u ≠ b := ne_of_none upd_same nb
    refine ⟨ed, [(kBy, .int l), (kOwn, .ref o), (kWd, .ref u), (kBd, .ref b)], rfl, (by show 4 ≤ 15; decide), ?_⟩
    rw [mk_merge]
    refine q d o u b _ (fun x y e => ?_) nd (s0.free no) ((s0.trans s1).free nu) (((s0.trans s1).trans s2).free nb) ⟨upd_same, by rw [upd_ne nod]; exact eo, ⟨[], by rw [upd_ne nud]; exact eu, .nil⟩, ⟨[], by rw [upd_ne nbd]; exact eb, .nil⟩, nou, nob, nub⟩
    rw [upd_ne (ne_of_none e nd)]
    exact s3 _ _ (s2 _ _ (s1 _ _ (s0 _ _ e)))
/-! ### _law_points -/
def sp_lpoints : Sp := fun vs H Q _ => ∃ (d : Addr) (m : Md), vs = [.ref d] ∧ MdAt H d m ∧ m.own.length ≤ 14 ∧ m.wd.length ≤ 14 ∧ ∀ (q : Addr) (H' : Hp), Same H H' → H q = none → H' q = some (.lst (m.pts.map V.str)) → Q (.ref q) H'
theorem cal__law_points (T : Tp K mg) : Cal P w K mg base 2 "_law_points" sp_lpoints := by
  obtain ⟨fd, F⟩ := f__law_points T
  refine cal_of F (g__law_points T) (b__law_points F) sc__law_points (fun vs H Q E h => ?_) (fun cdv A outer s H vs Q E hr h => ?_)
  · obtain ⟨d, m, rfl, _⟩ := h
    rfl
  · obtain ⟨d, m, rfl, M, l1, l2, q⟩ := h
    have hu := hu_of hr
    obtain ⟨o, u, b, ws, bs, h1, h2, h3, h4, h5, h6, h7⟩ := M.ex
    have hw : ws.length = m.wd.length := by rw [h4.len, List.length_map]
    refine ⟨_, (pss_one (ps_ret (pe_op op_cat (pe_op op_cat (pe_lst (pa_cons pe_str pa_nil)) (pe_dget hu (pv 0) pe_str (fun _ _ => rfl))) (pe_lc (own := [("_law_wind_here", 1)]) (g := gName 1) (tt := tYes) rfl sc__law_points.nd (pi_list (pe_dget hu (pv 0) pe_str (fun _ _ => rfl))) (blkOk_by (N := N__law_points) (sc := defScope s__law_points) (by decide +kernel)) (fun _ _ _ _ _ => (pg_name (i := 1) sc__law_points.nd rfl (.inl rfl))) (fun _ _ _ _ _ => pts_nil) (fun _ _ _ _ _ => (pe_ix (ix_tupK (K := K) rfl) (pv 1) pe_int (fun _ _ => rfl))))))), ?_⟩
    refine ⟨by show 1 ≤ sizeLine; decide, fun l nl => ?_⟩
    have s1 := same_upd (o := .lst [.str "start"]) nl
    refine ⟨_, rfl, d, _, rfl, mk_own (s1 _ _ h1), l, o, _, _, rfl, rfl, upd_same, s1 _ _ h2, ?_, fun r nr => ?_⟩
    · rw [List.length_map]
      exact Nat.le_of_lt (small1000 (by show 1 + _ ≤ 1000; omega))
    · have s2 := same_upd (o := .lst ([.str "start"] ++ m.own.map V.str)) nr
      have sa := s1.trans s2
      refine ⟨_, rfl, d, _, rfl, mk_wd (sa _ _ h1), u, rfl, ⟨_, .inl (.inl (sa _ _ h3))⟩, fun D nD => ?_⟩
      have nDH : H D = none := sa.free nD
      refine lc_list (K := K) (a := u) (xs := ws) (fun i H1 => Same (upd (upd H l (.lst [.str "start"])) r (.lst ([.str "start"] ++ m.own.map V.str))) H1 ∧ H1 D = some (.lst (((m.wd.map (·.en)).take i).map V.str)))
        ⟨same_upd nD, upd_same⟩ (fun i H1 _ ⟨s3, _⟩ => .inl (.inl (s3 _ _ (sa _ _ h3)))) ?_ ?_
      · rintro i x H1 hx ⟨s3, d1⟩
        obtain ⟨t, r', rfl, hr', ht⟩ := h4.at hx
        rw [List.getElem?_map] at hr'
        cases e : m.wd[i]? with
        | none =>
          rw [e] at hr'
          cases hr'
        | some y =>
          rw [e] at hr'
          cases hr'
          have hi : i < m.wd.length := (List.getElem?_eq_some_iff.mp e).1
          refine ⟨rfl, yes_i (iteT ⟨_, rfl, t, _, 0, _, rfl, rfl, .inl (.inl (s3 _ _ (sa _ _ ht))), atI_nat (j := 0) rfl, _, d1, ?_, ?_, ?_⟩)⟩
          · rw [List.length_map, List.length_take]
            exact small1000 (by omega)
          · exact same_put s3 nD
          · rw [upd_same, List.take_add_one, List.getElem?_map, e, List.map_append]
            rfl
      · rintro H1 ⟨s3, d1⟩
        have en : (m.wd.map (·.en)).take ws.length = m.wd.map (·.en) := List.take_of_length_le (by rw [List.length_map]; omega)
        rw [en] at d1
        refine ⟨r, D, _, _, rfl, rfl, s3 _ _ upd_same, d1, ?_, fun x nx => ?_⟩
        · rw [List.length_append, List.length_map, List.length_map, List.length_map]
          exact Nat.le_of_lt (small1000 (by show 1 + _ + _ ≤ 1000; omega))
        · have s4 := same_upd (o := .lst ([.str "start"] ++ m.own.map V.str ++ (m.wd.map (·.en)).map V.str)) nx
          have sb := sa.trans s3
          refine q x _ (sb.trans s4) (sb.free nx) ?_
          rw [upd_same]
          unfold Md.pts
          rw [List.map_cons, List.map_append]
          rfl
/-! ### _law_wind -/
structure WdOk (own : List Str) (x : Wd) : Prop where
  bg : x.bg = "start" ∨ x.bg ∈ own
  lo : 1 ≤ x.lo
  hi : x.lo ≤ x.hi
  top : x.hi ≤ 1000
  la : ∀ i, x.la = some i → 0 ≤ i ∧ i ≤ 1000
def sp_wind : Sp := fun vs H Q _ => ∃ (f c o : Addr) (z : Str) (own : List Str) (far : Int), vs = [.ref f, .str z, .ref o, .int far] ∧ Flow H f c ∧ H o = some (.lst (own.map V.str)) ∧ own.length ≤ 14 ∧ 1 ≤ far ∧ far ≤ 500 ∧
  ∀ (t : Addr) (x : Wd) (H' : Hp), Sb f H H' → Flow H' f c → H t = none → H' t = some (.tup x.row) → x.en = z → WdOk own x → (x.lo ≤ far ∧ x.hi < 2 * far ∧ ∀ i, x.la = some i → i ≤ far) → Q (.ref t) H'
theorem cal__law_wind (T : Tp K mg) : Cal P w K mg base 4 "_law_wind" sp_wind := by
  obtain ⟨fd, F⟩ := f__law_wind T
  refine cal_of F (g__law_wind T) (b__law_wind F) sc__law_wind (fun vs H Q E h => ?_) (fun cdv A outer s H vs Q E hr h => ?_)
  · obtain ⟨f, c, o, z, own, far, rfl, _⟩ := h
    rfl
  · obtain ⟨f, c, o, z, own, far, rfl, FL, ho, hl, f0, f1, q⟩ := h
    refine ⟨_, (pss_cons (ps_set (i := 4) sc__law_wind.nd rfl (.inl rfl) (pe_op op_add pe_int (C8.pe_c (cal__law_draw T) hr (by decide) rfl (pa_cons (pv 0) (pa_cons (pv 3) pa_nil)))))
      (pss_cons (ps_set (i := 5) sc__law_wind.nd rfl (.inl rfl) (pe_op op_add (pv 4) (C8.pe_c (cal__law_draw T) hr (by decide) rfl (pa_cons (pv 0) (pa_cons (pv 3) pa_nil)))))
      (pss_cons (ps_set (i := 6) sc__law_wind.nd rfl (.inl rfl) (pe_ix ix_list (pe_lst (pa_cons pe_int (pa_cons pe_int (pa_cons pe_int (pa_cons (pe_op op_add pe_int (C8.pe_c (cal__law_draw T) hr (by decide) rfl (pa_cons (pv 0) (pa_cons (pv 3) pa_nil)))) (pa_cons pe_non pa_nil)))))) (C8.pe_c (cal__law_draw T) hr (by decide) rfl (pa_cons (pv 0) (pa_cons pe_int pa_nil))) (fun _ _ => rfl)))
      (pss_one (ps_ret (pe_tup (pa_cons (pv 1) (pa_cons (C8.pe_c (cal__law_pick T) hr (by decide) rfl (pa_cons (pv 0) (pa_cons (pe_op op_cat (pe_lst (pa_cons pe_str pa_nil)) (pv 2)) pa_nil))) (pa_cons (pv 4) (pa_cons (pv 5) (pa_cons (pv 6) pa_nil))))))))))), ?_⟩
    have nof := strs_flow FL ho
    obtain ⟨zs, hf⟩ := FL.lst
    obtain ⟨ys, hc⟩ := FL.cells
    refine ⟨_, rfl, _, rfl, f, c, far, rfl, FL, by omega, by omega, fun v1 H1 a1 b1 sb1 F1 => ⟨1, v1, rfl, rfl, ?_⟩⟩
    refine ⟨_, rfl, _, rfl, _, rfl, f, c, far, rfl, F1, by omega, by omega, fun v2 H2 a2 b2 sb2 F2 => ⟨_, _, rfl, rfl, ?_⟩⟩
    refine ⟨_, rfl, _, rfl, f, c, far, rfl, F2, by omega, by omega, fun v3 H3 a3 b3 sb3 F3 => ⟨1, v3, rfl, rfl, (by show 5 ≤ sizeLine; decide), fun l nl => ?_⟩⟩
    obtain ⟨zs3, hf3⟩ := F3.lst
    obtain ⟨ys3, hc3⟩ := F3.cells
    have sl := same_upd (o := .lst [.int 0, .int 0, .int 0, .int (1 + v3), .non]) nl
    have nlf : l ≠ f := (ne_of_none hf3 nl).symm
    refine ⟨_, rfl, f, c, 5, rfl, F3.same sl, by decide, by decide, fun v4 H4 a4 b4 sb4 F4 => ?_⟩
    have sb : Sb f H H4 := ((sb1.trans sb2).trans (sb3.trans (Sb.of sl))).trans sb4
    have hl4 := sb4 _ _ (upd_same (H := H3) (a := l) (o := .lst [.int 0, .int 0, .int 0, .int (1 + v3), .non])) nlf
    obtain ⟨la, ela, hla⟩ : ∃ la : Option Int, ([.int 0, .int 0, .int 0, .int (1 + v3), .non] : List V)[v4.toNat]? = some (oV la) ∧ ∀ i, la = some i → 0 ≤ i ∧ i ≤ far := by
      have hv : v4.toNat < 5 := by omega
      match v4.toNat, hv with
      | 0, _ => exact ⟨some 0, rfl, fun i e => by cases e; omega⟩
      | 1, _ => exact ⟨some 0, rfl, fun i e => by cases e; omega⟩
      | 2, _ => exact ⟨some 0, rfl, fun i e => by cases e; omega⟩
      | 3, _ => exact ⟨some (1 + v3), rfl, fun i e => by cases e; omega⟩
      | 4, _ => exact ⟨none, rfl, fun i e => by cases e⟩
    refine ⟨l, _, v4, oV la, rfl, rfl, .inl (.inl hl4), at_of (j := v4.toNat) (by omega) ela, ?_⟩
    -- the tuple
    have ho4 := sb _ _ ho nof
    refine ⟨_, rfl, _, rfl, (by show 1 ≤ sizeLine; decide), fun p np => ?_⟩
    have sp1 := same_upd (o := .lst [.str "start"]) np
    refine ⟨_, rfl, p, o, _, _, rfl, rfl, upd_same, sp1 _ _ ho4, ?_, fun r nr => ?_⟩
    · rw [List.length_map]
      exact Nat.le_of_lt (small1000 (by show 1 + _ ≤ 1000; omega))
    · have sp2 := same_upd (o := .lst ([.str "start"] ++ own.map V.str)) nr
      have F5 := (F4.same sp1).same sp2
      have er : (upd (upd H4 p (.lst [.str "start"])) r (.lst ([.str "start"] ++ own.map V.str))) r = some (.lst ((("start" : Str) :: own).map V.str)) := upd_same
      refine ⟨f, c, r, _, rfl, F5, er, strs_flow F5 er, by rw [List.length_map]; exact Nat.succ_pos _, by rw [List.length_map]; show own.length + 1 ≤ 1000; omega, fun v H6 hv sb6 F6 => ?_⟩
      obtain ⟨g, hg, rfl⟩ := List.mem_map.mp hv
      refine ⟨_, rfl, _, rfl, _, rfl, (by show 5 ≤ sizeLine; decide), fun t nt => ?_⟩
      have sbA : Sb f H H6 := (sb.trans (Sb.of (sp1.trans sp2))).trans sb6
      have st := same_upd (o := .tup (Wd.row ⟨z, g, 1 + v1, 1 + v1 + v2, la⟩)) nt
      have ntH : H t = none := by
        cases e : H t with
        | none => rfl
        | some y =>
          have ntf : t ≠ f := fun z => by
            obtain ⟨zs6, hf6⟩ := F6.lst
            rw [z, hf6] at nt
            cases nt
          rw [sbA _ _ e ntf] at nt
          cases nt
      exact q t ⟨z, g, 1 + v1, 1 + v1 + v2, la⟩ _ (sbA.trans (Sb.of st)) (F6.same st) ntH upd_same rfl ⟨by
        rcases List.mem_cons.mp hg with e | e
        · exact .inl e
        · exact .inr e, by show 1 ≤ 1 + v1; omega, by show 1 + v1 ≤ 1 + v1 + v2; omega, by show 1 + v1 + v2 ≤ 1000; omega, fun i e => by
          have := hla i e
          omega⟩ ⟨by show 1 + v1 ≤ far; omega, by show 1 + v1 + v2 < 2 * far; omega, fun i e => (hla i e).2⟩
/-! ### _law_bond -/
structure BdOk (pts : List Str) (x : Bd) : Prop where
  one : x.one ∈ pts
  oth : x.oth ∈ pts
  ne : ¬ x.one = x.oth
  b : BOk x.bot x.top
def sp_bond : Sp := fun vs H Q _ => ∃ (f c o : Addr) (pts : List Str) (far : Int), vs = [.ref f, .ref o, .int far] ∧ Flow H f c ∧ H o = some (.lst (pts.map V.str)) ∧ 2 ≤ pts.length ∧ pts.length ≤ 100 ∧ pts.Nodup ∧ 1 ≤ far ∧ far ≤ 250 ∧
  ∀ (t : Addr) (x : Bd) (H' : Hp), Sb f H H' → Flow H' f c → H t = none → H' t = some (.tup x.row) → BdOk pts x → Q (.ref t) H'
theorem bok_lo {a : Int} (h1 : -1000 ≤ a) (h2 : a ≤ 1000) : BOk (some a) none := by
  refine ⟨fun z => (nomatch z.1), fun x e => ?_, fun x e => (nomatch e), fun x y _ e => (nomatch e)⟩
  cases e
  exact ⟨h1, h2⟩
theorem bok_hi {a : Int} (h1 : -1000 ≤ a) (h2 : a ≤ 1000) : BOk none (some a) := by
  refine ⟨fun z => (nomatch z.2), fun x e => (nomatch e), fun x e => ?_, fun x y e _ => (nomatch e)⟩
  cases e
  exact ⟨h1, h2⟩
theorem bok_two {a b : Int} (h1 : -1000 ≤ a) (h2 : a ≤ 1000) (h3 : -1000 ≤ b) (h4 : b ≤ 1000) (h5 : a ≤ b) : BOk (some a) (some b) := by
  refine ⟨fun z => (nomatch z.1), fun x e => ?_, fun x e => ?_, fun x y e e2 => ?_⟩
  · cases e
    exact ⟨h1, h2⟩
  · cases e
    exact ⟨h3, h4⟩
  · cases e
    cases e2
    exact h5
theorem sb_free {f c t : Addr} {H H' : Hp} (sb : Sb f H H') (F : Flow H' f c) (nt : H' t = none) : H t = none := by
  cases e : H t with
  | none => rfl
  | some y =>
    have ntf : t ≠ f := fun z => by
      obtain ⟨zs, hf⟩ := F.lst
      rw [z, hf] at nt
      cases nt
    rw [sb _ _ e ntf] at nt
    cases nt
theorem cal__law_bond (T : Tp K mg) : Cal P w K mg base 4 "_law_bond" sp_bond := by
  obtain ⟨fd, F⟩ := f__law_bond T
  refine cal_of F (g__law_bond T) (b__law_bond F) sc__law_bond (fun vs H Q E h => ?_) (fun cdv A outer s H vs Q E hr h => ?_)
  · obtain ⟨f, c, o, pts, far, rfl, _⟩ := h
    rfl
  · obtain ⟨f, c, o, pts, far, rfl, FL, ho, p2, p3, nd, f0, f1, q⟩ := h
    refine ⟨_, (pss_cons (ps_set (i := 3) sc__law_bond.nd rfl (.inl rfl) (pe_callTy call_list_of (by rfl) (z_list T) bb_list (pa_cons (pv 1) pa_nil)))
      (pss_cons (ps_set (i := 4) sc__law_bond.nd rfl (.inl rfl) (pe_bm PySem.F.plainAttrs_list PySem.F.slot_list_pop PySem.F.type_list_pop mt_popAt (pv 3) (pa_cons (C8.pe_c (cal__law_draw T) hr (by decide) rfl (pa_cons (pv 0) (pa_cons (pe_callB call_len_seq (by rfl) (z_len T) bb_len (pa_cons (pv 3) pa_nil)) pa_nil))) pa_nil)))
      (pss_cons (ps_set (i := 5) sc__law_bond.nd rfl (.inl rfl) (C8.pe_c (cal__law_pick T) hr (by decide) rfl (pa_cons (pv 0) (pa_cons (pv 3) pa_nil))))
      (pss_cons (ps_set (i := 6) sc__law_bond.nd rfl (.inl rfl) (pe_op op_sub (C8.pe_c (cal__law_draw T) hr (by decide) rfl (pa_cons (pv 0) (pa_cons (pe_op op_add (pe_op op_mul pe_int (pv 2)) pe_int) pa_nil))) (pv 2)))
      (pss_cons (ps_set (i := 7) sc__law_bond.nd rfl (.inl rfl) (pe_op op_add (pv 6) (C8.pe_c (cal__law_draw T) hr (by decide) rfl (pa_cons (pv 0) (pa_cons (pe_op op_add (pe_op op_mul pe_int (pv 2)) pe_int) pa_nil)))))
      (pss_cons (ps_set (i := 8) sc__law_bond.nd rfl (.inl rfl) (C8.pe_c (cal__law_draw T) hr (by decide) rfl (pa_cons (pv 0) (pa_cons pe_int pa_nil))))
      (pss_cons (ps_if (pt_cmpR op_eq (pv 8) pe_int (nomark _)) (pss_one (ps_ret (pe_tup (pa_cons (pv 4) (pa_cons (pv 5) (pa_cons (pv 6) (pa_cons pe_non pa_nil))))))) pss_nil)
      (pss_cons (ps_if (pt_cmpR op_eq (pv 8) pe_int (nomark _)) (pss_one (ps_ret (pe_tup (pa_cons (pv 4) (pa_cons (pv 5) (pa_cons pe_non (pa_cons (pv 7) pa_nil))))))) pss_nil)
      (pss_one (ps_ret (pe_tup (pa_cons (pv 4) (pa_cons (pv 5) (pa_cons (pv 6) (pa_cons (pv 7) pa_nil))))))))))))))), ?_⟩
    refine ⟨_, rfl, o, _, rfl, .inl (.inl (.inl ho)), fun l nl => ?_⟩
    have s1 := same_upd (o := .lst (pts.map V.str)) nl
    have F1 := FL.same s1
    obtain ⟨zs, hf⟩ := FL.lst
    obtain ⟨ys, hc⟩ := FL.cells
    have nlf : l ≠ f := (ne_of_none hf nl).symm
    have ncl : c ≠ l := ne_of_none hc nl
    refine ⟨_, rfl, .inl ⟨rfl, _, .inl (.inl upd_same)⟩, _, rfl, _, rfl, l, _, rfl, .inl (.inl (.inl upd_same)), f, c, _, rfl, F1, by rw [List.length_map]; omega, by rw [List.length_map]; omega, fun v H2 v0 v1 sb2 F2 => ?_⟩
    rw [List.length_map] at v1
    have hv : v.toNat < pts.length := by omega
    have hl2 := sb2 _ _ (upd_same (H := H) (a := l) (o := .lst (pts.map V.str))) nlf
    refine ⟨l, _, v, v.toNat, .str pts[v.toNat], rfl, rfl, hl2, by omega, by omega, ?_, ?_, ?_⟩
    · unfold seqIndex?
      rw [if_neg (show ¬ v < 0 by omega), if_pos (by simp only [Bool.and_eq_true, decide_eq_true_eq, List.length_map]; omega)]
    · rw [List.getElem?_map, List.getElem?_eq_getElem hv]
      rfl
    · have F3 : Flow (upd H2 l (.lst ((pts.map V.str).eraseIdx v.toNat))) f c := F2.upd nlf.symm ncl
      have hl3 : (upd H2 l (.lst ((pts.map V.str).eraseIdx v.toNat))) l = some (.lst ((pts.eraseIdx v.toNat).map V.str)) := by rw [upd_same, erase_map]
      have hlen : ((pts.eraseIdx v.toNat).map V.str).length = pts.length - 1 := by rw [List.length_map, List.length_eraseIdx_of_lt hv]
      have sb3 : Sb f H (upd H2 l (.lst ((pts.map V.str).eraseIdx v.toNat))) := fun b x e nb => by
        rw [upd_ne (ne_of_none e nl)]
        exact sb2 _ _ (s1 _ _ e) nb
      refine ⟨_, rfl, _, rfl, f, c, l, _, rfl, F3, hl3, nlf, by omega, by omega, fun y H4 hy sb4 F4 => ?_⟩
      obtain ⟨g, hg, rfl⟩ := List.mem_map.mp hy
      have nd2 : (pts[v.toNat] :: pts.eraseIdx v.toNat).Nodup := (pull_perm pts v.toNat hv).nodup_iff.mpr nd
      have hgp : g ∈ pts := (pull_perm pts v.toNat hv).mem_iff.mp (List.mem_cons_of_mem _ hg)
      have hne : ¬ pts[v.toNat] = g := fun e => (List.nodup_cons.mp nd2).1 (e ▸ hg)
      have sbA := sb3.trans sb4
      refine ⟨_, rfl, _, rfl, 3, far, rfl, rfl, .inl ⟨by decide, by decide⟩, _, 1, rfl, rfl, f, c, _, rfl, F4, by omega, by omega, fun v5 H5 a5 b5 sb5 F5 => ⟨_, rfl, _, _, rfl, rfl, ?_⟩⟩
      refine ⟨_, rfl, _, rfl, _, rfl, 2, far, rfl, rfl, .inl ⟨by decide, by decide⟩, _, 1, rfl, rfl, f, c, _, rfl, F5, by omega, by omega, fun v6 H6 a6 b6 sb6 F6 => ⟨_, _, rfl, rfl, ?_⟩⟩
      refine ⟨_, rfl, f, c, 5, rfl, F6, by decide, by decide, fun v7 H7 a7 b7 sb7 F7 => ?_⟩
      have sbB := ((sbA.trans sb5).trans sb6).trans sb7
      have hp : pts[v.toNat] ∈ pts := List.getElem_mem hv
      have done : ∀ (t : Addr) (bo to : Option Int), BOk bo to → H7 t = none → Q (.ref t) (upd H7 t (.tup [.str pts[v.toNat], .str g, oV bo, oV to])) := fun t bo to hb nt =>
        q t ⟨pts[v.toNat], g, bo, to⟩ _ (sbB.trans (Sb.of (same_upd nt))) (F7.same (same_upd nt)) (sb_free sbB F7 nt) upd_same ⟨hp, hgp, hne, hb⟩
      refine ⟨_, rfl, rfl, _, rfl, ite2 (fun e => ?_) (fun e => ?_)⟩
      · refine ⟨_, rfl, _, rfl, _, rfl, (by show 4 ≤ sizeLine; decide), fun t nt => done t (some (v5 - far)) none (bok_lo (by omega) (by omega)) nt⟩
      · refine ⟨_, rfl, rfl, _, rfl, ite2 (fun e => ?_) (fun e => ?_)⟩
        · refine ⟨_, rfl, _, rfl, _, rfl, (by show 4 ≤ sizeLine; decide), fun t nt => done t none (some (v5 - far + v6)) (bok_hi (by omega) (by omega)) nt⟩
        · refine ⟨_, rfl, _, rfl, _, rfl, _, rfl, (by show 4 ≤ sizeLine; decide), fun t nt => done t (some (v5 - far)) (some (v5 - far + v6)) (bok_two (by omega) (by omega) (by omega) (by omega) (by omega)) nt⟩
end
end Tw

set_option maxHeartbeats 4000000
namespace Tw
open PySem PySem.Spec PyProof.Rows L2
theorem cut_pre (ns : List Str) {a : Int} (h : 0 ≤ a) : cutV (ns.map V.str) none (some a) = (ns.take a.toNat).map V.str := by
  obtain ⟨k, rfl⟩ : ∃ k : Nat, a = k := ⟨a.toNat, by omega⟩
  unfold cutV
  rw [HT.sIx_none, HT.sIx_nat, List.drop_zero, Nat.sub_zero, Int.toNat_natCast, List.map_take]
  by_cases hk : k ≤ (ns.map V.str).length
  · rw [Nat.min_eq_left hk]
  · have past := Nat.le_of_lt (Nat.not_le.mp hk)
    rw [Nat.min_eq_right past, List.take_length]
    exact (List.take_of_length_le past).symm
theorem cut_suf (ns : List Str) {a : Int} (h : 0 ≤ a) : cutV (ns.map V.str) (some a) none = (ns.drop a.toNat).map V.str := by
  obtain ⟨k, rfl⟩ : ∃ k : Nat, a = k := ⟨a.toNat, by omega⟩
  unfold cutV
  rw [HT.sIx_none, HT.sIx_nat, Int.toNat_natCast, List.map_drop]
  by_cases hk : k ≤ (ns.map V.str).length
  · rw [Nat.min_eq_left hk]
    exact List.take_of_length_le (by rw [List.length_drop]; exact Nat.le_refl _)
  · have past := Nat.le_of_lt (Nat.not_le.mp hk)
    rw [Nat.min_eq_right past, List.drop_length, List.take_nil]
    exact (List.drop_of_length_le past).symm
/-- what a drawn picture keeps -/
structure MdOk (m : Md) : Prop where
  last : 1 ≤ m.last ∧ m.last ≤ 1000
  nd : (m.own ++ m.wd.map (·.en)).Nodup
  pool : ∀ z ∈ m.own ++ m.wd.map (·.en), z ∈ pool
  wd : ∀ x ∈ m.wd, WdOk m.own x
  bd : ∀ x ∈ m.bd, BdOk m.pts x
  len : m.own.length ≤ 10 ∧ m.wd.length ≤ 4 ∧ m.bd.length ≤ 40
def Near (far : Int) (x : Wd) : Prop := x.lo ≤ far ∧ x.hi < 2 * far ∧ ∀ i, x.la = some i → i ≤ far
theorem pts_nd {own : List Str} {ends : List Str} (nd : (own ++ ends).Nodup) (hp : ∀ z ∈ own ++ ends, z ∈ pool) : (("start" : Str) :: (own ++ ends)).Nodup :=
  List.nodup_cons.mpr ⟨fun h => (pool_nm (hp _ h)).2 rfl, nd⟩
section
variable {P : Program} {w : World} {K : PySem.W.Frag} {mg : Str → Option Value} {base : Heap}
def sp_drawn : Sp := fun vs H Q _ => ∃ (f c : Addr) (a b e far last : Int), vs = [.ref f, .int a, .int b, .int e, .int far, .int last] ∧ Flow H f c ∧ 1 ≤ a ∧ a ≤ 10 ∧ 0 ≤ b ∧ b ≤ 4 ∧ 0 ≤ e ∧ e ≤ 40 ∧ 1 ≤ far ∧ far ≤ 500 ∧ (e = 0 ∨ far ≤ 250) ∧ 1 ≤ last ∧ last ≤ 1000 ∧
  ∀ (d : Addr) (m : Md) (H' : Hp), Sb f H H' → Flow H' f c → H d = none → MdAt H' d m → MdOk m → m.last = last → m.own.length = a.toNat → m.wd.length = b.toNat → m.bd.length = e.toNat → (∀ x ∈ m.wd, Near far x) → Q (.ref d) H'
def sp_drawnX : Sp := fun vs H Q _ => ∃ (f c : Addr) (a b e far last : Int), vs = [.ref f, .int a, .int b, .int e, .int far, .int last] ∧ Flow H f c ∧ 1 ≤ a ∧ a ≤ 10 ∧ 0 ≤ b ∧ b ≤ 4 ∧ 0 ≤ e ∧ e ≤ 40 ∧ 1 ≤ far ∧ far ≤ 500 ∧ (e = 0 ∨ far ≤ 250) ∧ 1 ≤ last ∧ last ≤ 1000 ∧
  ∀ (d o u b' : Addr) (m : Md) (H' : Hp), Sb f H H' → Flow H' f c → H d = none → H b' = none → MdX H' d o u b' m → MdOk m → m.last = last → m.own.length = a.toNat → m.wd.length = b.toNat → m.bd.length = e.toNat → (∀ x ∈ m.wd, Near far x) → Q (.ref d) H'
theorem cal_drawnX (T : Tp K mg) : Cal P w K mg base 5 "_law_drawn" sp_drawnX := by
  obtain ⟨fd, F⟩ := f__law_drawn T
  refine cal_of F (g__law_drawn T) (b__law_drawn F) sc__law_drawn (fun vs H Q E h => ?_) (fun cdv A outer s H vs Q E hr h => ?_)
  · obtain ⟨f, c, a, b, e, far, last, rfl, _⟩ := h
    rfl
  · obtain ⟨f, c, a, b, e, far, last, rfl, FL, a1, a2, b1, b2, e1, e2, far1, far2, far3, last1, last2, q⟩ := h
    have hu := hu_of hr
    obtain ⟨zs, hf⟩ := FL.lst
    obtain ⟨ys, hc⟩ := FL.cells
    refine ⟨_, (pss_cons (ps_set (i := 6) sc__law_drawn.nd rfl (.inl rfl) (C8.pe_c (cal__law_model T) hr (by decide) rfl (pa_cons (pv 5) pa_nil)))
      (pss_cons (ps_set (i := 7) sc__law_drawn.nd rfl (.inl rfl) (C8.pe_c (cal__law_names T) hr (by decide) rfl (pa_cons (pv 0) (pa_cons (pe_op op_add (pv 1) (pv 2)) pa_nil))))
      (pss_cons (ps_dput hu (pv 6) pe_str (pe_slice sl_list (pv 7) po_none (po_some (pv 1))) rfl)
      (pss_cons (ps_for PassesOwn.never rfl (pi_list (pe_slice sl_list (pv 7) (po_some (pv 1)) po_none)) (pg_name (i := 8) sc__law_drawn.nd rfl (.inl rfl))
        (pss_one (ps_expr (pe_bm PySem.F.plainAttrs_list PySem.F.slot_list_append PySem.F.type_list_append mt_append (pe_dget hu (pv 6) pe_str (fun _ _ => rfl)) (pa_cons (C8.pe_c (cal__law_wind T) hr (by decide) rfl (pa_cons (pv 0) (pa_cons (pv 8) (pa_cons (pe_dget hu (pv 6) pe_str (fun _ _ => rfl)) (pa_cons (pv 4) pa_nil))))) pa_nil)))))
      (pss_cons (ps_for PassesOwn.never rfl (pi_range1 rfl (z_range T) (pa_cons (pv 3) pa_nil)) (pg_name (i := 9) sc__law_drawn.nd rfl (.inl rfl))
        (pss_one (ps_expr (pe_bm PySem.F.plainAttrs_list PySem.F.slot_list_append PySem.F.type_list_append mt_append (pe_dget hu (pv 6) pe_str (fun _ _ => rfl)) (pa_cons (C8.pe_c (cal__law_bond T) hr (by decide) rfl (pa_cons (pv 0) (pa_cons (C8.pe_c (cal__law_points T) hr (by decide) rfl (pa_cons (pv 6) pa_nil)) (pa_cons (pv 4) pa_nil)))) pa_nil)))))
      (pss_one (ps_ret (pv 6)))))))), ?_⟩
    refine ⟨_, rfl, last, rfl, fun d o0 u b' H1 s1 nd no0 nu nb' M1 => ?_⟩
    have F1 := FL.same s1
    refine ⟨_, rfl, _, rfl, _, rfl, _, _, rfl, rfl, f, c, a + b, rfl, F1, by omega, by omega, fun g ns H2 sb2 F2 ng hg len nns hp => ?_⟩
    have sbH2 : Sb f H H2 := (Sb.of s1).trans sb2
    have M2 := M1.sb F1 sb2
    -- m['own'] = names[:own]
    refine ⟨_, rfl, _, rfl, a, rfl, g, _, rfl, .inl (.inl hg), fun o no => ?_⟩
    rw [cut_pre ns (by omega)]
    have s3 := same_upd (o := .lst ((ns.take a.toNat).map V.str)) no
    have M3 := M2.same s3
    have F3 := F2.same s3
    have noH : H o = none := sb_free sbH2 F2 no
    refine ⟨_, rfl, d, _, rfl, DPut.k (k := kOwn) M3.dk (by show 4 < sizeLine; decide), ?_⟩
    rw [mk_putOwn]
    have hdo : ∀ x y, (upd H2 o (.lst ((ns.take a.toNat).map V.str))) x = some y → x ≠ d → (upd (upd H2 o (.lst ((ns.take a.toNat).map V.str))) d (.dK (mk last o u b'))) x = some y := fun x y ex nx => by
      rw [upd_ne nx]
      exact ex
    obtain ⟨ws3, hw3, _⟩ := M2.wd
    obtain ⟨bs3, hb3, _⟩ := M2.bd
    have nod : o ≠ d := (ne_of_none M2.dk no).symm
    have nou : o ≠ u := (ne_of_none hw3 no).symm
    have nob : o ≠ b' := (ne_of_none hb3 no).symm
    have nfd : f ≠ d := ne_of_none hf nd
    have ncd : c ≠ d := ne_of_none hc nd
    have nfu : f ≠ u := ne_of_none hf nu
    have ncu : c ≠ u := ne_of_none hc nu
    have nfb : f ≠ b' := ne_of_none hf nb'
    have ncb : c ≠ b' := ne_of_none hc nb'
    have M4 : MdX (upd (upd H2 o (.lst ((ns.take a.toNat).map V.str))) d (.dK (mk last o u b'))) d o u b' ⟨last, ns.take a.toNat, [], []⟩ := by
      have dd := M3.dk
      refine ⟨upd_same, hdo _ _ upd_same nod, ⟨ws3, hdo _ _ (s3 _ _ hw3) (ne_of (s3 _ _ hw3) dd (by intro z; cases z)), ?_⟩, ⟨bs3, hdo _ _ (s3 _ _ hb3) (ne_of (s3 _ _ hb3) dd (by intro z; cases z)), ?_⟩, nou, nob, M3.nwb⟩
      · obtain ⟨ws, h1, h2⟩ := M2.wd
        rw [hw3] at h1
        cases h1
        have e0 := h2.len
        have e1 : ws3 = [] := List.length_eq_zero_iff.mp e0
        rw [e1]
        exact .nil
      · obtain ⟨ws, h1, h2⟩ := M2.bd
        rw [hb3] at h1
        cases h1
        have e0 := h2.len
        have e1 : bs3 = [] := List.length_eq_zero_iff.mp e0
        rw [e1]
        exact .nil
    have F4 : Flow (upd (upd H2 o (.lst ((ns.take a.toNat).map V.str))) d (.dK (mk last o u b'))) f c := F3.upd nfd ncd
    have sbH4 : Sb f H (upd (upd H2 o (.lst ((ns.take a.toNat).map V.str))) d (.dK (mk last o u b'))) := fun x y ex nx => hdo _ _ (s3 _ _ (sbH2 _ _ ex nx)) (ne_of_none ex nd)
    have hg4 : (upd (upd H2 o (.lst ((ns.take a.toNat).map V.str))) d (.dK (mk last o u b'))) g = some (.lst (ns.map V.str)) := hdo _ _ (s3 _ _ hg) (ne_of (s3 _ _ hg) M3.dk (by intro z; cases z))
    -- for end in names[own:]
    refine ⟨_, rfl, _, rfl, a, rfl, g, _, rfl, .inl (.inl hg4), fun r nr => ?_⟩
    rw [cut_suf ns (by omega)]
    have s5 := same_upd (o := .lst ((ns.drop a.toNat).map V.str)) nr
    have M5 := M4.same s5
    have F5 := F4.same s5
    obtain ⟨ws4, hw4, _⟩ := M4.wd
    have nru : r ≠ u := (ne_of_none hw4 nr).symm
    have elen : (ns.take a.toNat).length = a.toNat := by
      rw [List.length_take]
      omega
    have blen : (ns.drop a.toNat).length = b.toNat := by
      rw [List.length_drop]
      omega
    have sbH5 := sbH4.trans (Sb.of s5)
    have spl : ns.take a.toNat ++ ns.drop a.toNat = ns := List.take_append_drop _ _
    refine ⟨r, rfl, ⟨_, .inl (.inl upd_same)⟩, for_list (K := K) (a := r) (xs := (ns.drop a.toNat).map V.str) (fun i σ H6 => ∃ (y : Option V) (ds : List Wd), σ = [some (.ref f), some (.int a), some (.int b), some (.int e), some (.int far), some (.int last), some (.ref d), some (.ref g), y, none] ∧
        Sb f H H6 ∧ Flow H6 f c ∧ MdX H6 d o u b' ⟨last, ns.take a.toNat, ds, []⟩ ∧ H6 r = some (.lst ((ns.drop a.toNat).map V.str)) ∧ ds.map (·.en) = (ns.drop a.toNat).take i ∧ ∀ x ∈ ds, WdOk (ns.take a.toNat) x ∧ Near far x)
      ⟨none, [], rfl, sbH5, F5, M5, upd_same, rfl, fun x hx => nomatch hx⟩ (fun i σ H6 _ ⟨_, _, _, _, _, _, h, _⟩ => .inl (.inl h)) ?_ ?_⟩
    · rintro i x σ H6 hx ⟨y, ds, rfl, sb6, F6, M6, hr6, eds, hds⟩
      rw [List.getElem?_map] at hx
      cases ez : (ns.drop a.toNat)[i]? with
      | none =>
        rw [ez] at hx
        cases hx
      | some z =>
        rw [ez] at hx
        cases hx
        obtain ⟨ws6, hw6, rw6⟩ := M6.wd
        refine ⟨_, rfl, d, _, rfl, mk_wd M6.dk, .inl ⟨rfl, _, .inl (.inl hw6)⟩, _, rfl, _, rfl, _, rfl, d, _, rfl, mk_own M6.dk, _, rfl, f, c, o, z, _, far, rfl, F6, M6.own, by show (ns.take a.toNat).length ≤ 14; omega, far1, far2, fun t x H7 sb7 F7 nt ht ex ok near => ?_⟩
        have M7 := M6.sb F6 sb7
        obtain ⟨ws7, hw7, rw7⟩ := M7.wd
        refine ⟨u, ws7, _, rfl, rfl, hw7, ?_, ?_⟩
        · rw [rw7.len, List.length_map]
          have hl : ds.length = i := by
            have := congrArg List.length eds
            rw [List.length_map, List.length_take] at this
            have hi : i < (ns.drop a.toNat).length := (List.getElem?_eq_some_iff.mp ez).1
            omega
          have hi : i < (ns.drop a.toNat).length := (List.getElem?_eq_some_iff.mp ez).1
          show ds.length < sizeLine
          exact small1000 (by omega)
        · refine ⟨_, ds ++ [x], rfl, ?_, F7.upd nfu ncu, M7.addW hw7 rw7 ht, ?_, ?_, ?_⟩
          · exact fun p v ep np => by
              rw [upd_ne (ne_of_none ep nu)]
              exact sb7 _ _ (sb6 _ _ ep np) np
          · rw [upd_ne nru]
            exact sb7 _ _ hr6 (strs_flow F6 hr6)
          · rw [List.map_append, eds, List.take_add_one, ez]
            show _ ++ [x.en] = _ ++ [z]
            rw [ex]
          · intro v hv
            rcases List.mem_append.mp hv with h | h
            · exact hds v h
            · have e : v = x := List.mem_singleton.mp h
              rw [e]
              exact ⟨ok, near⟩
    · rintro σ H6 ⟨y, ds, rfl, sb6, F6, M6, hr6, eds, hds⟩
      have eds : ds.map (·.en) = ns.drop a.toNat := by
        rw [eds]
        exact List.take_of_length_le (by rw [List.length_map]; exact Nat.le_refl _)
      have dlen : ds.length = b.toNat := by
        have := congrArg List.length eds
        rw [List.length_map] at this
        omega
      have pnd : (("start" : Str) :: (ns.take a.toNat ++ ds.map (·.en))).Nodup := pts_nd (by rw [eds, spl]; exact nns) (by rw [eds, spl]; exact hp)
      -- the ties
      refine ⟨_, rfl, e, rfl, by omega, by omega, ?_⟩
      refine for_range (lo := 0) (n := e.toNat) (fun i σ H7 => ∃ (y9 : Option V) (es : List Bd), σ = [some (.ref f), some (.int a), some (.int b), some (.int e), some (.int far), some (.int last), some (.ref d), some (.ref g), y, y9] ∧
        Sb f H H7 ∧ Flow H7 f c ∧ MdX H7 d o u b' ⟨last, ns.take a.toNat, ds, es⟩ ∧ es.length = i ∧ ∀ x ∈ es, BdOk (("start" : Str) :: (ns.take a.toNat ++ ds.map (·.en))) x) ⟨none, [], rfl, sb6, F6, M6, rfl, fun x hx => nomatch hx⟩ ?_ ?_
      · rintro i σ H7 hi ⟨y9, es, rfl, sb7, F7, M7, el, hes⟩
        obtain ⟨bs7, hb7, rb7⟩ := M7.bd
        refine ⟨_, rfl, d, _, rfl, mk_bd M7.dk, .inl ⟨rfl, _, .inl (.inl hb7)⟩, _, rfl, _, rfl, d, _, rfl, M7.at, by show (ns.take a.toNat).length ≤ 14; omega, by show ds.length ≤ 14; omega, fun pl H8 s8 npl hpl => ?_⟩
        have F8 := F7.same s8
        refine ⟨_, rfl, f, c, pl, _, far, rfl, F8, hpl, ?_, ?_, pnd, far1, by omega, fun t x H9 sb9 F9 nt ht ok => ?_⟩
        · show 2 ≤ (("start" : Str) :: (ns.take a.toNat ++ ds.map (·.en))).length
          rw [List.length_cons, List.length_append, elen]
          omega
        · show (("start" : Str) :: (ns.take a.toNat ++ ds.map (·.en))).length ≤ 100
          rw [List.length_cons, List.length_append, elen, List.length_map]
          omega
        · have M9 := (M7.same s8).sb F8 sb9
          obtain ⟨bs9, hb9, rb9⟩ := M9.bd
          refine ⟨b', bs9, _, rfl, rfl, hb9, ?_, _, es ++ [x], rfl, ?_, F9.upd nfb ncb, M9.addB hb9 rb9 ht, by rw [List.length_append, el]; rfl, ?_⟩
          · rw [rb9.len, List.length_map]
            show es.length < sizeLine
            exact small1000 (by omega)
          · exact fun p v ep np => by
              rw [upd_ne (ne_of_none ep nb')]
              exact sb9 _ _ (s8 _ _ (sb7 _ _ ep np)) np
          · intro v hv
            rcases List.mem_append.mp hv with h | h
            · exact hes v h
            · have e : v = x := List.mem_singleton.mp h
              rw [e]
              exact ok
      · rintro σ H7 ⟨y9, es, rfl, sb7, F7, M7, el, hes⟩
        refine ⟨_, rfl, q d o u b' ⟨last, ns.take a.toNat, ds, es⟩ H7 sb7 F7 nd nb' M7 ⟨⟨last1, last2⟩, ?_, ?_, fun x hx => (hds x hx).1, hes, ?_⟩ rfl elen dlen el fun x hx => (hds x hx).2⟩
        · show (ns.take a.toNat ++ ds.map (·.en)).Nodup
          rw [eds, spl]
          exact nns
        · show ∀ z ∈ ns.take a.toNat ++ ds.map (·.en), z ∈ pool
          rw [eds, spl]
          exact hp
        · show (ns.take a.toNat).length ≤ 10 ∧ ds.length ≤ 4 ∧ es.length ≤ 40
          omega
theorem cal_imp {k : Nat} {x : Str} {sp sp' : Sp} {dvs : List V} (c : C8.Cal P w K mg base k x sp dvs) (h : ∀ vs H Q E, sp' vs H Q E → sp vs H Q E) : C8.Cal P w K mg base k x sp' dvs :=
  let ⟨f, fd, ps, ds, F, a, b, c, d⟩ := c.ex
  ⟨f, fd, ps, ds, F.imp h, a, b, c, d⟩
theorem cal__law_drawn (T : Tp K mg) : Cal P w K mg base 5 "_law_drawn" sp_drawn := cal_imp (cal_drawnX T) fun vs H Q E h => by
  obtain ⟨f, c, a, b, e, far, last, e0, FL, h1, h2, h3, h4, h5, h6, h7, h8, h9, h10, h11, q⟩ := h
  exact ⟨f, c, a, b, e, far, last, e0, FL, h1, h2, h3, h4, h5, h6, h7, h8, h9, h10, h11, fun d o u b' m H' sb F' nd _ M => q d m H' sb F' nd M.at⟩
end
end Tw

set_option maxHeartbeats 4000000
namespace Tw
open PySem PySem.Spec PyProof.Rows L2
theorem nd_take {α : Type} {l : List α} {i : Nat} {z : α} (nd : l.Nodup) (e : l[i]? = some z) : ¬ z ∈ l.take i := by
  have h : (l.take (i + 1)).Nodup := List.Sublist.nodup (List.take_sublist _ _) nd
  rw [List.take_add_one, e] at h
  intro m
  exact (List.nodup_append.mp h).2.2 z m z (List.mem_singleton.mpr rfl) rfl
theorem row_of {xs : List V} {H : Hp} {α : Type} {f : α → List V} {l : List α} {i : Nat} {x : V} (R : Rows H xs (l.map f)) (hx : xs[i]? = some x) : ∃ t y, x = .ref t ∧ l[i]? = some y ∧ H t = some (.tup (f y)) := by
  obtain ⟨t, r, e, hr, ht⟩ := R.at hx
  rw [List.getElem?_map] at hr
  cases ey : l[i]? with
  | none =>
    rw [ey] at hr
    cases hr
  | some y =>
    rw [ey] at hr
    cases hr
    exact ⟨t, y, e, rfl, ht⟩
section
variable {P : Program} {w : World} {K : PySem.W.Frag} {mg : Str → Option Value} {base : Heap}
def sp_web (K : PySem.W.Frag) : Sp := fun vs H Q _ => ∃ (d : Addr) (m : Md), vs = [.ref d] ∧ MdAt H d m ∧ MdOk m ∧ ∀ (p : Addr) (H' : Hp), Same H H' → H p = none → WebAt (CW K) H' p m → Q (.ref p) H'
theorem cal__law_web (T : Tp K mg) : Cal P w K mg base 7 "_law_web" (sp_web K) := by
  obtain ⟨fd, F⟩ := f__law_web T
  refine cal_of F (g__law_web T) (b__law_web F) sc__law_web (fun vs H Q E h => ?_) (fun cdv A outer s H vs Q E hr h => ?_)
  · obtain ⟨d, m, rfl, _⟩ := h
    rfl
  · obtain ⟨d, m, rfl, M, ok, q⟩ := h
    have hu := hu_of hr
    obtain ⟨o, u, b, ws, bs, h1, h2, h3, h4, h5, h6, h7⟩ := M.ex
    have hlen := ok.len
    have ndo : m.own.Nodup := (List.nodup_append.mp ok.nd).1
    have nde : (m.wd.map (·.en)).Nodup := (List.nodup_append.mp ok.nd).2.1
    refine ⟨_, (pss_cons (ps_set (i := 1) sc__law_web.nd rfl (.inl rfl) (C8.pe_mk (mak_Web T) hr (by decide) rfl (pa_cons (pe_dget hu (pv 0) pe_str (fun _ _ => rfl)) pa_nil)))
      (pss_cons (ps_for PassesOwn.never rfl (pi_list (pe_dget hu (pv 0) pe_str (fun _ _ => rfl))) (pg_name (i := 2) sc__law_web.nd rfl (.inl rfl))
        (pss_one (ps_set (i := 1) sc__law_web.nd rfl (.inl rfl) (C8.pe_mt (met_Web_with_moment T) hr (by decide) (pv 1) (pa_cons (pv 2) pa_nil)))))
      (pss_cons (ps_for PassesOwn.never rfl (pi_list (pe_dget hu (pv 0) pe_str (fun _ _ => rfl))) (pg_tup rfl (pgs_cons (pg_name (i := 3) sc__law_web.nd rfl (.inl rfl)) (pgs_cons (pg_name (i := 4) sc__law_web.nd rfl (.inl rfl)) (pgs_cons (pg_name (i := 5) sc__law_web.nd rfl (.inl rfl)) (pgs_cons (pg_name (i := 6) sc__law_web.nd rfl (.inl rfl)) (pgs_cons (pg_name (i := 7) sc__law_web.nd rfl (.inl rfl)) pgs_nil))))))
        (pss_one (ps_set (i := 1) sc__law_web.nd rfl (.inl rfl) (pe_mg0 (met_Web_with_span T) hr (by decide) (pv 1) (pa_cons (pv 3) (pa_cons (pv 4) (pa_cons (pv 5) (pa_cons (pv 6) pa_nil)))) (pk_cons (pv 7) pk_nil)))))
      (pss_cons (ps_for PassesOwn.never rfl (pi_list (pe_dget hu (pv 0) pe_str (fun _ _ => rfl))) (pg_tup rfl (pgs_cons (pg_name (i := 8) sc__law_web.nd rfl (.inl rfl)) (pgs_cons (pg_name (i := 9) sc__law_web.nd rfl (.inl rfl)) (pgs_cons (pg_name (i := 10) sc__law_web.nd rfl (.inl rfl)) (pgs_cons (pg_name (i := 11) sc__law_web.nd rfl (.inl rfl)) pgs_nil)))))
        (pss_one (ps_set (i := 1) sc__law_web.nd rfl (.inl rfl) (pe_mg0 (met_Web_with_tie T) hr (by decide) (pv 1) (pa_cons (pv 8) (pa_cons (pv 9) pa_nil)) (pk_cons (pv 10) (pk_cons (pv 11) pk_nil))))))
      (pss_one (ps_ret (pv 1))))))), ?_⟩
    refine ⟨_, rfl, d, _, rfl, mk_by h1, fun x dx nx ndx ne => ⟨x, dx, m.last, rfl, upd_same, ok.last.1, ok.last.2, fun a0 b0 c0 H1 kp hp ha0 hb0 hc0 => ⟨rfl, ?_⟩⟩⟩
    have s1 : Same H H1 := Same.made nx ndx kp
    have W1 : WebAt (CW K) H1 x ⟨m.last, [], [], []⟩ := ⟨⟨dx, a0, b0, c0, [], [], hp, ha0, hb0, .nil, hc0, .nil⟩, ⟨by show 0 ≤ 10; decide, by show 0 ≤ 4; decide, by show 0 ≤ 40; decide⟩, ok.last⟩
    -- the moments
    refine ⟨_, rfl, d, _, rfl, mk_own (s1 _ _ h1), o, rfl, ⟨_, .inl (.inl (s1 _ _ h2))⟩, for_list (K := K) (a := o) (xs := m.own.map V.str) (fun i σ H2 => ∃ (p : Addr) (y : Option V), σ = [some (.ref d), some (.ref p), y, none, none, none, none, none, none, none, none, none] ∧
      Same H H2 ∧ H p = none ∧ WebAt (CW K) H2 p ⟨m.last, m.own.take i, [], []⟩) ⟨x, none, rfl, s1, nx, W1⟩ (fun i σ H2 _ ⟨_, _, _, s2, _⟩ => .inl (.inl (s2 _ _ h2))) ?_ ?_⟩
    · rintro i v σ H2 hv ⟨p, y, rfl, s2, np, W2⟩
      rw [List.getElem?_map] at hv
      cases ez : m.own[i]? with
      | none =>
        rw [ez] at hv
        cases hv
      | some z =>
        rw [ez] at hv
        cases hv
        have hi : i < m.own.length := (List.getElem?_eq_some_iff.mp ez).1
        have hz := pool_nm (ok.pool z (List.mem_append.mpr (.inl (List.mem_of_getElem? ez))))
        obtain ⟨dx2, _, _, _, _, _, g1, _⟩ := W2.ex
        refine ⟨_, rfl, p, dx2, _, rfl, g1, wf_no (by decide +kernel), _, rfl, p, _, z, rfl, W2, hz.1, ?_, ?_, fun r H3 s3 nr W3 => ?_⟩
        · intro hm
          rcases List.mem_cons.mp hm with e | e
          · exact hz.2 e
          · rcases List.mem_append.mp e with e | e
            · exact nd_take ndo ez e
            · cases e
        · show (m.own.take i).length < 10
          rw [List.length_take]
          omega
        · refine ⟨r, _, rfl, s2.trans s3, s2.free nr, ?_⟩
          rw [List.take_add_one, ez]
          exact W3
    · rintro σ H2 ⟨p, y, rfl, s2, np, W2⟩
      have e0 : m.own.take (m.own.map V.str).length = m.own := List.take_of_length_le (by rw [List.length_map]; exact Nat.le_refl _)
      rw [e0] at W2
      -- the spans
      refine ⟨_, rfl, d, _, rfl, mk_wd (s2 _ _ h1), u, rfl, ⟨_, .inl (.inl (s2 _ _ h3))⟩, for_list (K := K) (a := u) (xs := ws) (fun i σ H3 => ∃ (p : Addr) (y3 y4 y5 y6 y7 : Option V), σ = [some (.ref d), some (.ref p), y, y3, y4, y5, y6, y7, none, none, none, none] ∧
        Same H H3 ∧ H p = none ∧ WebAt (CW K) H3 p ⟨m.last, m.own, m.wd.take i, []⟩) ⟨p, none, none, none, none, none, rfl, s2, np, W2⟩ (fun i σ H3 _ ⟨_, _, _, _, _, _, _, s3, _⟩ => .inl (.inl (s3 _ _ h3))) ?_ ?_⟩
      · rintro i v σ H3 hv ⟨p, y3, y4, y5, y6, y7, rfl, s3, np, W3⟩
        obtain ⟨t, y, rfl, ey, ht⟩ := row_of h4 hv
        have hi : i < m.wd.length := (List.getElem?_eq_some_iff.mp ey).1
        have hy := ok.wd y (List.mem_of_getElem? ey)
        have een : (m.wd.map (·.en))[i]? = some y.en := by
          rw [List.getElem?_map, ey]
          rfl
        have hmem : y.en ∈ m.own ++ m.wd.map (·.en) := List.mem_append.mpr (.inr (List.mem_of_getElem? een))
        have hz := pool_nm (ok.pool y.en hmem)
        obtain ⟨dx3, _, _, _, _, _, g1, _⟩ := W3.ex
        refine ⟨t, y.row, rfl, .inl (.inl (s3 _ _ ht)), rfl, _, _, rfl, _, _, rfl, _, _, rfl, _, _, rfl, _, _, rfl, rfl, ?_⟩
        refine ⟨_, rfl, p, dx3, _, rfl, g1, wf_no (by decide +kernel), _, rfl, _, rfl, _, rfl, _, rfl, _, rfl, rfl, rfl, p, _, y, rfl, W3, ⟨hz.1, ?_, hy.bg, hy.lo, hy.hi, hy.top, hy.la, ?_⟩, fun r H4 s4 nr W4 => ?_⟩
        · intro hm
          rcases List.mem_cons.mp hm with e | e
          · exact hz.2 e
          · rcases List.mem_append.mp e with e | e
            · exact (List.nodup_append.mp ok.nd).2.2 _ e _ (List.mem_of_getElem? een) rfl
            · have e : y.en ∈ (m.wd.map (·.en)).take i := by
                rw [← List.map_take]
                exact e
              exact nd_take nde een e
        · show (m.wd.take i).length < 4
          rw [List.length_take]
          omega
        · refine ⟨r, _, _, _, _, _, rfl, s3.trans s4, s3.free nr, ?_⟩
          rw [List.take_add_one, ey]
          exact W4
      · rintro σ H3 ⟨p, y3, y4, y5, y6, y7, rfl, s3, np, W3⟩
        have ew : ws.length = m.wd.length := by rw [h4.len, List.length_map]
        have e0 : m.wd.take ws.length = m.wd := List.take_of_length_le (by omega)
        rw [e0] at W3
        -- the ties
        refine ⟨_, rfl, d, _, rfl, mk_bd (s3 _ _ h1), b, rfl, ⟨_, .inl (.inl (s3 _ _ h5))⟩, for_list (K := K) (a := b) (xs := bs) (fun i σ H4 => ∃ (p : Addr) (y8 y9 y10 y11 : Option V), σ = [some (.ref d), some (.ref p), y, y3, y4, y5, y6, y7, y8, y9, y10, y11] ∧
          Same H H4 ∧ H p = none ∧ WebAt (CW K) H4 p ⟨m.last, m.own, m.wd, m.bd.take i⟩) ⟨p, none, none, none, none, rfl, s3, np, W3⟩ (fun i σ H4 _ ⟨_, _, _, _, _, _, s4, _⟩ => .inl (.inl (s4 _ _ h5))) ?_ ?_⟩
        · rintro i v σ H4 hv ⟨p, y8, y9, y10, y11, rfl, s4, np, W4⟩
          obtain ⟨t, y, rfl, ey, ht⟩ := row_of h6 hv
          have hi : i < m.bd.length := (List.getElem?_eq_some_iff.mp ey).1
          have hy := ok.bd y (List.mem_of_getElem? ey)
          obtain ⟨dx4, _, _, _, _, _, g1, _⟩ := W4.ex
          refine ⟨t, y.row, rfl, .inl (.inl (s4 _ _ ht)), rfl, _, _, rfl, _, _, rfl, _, _, rfl, _, _, rfl, rfl, ?_⟩
          refine ⟨_, rfl, p, dx4, _, rfl, g1, wf_no (by decide +kernel), _, rfl, _, rfl, _, rfl, _, rfl, rfl, rfl, p, _, y, rfl, W4, ⟨hy.one, hy.oth, hy.ne, hy.b, ?_⟩, fun r H5 s5 nr W5 => ?_⟩
          · show (m.bd.take i).length < 40
            rw [List.length_take]
            omega
          · refine ⟨r, _, _, _, _, rfl, s4.trans s5, s4.free nr, ?_⟩
            rw [List.take_add_one, ey]
            exact W5
        · rintro σ H4 ⟨p, y8, y9, y10, y11, rfl, s4, np, W4⟩
          have eb : bs.length = m.bd.length := by rw [h6.len, List.length_map]
          have e0 : m.bd.take bs.length = m.bd := List.take_of_length_le (by omega)
          rw [e0] at W4
          exact ⟨_, rfl, q p H4 s4 np W4⟩
end
end Tw

set_option maxHeartbeats 4000000
namespace Tw
open PySem PySem.Spec PyProof.Rows L2
/-- two values that are the same through and through, at most n deep; dicts of flat values among them -/
def Sm : Nat → V → V → Hp → Prop
  | 0, _, _, _ => False
  | n + 1, x, y, H => ((x = y ∧ flatV x = true) ∨ ∃ (a b : Addr) (ks ls : List (Key × V)), x = .ref a ∧ y = .ref b ∧ a ≠ b ∧ H a = some (.dK ks) ∧ H b = some (.dK ls) ∧ ks.length = ls.length ∧ n ≠ 0 ∧ ∀ p ∈ ls, ∃ v, valV ks p.1 = some v ∧ valV ls p.1 = some v ∧ flatV v = true) ∨
    ∃ (a b : Addr) (xs ys : List V), x = .ref a ∧ y = .ref b ∧ ((H a = some (.lst xs) ∧ H b = some (.lst ys)) ∨ (H a = some (.tup xs) ∧ H b = some (.tup ys))) ∧ xs.length = ys.length ∧ xs.length ≤ 1000 ∧
    ∀ (i : Nat) (x y : V), xs[i]? = some x → ys[i]? = some y → Sm n x y H
theorem Sm.same {H H' : Hp} (s : Same H H') : ∀ {n : Nat} {x y : V}, Sm n x y H → Sm n x y H'
  | 0, _, _, h => h.elim
  | n + 1, x, y, h => by
    rcases h with (h | ⟨a, b, ks, ls, ex, ey, ne, h1, h2, h⟩) | ⟨a, b, xs, ys, ex, ey, h, hl, hl2, hi⟩
    · exact .inl (.inl h)
    · exact .inl (.inr ⟨a, b, ks, ls, ex, ey, ne, s _ _ h1, s _ _ h2, h⟩)
    · refine .inr ⟨a, b, xs, ys, ex, ey, ?_, hl, hl2, fun i x y h1 h2 => Sm.same s (hi i x y h1 h2)⟩
      rcases h with ⟨h1, h2⟩ | ⟨h1, h2⟩
      · exact .inl ⟨s _ _ h1, s _ _ h2⟩
      · exact .inr ⟨s _ _ h1, s _ _ h2⟩
theorem Sm.flat {H : Hp} {n : Nat} {x : V} (h : flatV x = true) : Sm (n + 1) x x H := .inl (.inl ⟨rfl, h⟩)
theorem sm_dict {H : Hp} {a b : Addr} {ks ls : List (Key × V)} {n : Nat} (ne : a ≠ b) (h1 : H a = some (.dK ks)) (h2 : H b = some (.dK ls)) (hl : ks.length = ls.length) (h : ∀ p ∈ ls, ∃ v, valV ks p.1 = some v ∧ valV ls p.1 = some v ∧ flatV v = true) : Sm (n + 2) (.ref a) (.ref b) H :=
  .inl (.inr ⟨a, b, ks, ls, rfl, rfl, ne, h1, h2, hl, Nat.succ_ne_zero _, h⟩)
theorem sm_eq {H : Hp} {n : Nat} {x y : V} (e : x = y) (h : flatV x = true) : Sm (n + 1) x y H := by
  subst e
  exact Sm.flat h
theorem sm_lst {H : Hp} {a b : Addr} {xs ys : List V} {n : Nat} (h1 : H a = some (.lst xs)) (h2 : H b = some (.lst ys)) (hl : xs.length = ys.length) (h0 : xs.length ≤ 1000) (h : ∀ (i : Nat) (x y : V), xs[i]? = some x → ys[i]? = some y → Sm n x y H) : Sm (n + 1) (.ref a) (.ref b) H :=
  .inr ⟨a, b, xs, ys, rfl, rfl, .inl ⟨h1, h2⟩, hl, h0, h⟩
theorem sm_tup {H : Hp} {a b : Addr} {xs ys : List V} {n : Nat} (h1 : H a = some (.tup xs)) (h2 : H b = some (.tup ys)) (hl : xs.length = ys.length) (h0 : xs.length ≤ 1000) (h : ∀ (i : Nat) (x y : V), xs[i]? = some x → ys[i]? = some y → Sm n x y H) : Sm (n + 1) (.ref a) (.ref b) H :=
  .inr ⟨a, b, xs, ys, rfl, rfl, .inr ⟨h1, h2⟩, hl, h0, h⟩
theorem sm_flats {H : Hp} {xs : List V} {n : Nat} (hf : xs.all flatV = true) : ∀ (i : Nat) (x y : V), xs[i]? = some x → xs[i]? = some y → Sm (n + 1) x y H := fun i x y h1 h2 => by
  rw [h1] at h2
  cases h2
  exact Sm.flat (List.all_eq_true.mp hf x (List.mem_of_getElem? h1))
theorem sm_strs {H : Hp} {a b : Addr} {l : List Str} {n : Nat} (h1 : H a = some (.lst (l.map V.str))) (h2 : H b = some (.lst (l.map V.str))) (h0 : l.length ≤ 1000) : Sm (n + 2) (.ref a) (.ref b) H :=
  sm_lst h1 h2 rfl (by rw [List.length_map]; exact h0) (sm_flats (flat_strs l))
theorem sm_rows {H : Hp} {a b : Addr} {xs ys : List V} {rs : List (List V)} {n : Nat} (h1 : H a = some (.lst xs)) (h2 : H b = some (.lst ys)) (r1 : Rows H xs rs) (r2 : Rows H ys rs) (h0 : rs.length ≤ 1000) (hf : ∀ r ∈ rs, r.all flatV = true ∧ r.length ≤ 1000) : Sm (n + 3) (.ref a) (.ref b) H := by
  refine sm_lst h1 h2 (by rw [r1.len, r2.len]) (by rw [r1.len]; exact h0) fun i x y hx hy => ?_
  obtain ⟨t, r, rfl, hr, ht⟩ := r1.at hx
  obtain ⟨u, r', rfl, hr', hu⟩ := r2.at hy
  rw [hr] at hr'
  cases hr'
  have hr2 := hf r (List.mem_of_getElem? hr)
  exact sm_tup ht hu rfl hr2.2 (sm_flats hr2.1)
theorem rIx_of {K : PySem.W.Frag} {H : Hp} {a : Addr} {xs : List V} {i : Int} {v : V} {Q : VK} (h : SqL K H a xs ∨ SqT K H a xs) (e : atI xs i = some v) (q : Q v H) : rIx K (.ref a) (.int i) H Q := by
  rcases h with h | h
  · exact .inl ⟨a, xs, i, v, rfl, rfl, h, e, q⟩
  · exact .inr (.inl ⟨a, xs, i, v, rfl, rfl, h, e, q⟩)
theorem sq_same {K : PySem.W.Frag} {H H' : Hp} {a : Addr} {xs : List V} (s : Same H H') (h : SqL K H a xs ∨ SqT K H a xs) : SqL K H' a xs ∨ SqT K H' a xs := by
  rcases h with h | h
  · exact .inl (s.seq h)
  · refine .inr ?_
    rcases h with (h | ⟨o, h⟩) | h
    · exact .inl (.inl (s _ _ h))
    · exact .inl (.inr ⟨o, s _ _ h⟩)
    · exact .inr h
theorem lenV_of {K : PySem.W.Frag} {H : Hp} {a : Addr} {xs : List V} (h : SqL K H a xs ∨ SqT K H a xs) : LenV K (.ref a) H xs.length := by
  rcases h with h | h
  · exact .inl ⟨xs, h, rfl⟩
  · exact .inr ⟨xs, h, rfl⟩
section
variable {P : Program} {w : World} {K : PySem.W.Frag} {mg : Str → Option Value} {base : Heap}
def sp_same (n : Nat) : Sp := fun vs H Q _ => ∃ x y : V, vs = [x, y] ∧ Sm n x y H ∧ ∀ H', Same H H' → Q (.bl true) H'
theorem cal_same (T : Tp K mg) : ∀ n : Nat, Cal P w K mg base n "_law_same" (sp_same n)
  | 0 => by
    obtain ⟨fd, F⟩ := f__law_same T
    exact ⟨_, fd, ["_law_found", "_law_due"], [], ⟨fun vs H Q E h => by
      obtain ⟨x, y, rfl, _⟩ := h
      rfl, fun A outer s H args us vs Q E _ _ _ _ h => by
      obtain ⟨x, y, rfl, h, _⟩ := h
      exact h.elim⟩, g__law_same T, F.kp, b__law_same F, .nil⟩
  | n + 1 => by
    have ih := cal_same T n
    obtain ⟨fd, F⟩ := f__law_same T
    refine cal_of F (g__law_same T) (b__law_same F) sc__law_same (fun vs H Q E h => ?_) (fun cdv A outer s H vs Q E hr h => ?_)
    · obtain ⟨x, y, rfl, _⟩ := h
      rfl
    · obtain ⟨x, y, rfl, h, q⟩ := h
      have hu := hu_of hr
      refine ⟨_, (pss_cons (ps_if (pt_val (pe_callB call_isK (by rfl) (z_isinstance T) bb_isinstance (pa_cons (pv 1) (pa_cons (pe_bltn (v := .ty "bool") (by rfl) (z_bool T) bb_bool rfl) pa_nil)))) (pss_one (ps_ret (pe_and (pe_callB call_isK (by rfl) (z_isinstance T) bb_isinstance (pa_cons (pv 0) (pa_cons (pe_bltn (v := .ty "bool") (by rfl) (z_bool T) bb_bool rfl) pa_nil))) (pe_one (pe_cmpR op_eq (pv 0) (pv 1) (nomark _)))))) pss_nil)
      (pss_cons (ps_if (pt_cmpR op_isN (pv 1) pe_non (nomark _)) (pss_one (ps_ret (pe_cmpR op_isN (pv 0) pe_non (nomark _)))) pss_nil)
      (pss_cons (ps_if (pt_val (pe_callB call_isK (by rfl) (z_isinstance T) bb_isinstance (pa_cons (pv 1) (pa_cons (pe_bltn (v := .ty "int") (by rfl) (z_int T) bb_int rfl) pa_nil)))) (pss_cons (ps_if (PW.pt (pw_or (pt_val (pe_callB call_isK (by rfl) (z_isinstance T) bb_isinstance (pa_cons (pv 0) (pa_cons (pe_bltn (v := .ty "bool") (by rfl) (z_bool T) bb_bool rfl) pa_nil)))) (pw_or1 (pt_not (pt_val (pe_callB call_isK (by rfl) (z_isinstance T) bb_isinstance (pa_cons (pv 0) (pa_cons (pe_bltn (v := .ty "int") (by rfl) (z_int T) bb_int rfl) pa_nil)))))))) (pss_one (ps_ret pe_bl)) pss_nil)
        (pss_one (ps_ret (pe_cmpR op_eq (pv 0) (pv 1) (nomark _))))) pss_nil)
      (pss_cons (ps_if (pt_val (pe_callB call_isK (by rfl) (z_isinstance T) bb_isinstance (pa_cons (pv 1) (pa_cons (pe_bltn (v := .ty "str") (by rfl) (z_str T) bb_str rfl) pa_nil)))) (pss_one (ps_ret (pe_and (pe_callB call_isK (by rfl) (z_isinstance T) bb_isinstance (pa_cons (pv 0) (pa_cons (pe_bltn (v := .ty "str") (by rfl) (z_str T) bb_str rfl) pa_nil))) (pe_one (pe_cmpR op_eq (pv 0) (pv 1) (nomark _)))))) pss_nil)
      (pss_cons (ps_if (pt_val (pe_callB call_isK (by rfl) (z_isinstance T) bb_isinstance (pa_cons (pv 1) (pa_cons (pe_bltn (v := .ty "dict") (by rfl) (z_dict T) bb_dict rfl) pa_nil)))) (pss_cons (ps_if (PW.pt (pw_or (pt_not (pt_val (pe_callB call_isK (by rfl) (z_isinstance T) bb_isinstance (pa_cons (pv 0) (pa_cons (pe_bltn (v := .ty "dict") (by rfl) (z_dict T) bb_dict rfl) pa_nil))))) (pw_or1 (pt_cmpR op_ne (pe_callB call_lenD (by rfl) (z_len T) bb_len (pa_cons (pv 0) pa_nil)) (pe_callB call_lenD (by rfl) (z_len T) bb_len (pa_cons (pv 1) pa_nil)) (nomark _))))) (pss_one (ps_ret pe_bl)) pss_nil)
        (pss_cons (ps_lock (ps_for PassesOwn.never rfl (pi_keys (pv 1)) (pg_name (i := 2) sc__law_same.nd rfl (.inl rfl))
          (pss_one (ps_if (PW.pt (pw_or (pt_cmp (pc_dnotin hu (pv 2) (pv 0)) (by rfl)) (pw_or1 (pt_not (pt_val (C8.pe_c ih hr (Nat.le_refl _) rfl (pa_cons (pe_dget hu (pv 0) (pv 2) (fun _ _ => rfl)) (pa_cons (pe_dget hu (pv 1) (pv 2) (fun _ _ => rfl)) pa_nil)))))))) (pss_one (ps_ret pe_bl)) pss_nil))))
        (pss_one (ps_ret pe_bl)))) pss_nil)
      (pss_cons (ps_if (PW.pt (pw_and (pt_val (pe_callB call_isK (by rfl) (z_isinstance T) bb_isinstance (pa_cons (pv 1) (pa_cons (pe_bltn (v := .ty "tuple") (by rfl) (z_tuple T) bb_tuple rfl) pa_nil)))) (pw_and1 (pt_not (pt_val (pe_callB call_isK (by rfl) (z_isinstance T) bb_isinstance (pa_cons (pv 0) (pa_cons (pe_bltn (v := .ty "tuple") (by rfl) (z_tuple T) bb_tuple rfl) pa_nil)))))))) (pss_one (ps_ret pe_bl)) pss_nil)
      (pss_cons (ps_if (PW.pt (pw_and (pt_val (pe_callB call_isK (by rfl) (z_isinstance T) bb_isinstance (pa_cons (pv 1) (pa_cons (pe_bltn (v := .ty "list") (by rfl) (z_list T) bb_list rfl) pa_nil)))) (pw_and1 (pt_not (pt_val (pe_callB call_isK (by rfl) (z_isinstance T) bb_isinstance (pa_cons (pv 0) (pa_cons (pe_bltn (v := .ty "list") (by rfl) (z_list T) bb_list rfl) pa_nil)))))))) (pss_one (ps_ret pe_bl)) pss_nil)
      (pss_cons (ps_if (pt_cmpR op_ne (pe_callB call_len (by rfl) (z_len T) bb_len (pa_cons (pv 0) pa_nil)) (pe_callB call_len (by rfl) (z_len T) bb_len (pa_cons (pv 1) pa_nil)) (nomark _)) (pss_one (ps_ret pe_bl)) pss_nil)
      (pss_one (ps_ret (pe_callB (cr_all rfl) (by rfl) (z_all T) bb_all (pa_cons (pe_lc (own := [("_law_k", 3)]) (g := gName 3) (tt := tYes) rfl sc__law_same.nd (pi_range1 rfl (z_range T) (pa_cons (pe_callB call_len (by rfl) (z_len T) bb_len (pa_cons (pv 1) pa_nil)) pa_nil)) (blkOk_by (N := N__law_same) (sc := defScope s__law_same) (by decide +kernel)) (fun _ _ _ _ _ => (pg_name (i := 3) sc__law_same.nd rfl (.inl rfl))) (fun _ _ _ _ _ => pts_nil) (fun _ _ _ _ _ => (C8.pe_c ih hr (Nat.le_refl _) rfl (pa_cons (pe_ix (ix_seqK (K := K) rfl) (pv 0) (pv 3) (fun _ _ => rfl)) (pa_cons (pe_ix (ix_seqK (K := K) rfl) (pv 1) (pv 3) (fun _ _ => rfl)) pa_nil))))) pa_nil)))))))))))), ?_⟩
      rcases h with (⟨e, fl⟩ | ⟨a, b, ks, ls, ex, ey, nab, h1, h2, hl, n0, hi⟩) | ⟨a, b, xs, ys, ex, ey, hk, hl, hl2, hi⟩
      · subst e
        cases x with
        | bl v =>
          refine ⟨_, rfl, _, "bool", "bool", rfl, .base (.bl _), by decide, by decide, _, rfl, iteT ⟨_, rfl, _, "bool", "bool", rfl, .base (.bl _), by decide, by decide, _, rfl, iteT ⟨_, rfl, _, rfl, rfl, ?_⟩⟩⟩
          rw [decide_eq_true rfl]
          exact q H (Same.refl H)
        | non =>
          refine ⟨_, rfl, _, "bool", "NoneType", rfl, .base .non, by decide, by decide, _, rfl, iteF ⟨_, rfl, rfl, _, rfl, ?_⟩⟩
          rw [decide_eq_true rfl]
          refine iteT ⟨_, rfl, rfl, ?_⟩
          exact q H (Same.refl H)
        | int i =>
          refine ⟨_, rfl, _, "bool", "int", rfl, .base (.int _), by decide, by decide, _, rfl, iteF ⟨_, rfl, rfl, _, rfl, ?_⟩⟩
          rw [decide_eq_false (show ¬ V.int i = V.non by intro z; cases z)]
          refine iteF ⟨_, rfl, _, "int", "int", rfl, .base (.int _), by decide, by decide, _, rfl, iteT ⟨_, rfl, _, "bool", "int", rfl, .base (.int _), by decide, by decide, _, rfl, iteF ⟨_, rfl, _, "int", "int", rfl, .base (.int _), by decide, by decide, _, rfl, iteF ⟨_, rfl, _, rfl, rfl, ?_⟩⟩⟩⟩
          rw [decide_eq_true rfl]
          exact q H (Same.refl H)
        | str z =>
          refine ⟨_, rfl, _, "bool", "str", rfl, .base (.str _), by decide, by decide, _, rfl, iteF ⟨_, rfl, rfl, _, rfl, ?_⟩⟩
          rw [decide_eq_false (show ¬ V.str z = V.non by intro z; cases z)]
          refine iteF ⟨_, rfl, _, "int", "str", rfl, .base (.str _), by decide, by decide, _, rfl, iteF ⟨_, rfl, _, "str", "str", rfl, .base (.str _), by decide, by decide, _, rfl, iteT ⟨_, rfl, _, "str", "str", rfl, .base (.str _), by decide, by decide, _, rfl, iteT ⟨_, rfl, _, rfl, rfl, ?_⟩⟩⟩⟩
          rw [decide_eq_true rfl]
          exact q H (Same.refl H)
        | byt _ => cases fl
        | flt _ => cases fl
        | ref _ => cases fl
        | ty _ => cases fl
      · subst ex ey
        have nn : ¬ V.ref b = V.non := by intro z; cases z
        obtain ⟨n', rfl⟩ : ∃ n', n = n' + 1 := ⟨n - 1, by omega⟩
        refine ⟨_, rfl, _, "bool", "dict", rfl, .base (.dK h2), by decide, by decide, _, rfl, iteF ⟨_, rfl, rfl, _, rfl, ?_⟩⟩
        rw [decide_eq_false nn]
        refine iteF ⟨_, rfl, _, "int", "dict", rfl, .base (.dK h2), by decide, by decide, _, rfl, iteF ⟨_, rfl, _, "str", "dict", rfl, .base (.dK h2), by decide, by decide, _, rfl, iteF ⟨_, rfl, _, "dict", "dict", rfl, .base (.dK h2), by decide, by decide, _, rfl, iteT ⟨_, rfl, _, "dict", "dict", rfl, .base (.dK h1), by decide, by decide, _, rfl, iteF ?_⟩⟩⟩⟩
        refine ⟨_, rfl, a, ks, rfl, h1, _, rfl, b, ls, rfl, h2, rfl, _, rfl, ?_⟩
        refine iteNS (by rw [hl]) ?_
        refine ⟨b, _, h2, True.intro, fun od => ⟨_, rfl, b, od, rfl, .inl ⟨ls, upd_same, ?_⟩⟩⟩
        refine for_it walk_keys (fun i σ H1 => Same (upd H b (.frz od (.dK ls))) H1 ∧ ∃ y2 : Option V, σ = [some (.ref a), some (.ref b), y2, none]) ⟨Same.refl _, none, rfl⟩ (fun i σ H1 _ h => h.1 _ _ upd_same) ?_ ?_
        · rintro i x σ H1 H1' hi1 ⟨s1, y2, rfl⟩ ⟨rfl, k, v', ek, rfl⟩
          obtain ⟨v, v1, v2, fv⟩ := hi _ (List.mem_of_getElem? ek)
          have g1 : DGet H1' a (kV k) (some v) := .inl ⟨ks, k, .inl (s1 _ _ (by rw [upd_ne nab]; exact h1)), rfl, v1.symm⟩
          have g2 : DGet H1' b (kV k) (some v) := .inl ⟨ls, k, .inr ⟨od, s1 _ _ upd_same⟩, rfl, v2.symm⟩
          refine ⟨_, rfl, _, rfl, a, _, rfl, g1, _, rfl, iteF ⟨_, rfl, _, rfl, a, _, rfl, g1, _, rfl, _, rfl, b, _, rfl, g2, _, _, rfl, Sm.flat fv, fun H2 s2 => ⟨_, rfl, iteF ⟨s1.trans s2, _, rfl⟩⟩⟩⟩
        · rintro σ H1 ⟨s1, y2, rfl⟩
          refine ⟨s1 _ _ upd_same, q _ fun c o e => ?_⟩
          by_cases cb : c = b
          · subst cb
            rw [upd_same, ← e, h2]
          · rw [upd_ne cb]
            exact s1 _ _ (by rw [upd_ne cb]; exact e)
      · subst ex ey
        have sx : SqL K H a xs ∨ SqT K H a xs := by
          rcases hk with ⟨h1, h2⟩ | ⟨h1, h2⟩
          · exact .inl (.inl (.inl h1))
          · exact .inr (.inl (.inl h1))
        have sy : SqL K H b ys ∨ SqT K H b ys := by
          rcases hk with ⟨h1, h2⟩ | ⟨h1, h2⟩
          · exact .inl (.inl (.inl h2))
          · exact .inr (.inl (.inl h2))
        have nn : ¬ V.ref b = V.non := by intro z; cases z
        rcases hk with ⟨h1, h2⟩ | ⟨h1, h2⟩
        · refine ⟨_, rfl, _, "bool", "list", rfl, .base (.lst h2), by decide, by decide, _, rfl, iteF ⟨_, rfl, rfl, _, rfl, ?_⟩⟩
          rw [decide_eq_false nn]
          refine iteF ⟨_, rfl, _, "int", "list", rfl, .base (.lst h2), by decide, by decide, _, rfl, iteF ⟨_, rfl, _, "str", "list", rfl, .base (.lst h2), by decide, by decide, _, rfl, iteF ⟨_, rfl, _, "dict", "list", rfl, .base (.lst h2), by decide, by decide, _, rfl, iteF
            ⟨_, rfl, _, "tuple", "list", rfl, .base (.lst h2), by decide, by decide, _, rfl, iteF (iteF ⟨_, rfl, _, "list", "list", rfl, .base (.lst h2), by decide, by decide, _, rfl, iteT ⟨_, rfl, _, "list", "list", rfl, .base (.lst h1), by decide, by decide, _, rfl, iteF ?_⟩⟩)⟩⟩⟩⟩
          refine ⟨_, rfl, _, _, rfl, lenV_of sx, _, rfl, _, _, rfl, lenV_of sy, rfl, _, rfl, ?_⟩
          refine iteNS (by rw [hl]) ?_
          refine ⟨_, rfl, _, _, rfl, lenV_of sy, _, rfl, by omega, by omega, fun D nD => ?_⟩
          refine lc_range (lo := 0) (n := ys.length) (fun i H1 => Same H H1 ∧ H1 D = some (.lst ((List.replicate i true).map V.bl))) ⟨same_upd nD, upd_same⟩ ?_ ?_
          · rintro i H1 hi1 ⟨s1, d1⟩
            have hx : i < xs.length := by omega
            refine ⟨rfl, yes_i (iteT ⟨_, rfl, _, rfl, rIx_of (v := xs[i]) (sq_same s1 sx) (at_of (j := i) (by omega) (List.getElem?_eq_getElem hx)) ⟨_, rfl, _, rfl, rIx_of (v := ys[i]) (sq_same s1 sy) (at_of (j := i) (by omega) (List.getElem?_eq_getElem hi1)) ⟨_, _, rfl, (hi i _ _ (List.getElem?_eq_getElem hx) (List.getElem?_eq_getElem hi1)).same s1, fun H2 s2 => ⟨_, s2 _ _ d1, ?_, ?_, ?_⟩⟩⟩⟩)⟩
            · rw [List.length_map, List.length_replicate]
              exact small1000 (by omega)
            · exact same_put (s1.trans s2) nD
            · rw [upd_same, List.replicate_succ', List.map_append]
              rfl
          · rintro H1 ⟨s1, d1⟩
            refine ⟨D, _, rfl, .inl (.inl d1), ?_⟩
            rw [show (List.replicate ys.length true).all id = true by simp]
            exact q H1 s1
        · refine ⟨_, rfl, _, "bool", "tuple", rfl, .base (.tup h2), by decide, by decide, _, rfl, iteF ⟨_, rfl, rfl, _, rfl, ?_⟩⟩
          rw [decide_eq_false nn]
          refine iteF ⟨_, rfl, _, "int", "tuple", rfl, .base (.tup h2), by decide, by decide, _, rfl, iteF ⟨_, rfl, _, "str", "tuple", rfl, .base (.tup h2), by decide, by decide, _, rfl, iteF ⟨_, rfl, _, "dict", "tuple", rfl, .base (.tup h2), by decide, by decide, _, rfl, iteF
            ⟨_, rfl, _, "tuple", "tuple", rfl, .base (.tup h2), by decide, by decide, _, rfl, iteT ⟨_, rfl, _, "tuple", "tuple", rfl, .base (.tup h1), by decide, by decide, _, rfl, iteF ⟨_, rfl, _, "list", "tuple", rfl, .base (.tup h2), by decide, by decide, _, rfl, iteF (iteF ?_)⟩⟩⟩⟩⟩⟩
          refine ⟨_, rfl, _, _, rfl, lenV_of sx, _, rfl, _, _, rfl, lenV_of sy, rfl, _, rfl, ?_⟩
          refine iteNS (by rw [hl]) ?_
          refine ⟨_, rfl, _, _, rfl, lenV_of sy, _, rfl, by omega, by omega, fun D nD => ?_⟩
          refine lc_range (lo := 0) (n := ys.length) (fun i H1 => Same H H1 ∧ H1 D = some (.lst ((List.replicate i true).map V.bl))) ⟨same_upd nD, upd_same⟩ ?_ ?_
          · rintro i H1 hi1 ⟨s1, d1⟩
            have hx : i < xs.length := by omega
            refine ⟨rfl, yes_i (iteT ⟨_, rfl, _, rfl, rIx_of (v := xs[i]) (sq_same s1 sx) (at_of (j := i) (by omega) (List.getElem?_eq_getElem hx)) ⟨_, rfl, _, rfl, rIx_of (v := ys[i]) (sq_same s1 sy) (at_of (j := i) (by omega) (List.getElem?_eq_getElem hi1)) ⟨_, _, rfl, (hi i _ _ (List.getElem?_eq_getElem hx) (List.getElem?_eq_getElem hi1)).same s1, fun H2 s2 => ⟨_, s2 _ _ d1, ?_, ?_, ?_⟩⟩⟩⟩)⟩
            · rw [List.length_map, List.length_replicate]
              exact small1000 (by omega)
            · exact same_put (s1.trans s2) nD
            · rw [upd_same, List.replicate_succ', List.map_append]
              rfl
          · rintro H1 ⟨s1, d1⟩
            refine ⟨D, _, rfl, .inl (.inl d1), ?_⟩
            rw [show (List.replicate ys.length true).all id = true by simp]
            exact q H1 s1
/-- as it is asked by the laws: data at most six deep -/
theorem cal__law_same (T : Tp K mg) : Cal P w K mg base 7 "_law_same" (sp_same 7) := cal_same T 7
end
end Tw

set_option maxHeartbeats 4000000
namespace Tw
open PySem PySem.Spec PyProof.Rows L2
section
variable {prog : Program} {w : World} {A : Around} {E : Value → Shared → Prop} {s : Shared} {K : PySem.W.Frag} {x C L f : Addr} {h₀ : Heap} {m : Str → Option Value} {ox : Obj} {od : Option Obj}
open PySem.W PySem.Calls Builtin in
/-- what truthy's own call of len finds: the answer of __len__, in its bounds -/
theorem len_ownBody {Q : Value → Shared → Prop} (X : K.In s.heap) (I : InstAt s.heap x ox C od) (hs : findIn K (.ref C) "__len__" = some (some (.ref f))) (hf : isFn K (.ref f) = true)
    (h : wpAny (model prog w) A (call (.ref f) [.ref x]) (PySem.W.LenBack Q) E s) : wpAny (model prog w) A (Builtin.«len» ⟨[.ref x], []⟩) (fun fin s' => ∃ r, fin = .done (.ret r) ∧ Q r s') E s := by
  have ask : ∀ {R : Option Value → Shared → Prop}, (∀ n u s', (0 ≤ n ∧ n < 2 ^ 63) → Q (.int n s'.toks) { s' with toks := s'.toks + 1 } → R (some (.int n u)) s') → wpAny (model prog w) A (callSpecial? (.ref x) (Str.ofString "__len__")) R E s := fun {R} k =>
    special_fn X I hs (beq_iff_eq.mp hf) (wpAny_mono h (fun r s' back => by
      cases r with
      | int n u => exact k n u s' back.1 back.2
      | _ => exact False.elim back) fun _ _ y => y)
  unfold Builtin.«len»
  repeat (first | with_reducible refine ask fun n u s' bnd back => ?_ | wp_step)
  rw [if_neg (Int.not_le.mpr bnd.2)]
  repeat wp_step
  exact ⟨_, rfl, back⟩
open PySem.W PySem.Calls Builtin in
theorem truthy_own {Q : Bool → Shared → Prop} (X : K.In s.heap) (I : InstAt s.heap x ox C od) (hb : findIn K (.ref C) "__bool__" = some none) (hs : findIn K (.ref C) "__len__" = some (some (.ref f))) (hf : isFn K (.ref f) = true)
    (h : wpAny (model prog w) A.in1 (call (.ref f) [.ref x]) (PySem.W.LenBack fun v s' => ∃ n t, v = .int n t ∧ Q (n != 0) s') E s) : wpAny (model prog w) A (truthy (.ref x)) Q E s := by
  have counted : ∀ {R : Value → Shared → Prop}, (∀ n t s', Q (n != 0) s' → R (.int n t) s') → wpAny (model prog w) A (runValue (.builtin "len" ⟨[.ref x], []⟩)) R E s := fun {R} k =>
    wpAny_runValue (codeAny_builtin entry_len (by
      rw [Around.under_plainId plain_len]
      refine wpAny_mono (len_ownBody X I hs hf h) ?_ fun _ _ z => z
      rintro _ s' ⟨_, rfl, n, t, rfl, q⟩
      exact k n t s' q))
  have noBool := looks_findIn (M := model prog w) X hb
  have hasLen := looks_findIn (M := model prog w) X hs
  unfold truthy callSpecial? specialOf
  repeat (first | with_reducible refine I.type.here ?_ | with_reducible refine noBool.here ?_ | with_reducible refine hasLen.here ?_ | with_reducible refine counted fun n t s' q => ?_ | assumption | wp_step)
theorem bool_new (l : Addr) : MeetsIn prog w (Builtin.«bool.__new__» ⟨[.type "bool", .ref l], []⟩) (fun A R s => wpAny (model prog w) A.in1 (truthy (.ref l)) (fun b s' => R (.ok (.ret (.bool b))) s') (fun e s' => R (.error e) s') s) :=
  .of_wp fun A R s hs => by
    have f1 := PySem.F.conv_sub_bool
    obtain ⟨hp, g, d, tk, os⟩ := s
    have ht : ∀ {Q : Bool → Shared → Prop}, (∀ b s', R (.ok (.ret (.bool b))) s' → Q b s') → wpAny (model prog w) A.in1 (truthy (.ref l)) Q (fun e s' => R (.error e) s') (Shared.mk hp g d tk os) := fun h => wpAny_mono hs (fun b s' z => h b s' z) fun _ _ z => z
    repeat (any_goals (first | assumption | (with_reducible refine ht fun b s' z => ?_) | wp_step))
    all_goals exact ⟨_, rfl, z⟩
end
section
variable {X : Cx} {k j : Nat} {C : Addr} {sp : Sp}
/-- bool(o) by an own __len__ -/
def rBoolO (C : Addr) (sp : Sp) : List V → Hp → VK → Prop := fun xs H Q => ∃ a dx fs, xs = [.ref a] ∧ H a = some (.ins C dx fs) ∧ sp [.ref a] H (fun v H' => ∃ i : Int, v = .int i ∧ 0 ≤ i ∧ i < 2 ^ 63 ∧ Q (.bl (i != 0)) H') E0
theorem call_boolO (c : Met X.prog X.w X.K X.mg X.base k C "__len__" sp) (nb : NoAttr X.K C "__bool__") (hr : Room j X.A) (hk : k + 3 ≤ j) : CallR X (.type "bool") (rBoolO C sp) := by
  rintro pins s σ H _ us Q I r ⟨a, dx, fs, rfl, here, q⟩
  obtain rfl := Vals.ref1 r
  obtain ⟨f, hs, hf, F⟩ := own0 c
  obtain ⟨_, J0, _⟩ := ins_get I.hok here
  obtain ⟨_, J, _⟩ := J0.look
  have room : Room k X.A.in1.in1.in1 := (hr.mono hk).in1.in1.in1
  refine callType_newIn PySem.F.called_bool PySem.F.newNe_bool (PySem.F.typeCall_bool_1 _) (PySem.F.newCall_bool_1 _) (fun obj => PySem.F.args_object_init_2 obj _) PySem.F.entry_bool_new (bool_new a) ?_
  refine truthy_own I.kIn J nb hs hf (thn (wpAny_call (SlX.run_at F room I.env0.in1.in1.in1 pass0 I r q)) ?_)
  rintro _ s1 ⟨_, H1, I1, rv, i, rfl, low, high, q1⟩
  obtain ⟨_, rfl⟩ := rv
  exact ⟨⟨low, high⟩, i, _, rfl, rfl, .bl (i != 0), H1, I1.tok _, rfl, q1⟩
end
end Tw

set_option maxHeartbeats 4000000
namespace Tw
open PySem PySem.Spec PyProof.Rows L2
theorem wd_flat (l : List Wd) : ∀ r ∈ l.map Wd.row, r.all flatV = true ∧ r.length ≤ 1000 := fun r h => by
  obtain ⟨x, _, rfl⟩ := List.mem_map.mp h
  refine ⟨?_, by show 5 ≤ 1000; decide⟩
  unfold Wd.row
  cases x.la <;> rfl
theorem bd_flat (l : List Bd) : ∀ r ∈ l.map Bd.row, r.all flatV = true ∧ r.length ≤ 1000 := fun r h => by
  obtain ⟨x, _, rfl⟩ := List.mem_map.mp h
  refine ⟨?_, by show 4 ≤ 1000; decide⟩
  unfold Bd.row
  cases x.bot <;> cases x.top <;> rfl
theorem sm_three {H : Hp} {a b : Addr} {x1 x2 x3 y1 y2 y3 : V} {n : Nat} (h1 : H a = some (.lst [x1, x2, x3])) (h2 : H b = some (.lst [y1, y2, y3])) (e1 : Sm n x1 y1 H) (e2 : Sm n x2 y2 H) (e3 : Sm n x3 y3 H) : Sm (n + 1) (.ref a) (.ref b) H := by
  refine sm_lst h1 h2 rfl (by show 3 ≤ 1000; decide) fun i x y hx hy => ?_
  match i, hx, hy with
  | 0, hx, hy =>
    cases hx
    cases hy
    exact e1
  | 1, hx, hy =>
    cases hx
    cases hy
    exact e2
  | 2, hx, hy =>
    cases hx
    cases hy
    exact e3
theorem empty_web : Str.empty ++ ("Web(" : Str) = ("Web(" : Str) := by decide +kernel
section
variable {P : Program} {w : World} {K : PySem.W.Frag} {mg : Str → Option Value} {base : Heap}
def sp_stands (K : PySem.W.Frag) : Sp := fun vs H Q _ => ∃ (p d : Addr) (m : Md), vs = [.ref p, .ref d] ∧ WebAt (CW K) H p m ∧ MdAt H d m ∧ ∀ H', Same H H' → Q (.bl true) H'
theorem cal__law_stands (T : Tp K mg) : Cal P w K mg base 9 "_law_stands" (sp_stands K) := by
  obtain ⟨fd, F⟩ := f__law_stands T
  refine cal_of F (g__law_stands T) (b__law_stands F) sc__law_stands (fun vs H Q E h => ?_) (fun cdv A outer s H vs Q E hr h => ?_)
  · obtain ⟨p, d, m, rfl, _⟩ := h
    rfl
  · obtain ⟨p, d, m, rfl, W, M, q⟩ := h
    have hu := hu_of hr
    have hlen := W.len
    have hlast := W.last
    have hpts := pts_len W
    refine ⟨_, (pss_cons (ps_set (i := 2) sc__law_stands.nd rfl (.inl rfl) (C8.pe_c (cal__law_points T) hr (by decide) rfl (pa_cons (pv 1) pa_nil)))
      (pss_cons (ps_set (i := 3) sc__law_stands.nd rfl (.inl rfl) (pe_lst (pa_cons (pe_fld (pv 0) rfl) (pa_cons (C8.pe_mt0 (met_Web_moments T) hr (by decide) (pv 0)) (pa_cons (C8.pe_mt0 (met_Web_spans T) hr (by decide) (pv 0)) pa_nil)))))
      (pss_cons (ps_if (pt_not (pt_val (C8.pe_c (cal__law_same T) hr (by decide) rfl (pa_cons (pv 3) (pa_cons (pe_lst (pa_cons (pe_dget hu (pv 1) pe_str (fun _ _ => rfl)) (pa_cons (pe_dget hu (pv 1) pe_str (fun _ _ => rfl)) (pa_cons (pe_dget hu (pv 1) pe_str (fun _ _ => rfl)) pa_nil)))) pa_nil))))) (pss_one (ps_ret pe_bl)) pss_nil)
      (pss_cons (ps_set (i := 3) sc__law_stands.nd rfl (.inl rfl) (pe_lst (pa_cons (C8.pe_mt0 (met_Web_ties T) hr (by decide) (pv 0)) (pa_cons (C8.pe_mt0 (met_Web_points T) hr (by decide) (pv 0)) (pa_cons (pe_callB (call_lenO (met_Web_UlenU T) hr (by decide)) (by rfl) (z_len T) bb_len (pa_cons (pv 0) pa_nil)) pa_nil)))))
      (pss_cons (ps_if (pt_not (pt_val (C8.pe_c (cal__law_same T) hr (by decide) rfl (pa_cons (pv 3) (pa_cons (pe_lst (pa_cons (pe_dget hu (pv 1) pe_str (fun _ _ => rfl)) (pa_cons (pv 2) (pa_cons (pe_callB call_len_seq (by rfl) (z_len T) bb_len (pa_cons (pv 2) pa_nil)) pa_nil)))) pa_nil))))) (pss_one (ps_ret pe_bl)) pss_nil)
      (pss_cons (ps_set (i := 4) sc__law_stands.nd rfl (.inl rfl) (pe_op op_add_str (pe_op op_add_str pe_str (pe_callTy call_str_int (by rfl) (z_str T) bb_str (pa_cons (pe_callB call_len_seq (by rfl) (z_len T) bb_len (pa_cons (pv 2) pa_nil)) pa_nil))) pe_str))
      (pss_cons (ps_set (i := 4) sc__law_stands.nd rfl (.inl rfl) (pe_op op_add_str (pe_op op_add_str (pe_op op_add_str (pe_op op_add_str (pv 4) (pe_callTy call_str_int (by rfl) (z_str T) bb_str (pa_cons (pe_callB call_len_seq (by rfl) (z_len T) bb_len (pa_cons (pe_dget hu (pv 1) pe_str (fun _ _ => rfl)) pa_nil)) pa_nil))) pe_str) (pe_callTy call_str_int (by rfl) (z_str T) bb_str (pa_cons (pe_dget hu (pv 1) pe_str (fun _ _ => rfl)) pa_nil))) pe_str))
      (pss_one (ps_ret (C8.pe_c (cal__law_same T) hr (by decide) rfl (pa_cons (pe_callB (call_reprO (met_Web_UreprU T) hr (by decide)) (by rfl) (z_repr T) bb_repr (pa_cons (pv 0) pa_nil)) (pa_cons (pv 4) pa_nil)))))))))))), ?_⟩
    refine ⟨_, rfl, d, m, rfl, M, by omega, by omega, fun pl H1 s1 npl hpl => ?_⟩
    have W1 := W.same s1
    obtain ⟨dx, a, b, c, ws, bs, h1, h2, h3, h4, h5, h6⟩ := W1.ex
    -- found = [web.by, web.moments(), web.spans()]
    refine ⟨_, rfl, p, CW K, dx, _, _, rfl, h1, cl_Web T, na_by T, wf_by, _, rfl, p, dx, _, rfl, h1, wf_no (by decide +kernel), p, m, rfl, W1, fun k1 n1 => ?_⟩
    have t1 := same_upd (o := .lst (m.own.map V.str)) n1
    have W2 := W1.same t1
    refine ⟨_, rfl, p, dx, _, rfl, t1 _ _ h1, wf_no (by decide +kernel), p, m, rfl, W2, fun ws2 k2 r2 n2 => ⟨by show 3 ≤ sizeLine; decide, fun l n3 => ?_⟩⟩
    have t2 := same_upd (o := .lst ws2) n2
    have t3 := same_upd (o := .lst [.int m.last, .ref k1, .ref k2]) n3
    have e1 := t3 _ _ (t2 _ _ (upd_same (H := H1) (a := k1) (o := .lst (m.own.map V.str))))
    have e2 := t3 _ _ (upd_same (H := upd H1 k1 (.lst (m.own.map V.str))) (a := k2) (o := .lst ws2))
    have sA := ((s1.trans t1).trans t2).trans t3
    obtain ⟨o, u, v, us, vs, g1, g2, g3, g4, g5, g6, g7⟩ := (M.same sA).ex
    -- [m['by'], m['own'], m['winds']]
    refine ⟨_, rfl, _, rfl, d, _, rfl, mk_by g1, _, rfl, d, _, rfl, mk_own g1, _, rfl, d, _, rfl, mk_wd g1, (by show 3 ≤ sizeLine; decide), fun l2 n4 => ?_⟩
    have t4 := same_upd (o := .lst [.int m.last, .ref o, .ref u]) n4
    refine ⟨_, _, rfl, sm_three (t4 _ _ upd_same) upd_same (Sm.flat rfl) (sm_strs (t4 _ _ e1) (t4 _ _ g2) (by omega)) (sm_rows (t4 _ _ e2) (t4 _ _ g3) (r2.keep (Kt.of (((t2).trans t3).trans t4))) (g4.keep (Kt.of t4)) (by rw [List.length_map]; omega) (wd_flat _)), fun H5 s5 => ⟨_, rfl, iteF ?_⟩⟩
    -- found = [web.ties(), web.points(), len(web)]
    have sB := (sA.trans t4).trans s5
    have W5 := W.same sB
    obtain ⟨dx5, a5, b5, c5, ws5, bs5, f1, f2, f3, f4, f5, f6⟩ := W5.ex
    refine ⟨_, rfl, p, dx5, _, rfl, f1, wf_no (by decide +kernel), p, m, rfl, W5, fun bs6 k5 r6 n5 => ?_⟩
    have t5 := same_upd (o := .lst bs6) n5
    have W6 := W5.same t5
    refine ⟨_, rfl, p, dx5, _, rfl, t5 _ _ f1, wf_no (by decide +kernel), p, m, rfl, W6, fun k6 H6 s6 n6 e6 => ?_⟩
    have W7 := W6.same s6
    refine ⟨_, rfl, p, dx5, _, rfl, s6 _ _ (t5 _ _ f1), p, m, rfl, W7, fun H7 s7 => ⟨_, rfl, by omega, by omega, by show 3 ≤ sizeLine; decide, fun l5 n7 => ?_⟩⟩
    have t7 := same_upd (o := .lst [.ref k5, .ref k6, .int (m.pts.length : Nat)]) n7
    have sC := (((t5.trans s6).trans s7).trans t7)
    have ek5 := t7 _ _ (s7 _ _ (s6 _ _ (upd_same (H := H5) (a := k5) (o := .lst bs6))))
    have ek6 := t7 _ _ (s7 _ _ e6)
    have sD := sB.trans sC
    obtain ⟨o8, u8, v8, us8, vs8, j1, j2, j3, j4, j5, j6, j7⟩ := (M.same sD).ex
    have epl := sC _ _ (s5 _ _ (t4 _ _ (t3 _ _ (t2 _ _ (t1 _ _ hpl)))))
    refine ⟨_, rfl, _, rfl, d, _, rfl, mk_bd j1, _, rfl, _, rfl, pl, _, rfl, .inl (.inl (.inl epl)), (by show 3 ≤ sizeLine; decide), fun l6 n8 => ?_⟩
    have t8 := same_upd (o := .lst [.ref v8, .ref pl, .int ((m.pts.map V.str).length : Nat)]) n8
    refine ⟨_, _, rfl, sm_three (t8 _ _ upd_same) upd_same (sm_rows (t8 _ _ ek5) (t8 _ _ j5) (r6.keep (Kt.of (sC.trans t8))) (j6.keep (Kt.of t8)) (by rw [List.length_map]; omega) (bd_flat _)) (sm_strs (t8 _ _ ek6) (t8 _ _ epl) (by omega)) (by rw [List.length_map]; exact Sm.flat rfl), fun H9 s9 => ⟨_, rfl, iteF ?_⟩⟩
    -- the text
    have sE := (sD.trans t8).trans s9
    have epl9 := s9 _ _ (t8 _ _ epl)
    have W9 := W.same sE
    obtain ⟨dx9, a9, b9, c9, ws9, bs9, w1, w2, w3, w4, w5, w6⟩ := W9.ex
    obtain ⟨o9, u9, v9, us9, vs9, i1, i2, i3, i4, i5, i6, i7⟩ := (M.same sE).ex
    have hvs : vs9.length = m.bd.length := by rw [i6.len, List.length_map]
    have l0 : ("Web(" : Str).length ≤ 4 := by decide +kernel
    have l1 := num_le (i := (m.pts.length : Nat)) (by omega) (by omega)
    have l2 : (" points, " : Str).length ≤ 9 := by decide +kernel
    have l3 := num_le (i := (m.bd.length : Nat)) (by omega) (by omega)
    have l4 : (" ties, by " : Str).length ≤ 10 := by decide +kernel
    have l5 := num_le (i := m.last) (by omega) (by omega)
    have l6 : (")" : Str).length ≤ 1 := by decide +kernel
    have fits : ∀ {x y : Str} {i j : Nat}, x.length ≤ i → y.length ≤ j → i + j ≤ 1000 → x.length + y.length ≤ sizeLine := fun h1 h2 h3 => Nat.le_of_lt (small1000 (by omega))
    have m1 := app_le l0 l1
    have m2 := app_le m1 l2
    have m3 := app_le m2 l3
    have m4 := app_le m3 l4
    have m5 := app_le m4 l5
    refine ⟨_, rfl, pl, _, rfl, .inl (.inl (.inl epl9)), _, rfl, ?_, ?_⟩
    · rw [List.length_map]
      exact num_log (by omega) (by omega)
    · rw [List.length_map]
      refine ⟨_, _, rfl, rfl, fits l0 l1 (by decide), _, _, rfl, rfl, fits m1 l2 (by decide), ?_⟩
      refine ⟨_, rfl, _, rfl, d, _, rfl, mk_bd i1, v9, _, rfl, .inl (.inl (.inl i5)), _, rfl, by rw [hvs]; exact num_log (by omega) (by omega), ?_⟩
      rw [hvs]
      refine ⟨_, _, rfl, rfl, fits m2 l3 (by decide), _, _, rfl, rfl, fits m3 l4 (by decide), _, rfl, d, _, rfl, mk_by i1, _, rfl, num_log (by omega) (by omega), _, _, rfl, rfl, fits m4 l5 (by decide), _, _, rfl, rfl, fits m5 l6 (by decide), ?_⟩
      refine ⟨_, rfl, p, dx9, _, rfl, w1, p, m, rfl, W9, fun H10 s10 => ⟨_, rfl, _, rfl, _, _, rfl, sm_eq ?_ rfl, fun H11 s11 => q H11 ((sE.trans s10).trans s11)⟩⟩
      unfold webText
      rw [empty_web]
      rfl
end
end Tw

set_option maxHeartbeats 4000000
namespace Tw
open PySem PySem.Spec PyProof.Rows L2
section
variable {P : Program} {w : World} {K : PySem.W.Frag} {mg : Str → Option Value} {base : Heap}
/-! ### _law_whole -/
def sp_lwhole : Sp := fun vs H Q _ => ∃ (v : V) (lo hi : Int), vs = [v, .int lo, .int hi] ∧ (plK v).isSome = true ∧ Q (.bl (whB lo hi v)) H
theorem cal__law_whole (T : Tp K mg) : Cal P w K mg base 2 "_law_whole" sp_lwhole := by
  obtain ⟨fd, F⟩ := f__law_whole T
  refine cal_of F (g__law_whole T) (b__law_whole F) sc__law_whole (fun vs H Q E h => ?_) (fun cdv A outer s H vs Q E hr h => ?_)
  · obtain ⟨v, lo, hi, rfl, _⟩ := h
    rfl
  · obtain ⟨v, lo, hi, rfl, hk, q⟩ := h
    refine ⟨_, (pss_one (ps_ret (pe_and (pe_callB call_isK (by rfl) (z_isinstance T) bb_isinstance (pa_cons (pv 0) (pa_cons (pe_bltn (v := .ty "int") (by rfl) (z_int T) bb_int rfl) pa_nil))) (pe_and (pe_not (pe_callB call_isK (by rfl) (z_isinstance T) bb_isinstance (pa_cons (pv 0) (pa_cons (pe_bltn (v := .ty "bool") (by rfl) (z_bool T) bb_bool rfl) pa_nil)))) (pe_one (pe_chain op_le op_le (pv 1) (pv 0) (pv 2))))))), ?_⟩
    cases v with
    | non => exact ⟨_, rfl, _, "int", "NoneType", rfl, .base .non, by decide, by decide, _, rfl, iteF q⟩
    | bl b => exact ⟨_, rfl, _, "int", "bool", rfl, .base (.bl _), by decide, by decide, _, rfl, iteT ⟨_, rfl, _, "bool", "bool", rfl, .base (.bl _), by decide, by decide, _, rfl, _, rfl, iteF q⟩⟩
    | str z => exact ⟨_, rfl, _, "int", "str", rfl, .base (.str _), by decide, by decide, _, rfl, iteF q⟩
    | byt b => cases hk
    | flt b => cases hk
    | ref b => cases hk
    | ty b => cases hk
    | int i =>
      refine ⟨_, rfl, _, "int", "int", rfl, .base (.int _), by decide, by decide, _, rfl, iteT ⟨_, rfl, _, "bool", "int", rfl, .base (.int _), by decide, by decide, _, rfl, _, rfl, ?_⟩⟩
      refine iteT ⟨_, rfl, _, rfl, _, _, rfl, rfl, _, rfl, ite2 (fun e => ?_) (fun e => ?_)⟩
      · have e1 : lo ≤ i := of_decide_eq_true e
        refine ⟨_, rfl, _, _, rfl, rfl, ?_⟩
        have e2 : decide (lo ≤ i ∧ i ≤ hi) = decide (i ≤ hi) := by simp [e1]
        have q : Q (.bl (decide (lo ≤ i ∧ i ≤ hi))) H := q
        rw [e2] at q
        exact q
      · have e1 : ¬ lo ≤ i := fun z => e (decide_eq_true z)
        have e2 : decide (lo ≤ i ∧ i ≤ hi) = false := by simp [e1]
        have q : Q (.bl (decide (lo ≤ i ∧ i ≤ hi))) H := q
        rw [e2] at q
        exact q
end
end Tw

set_option maxHeartbeats 4000000
namespace Tw
open PySem PySem.Spec PyProof.Rows L2
section
variable {prog : Program} {w : World} {κ : Type} [DecidableEq κ] {knd : KeyKind prog w κ} {A : Around} {E : Value → Shared → Prop} {s : Shared}
/-- one key put into a dict -/
theorem put_one {d : Addr} {kvs : List (κ × Value)} {k : κ} {key v : Value} {Q : Unit → Shared → Prop} (hkey : knd.is k key = true) (hm : s.heap.DictOf knd d kvs) (few : kvs.length ≤ sizeLine)
    (hQ : ∀ h', h'.DictOf knd d (stored kvs k v) → Heap.SameBut d s.heap h' → Q () { s with heap := h' }) : wpAny (model prog w) A (dictPut d (knd.hash k) key v) Q E s := by
  obtain ⟨o, es, ep, at_, exact_, dat, keys, prs, nod⟩ := hm
  have len : es.toList.length = kvs.length := prs.length
  have ix : ∀ i, (es.findIdx? fun e => knd.is k e.key) = i → (kvs.findIdx? fun kv => decide (kv.1 = k)) = i := by
    intro i e
    rw [← prs.findIdx k, ← e]
    cases es
    simp
  unfold dictPut
  apply wpAny_bind
  apply wpAny_dictFind_of hkey at_ dat keys
  cases found : es.findIdx? fun e => knd.is k e.key with
  | none =>
    have out := not_mem_of_findIdx_none (ix _ found)
    have e : stored kvs k v = kvs ++ [(k, v)] := by
      unfold stored
      rw [if_neg]
      intro h
      obtain ⟨p, hp, e⟩ := List.any_eq_true.mp h
      exact out (List.mem_map.mpr ⟨p, hp, of_decide_eq_true e⟩)
    rw [e] at hQ
    apply wpAny_updateDictKeys at_ dat (hz := by rw [← Array.length_toList, len]; exact few)
    refine hQ _ ⟨_, _, ep + 1, Heap.get?_update_self _ at_ (Obj.isFreed_of_dict (Obj.data_mapDictKeys dat _)), exact_.mapDictKeys _, Obj.data_mapDictKeys dat _, keys.push hkey _, ?_, ?_⟩ (Heap.SameBut.update ..)
    · rw [Array.toList_push]
      exact prs.append hkey (knd.hash k) v
    · rw [List.map_append]
      refine List.nodup_append.mpr ⟨nod, List.nodup_cons.mpr ⟨List.not_mem_nil, List.nodup_nil⟩, fun x hx y hy e => ?_⟩
      rw [List.mem_singleton.mp hy] at e
      rw [e] at hx
      exact out hx
  | some i =>
    have any_ := any_of_findIdx_some (ix _ found)
    have e : stored kvs k v = kvs.map fun kv => if kv.1 = k then (kv.1, v) else kv := by
      unfold stored
      rw [if_pos any_]
    rw [e] at hQ
    apply wpAny_updateDict at_ dat
    refine hQ _ ⟨_, _, ep, Heap.get?_update_self _ at_ (Obj.isFreed_of_dict (Obj.data_mapDict dat _)), exact_.mapDict _, Obj.data_mapDict dat _, keys.modify _ _, ?_, ?_⟩ (Heap.SameBut.update ..)
    · have fl : (es.toList.findIdx? fun e => knd.is k e.key) = some i := by
        rw [← found]
        cases es
        simp
      have h := prs.modify nod fl v
      cases es
      simpa using h
    · rw [keys_map_store]
      exact nod
/-- a dict's entry at a place -/
theorem entry_of {es : Array DictEntry} {more : List (κ × Value)} (keys : KeysOf knd es) (prs : Pairs knd es.toList more) {i : Nat} (hi : i < more.length) : ∃ e, es[i]? = some e ∧ ∃ kv, more[i]? = some kv ∧ knd.is kv.1 e.key = true ∧ e.hash = knd.hash kv.1 ∧ e.val = kv.2 := by
  have hl : i < es.toList.length := by
    rw [prs.length]
    exact hi
  have e1 : es.toList[i]? = some es.toList[i] := List.getElem?_eq_getElem hl
  have e2 : more[i]? = some more[i] := List.getElem?_eq_getElem hi
  obtain ⟨h1, h2⟩ := prs.get? (k := more[i].1) (v := more[i].2) e1 e2
  obtain ⟨k', h3, h4⟩ := keys es.toList[i] (Array.mem_toList_iff.mp (List.getElem_mem hl))
  rw [knd.inj _ _ _ h3 h1] at h4
  exact ⟨_, by rw [← Array.getElem?_toList]; exact e1, _, e2, h1, h4, h2⟩
/-- a walk over an array that does nothing -/
theorem idle {α : Type} {f : α → PUnit → Sem (ForInStep PUnit)} : ∀ l : List α, (∀ e ∈ l, f e ⟨⟩ = pure (.yield ⟨⟩)) → forIn l PUnit.unit f = (pure PUnit.unit : Sem PUnit)
  | [], _ => rfl
  | a :: r, h => by
    rw [List.forIn_cons, h a List.mem_cons_self, pure_bind]
    exact idle r fun e he => h e (List.mem_cons_of_mem _ he)
/-- a walk over range(n), step by step -/
theorem steps {M : Model} {n : Nat} {f : Nat → PUnit → Sem (ForInStep PUnit)} {Q : PUnit → Shared → Prop} (P : Nat → Shared → Prop) (hs : ∀ i s, i < n → P i s → wpAny M A (f i ⟨⟩) (fun r s' => r = .yield ⟨⟩ ∧ P (i + 1) s') E s) (hq : ∀ s, P n s → Q ⟨⟩ s) :
    ∀ (m k : Nat) (s : Shared), k + m = n → P k s → wpAny M A (forIn (List.range' k m) PUnit.unit f) Q E s
  | 0, k, s, e, p => by
    have e : k = n := e
    subst e
    exact wpAny_pure (hq s p)
  | m + 1, k, s, e, p => by
    rw [List.range'_succ, List.forIn_cons]
    refine wpAny_bind (wpAny_mono (hs k s (by omega) p) (fun r s' h => ?_) (fun _ _ h => h))
    obtain ⟨rfl, p'⟩ := h
    exact steps P hs hq m (k + 1) s' (by omega) p'
theorem merge_one {d o : Addr} {kvs more : List (κ × Value)} {Q : Unit → Shared → Prop} (ne : d ≠ o) (ns : (o == sysModules) = false) (hd : s.heap.DictOf knd d kvs) (ho : s.heap.DictOf knd o more) (few : kvs.length + more.length ≤ sizeLine)
    (hQ : ∀ h', h'.DictOf knd d (merged kvs more) → h'.DictOf knd o more → Heap.SameBut d s.heap h' → Q () { s with heap := h' }) : wpAny (model prog w) A (mergeMapping d (.ref o) false) Q E s := by
  have ty := ho.typeIs
  obtain ⟨o1, es1, ep1, at1, x1, dat1, keys1, prs1, nod1⟩ := id hd
  obtain ⟨o2, es2, ep2, at2, x2, dat2, keys2, prs2, nod2⟩ := id ho
  have len2 : es2.size = more.length := by rw [← prs2.length, Array.length_toList]
  unfold mergeMapping
  refine wpAny_bind (wpAny_isInstance ty isSubtype_dict_dict ?_)
  rw [if_pos rfl]
  refine wpAny_bind (wpAny_specialOf ty F.slot_dict_iter.lookup ?_)
  refine wpAny_bind (wpAny_pure ?_)
  rw [beq_self_eq_true]
  dsimp only
  rw [if_neg (by rw [ns]; exact Bool.false_ne_true)]
  refine wpAny_bind (wpAny_dictEntries at1 dat1 ?_)
  have idl : ∀ {f : DictEntry → PUnit → Sem (ForInStep PUnit)}, (∀ e, carriedByValue e.key = true → f e ⟨⟩ = pure (.yield ⟨⟩)) → forIn es2 PUnit.unit f = (pure PUnit.unit : Sem PUnit) := by
    intro f hf
    rw [← Array.forIn_toList]
    refine idle _ fun e he => hf e ?_
    obtain ⟨k', hk', _⟩ := keys2 e (Array.mem_toList_iff.mp he)
    exact knd.byValue k' _ hk'
  by_cases hE : es1.isEmpty = true
  all_goals first | rw [if_pos hE] | rw [if_neg hE]
  any_goals
    refine wpAny_bind (wpAny_dictEntries at2 dat2 ?_)
    rw [idl fun e cb => by
      cases hv : e.key with
      | ref a =>
        rw [hv] at cb
        cases cb
      | _ => rfl]
    refine wpAny_bind (wpAny_pure ?_)
  all_goals
    refine wpAny_bind (wpAny_dictEntries at2 dat2 ?_)
    refine wpAny_bind (wpAny_dictEpoch at2 dat2 ?_)
    rw [List.range_eq_range']
    refine wpAny_bind (steps (n := es2.size) (fun i s' => ∃ h', s' = { s with heap := h' } ∧ h'.DictOf knd d (merged kvs (more.take i)) ∧ Heap.SameBut d s.heap h') ?_ ?_ es2.size 0 s (Nat.zero_add _) ⟨s.heap, rfl, hd, rfl, fun _ _ => rfl⟩)
    · rintro i s' hi ⟨h', rfl, di, sb⟩
      have at2' : h'.get? o = some o2 := by rw [sb.2 o ne.symm, at2]
      obtain ⟨e, he, kv, hkv, is_, hash_, val_⟩ := entry_of keys2 prs2 (by rw [← len2]; exact hi)
      refine wpAny_bind (wpAny_dictEntries (s := { s with heap := h' }) at2' dat2 ?_)
      rw [he]
      dsimp only
      rw [if_neg Bool.false_ne_true, hash_, val_]
      refine wpAny_bind (wpAny_holding (put_one is_ di ?_ fun h2 d2 sb2 => ?_))
      · have := merged_length_le kvs (more.take i)
        rw [List.length_take] at this
        omega
      · have at2'' : h2.get? o = some o2 := by rw [sb2.2 o ne.symm]; exact at2'
        refine wpAny_bind (wpAny_dictEpoch (s := { s with heap := h2 }) at2'' dat2 ?_)
        rw [if_neg (by simp)]
        refine wpAny_pure ⟨rfl, h2, rfl, ?_, sb2.1.trans sb.1, fun b hb => (sb2.2 b hb).trans (sb.2 b hb)⟩
        rw [merged_take_succ kvs more i kv hkv]
        exact d2
    · rintro s' ⟨h', rfl, di, sb⟩
      rw [len2, List.take_length] at di
      exact wpAny_pure (hQ h' di ⟨o2, es2, ep2, by rw [sb.2 o ne.symm, at2], x2, dat2, keys2, prs2, nod2⟩ sb)
end
section
variable {X : Cx}
/-- `{**a, key: value}`: a new dict takes what stands in a, then the pair, by way of a dict of its own -/
def tStarP (ta tk tv : TE) : TE := fun σ H Q => ∀ d, H d = none → ta σ (upd H d (.dK [])) fun x H1 => ∃ (a : Addr) (kvs : List (Key × V)), x = .ref a ∧ d ≠ a ∧ H1 a = some (.dK kvs) ∧ H1 d = some (.dK []) ∧ kvs.length < 1000 ∧
  ∀ e, upd H1 d (.dK (mergeK [] kvs)) e = none → tk σ (upd (upd H1 d (.dK (mergeK [] kvs))) e (.dK [])) fun y H2 => tv σ H2 fun z H3 => ∃ k : Key, y = kV k ∧ H3 e = some (.dK []) ∧ H3 d = some (.dK (mergeK [] kvs)) ∧ d ≠ e ∧
    Q (.ref d) (upd (upd H3 e (.dK [(k, z)])) d (.dK (putK (mergeK [] kvs) k z)))
/-- merging, told by the layer -/
theorem merge_at {pins : List (Addr × Obj)} {σ : L2.St} {H : Hp} {s : Shared} {d a : Addr} {kvs more : List (Key × V)} {A : Around} {E : Value → Shared → Prop} {Q : Unit → Shared → Prop} (I : Inv X pins σ H s) (hd : H d = some (.dK kvs)) (ha : H a = some (.dK more)) (ne : d ≠ a) (few : kvs.length + more.length ≤ sizeLine)
    (hQ : ∀ s', Inv X pins σ (upd H d (.dK (mergeK kvs more))) s' → Q () s') : wpAny (model X.prog X.w) A (mergeMapping d (.ref a) false) Q E s := by
  obtain ⟨z1, b1, vs1, r1, d1⟩ := dk_of I.hok hd
  obtain ⟨z2, b2, vs2, r2, d2⟩ := dk_of I.hok ha
  refine merge_one ne b2 d1 d2 (by rw [← r1.length, ← r2.length]; exact few) fun h' dd _ sb => hQ _ ?_
  have he : ∃ q, h'.get? d = some q := by
    obtain ⟨q, _, _, hq, _⟩ := dd
    exact ⟨q, hq⟩
  exact d_write (t' := s.toks) I (by rw [hd]; exact True.intro) sb he (dk_new (Nat.le_trans (length_mergeK more kvs) few) b1 (r2.merge r1) dd)
theorem pe_starP {ax kx vx : Expr} {pos : Pos} {ta tk tv : TE} (ha : PE X ax ta) (hp : PPs X pos [some kx] [vx] [(tk, tv)]) : PE X (.Dict [none, some kx] [ax, vx] pos) (tStarP ta tk tv) := by
  constructor
  intro pins s σ H Q I q
  rw [arm_eval_Dict]
  apply wpAny_bind
  apply wpAny_standAt
  show wpAny _ _ (dictDisplay [(none, do let x ← eval ax X.env; standAt pos; pure x), (some (eval kx X.env), do let x ← eval vx X.env; standAt pos; pure x)]) _ _ _
  unfold dictDisplay
  dsimp only
  rw [List.forIn_cons]
  simp only [List.isEmpty_nil, if_true, pure_bind, bind_assoc]
  apply wpAny_bind
  apply wpAny_alloc
  have nd := I.hok.fresh (Nat.le_refl s.heap.objs.size)
  have I1 := I.laid (a := s.heap.objs.size) (o := .dK []) (h' := s.heap.push { cls := .type "dict", data := .dict #[] }) (t' := s.toks) (fun _ _ z => Heap.get?_push_of_some _ z) (Nat.le_refl _) (dk_empty s.heap I.big)
  generalize s.heap.objs.size = d at nd I1 ⊢
  apply wpAny_bind
  apply wpAny_holding
  apply wpAny_bind
  refine thn (ha.run pins _ σ _ _ I1 (q d nd)) ?_
  rintro u s2 ⟨x, H1, I2, rx, a, kvs, rfl, nda, hA, hD, few, q1⟩
  cases rx
  apply wpAny_bind
  apply wpAny_standAt
  apply wpAny_pure
  have big : sizeLine = 16777216 := sizeLine_eq
  apply wpAny_bind
  refine wpAny_onRaise (wpAny_tryCatch (wpAny_onRaise (wpAny_holding (merge_at (kvs := []) I2 hD hA nda (by show 0 + kvs.length ≤ sizeLine; omega) fun s3 I3 => ?_))))
  rw [List.forIn_cons]
  simp only [List.nil_append, pure_bind, bind_assoc, List.forIn_nil]
  rw [if_neg (by show ¬ ((1 : Nat) == 17) = true; decide), pure_bind]
  dsimp only
  rw [pure_bind]
  dsimp only
  rw [if_neg (by show ¬ false = true; decide)]
  simp only [bind_assoc, pure_bind]
  apply wpAny_bind
  apply wpAny_holding
  have ne := I3.hok.fresh (Nat.le_refl s3.heap.objs.size)
  have I4 := I3.laid (a := s3.heap.objs.size) (o := .dK []) (h' := s3.heap.push { cls := .type "dict", data := .dict #[] }) (t' := s3.toks) (fun _ _ z => Heap.get?_push_of_some _ z) (Nat.le_refl _) (dk_empty s3.heap I3.big)
  refine wpAny_subDict (knd := mixKind X.prog X.w) (by show 1 ≤ 15; decide) (thn (hp.run pins _ σ _ (fun ps H3 => match ps with
    | [(y, z)] => ∃ k : Key, y = kV k ∧ H3 s3.heap.objs.size = some (.dK []) ∧ H3 d = some (.dK (mergeK [] kvs)) ∧ d ≠ s3.heap.objs.size ∧ Q (.ref d) (upd (upd H3 s3.heap.objs.size (.dK [(k, z)])) d (.dK (putK (mergeK [] kvs) k z)))
    | _ => False) I4 (q1 _ ne)) ?_)
  rintro ws s5 ⟨ps, H3, I5, rel, q5⟩
  match ps, rel, q5 with
  | [], _, q5 => exact q5.elim
  | _ :: _ :: _, _, q5 => exact q5.elim
  | [(y, z)], rel, q5 =>
    obtain ⟨k, rfl, hE, hD3, nde, q3⟩ := q5
    obtain ⟨rs, c, rk⟩ := carries_of (P := X.prog) (w := X.w) (kvs := [(k, z)]) rel
    obtain ⟨_, bE, vs0, r0, dd⟩ := dk_of I5.hok hE
    cases r0
    refine ⟨rs, c, dd, fun h' dd' sb => ?_⟩
    have he : ∃ q, h'.get? s3.heap.objs.size = some q := by
      obtain ⟨q, _, _, hq, _⟩ := dd'
      exact ⟨q, hq⟩
    have I6 := d_write (t' := s5.toks + ws.length) I5 (by rw [hE]; exact True.intro) sb he (dk_new (kvs := [(k, z)]) (by show 1 ≤ sizeLine; omega) bE (rk.merge .nil) dd')
    apply wpAny_bind
    refine wpAny_onRaise (wpAny_holding (merge_at (kvs := mergeK [] kvs) (more := [(k, z)]) I6 (by rw [upd_ne nde]; exact hD3) upd_same nde ?_ fun s7 I7 => wpAny_pure ⟨.ref d, _, I7, rfl, q3⟩))
    have := length_mergeK kvs []
    show (mergeK [] kvs).length + 1 ≤ sizeLine
    rw [List.length_nil] at this
    omega
/-- `{**a, **b}` -/
def tStarS (ta tb : TE) : TE := fun σ H Q => ∀ d, H d = none → ta σ (upd H d (.dK [])) fun x H1 => ∃ (a : Addr) (kvs : List (Key × V)), x = .ref a ∧ d ≠ a ∧ H1 a = some (.dK kvs) ∧ H1 d = some (.dK []) ∧ kvs.length < 1000 ∧
  tb σ (upd H1 d (.dK (mergeK [] kvs))) fun y H2 => ∃ (b : Addr) (more : List (Key × V)), y = .ref b ∧ d ≠ b ∧ H2 b = some (.dK more) ∧ H2 d = some (.dK (mergeK [] kvs)) ∧ more.length < 1000 ∧ Q (.ref d) (upd H2 d (.dK (mergeK (mergeK [] kvs) more)))
theorem pe_starS {ax bx : Expr} {pos : Pos} {ta tb : TE} (ha : PE X ax ta) (hb : PE X bx tb) : PE X (.Dict [none, none] [ax, bx] pos) (tStarS ta tb) := by
  constructor
  intro pins s σ H Q I q
  rw [arm_eval_Dict]
  apply wpAny_bind
  apply wpAny_standAt
  show wpAny _ _ (dictDisplay [(none, do let x ← eval ax X.env; standAt pos; pure x), (none, do let x ← eval bx X.env; standAt pos; pure x)]) _ _ _
  unfold dictDisplay
  dsimp only
  rw [List.forIn_cons]
  simp only [List.isEmpty_nil, if_true, pure_bind, bind_assoc]
  apply wpAny_bind
  apply wpAny_alloc
  have nd := I.hok.fresh (Nat.le_refl s.heap.objs.size)
  have I1 := I.laid (a := s.heap.objs.size) (o := .dK []) (h' := s.heap.push { cls := .type "dict", data := .dict #[] }) (t' := s.toks) (fun _ _ z => Heap.get?_push_of_some _ z) (Nat.le_refl _) (dk_empty s.heap I.big)
  generalize s.heap.objs.size = d at nd I1 ⊢
  have big : sizeLine = 16777216 := sizeLine_eq
  apply wpAny_bind
  apply wpAny_holding
  apply wpAny_bind
  refine thn (ha.run pins _ σ _ _ I1 (q d nd)) ?_
  rintro u s2 ⟨x, H1, I2, rx, a, kvs, rfl, nda, hA, hD, few, q1⟩
  cases rx
  apply wpAny_bind
  apply wpAny_standAt
  apply wpAny_pure
  apply wpAny_bind
  refine wpAny_onRaise (wpAny_tryCatch (wpAny_onRaise (wpAny_holding (merge_at (kvs := []) I2 hD hA nda (by show 0 + kvs.length ≤ sizeLine; omega) fun s3 I3 => ?_))))
  rw [List.forIn_cons]
  simp only [List.isEmpty_nil, if_true, pure_bind, bind_assoc, List.forIn_nil]
  apply wpAny_bind
  apply wpAny_holding
  apply wpAny_bind
  refine thn (hb.run pins _ σ _ _ I3 q1) ?_
  rintro u s4 ⟨y, H2, I4, ry, b, more, rfl, ndb, hB, hD2, few2, q2⟩
  cases ry
  apply wpAny_bind
  apply wpAny_standAt
  apply wpAny_pure
  apply wpAny_bind
  have lm := length_mergeK kvs []
  rw [List.length_nil] at lm
  refine wpAny_onRaise (wpAny_tryCatch (wpAny_onRaise (wpAny_holding (merge_at I4 hD2 hB ndb (by omega) fun s5 I5 => ?_))))
  exact wpAny_pure ⟨.ref d, _, I5, rfl, q2⟩
/-- a list walked within a comprehension -/
theorem pi_listK {K : PySem.W.Frag} (h : X.K = K) {tg e : Expr} {te : TE} (he : PE X e te) : PI X tg e (iList K te) := by
  subst h
  exact pi_list he
end
end Tw

set_option maxHeartbeats 4000000
/-! `x = {key: value for target in walk}`: a dict comprehension kept by a name -/
namespace Tw
open PySem PySem.Spec PyProof.Rows L2
section
variable {X : Cx}
/-- what the parts of a dict comprehension promise -/
structure DcB (X : Cx) (kx vx tg iter : Expr) (ifs : List Expr) (sc : Scope) (own : List (Str × Nat)) (wi : TI) (g : TG) (tt : TT) (tk tv : TE) : Prop where
  calm : X.calm = true
  nod : X.N.Nodup
  walk : PI X tg iter wi
  blk : BlkOk X.N X.env.scope sc own
  tgt : ∀ s H C cl fp, PG (X.blk s H sc (compEnvC sc cl C X.env) fp) tg g
  tst : ∀ s H C cl fp, PTs (X.blk s H sc (compEnvC sc cl C X.env) fp) ifs tt
  key : ∀ s H C cl fp, PE (X.blk s H sc (compEnvC sc cl C X.env) fp) kx tk
  val : ∀ s H C cl fp, PE (X.blk s H sc (compEnvC sc cl C X.env) fp) vx tv
  raw : ∀ x, foldedSetIterable iter X.env x = pure x := by intro _; rfl
/-- the name takes it, where it is a local of a def, on the comprehension's row, and none of its own -/
structure DcY (X : Cx) (i : Nat) (y : Str) (sc : Scope) (py pos : Pos) : Prop where
  at_ : X.N[i]? = some y
  loc : X.env.scope.names.lookup y = some .local
  fn : X.env.scope.kind = .function
  row : (py.line == pos.line) = true
  own : (sc.names.any fun (n, k) => n == y && (k == .local || k == .cell)) = false
theorem ps_dcs {i : Nat} {y : Str} {py pos spos : Pos} {kx vx tg iter : Expr} {ifs : List Expr} {sc : Scope} {own : List (Str × Nat)} {wi : TI} {g : TG} {tt : TT} {tk tv : TE} (Y : DcY X i y sc py pos) (B : DcB X kx vx tg iter ifs sc own wi g tt tk tv) :
    PS X (.Assign [.Name y py] (.DictComp kx vx [⟨tg, iter, ifs, 0⟩] sc pos) spos) (tAsg (tDc wi g tt tk tv (own.map (·.2))) (gName i)) := by
  have sw : swapsWith (.DictComp kx vx [⟨tg, iter, ifs, 0⟩] sc pos) (some (.Name y py)) spos.line X.env = pure true := by
    have e1 : (X.env.kindOf y == some .local) = true := by
      rw [show X.env.kindOf y = some .local from Y.loc]
      rfl
    have e2 : (X.env.blockKind == .function) = true := by
      unfold Env.blockKind
      rw [Y.fn]
      rfl
    show (pure (X.env.blockKind == .function && X.env.kindOf y == some .local && py.line == pos.line && !(sc.names.any fun (n, k) => n == y && (k == .local || k == .cell))) : Sem Bool) = pure true
    rw [e1, e2, Y.row, Y.own]
    rfl
  constructor
  intro pins s σ H D I h
  rw [exec_Assign_Name_used _ _ _ _ sw]
  apply wpAny_bind
  apply wpAny_standAt
  apply wpAny_bind
  refine wpAny_bind (wpAny_mono (dc_core (use := some (assign (.Name y py) X.env)) (Qf := fun _ s' => SP X pins D .next s') B.calm B.nod I B.walk B.blk B.tgt B.tst B.key B.val B.raw h ?_) (fun _ s' hq => wpAny_pure (wpAny_pure hq)) (fun _ _ hx => hx))
  intro d C s' n H' I' q ns fp
  have hm : FpOk X pins H' C := fp
  obtain ⟨m0, m1, _, m3, m4, m5⟩ := fp
  refine wpAny_assign_Name (store_ok2 (v := V.ref d) I' B.nod Y.at_ (.inl Y.loc) rfl (fun s2 I2 kept => ?_) (.inr Y.loc))
  obtain ⟨a, sb, ha⟩ := kept
  have nC : C ≠ a := by
    intro e
    rcases ha with z | z
    · exact m1 (e.trans z)
    · exact m4 y a z e.symm
  exact ⟨n, ns.sameBut sb nC, fun h3 sb3 => ⟨_, H', I2.turned (t' := s2.toks) (fun b o hb e => (sb3.2 b hb).trans e) m0 m1 m3 m4 m5, q⟩⟩
/-- a dict comprehension over any walk: what stands at D turn by turn -/
theorem dc_walk {J : It} {n : Nat} {G : Hp → Prop} {Y : Nat → Hp → V → Hp → Prop} (w : Walk J n G Y) {g : TG} {tt : TT} {tk tv : TE} {vs : List Nat} {σ : L2.St} {H1 : Hp} {D : Addr} {Qd : Hp → Prop} (Pv : Nat → Hp → Prop)
    (h0 : Pv 0 (upd H1 D (.dK []))) (hG : ∀ i H, i ≤ n → Pv i H → G H)
    (hs : ∀ i x H H', i < n → Pv i H → Y i H x H' → g x (wipe σ vs) H' fun σ2 H2 => wipe σ2 vs = wipe σ vs ∧ tt σ2 H2 fun c H3 => if c = true then tk σ2 H3 fun y H4 => tv σ2 H4 fun z H5 => ∃ kvs k, y = kV k ∧ H5 D = some (.dK kvs) ∧ kvs.length < sizeLine ∧ Pv (i + 1) (upd H5 D (.dK (putK kvs k z))) else Pv (i + 1) H3)
    (hd : ∀ H, Pv n H → Qd H) :
    ∃ W : Nat → Nat → Hp → Prop, (∃ m, W 0 m (upd H1 D (.dK []))) ∧ ∀ i m H, W i m H → (J.stop i H ∧ Qd H) ∨ (J.go i H ∧ ∃ Nx : Hp → Prop, (∀ H', Nx H' → ∃ m', m' < m ∧ W (i + 1) m' H') ∧
      ∀ x H', J.yld i H x H' → g x (wipe σ vs) H' fun σ2 H2 => wipe σ2 vs = wipe σ vs ∧ tt σ2 H2 fun c H3 => if c = true then tk σ2 H3 fun y H4 => tv σ2 H4 fun z H5 => ∃ kvs k, y = kV k ∧ H5 D = some (.dK kvs) ∧ kvs.length < sizeLine ∧ Nx (upd H5 D (.dK (putK kvs k z))) else Nx H3) := by
  refine ⟨fun i m H => i + m = n ∧ Pv i H, ⟨n, Nat.zero_add n, h0⟩, fun i m H hW => ?_⟩
  obtain ⟨e, p⟩ := hW
  cases m with
  | zero =>
    have e : i = n := e
    subst e
    exact .inl ⟨w.stops H (hG i H (Nat.le_refl i) p), hd H p⟩
  | succ m =>
    have hi : i < n := by omega
    exact .inr ⟨w.goes i H hi (hG i H (Nat.le_of_lt hi) p), Pv (i + 1), fun H' p' => ⟨m, Nat.lt_succ_self m, by omega, p'⟩, fun x H' y => hs i x H H' hi p (w.yields i H x H' hi (hG i H (Nat.le_of_lt hi) p) y)⟩
end
end Tw

set_option maxHeartbeats 4000000
namespace Tw
open PySem PySem.Spec PyProof.Rows L2
/-! play.py: hearing and doing, tick by tick -/
def row4 (L : Str → Int) (x : Wd) : List V := [.str x.en, .str x.bg, .int (L x.en), oV x.la]
theorem heard_len (L : Str → Int) (t : Int) (D : Dct) : ∀ (wd : List Wd) (h : Dct), (hearA L wd t D h).length ≤ h.length + wd.length
  | [], _ => Nat.le_refl _
  | x :: r, h => by
    have := heard_len L t D r (heard1 L t D h x)
    have l : (heard1 L t D h x).length ≤ h.length + 1 := by
      unfold heard1
      split
      · split
        · exact length_putK _ _ _
        · omega
      · omega
    show (hearA L r t D (heard1 L t D h x)).length ≤ _
    rw [List.length_cons]
    omega
theorem do_len (t : Int) : ∀ (ns : List Str) (D : Dct), (doA t D ns).length ≤ D.length + ns.length
  | [], _ => Nat.le_refl _
  | z :: r, D => by
    have := do_len t r (putK D (kS z) (.int t))
    have l := length_putK D (kS z) (.int t)
    show (doA t (putK D (kS z) (.int t)) r).length ≤ _
    rw [List.length_cons]
    omega
theorem sb_putF {H H1 : Hp} {f : Addr} {o : HO} (s : Sb f H H1) : Sb f H (upd H1 f o) := fun b x e n => by
  rw [upd_ne n]
  exact s b x e n
section
variable {P : Program} {w : World} {K : PySem.W.Frag} {mg : Str → Option Value} {base : Heap}
def sp_hear : Sp := fun vs H Q _ => ∃ (S D Hd : Addr) (t : Int) (L : Str → Int) (wd : List Wd) (ws : List V) (Dk hk : Dct), vs = [.ref S, .ref D, .ref Hd, .int t] ∧ H S = some (.lst ws) ∧ Rows H ws (wd.map (row4 L)) ∧ H D = some (.dK Dk) ∧ H Hd = some (.dK hk) ∧ D ≠ Hd ∧
  (∀ k v, valV Dk k = some v → ∃ b : Int, v = .int b) ∧ hk.length + wd.length ≤ 1000 ∧ ∀ H', Sb Hd H H' → H' Hd = some (.dK (hearA L wd t Dk hk)) → Q .non H'
theorem cal_hear_all (T : Tp K mg) : Cal P w K mg base 1 "hear_all" sp_hear := by
  obtain ⟨fd, F⟩ := f_hear_all T
  refine cal_of F (g_hear_all T) (b_hear_all F) sc_hear_all (fun vs H Q E h => ?_) (fun cdv A outer s H vs Q E hr h => ?_)
  · obtain ⟨S, D, Hd, t, L, wd, ws, Dk, hk, rfl, _⟩ := h
    rfl
  · obtain ⟨S, D, Hd, t, L, wd, ws, Dk, hk, rfl, hS, R, hD, hH, nDH, iD, few, q⟩ := h
    have hu := hu_of hr
    refine ⟨_, (pss_one (ps_for PassesOwn.never rfl (pi_list (pv 0)) (pg_tup rfl (pgs_cons (pg_name (i := 4) sc_hear_all.nd rfl (.inl rfl)) (pgs_cons (pg_name (i := 5) sc_hear_all.nd rfl (.inl rfl)) (pgs_cons (pg_name (i := 6) sc_hear_all.nd rfl (.inl rfl)) (pgs_cons (pg_name (i := 7) sc_hear_all.nd rfl (.inl rfl)) pgs_nil)))))
        (pss_one (ps_if (PW.pt (pw_and (pt_cmpR op_notN (pv 7) pe_non (nomark _)) (pw_and (pt_cmp (pc_din hu (pv 5) (pv 1)) (by rfl)) (pw_and1 (pt_cmpR op_eq (pe_op op_add (pe_op op_add (pe_dget hu (pv 1) (pv 5) (fun _ _ => rfl)) (pv 6)) (pv 7)) (pv 3) (nomark _)))))) (pss_one (ps_asg (pv 3) (pg_sub (pv 2) (pv 4) (set_dict hu)))) pss_nil)))), ?_⟩
    have lw : ws.length = wd.length := by rw [R.len, List.length_map]
    have nS : S ≠ Hd := fun e => by
      rw [e, hH] at hS
      cases hS
    refine ⟨_, rfl, S, rfl, ⟨_, .inl (.inl hS)⟩, for_list (K := K) (a := S) (xs := ws) (fun i σ H' => ∃ y4 y5 y6 y7 : Option V, σ = [some (.ref S), some (.ref D), some (.ref Hd), some (.int t), y4, y5, y6, y7] ∧ Sb Hd H H' ∧ H' Hd = some (.dK (hearA L (wd.take i) t Dk hk))) ⟨none, none, none, none, rfl, (fun b o e _ => e), hH⟩ (fun i σ H' _ ⟨_, _, _, _, _, s, _⟩ => .inl (.inl (s _ _ hS nS))) ?_ ?_⟩
    · rintro i v σ H1 hv ⟨y4, y5, y6, y7, rfl, s1, h1⟩
      obtain ⟨r, er, tt, rfl, ht⟩ := paired_at R hv
      rw [List.getElem?_map] at er
      obtain ⟨x, ex, rfl⟩ : ∃ x, wd[i]? = some x ∧ row4 L x = r := by
        cases z : wd[i]? with
        | none => rw [z] at er; cases er
        | some x => exact ⟨x, rfl, by rw [z] at er; exact Option.some.inj er⟩
      have tk1 : wd.take (i + 1) = wd.take i ++ [x] := by rw [List.take_add_one, ex]; rfl
      have nT : tt ≠ Hd := fun e => by
        rw [e, hH] at ht
        cases ht
      have ht1 := s1 _ _ ht nT
      have hD1 := s1 _ _ hD nDH
      have li : i < wd.length := (List.getElem?_eq_some_iff.mp ex).1
      have lh := heard_len L t Dk (wd.take i) hk
      rw [List.length_take] at lh
      rw [tk1, hear_snoc]
      have still : heard1 L t Dk (hearA L (wd.take i) t Dk hk) x = hearA L (wd.take i) t Dk hk → ∃ y4 y5 y6 y7 : Option V, [some (V.ref S), some (V.ref D), some (V.ref Hd), some (V.int t), some (V.str x.en), some (V.str x.bg), some (V.int (L x.en)), some (oV x.la)] = [some (.ref S), some (.ref D), some (.ref Hd), some (.int t), y4, y5, y6, y7] ∧ Sb Hd H H1 ∧ H1 Hd = some (.dK (heard1 L t Dk (hearA L (wd.take i) t Dk hk) x)) := fun e => ⟨_, _, _, _, rfl, s1, by rw [e]; exact h1⟩
      refine ⟨tt, _, rfl, .inl (.inl ht1), rfl, _, _, rfl, _, _, rfl, _, _, rfl, _, _, rfl, rfl, ?_⟩
      cases la : x.la with
      | none =>
        have e0 : heard1 L t Dk (hearA L (wd.take i) t Dk hk) x = hearA L (wd.take i) t Dk hk := by
          unfold heard1
          rw [la]
        rw [la] at still
        exact ⟨_, rfl, rfl, _, rfl, iteF (iteF (still e0))⟩
      | some k =>
        rw [la] at still
        refine ⟨_, rfl, rfl, _, rfl, iteT ⟨_, rfl, _, rfl, D, _, rfl, .k (k := kS x.bg) hD1, ?_⟩⟩
        cases eb : valV Dk (kS x.bg) with
        | none =>
          have e0 : heard1 L t Dk (hearA L (wd.take i) t Dk hk) x = hearA L (wd.take i) t Dk hk := by
            unfold heard1
            rw [la, eb]
          exact ⟨_, rfl, iteF (iteF (still e0))⟩
        | some v =>
          obtain ⟨b, rfl⟩ := iD _ _ eb
          refine ⟨_, rfl, iteT ⟨_, rfl, _, rfl, D, _, rfl, by rw [← eb]; exact .k (k := kS x.bg) hD1, _, rfl, _, _, rfl, rfl, _, rfl, _, _, rfl, rfl, _, rfl, rfl, _, rfl, ?_⟩⟩
          by_cases c : b + L x.en + k = t
          · have e1 : heard1 L t Dk (hearA L (wd.take i) t Dk hk) x = putK (hearA L (wd.take i) t Dk hk) (kS x.en) (.int t) := by
              unfold heard1
              rw [la, eb]
              exact if_pos c
            rw [decide_eq_true (show V.int (b + L x.en + k) = V.int t by rw [c])]
            rw [e1]
            refine iteT ⟨_, rfl, _, rfl, _, rfl, Hd, _, rfl, .k (k := kS x.en) h1 (small1000 (by omega)), ?_⟩
            exact ⟨_, _, _, _, rfl, sb_putF s1, upd_same⟩
          · have e0 : heard1 L t Dk (hearA L (wd.take i) t Dk hk) x = hearA L (wd.take i) t Dk hk := by
              unfold heard1
              rw [la, eb]
              exact if_neg c
            rw [decide_eq_false (show ¬ V.int (b + L x.en + k) = V.int t from fun e => c (V.int.inj e))]
            exact iteF (still e0)
    · rintro σ H1 ⟨y4, y5, y6, y7, rfl, s1, h1⟩
      rw [lw, List.take_length] at h1
      exact q H1 s1 h1
def sp_do (K : PySem.W.Frag) : Sp := fun vs H Q _ => ∃ (p D N : Addr) (t : Int) (m : Md) (ns : List Str) (Dk : Dct), vs = [.ref p, .ref D, .ref N, .int t] ∧ WebAt (CW K) H p m ∧ H D = some (.dK Dk) ∧ H N = some (.lst (ns.map V.str)) ∧ ns.Nodup ∧ (∀ z ∈ ns, z ∈ m.own ∧ valV Dk (kS z) = none) ∧ Dk.length + ns.length ≤ 1000 ∧
  ∀ H', Sb D H H' → H' D = some (.dK (doA t Dk ns)) → Q .non H'
theorem cal_do_all (T : Tp K mg) : Cal P w K mg base 3 "do_all" (sp_do K) := by
  obtain ⟨fd, F⟩ := f_do_all T
  refine cal_of F (g_do_all T) (b_do_all F) sc_do_all (fun vs H Q E h => ?_) (fun cdv A outer s H vs Q E hr h => ?_)
  · obtain ⟨p, D, N, t, m, ns, Dk, rfl, _⟩ := h
    rfl
  · obtain ⟨p, D, N, t, m, ns, Dk, rfl, W, hD, hN, nd, fresh, few, q⟩ := h
    have hu := hu_of hr
    obtain ⟨dx, a, b, c, ws, bs, hp, _⟩ := W.ex
    refine ⟨_, (pss_cons (ps_set (i := 4) sc_do_all.nd rfl (.inl rfl) (C8.pe_mt0 (met_Web_moments T) hr (by decide) (pv 0)))
      (pss_one (ps_for PassesOwn.never rfl (pi_list (pv 2)) (pg_name (i := 5) sc_do_all.nd rfl (.inl rfl))
        (pss_cons (ps_if (PW.pt (pw_or (pt_not (pt_val (C8.pe_c (cal_is_one_of T) hr (by decide) rfl (pa_cons (pv 5) (pa_cons (pv 4) pa_nil))))) (pw_or1 (pt_cmp (pc_din hu (pv 5) (pv 1)) (by rfl))))) (pss_one ps_never) pss_nil)
        (pss_one (ps_asg (pv 3) (pg_sub (pv 1) (pv 5) (set_dict hu)))))))), ?_⟩
    refine ⟨_, rfl, p, dx, _, rfl, hp, rfl, p, m, rfl, W, fun M nM => ?_⟩
    have sM := same_upd (o := .lst (m.own.map V.str)) nM
    have hM : upd H M (.lst (m.own.map V.str)) M = some (.lst (m.own.map V.str)) := upd_same
    have hD1 := sM _ _ hD
    have hN1 := sM _ _ hN
    have nDM : M ≠ D := fun e => by
      rw [e, hD] at nM
      cases nM
    have nDN : N ≠ D := fun e => by
      rw [e, hD] at hN
      cases hN
    refine ⟨_, rfl, N, rfl, ⟨_, .inl (.inl hN1)⟩, for_list (K := K) (a := N) (xs := ns.map V.str) (fun i σ H' => ∃ y5 : Option V, σ = [some (.ref p), some (.ref D), some (.ref N), some (.int t), some (.ref M), y5] ∧ Sb D (upd H M (.lst (m.own.map V.str))) H' ∧ H' D = some (.dK (doA t Dk (ns.take i)))) ⟨none, rfl, (fun b o e _ => e), hD1⟩ (fun i σ H' _ ⟨_, _, s, _⟩ => .inl (.inl (s _ _ hN1 nDN))) ?_ ?_⟩
    · rintro i v σ H1 hv ⟨y5, rfl, s1, h1⟩
      rw [List.getElem?_map] at hv
      obtain ⟨z, ez, rfl⟩ : ∃ z, ns[i]? = some z ∧ V.str z = v := by
        cases y : ns[i]? with
        | none => rw [y] at hv; cases hv
        | some z => exact ⟨z, rfl, by rw [y] at hv; exact Option.some.inj hv⟩
      have hz := List.mem_of_getElem? ez
      have li : i < ns.length := (List.getElem?_eq_some_iff.mp ez).1
      have tk1 : ns.take (i + 1) = ns.take i ++ [z] := by rw [List.take_add_one, ez]; rfl
      have no : valV (doA t Dk (ns.take i)) (kS z) = none := by
        rw [do_val t _ _ _ fun y hy e => ?_]
        · exact (fresh z hz).2
        · obtain ⟨j, hj⟩ := List.mem_iff_getElem?.1 hy
          have jl : j < i := by
            have := (List.getElem?_eq_some_iff.mp hj).1
            rw [List.length_take] at this
            omega
          rw [List.getElem?_take_of_lt jl] at hj
          have e2 : y = z := kS_eq e
          rw [e2] at hj
          have := nodup_ix nd hj ez
          omega
      have ld := do_len t (ns.take i) Dk
      rw [List.length_take] at ld
      refine ⟨_, rfl, _, rfl, z, M, m.own, rfl, s1 _ _ hM nDM, ?_⟩
      rw [decide_eq_true (fresh z hz).1]
      refine ⟨_, rfl, iteF ⟨_, rfl, _, rfl, D, _, rfl, .k (k := kS z) h1, _, rfl, ?_⟩⟩
      rw [no]
      refine iteF ⟨_, rfl, _, rfl, _, rfl, D, _, rfl, .k (k := kS z) h1 (small1000 (by omega)), ?_⟩
      refine ⟨_, rfl, sb_putF s1, ?_⟩
      rw [upd_same, tk1, do_snoc]
    · rintro σ H1 ⟨y5, rfl, s1, h1⟩
      rw [List.length_map, List.take_length] at h1
      exact q H1 (fun b o e n => s1 b o (sM _ _ e) n) h1
def sp_needl (K : PySem.W.Frag) : Sp := fun vs H Q _ => ∃ (p l : Addr) (m : Md) (L : Str → Int) (lv : Dct), vs = [.ref p, .ref l] ∧ WebAt (CW K) H p m ∧ H l = some (.dK lv) ∧ (∀ x ∈ m.wd, valV lv (kS x.en) = some (.int (L x.en)) ∧ x.lo ≤ L x.en ∧ L x.en ≤ x.hi) ∧ ∀ H', Same H H' → Q .non H'
theorem cal_need_lengths (T : Tp K mg) : Cal P w K mg base 3 "need_lengths" (sp_needl K) := by
  obtain ⟨fd, F⟩ := f_need_lengths T
  refine cal_of F (g_need_lengths T) (b_need_lengths F) sc_need_lengths (fun vs H Q E h => ?_) (fun cdv A outer s H vs Q E hr h => ?_)
  · obtain ⟨p, l, m, L, lv, rfl, _⟩ := h
    rfl
  · obtain ⟨p, l, m, L, lv, rfl, W, hl, good, q⟩ := h
    have hu := hu_of hr
    have step : ∀ {ws : List V} {H1 : Hp} {i : Nat} {v : V}, Rows H1 ws (m.wd.map Wd.row) → ws[i]? = some v → ∃ (x : Wd) (tt : Addr), x ∈ m.wd ∧ v = .ref tt ∧ H1 tt = some (.tup x.row) := fun {ws H1 i v} R hv => by
      obtain ⟨r, er, tt, e, ht⟩ := paired_at R hv
      obtain ⟨x, hx, ex⟩ := List.mem_map.1 (List.mem_of_getElem? er)
      exact ⟨x, tt, hx, e, by rw [ex]; exact ht⟩
    obtain ⟨dx, a, b, c, ws0, bs, hp, _⟩ := W.ex
    refine ⟨_, (pss_cons (ps_for PassesOwn.never rfl (pi_list (C8.pe_mt0 (met_Web_spans T) hr (by decide) (pv 0))) (pg_tup rfl (pgs_cons (pg_name (i := 2) sc_need_lengths.nd rfl (.inl rfl)) (pgs_cons (pg_name (i := 3) sc_need_lengths.nd rfl (.inl rfl)) (pgs_cons (pg_name (i := 4) sc_need_lengths.nd rfl (.inl rfl)) (pgs_cons (pg_name (i := 5) sc_need_lengths.nd rfl (.inl rfl)) (pgs_cons (pg_name (i := 6) sc_need_lengths.nd rfl (.inl rfl)) pgs_nil))))))
        (pss_one (ps_if (pt_cmp (pc_dnotin hu (pv 2) (pv 1)) (by rfl)) (pss_one ps_never) pss_nil)))
      (pss_one (ps_for PassesOwn.never rfl (pi_list (C8.pe_mt0 (met_Web_spans T) hr (by decide) (pv 0))) (pg_tup rfl (pgs_cons (pg_name (i := 2) sc_need_lengths.nd rfl (.inl rfl)) (pgs_cons (pg_name (i := 3) sc_need_lengths.nd rfl (.inl rfl)) (pgs_cons (pg_name (i := 4) sc_need_lengths.nd rfl (.inl rfl)) (pgs_cons (pg_name (i := 5) sc_need_lengths.nd rfl (.inl rfl)) (pgs_cons (pg_name (i := 6) sc_need_lengths.nd rfl (.inl rfl)) pgs_nil))))))
        (pss_one (ps_if (pt_not (pt_val (C8.pe_c (cal_is_whole T) hr (by decide) rfl (pa_cons (pe_dget hu (pv 1) (pv 2) (fun _ _ => rfl)) (pa_cons (pv 4) (pa_cons (pv 5) pa_nil)))))) (pss_one ps_never) pss_nil))))), ?_⟩
    refine ⟨_, rfl, p, dx, _, rfl, hp, rfl, p, m, rfl, W, fun ws S R nS => ?_⟩
    have sS := same_upd (o := .lst ws) nS
    have hS : upd H S (.lst ws) S = some (.lst ws) := upd_same
    have W1 := W.same sS
    have R1 : Rows (upd H S (.lst ws)) ws (m.wd.map Wd.row) := R.keep (Kt.of sS)
    have hl1 := sS _ _ hl
    have hp1 := sS _ _ hp
    generalize upd H S (.lst ws) = H1 at sS hS W1 R1 hl1 hp1 ⊢
    refine ⟨S, rfl, ⟨_, .inl (.inl hS)⟩, for_list (K := K) (a := S) (xs := ws) (fun i σ H' => ∃ y2 y3 y4 y5 y6 : Option V, σ = [some (.ref p), some (.ref l), y2, y3, y4, y5, y6] ∧ H' = H1) ⟨none, none, none, none, none, rfl, rfl⟩ (fun i σ H' _ ⟨_, _, _, _, _, _, e⟩ => by rw [e]; exact .inl (.inl hS)) ?_ ?_⟩
    · rintro i v σ H2 hv ⟨y2, y3, y4, y5, y6, rfl, rfl⟩
      obtain ⟨x, tt, hx, rfl, ht⟩ := step R1 hv
      obtain ⟨g1, g2, g3⟩ := good x hx
      refine ⟨tt, _, rfl, .inl (.inl ht), rfl, _, _, rfl, _, _, rfl, _, _, rfl, _, _, rfl, _, _, rfl, rfl, ?_⟩
      refine ⟨_, rfl, _, rfl, l, _, rfl, .k (k := kS x.en) hl1, _, rfl, ?_⟩
      rw [g1]
      exact iteF ⟨_, _, _, _, _, rfl, rfl⟩
    · rintro σ H2 ⟨y2, y3, y4, y5, y6, rfl, rfl⟩
      refine ⟨_, rfl, p, dx, _, rfl, hp1, rfl, p, m, rfl, W1, fun ws2 S2 R2 nS2 => ?_⟩
      have sS2 := same_upd (o := .lst ws2) nS2
      have hS2 : upd H2 S2 (.lst ws2) S2 = some (.lst ws2) := upd_same
      have R3 : Rows (upd H2 S2 (.lst ws2)) ws2 (m.wd.map Wd.row) := R2.keep (Kt.of sS2)
      have hl2 := sS2 _ _ hl1
      have sA := sS.trans sS2
      generalize upd H2 S2 (.lst ws2) = H3 at sS2 hS2 R3 hl2 sA ⊢
      refine ⟨S2, rfl, ⟨_, .inl (.inl hS2)⟩, for_list (K := K) (a := S2) (xs := ws2) (fun i σ H' => ∃ y2 y3 y4 y5 y6 : Option V, σ = [some (.ref p), some (.ref l), y2, y3, y4, y5, y6] ∧ H' = H3) ⟨_, _, _, _, _, rfl, rfl⟩ (fun i σ H' _ ⟨_, _, _, _, _, _, e⟩ => by rw [e]; exact .inl (.inl hS2)) ?_ ?_⟩
      · rintro i v σ H4 hv ⟨y2, y3, y4, y5, y6, rfl, rfl⟩
        obtain ⟨x, tt, hx, rfl, ht⟩ := step R3 hv
        obtain ⟨g1, g2, g3⟩ := good x hx
        refine ⟨tt, _, rfl, .inl (.inl ht), rfl, _, _, rfl, _, _, rfl, _, _, rfl, _, _, rfl, _, _, rfl, rfl, ?_⟩
        refine ⟨_, rfl, _, rfl, l, .int (L x.en), rfl, by rw [← g1]; exact .k (k := kS x.en) hl2, _, rfl, _, rfl, L x.en, x.lo, x.hi, rfl, ?_⟩
        rw [decide_eq_true ⟨g2, g3⟩]
        exact ⟨_, rfl, iteF ⟨_, _, _, _, _, rfl, rfl⟩⟩
      · rintro σ H4 ⟨y2, y3, y4, y5, y6, rfl, rfl⟩
        exact q _ sA
end
end Tw

set_option maxHeartbeats 4000000
namespace Tw
open PySem PySem.Spec PyProof.Rows L2
/-! a whole run of a keeper -/
theorem endA_snoc (L : Str → Int) (wd : List Wd) (D : Dct) (x : Wd) : endA L (wd ++ [x]) D = end1 L D (endA L wd D) x := by
  unfold endA
  rw [List.foldl_append]
  rfl
theorem end_gen (L : Str → Int) (D : Dct) : ∀ (wd : List Wd) (e : Dct), (e.map (·.1)).Nodup → (wd.foldl (end1 L D) e).length ≤ e.length + wd.length ∧ ((wd.foldl (end1 L D) e).map (·.1)).Nodup
  | [], e, h => ⟨Nat.le_refl _, h⟩
  | x :: r, e, h => by
    have s : (end1 L D e x).length ≤ e.length + 1 ∧ ((end1 L D e x).map (·.1)).Nodup := by
      unfold end1
      split
      · exact ⟨length_putK _ _ _, put_nd h _ _⟩
      · exact ⟨by omega, h⟩
    have := end_gen L D r (end1 L D e x) s.2
    rw [List.foldl_cons, List.length_cons]
    exact ⟨by omega, this.2⟩
theorem end_len (L : Str → Int) (D : Dct) (wd : List Wd) : (endA L wd D).length ≤ wd.length ∧ ((endA L wd D).map (·.1)).Nodup := by
  have := end_gen L D wd [] List.nodup_nil
  rw [List.length_nil, Nat.zero_add] at this
  exact this
theorem out_snoc (f : Key → Option V) (ps : List Str) (z : Str) : outA (ps ++ [z]) f = outA ps f ++ ((f (kS z)).map fun v => (kS z, v)).toList := by
  unfold outA
  rw [List.filterMap_append, List.filterMap_cons]
  cases f (kS z) with
  | none => rfl
  | some v => rfl
theorem out_put {f : Key → Option V} {ps : List Str} {z : Str} {v : V} (e : f (kS z) = some v) (h : z ∉ ps) : outA (ps ++ [z]) f = putK (outA ps f) (kS z) v := by
  rw [out_snoc, e]
  unfold putK
  rw [if_neg]
  · rfl
  · intro a
    rw [valV_any, out_val] at a
    split at a
    · rename_i d
      obtain ⟨y, hy, ey⟩ := d
      exact h (by rw [← kS_eq ey]; exact hy)
    · cases a
theorem out_len (f : Key → Option V) (ps : List Str) : (outA ps f).length ≤ ps.length := List.length_filterMap_le _ _
/-- what stood stays, but what is the keeper's own -/
def Fr (M : Addr → Prop) (H0 H : Hp) : Prop := ∀ b o, H0 b = some o → ¬ M b → H b = some o
theorem Fr.same {M : Addr → Prop} {H0 H H' : Hp} (f : Fr M H0 H) (s : Same H H') : Fr M H0 H' := fun b o e n => s b o (f b o e n)
theorem Fr.sb {M : Addr → Prop} {H0 H H' : Hp} {d : Addr} (f : Fr M H0 H) (s : Sb d H H') (nd : H0 d = none) : Fr M H0 H' := fun b o e n => s b o (f b o e n) fun z => by
  rw [z, nd] at e
  cases e
/-- what a keeper does when it is asked in the n-th tick -/
def KeepP (own es : List Str) (bb : Int) (kf : Nat → Dct → Dct → List Str) (J : Nat → Hp → Prop) (M : Addr → Prop) (sp : Sp) : Prop := ∀ (n : Nat) (D h : Dct) (d1 d2 : Addr) (H : Hp) (Q : VK), H d1 = some (.dK D) → H d2 = some (.dK h) → d1 ≠ d2 → ¬ M d1 → ¬ M d2 → J n H →
  TkD ("start" :: own) bb D → TkD es bb h → (n : Int) ≤ bb → (∀ (N : Addr) (H' : Hp), (∀ b o, H b = some o → b ≠ d1 → b ≠ d2 → ¬ M b → H' b = some o) → H' N = some (.lst ((kf n D h).map V.str)) → J (n + 1) H' → Q (.ref N) H') →
  sp [.int (n : Nat), .ref d1, .ref d2] H Q E0
theorem web_fr {C : Addr} {M : Addr → Prop} {H H' : Hp} {p : Addr} {m : Md} (W : WebAt C H p m) (f : Fr M H H') (lst : ∀ b, M b → ∃ xs, H b = some (.lst xs)) : WebAt C H' p m :=
  W.keep (fun dx fs e => f _ _ e fun z => by
    obtain ⟨xs, q⟩ := lst _ z
    rw [e] at q
    cases q) fun t xs e => f _ _ e fun z => by
    obtain ⟨ys, q⟩ := lst _ z
    rw [e] at q
    cases q
/-- how a run stands ahead of the n-th tick -/
structure PlAt (H0 : Hp) (M : Addr → Prop) (J : Nat → Hp → Prop) (L : Str → Int) (m : Md) (kf : Nat → Dct → Dct → List Str) (S D Hd : Addr) (ws : List V) (n : Nat) (H : Hp) : Prop where
  fr : Fr M H0 H
  sp : H S = some (.lst ws)
  rows : Rows H ws (m.wd.map (row4 L))
  done : H D = some (.dK (standA L m.wd kf n).1)
  heard : H Hd = some (.dK (standA L m.wd kf n).2)
  j : J n H
section
variable {P : Program} {w : World} {K : PySem.W.Frag} {mg : Str → Option Value} {base : Heap}
def sp_play (P : Program) (w : World) (K : PySem.W.Frag) (mg : Str → Option Value) (base : Heap) (kk : Nat) : Sp := fun vs H Q _ => ∃ (p f l : Addr) (m : Md) (L : Str → Int) (lv : Dct) (kf : Nat → Dct → Dct → List Str) (J : Nat → Hp → Prop) (M : Addr → Prop) (G : Hp → Prop) (sp : Sp),
  vs = [.ref p, .ref f, .ref l] ∧ WebAt (CW K) H p m ∧ m.pts.Nodup ∧ H l = some (.dK lv) ∧ (∀ x ∈ m.wd, valV lv (kS x.en) = some (.int (L x.en)) ∧ x.lo ≤ L x.en ∧ L x.en ≤ x.hi) ∧ KeepOk m.own kf ∧ Clo P w K mg base kk f G sp ∧ (∀ n H, J n H → G H) ∧ KeepP m.own (m.wd.map (·.en)) m.last kf J M sp ∧ J 0 H ∧
  (∀ n H1 H2, J n H1 → (∀ b o, H1 b = some o → (H b).isSome = true → H2 b = some o) → J n H2) ∧ (∀ n H1 b, J n H1 → M b → ∃ xs, H1 b = some (.lst xs)) ∧
  ∀ (R : Addr) (H' : Hp), Fr M H H' → H R = none → H' R = some (.dK (outA m.pts (tickA (standA L m.wd kf (m.last.toNat + 1)).1 (endA L m.wd (standA L m.wd kf (m.last.toNat + 1)).1)))) → J (m.last.toNat + 1) H' → Q (.ref R) H'
theorem cal_play (T : Tp K mg) (kk : Nat) : Cal P w K mg base (kk + 6) "play" (sp_play P w K mg base kk) := by
  obtain ⟨fd, F⟩ := f_play T
  refine cal_of F (g_play T) (b_play F) sc_play (fun vs H Q E h => ?_) (fun cdv A outer s H vs Q E hr h => ?_)
  · obtain ⟨p, f, l, m, L, lv, kf, J, M, G, sp, rfl, _⟩ := h
    rfl
  · obtain ⟨p, f, l, m, L, lv, kf, J, M, G, sp, rfl, W, nd, hl, good, ko, FC, hG, kp, J0, stab, hM, q⟩ := h
    have hu := hu_of hr
    have hu64 := hr.units
    refine ⟨_, (pss_cons (ps_expr (C8.pe_c (cal_need_lengths T) hr (by omega) rfl (pa_cons (pv 0) (pa_cons (pv 2) pa_nil))))
      (pss_cons (ps_setLc (i := 3) (own := [("end", 10), ("begin", 11), ("low", 12), ("high", 13), ("late", 14)]) (tt := tYes) rfl sc_play.nd rfl rfl (sw_true rfl rfl rfl (by decide +kernel)) (pi_list (C8.pe_mt0 (met_Web_spans T) hr (by omega) (pv 0))) (blkOk_by (N := N_play) (sc := defScope s_play) (by decide +kernel)) (fun _ _ _ _ _ => (pg_tupK (K := K) (n := 5) rfl rfl (pgs_cons (pg_name (i := 10) sc_play.nd rfl (.inl rfl)) (pgs_cons (pg_name (i := 11) sc_play.nd rfl (.inl rfl)) (pgs_cons (pg_name (i := 12) sc_play.nd rfl (.inl rfl)) (pgs_cons (pg_name (i := 13) sc_play.nd rfl (.inl rfl)) (pgs_cons (pg_name (i := 14) sc_play.nd rfl (.inl rfl)) pgs_nil))))))) (fun _ _ _ _ _ => pts_nil) (fun _ _ _ _ _ => (pe_tup (pa_cons (pv 10) (pa_cons (pv 11) (pa_cons (pe_dget hu (pv 2) (pv 10) (fun _ _ => rfl)) (pa_cons (pv 14) pa_nil)))))))
      (pss_cons (ps_set (i := 4) sc_play.nd rfl (.inr rfl) (pe_disp (pps_cons (C8.pe_gc (by rfl) (c_START T)) pe_int pps_nil) (by rfl) (by rfl) (fun z => by cases z) (by decide)))
      (pss_cons (ps_set (i := 5) sc_play.nd rfl (.inl rfl) pe_dnewK)
      (pss_cons (ps_for PassesOwn.never rfl (pi_range1 rfl (z_range T) (pa_cons (pe_op op_add (pe_fld (pv 0) rfl) pe_int) pa_nil)) (pg_name (i := 6) sc_play.nd rfl (.inl rfl))
        (pss_cons (ps_expr (C8.pe_c (cal_hear_all T) hr (by omega) rfl (pa_cons (pv 3) (pa_cons (pv 4) (pa_cons (pv 5) (pa_cons (pv 6) pa_nil))))))
        (pss_cons (ps_set (i := 7) sc_play.nd rfl (.inl rfl) (pe_clo (i := 1) FC hr (by omega) rfl (.inl rfl) (pa_cons (pv 6) (pa_cons (pe_callTy call_dictD (by rfl) (z_dict T) bb_dict (pa_cons (pv 4) pa_nil)) (pa_cons (pe_callTy call_dictD (by rfl) (z_dict T) bb_dict (pa_cons (pv 5) pa_nil)) pa_nil)))))
        (pss_one (ps_expr (C8.pe_c (cal_do_all T) hr (by omega) rfl (pa_cons (pv 0) (pa_cons (pv 4) (pa_cons (pv 7) (pa_cons (pv 6) pa_nil))))))))))
      (pss_cons (ps_dcs (i := 8) (own := [("end", 10), ("begin", 11), ("length", 15), ("late", 14)]) ⟨rfl, rfl, rfl, rfl, by decide +kernel⟩ ⟨rfl, sc_play.nd, (pi_list (pv 3)), blkOk_by (N := N_play) (sc := defScope s_play) (by decide +kernel), fun _ _ _ _ _ => (pg_tupK (K := K) (n := 4) rfl rfl (pgs_cons (pg_name (i := 10) sc_play.nd rfl (.inl rfl)) (pgs_cons (pg_name (i := 11) sc_play.nd rfl (.inl rfl)) (pgs_cons (pg_name (i := 15) sc_play.nd rfl (.inl rfl)) (pgs_cons (pg_name (i := 14) sc_play.nd rfl (.inl rfl)) pgs_nil))))), fun _ _ _ _ _ => (pts_one (pt_cmp (pc_din hu (pv 11) (pv 4)) (by rfl))), fun _ _ _ _ _ => (pv 10), fun _ _ _ _ _ => (pe_op op_add (pe_dget hu (pv 4) (pv 11) (fun _ _ => rfl)) (pv 15)), fun _ => rfl⟩)
      (pss_cons (ps_set (i := 9) sc_play.nd rfl (.inr rfl) (pe_starS (pv 4) (pv 8)))
      (pss_one (ps_ret (pe_dc (own := [("name", 16)]) (g := gName 16) rfl sc_play.nd (pi_list (C8.pe_mt0 (met_Web_points T) hr (by omega) (pv 0))) (blkOk_by (N := N_play) (sc := defScope s_play) (by decide +kernel)) (fun _ _ _ _ _ => (pg_name (i := 16) sc_play.nd rfl (.inl rfl))) (fun _ _ _ _ _ => (pts_one (pt_cmp (pc_din hu (pv 16) (pv 9)) (by rfl)))) (fun _ _ _ _ _ => (pv 16)) (fun _ _ _ _ _ => (pe_dget hu (pv 9) (pv 16) (fun _ _ => rfl))))))))))))), ?_⟩
    have lst0 : ∀ b, M b → ∃ xs, H b = some (.lst xs) := fun b z => hM 0 H b J0 z
    have noM : ∀ {b : Addr}, H b = none → ¬ M b := fun {b} n z => by
      obtain ⟨xs, e⟩ := lst0 b z
      rw [n] at e
      cases e
    have frn : ∀ {n : Nat} {H' : Hp} {b : Addr}, Fr M H H' → J n H' → H' b = none → H b = none ∧ ¬ M b := fun {n H' b} f j e => by
      have nm : ¬ M b := fun z => by
        obtain ⟨xs, y⟩ := hM n H' b j z
        rw [e] at y
        cases y
      refine ⟨?_, nm⟩
      cases y : H b with
      | none => rfl
      | some o =>
        have := f b o y nm
        rw [e] at this
        cases this
    have nl : ¬ M l := fun z => by
      obtain ⟨xs, e⟩ := lst0 l z
      rw [hl] at e
      cases e
    have lens := W.len
    have last := W.last
    have lp : m.pts.length ≤ 20 := by
      unfold Md.pts
      simp only [List.length_append, List.length_cons, List.length_map, List.length_nil]
      omega
    refine ⟨_, rfl, _, rfl, p, l, m, L, lv, rfl, W, hl, good, fun H1 s1 => ?_⟩
    have W1 := W.same s1
    have hl1 := s1 _ _ hl
    obtain ⟨dx, a, b, c, ws0, bs, hp, _⟩ := W1.ex
    refine ⟨_, rfl, p, dx, _, rfl, hp, rfl, p, m, rfl, W1, fun ws S0 R nS0 => ?_⟩
    have sS0 := s1.trans (same_upd (o := .lst ws) nS0)
    have hS0 : upd H1 S0 (.lst ws) S0 = some (.lst ws) := upd_same
    have R1 : Rows (upd H1 S0 (.lst ws)) ws (m.wd.map Wd.row) := R.keep (Kt.of (same_upd nS0))
    generalize upd H1 S0 (.lst ws) = H2 at sS0 hS0 R1 ⊢
    have hl2 := sS0 _ _ hl
    have lw : ws.length = m.wd.length := by rw [R1.len, List.length_map]
    refine ⟨S0, rfl, ⟨_, .inl (.inl hS0)⟩, fun S nS => ?_⟩
    refine lc_it (walk_listN (K := K) (a := S0) (xs := ws) (n := ws.length) rfl) (fun i H' => ∃ acc : List V, Same H2 H' ∧ H' S = some (.lst acc) ∧ Rows H' acc ((m.wd.take i).map (row4 L))) ⟨[], same_upd nS, upd_same, .nil⟩ (fun i H' _ ⟨_, s, _⟩ => .inl (.inl (s _ _ hS0))) ?_ ?_
    · rintro i x _ H3 hi ⟨acc, s3, hS3, R3⟩ ⟨rfl, hx⟩
      obtain ⟨r, er, tt, rfl, ht⟩ := paired_at R1 hx
      rw [List.getElem?_map] at er
      obtain ⟨x, ex, rfl⟩ : ∃ x, m.wd[i]? = some x ∧ x.row = r := by
        cases z : m.wd[i]? with
        | none => rw [z] at er; cases er
        | some x => exact ⟨x, rfl, by rw [z] at er; exact Option.some.inj er⟩
      have tk1 : m.wd.take (i + 1) = m.wd.take i ++ [x] := by rw [List.take_add_one, ex]; rfl
      obtain ⟨g1, g2, g3⟩ := good x (List.mem_of_getElem? ex)
      have la := R3.len
      rw [List.length_map, List.length_take] at la
      rw [show wipe (L2.start N_play [V.ref p, V.ref f, V.ref l]) (List.map (fun x => x.2) [(("end" : Str), 10), ("begin", 11), ("low", 12), ("high", 13), ("late", 14)]) = [some (.ref p), some (.ref f), some (.ref l), none, none, none, none, none, none, none, none, none, none, none, none, none, none] from rfl]
      refine ⟨tt, _, rfl, .inl (.inl (s3 _ _ ht)), rfl, _, _, rfl, _, _, rfl, _, _, rfl, _, _, rfl, _, _, rfl, rfl, ?_⟩
      refine ⟨rfl, yes_i (iteT ⟨_, rfl, _, rfl, _, rfl, _, rfl, l, .int (L x.en), rfl, by rw [← g1]; exact .k (k := kS x.en) (s3 _ _ hl2), _, rfl, (by show 4 ≤ sizeLine; decide), fun t2 nt2 => ?_⟩)⟩
      have st2 := same_upd (o := .tup (row4 L x)) nt2
      have nTS : t2 ≠ S := fun e => by
        rw [e, hS3] at nt2
        cases nt2
      refine ⟨acc, st2 _ _ hS3, small1000 (by omega), acc ++ [.ref t2], same_put (s3.trans st2) nS, upd_same, ?_⟩
      rw [tk1, List.map_append]
      refine Rows.snoc ?_ ?_
      · exact R3.keep fun u xs e => by
          rw [upd_ne (fun z => by rw [z, hS3] at e; cases e)]
          exact st2 _ _ e
      · rw [upd_ne nTS]
        exact upd_same
    · rintro H3 ⟨acc, s3, hS3, R3⟩
      rw [lw, List.take_length] at R3
      have sA := sS0.trans s3
      have nS0' := sS0.free nS
      refine fun D nD => ⟨upd_same, [(kS "start", .int 0)], rfl, by decide, ?_⟩
      have sP : Same H3 (upd (upd H3 D (.dK [])) D (.dK (mergeK [] [(kS "start", .int 0)]))) := same_put (same_upd nD) nD
      have hD3 : upd (upd H3 D (.dK [])) D (.dK (mergeK [] [(kS "start", .int 0)])) D = some (.dK [(kS "start", .int 0)]) := upd_same
      have nD0 := sA.free nD
      have sB := sA.trans sP
      have hS4 := sP _ _ hS3
      have R4 : Rows (upd (upd H3 D (.dK [])) D (.dK (mergeK [] [(kS "start", .int 0)]))) acc (m.wd.map (row4 L)) := R3.keep (Kt.of sP)
      generalize upd (upd H3 D (.dK [])) D (.dK (mergeK [] [(kS "start", .int 0)])) = H4 at sP hD3 sB hS4 R4 ⊢
      refine fun Hd nHd => ?_
      have sH := same_upd (o := .dK []) nHd
      have nHd0 := sB.free nHd
      have nDH : D ≠ Hd := fun e => by
        rw [← e, hD3] at nHd
        cases nHd
      have sC := sB.trans sH
      have start : PlAt H M J L m kf S D Hd acc 0 (upd H4 Hd (.dK [])) := ⟨fun b o e _ => sC _ _ e, sH _ _ hS4, R4.keep (Kt.of sH), sH _ _ hD3, upd_same, stab 0 H _ J0 fun b o e _ => sC _ _ e⟩
      generalize upd H4 Hd (.dK []) = H5 at start ⊢
      obtain ⟨dx5, a5, b5, c5, ws5, bs5, hp5, _⟩ := (web_fr W start.fr lst0).ex
      refine ⟨_, rfl, p, CW K, dx5, _, _, rfl, hp5, cl_Web T, na_by T, wf_by, ?_⟩
      refine ⟨m.last, 1, rfl, rfl, m.last + 1, rfl, by omega, by omega, ?_⟩
      refine for_range (lo := 0) (n := (m.last + 1).toNat) (fun i σ H' => ∃ y6 y7 : Option V, σ = [some (.ref p), some (.ref f), some (.ref l), some (.ref S), some (.ref D), some (.ref Hd), y6, y7, none, none, none, none, none, none, none, none, none] ∧ PlAt H M J L m kf S D Hd acc i H') ⟨none, none, rfl, start⟩ ?_ ?_
      · rintro i σ H6 hi ⟨y6, y7, rfl, A6⟩
        rw [Int.zero_add]
        obtain ⟨ok1, ok2⟩ := stand_ok (L := L) (wd := m.wd) ko (b := m.last) i (by omega) (by omega)
        have l1 := ok1.len
        have l2 := ok2.len
        rw [List.length_cons] at l1
        rw [List.length_map] at l2
        refine ⟨_, rfl, _, rfl, _, rfl, _, rfl, S, D, Hd, (i : Int), L, m.wd, acc, _, _, rfl, A6.sp, A6.rows, A6.done, A6.heard, nDH, fun k v e => ?_, by omega, fun H7 s7 h7 => ?_⟩
        · obtain ⟨j, e, _⟩ := ok1.int e
          exact ⟨j, e⟩
        have nSD : S ≠ D := fun e => by
          have := A6.sp
          rw [e, A6.done] at this
          cases this
        have nSH : S ≠ Hd := fun e => by
          have := A6.sp
          rw [e, A6.heard] at this
          cases this
        have F7 := A6.fr.sb s7 nHd0
        have J7 : J i H7 := stab i H6 H7 A6.j fun b o e z => s7 b o e fun y => by
          rw [y, nHd0] at z
          cases z
        have hD7 := s7 _ _ A6.done nDH
        have hS7 := s7 _ _ A6.sp nSH
        have R7 : Rows H7 acc (m.wd.map (row4 L)) := A6.rows.keep fun b xs e => s7 b _ e fun y => by
          rw [y, A6.heard] at e
          cases e
        obtain ⟨_, ok3⟩ := stand_ok (L := L) (wd := m.wd) ko (b := m.last) (i + 1) (by omega) (by omega)
        have ko7 := ko i (standA L m.wd kf i).1 (hearA L m.wd (i : Int) (standA L m.wd kf i).1 (standA L m.wd kf i).2)
        refine ⟨rfl, hG i _ J7, _, rfl, _, rfl, D, _, rfl, .inl hD7, fun d1 n1 => ?_⟩
        have s8 := same_upd (o := .dK (standA L m.wd kf i).1) n1
        have e8 : upd H7 d1 (.dK (standA L m.wd kf i).1) d1 = some (.dK (standA L m.wd kf i).1) := upd_same
        obtain ⟨n10, nM1⟩ := frn F7 J7 n1
        generalize upd H7 d1 (.dK (standA L m.wd kf i).1) = H8 at s8 e8 ⊢
        refine ⟨_, rfl, Hd, _, rfl, .inl (s8 _ _ h7), fun d2 n2 => ?_⟩
        have s9 := same_upd (o := .dK (hearA L m.wd (i : Int) (standA L m.wd kf i).1 (standA L m.wd kf i).2)) n2
        have e9 : upd H8 d2 (.dK (hearA L m.wd (i : Int) (standA L m.wd kf i).1 (standA L m.wd kf i).2)) d2 = some (.dK (hearA L m.wd (i : Int) (standA L m.wd kf i).1 (standA L m.wd kf i).2)) := upd_same
        have s79 := s8.trans s9
        have F9 := F7.same s79
        have J9 : J i (upd H8 d2 (.dK (hearA L m.wd (i : Int) (standA L m.wd kf i).1 (standA L m.wd kf i).2))) := stab i H7 _ J7 fun b o e _ => s79 b o e
        obtain ⟨n20, nM2⟩ := frn (F7.same s8) (stab i H7 _ J7 fun b o e _ => s8 b o e) n2
        have n12 : d1 ≠ d2 := fun z => by
          rw [z, n2] at e8
          cases e8
        have e19 := s9 _ _ e8
        generalize upd H8 d2 (.dK (hearA L m.wd (i : Int) (standA L m.wd kf i).1 (standA L m.wd kf i).2)) = H9 at s9 e9 s79 F9 J9 e19 ⊢
        refine ⟨hG i _ J9, kp i _ _ d1 d2 H9 _ e19 e9 n12 nM1 nM2 J9 ok1 ok3 (by omega) fun N H10 f10 hN J10 => ?_⟩
        have keep : ∀ {b : Addr} {o : HO}, H7 b = some o → ¬ M b → H10 b = some o := fun {b o} e n => f10 b o (s79 _ _ e) (fun z => by rw [z] at e; rw [e] at n1; cases n1) (fun z => by
          have e := s8 _ _ e
          rw [z, n2] at e
          cases e) n
        have F10 : Fr M H H10 := fun b o e n => f10 b o (F9 b o e n) (fun z => by rw [z, n10] at e; cases e) (fun z => by rw [z, n20] at e; cases e) n
        have hD10 := keep hD7 (noM nD0)
        have hH10 := keep h7 (noM nHd0)
        have hS10 := keep hS7 (noM nS0')
        have R10 : Rows H10 acc (m.wd.map (row4 L)) := R7.keep fun b xs e => keep e fun z => by
          obtain ⟨ys, y⟩ := hM i H7 b J7 z
          rw [y] at e
          cases e
        have len10 := nd_len _ m.own ko7.1 fun z hz => (ko7.2 z hz).1
        refine ⟨_, rfl, _, rfl, _, rfl, _, rfl, p, D, N, (i : Int), m, _, _, rfl, web_fr W F10 lst0, hD10, hN, ko7.1, ko7.2, by omega, fun H11 s11 h11 => ?_⟩
        refine ⟨_, _, rfl, ⟨F10.sb s11 nD0, s11 _ _ hS10 nSD, R10.keep (fun b xs e => s11 b _ e fun z => by
          rw [z, hD10] at e
          cases e), h11, s11 _ _ hH10 nDH.symm, stab (i + 1) H10 H11 J10 fun b o e z => s11 b o e fun y => by
          rw [y, nD0] at z
          cases z⟩⟩
      · rintro σ H6 ⟨y6, y7, rfl, A6⟩
        have nT : ((m.last + 1).toNat) = m.last.toNat + 1 := by omega
        rw [nT] at A6
        obtain ⟨ok1, ok2⟩ := stand_ok (L := L) (wd := m.wd) ko (b := m.last) (m.last.toNat + 1) (by omega) (by omega)
        have l1 := ok1.len
        rw [List.length_cons] at l1
        generalize hDk : (standA L m.wd kf (m.last.toNat + 1)).1 = Dk at ok1 l1 q A6 ⊢
        have d6 := A6.done
        rw [hDk] at d6
        have la : acc.length = m.wd.length := by rw [A6.rows.len, List.length_map]
        refine ⟨_, rfl, S, rfl, ⟨_, .inl (.inl A6.sp)⟩, fun E0' nE => ?_⟩
        obtain ⟨nE0, nME⟩ := frn A6.fr A6.j nE
        have nDE : D ≠ E0' := fun z => by
          rw [← z, d6] at nE
          cases nE
        refine dc_walk (walk_list (K := K) (a := S) (xs := acc)) (fun i H' => Same H6 H' ∧ H' E0' = some (.dK (endA L (m.wd.take i) Dk))) ⟨same_upd nE, upd_same⟩ (fun i H' _ h => .inl (.inl (h.1 _ _ A6.sp))) ?_ ?_
        · rintro i v H7 H8 hi ⟨s7, h7⟩ ⟨rfl, hv⟩
          obtain ⟨r, er, tt, rfl, ht⟩ := paired_at A6.rows hv
          rw [List.getElem?_map] at er
          obtain ⟨x, ex, rfl⟩ : ∃ x, m.wd[i]? = some x ∧ row4 L x = r := by
            cases z : m.wd[i]? with
            | none => rw [z] at er; cases er
            | some x => exact ⟨x, rfl, by rw [z] at er; exact Option.some.inj er⟩
          have tk1 : m.wd.take (i + 1) = m.wd.take i ++ [x] := by rw [List.take_add_one, ex]; rfl
          have el := (end_len L Dk (m.wd.take i)).1
          rw [List.length_take] at el
          refine ⟨tt, _, rfl, .inl (.inl (s7 _ _ ht)), rfl, _, _, rfl, _, _, rfl, _, _, rfl, _, _, rfl, rfl, ?_⟩
          refine ⟨rfl, _, rfl, _, rfl, D, _, rfl, .k (k := kS x.bg) (s7 _ _ d6), ?_⟩
          rw [tk1, endA_snoc]
          cases eb : valV Dk (kS x.bg) with
          | none =>
            refine ⟨_, rfl, iteF ⟨s7, ?_⟩⟩
            rw [h7]
            unfold end1
            rw [eb]
          | some u =>
            obtain ⟨b, rfl, _⟩ := ok1.int eb
            refine ⟨_, rfl, iteT ⟨_, rfl, _, rfl, _, rfl, D, .int b, rfl, by rw [← eb]; exact .k (k := kS x.bg) (s7 _ _ d6), _, rfl, _, _, rfl, rfl, _, kS x.en, rfl, h7, small1000 (by omega), same_put s7 nE, ?_⟩⟩
            rw [upd_same]
            unfold end1
            rw [eb]
        · rintro H7 ⟨s7, h7⟩
          rw [la, List.take_length] at h7
          obtain ⟨el, en⟩ := end_len L Dk m.wd
          have d7 := s7 _ _ d6
          refine fun B nB => ?_
          have sB := same_upd (o := .dK []) nB
          have hB : upd H7 B (.dK []) B = some (.dK []) := upd_same
          have nBD : B ≠ D := fun z => by
            rw [z, d7] at nB
            cases nB
          have nBE : B ≠ E0' := fun z => by
            rw [z, h7] at nB
            cases nB
          have d8 := sB _ _ d7
          have e8 := sB _ _ h7
          refine ⟨_, rfl, D, Dk, rfl, nBD, d8, hB, by omega, ?_⟩
          refine ⟨_, rfl, E0', _, rfl, nBE, by rw [upd_ne (Ne.symm nBE)]; exact e8, upd_same, by omega, ?_⟩
          have sT : Same H7 (upd (upd (upd H7 B (.dK [])) B (.dK (mergeK [] Dk))) B (.dK (mergeK (mergeK [] Dk) (endA L m.wd Dk)))) := same_put (same_put sB nB) nB
          have hT : upd (upd (upd H7 B (.dK [])) B (.dK (mergeK [] Dk))) B (.dK (mergeK (mergeK [] Dk) (endA L m.wd Dk))) B = some (.dK (mergeK (mergeK [] Dk) (endA L m.wd Dk))) := upd_same
          have vT : ∀ k, valV (mergeK (mergeK [] Dk) (endA L m.wd Dk)) k = tickA Dk (endA L m.wd Dk) k := fun k => by
            rw [merge_val _ _ _ en]
            unfold tickA
            rw [merge_val _ _ _ ok1.nd]
            unfold tickA
            cases valV (endA L m.wd Dk) k with
            | some v => rfl
            | none =>
              cases valV Dk k with
              | some v => rfl
              | none => rfl
          generalize mergeK (mergeK [] Dk) (endA L m.wd Dk) = Tk at sT hT vT ⊢
          generalize upd (upd (upd H7 B (.dK [])) B (.dK (mergeK [] Dk))) B (.dK Tk) = H8 at sT hT ⊢
          have s8 := s7.trans sT
          have F8 := A6.fr.same s8
          have J8 : J (m.last.toNat + 1) H8 := stab _ H6 H8 A6.j fun b o e _ => s8 b o e
          have W8 := web_fr W F8 lst0
          obtain ⟨dx8, a8, b8, c8, ws8, bs8, hp8, _⟩ := W8.ex
          refine ⟨_, rfl, p, dx8, _, rfl, hp8, rfl, p, m, rfl, W8, fun qa H9 s9 nq hq => ?_⟩
          have J9 : J (m.last.toNat + 1) H9 := stab _ H8 H9 J8 fun b o e _ => s9 b o e
          have F9 := F8.same s9
          refine ⟨qa, rfl, ⟨_, .inl (.inl hq)⟩, fun R nR => ?_⟩
          obtain ⟨nR0, nMR⟩ := frn F9 J9 nR
          refine dc_walk (walk_list (K := K) (a := qa) (xs := m.pts.map V.str)) (fun i H' => Same H9 H' ∧ H' R = some (.dK (outA (m.pts.take i) (tickA Dk (endA L m.wd Dk))))) ⟨same_upd nR, upd_same⟩ (fun i H' _ h => .inl (.inl (h.1 _ _ hq))) ?_ ?_
          · rintro i v H10 H11 hi ⟨s10, h10⟩ ⟨rfl, hv⟩
            rw [List.getElem?_map] at hv
            obtain ⟨z, ez, rfl⟩ : ∃ z, m.pts[i]? = some z ∧ V.str z = v := by
              cases y : m.pts[i]? with
              | none => rw [y] at hv; cases hv
              | some z => exact ⟨z, rfl, by rw [y] at hv; exact Option.some.inj hv⟩
            have tk1 : m.pts.take (i + 1) = m.pts.take i ++ [z] := by rw [List.take_add_one, ez]; rfl
            have hz : z ∉ m.pts.take i := fun h => by
              obtain ⟨j, hj⟩ := List.mem_iff_getElem?.1 h
              have jl : j < i := by
                have := (List.getElem?_eq_some_iff.mp hj).1
                rw [List.length_take] at this
                omega
              rw [List.getElem?_take_of_lt jl] at hj
              have := nodup_ix nd hj ez
              omega
            have ol := out_len (tickA Dk (endA L m.wd Dk)) (m.pts.take i)
            rw [List.length_take] at ol
            have hT10 := s10 _ _ (s9 _ _ hT)
            refine ⟨rfl, _, rfl, _, rfl, B, _, rfl, .k (k := kS z) hT10, ?_⟩
            rw [vT, tk1]
            cases et : tickA Dk (endA L m.wd Dk) (kS z) with
            | none =>
              refine ⟨_, rfl, iteF ⟨s10, ?_⟩⟩
              rw [h10, out_snoc, et, Option.map_none, Option.toList_none, List.append_nil]
            | some u =>
              refine ⟨_, rfl, iteT ⟨_, rfl, _, rfl, _, rfl, B, u, rfl, by rw [← et, ← vT]; exact .k (k := kS z) hT10, _, kS z, rfl, h10, small1000 (by omega), same_put s10 nR, ?_⟩⟩
              rw [upd_same, out_put et hz]
          · rintro H10 ⟨s10, h10⟩
            rw [List.length_map, List.take_length] at h10
            exact q R H10 (F9.same s10) nR0 h10 (stab _ H9 H10 J9 fun b o e _ => s10 b o e)
end
end Tw

set_option maxHeartbeats 4000000
namespace Tw
open PySem PySem.Spec PyProof.Rows L2
/-! the law's own runs: choices, lengths, what comes -/
theorem nodup_sub {α : Type} {l m : List α} (h : l.Sublist m) (n : m.Nodup) : l.Nodup := List.Pairwise.sublist h n
theorem bb_sum : bootBuiltins "sum" = some (.builtin "sum") := by decide +kernel
def iv : Option V → Int
  | some (.int i) => i
  | _ => 0
def sumD (h : Dct) : Int := (h.map fun p => iv (valV h p.1)).sum
def chA (f : Nat → Bool) (D : Dct) : Nat → List Str → List Str
  | _, [] => []
  | k, z :: r => (if (!(valV D (kS z)).isSome && f k) = true then [z] else []) ++ chA f D (k + 1) r
theorem chA_snoc (f : Nat → Bool) (D : Dct) (z : Str) : ∀ (l : List Str) (k : Nat), chA f D k (l ++ [z]) = chA f D k l ++ if (!(valV D (kS z)).isSome && f (k + l.length)) = true then [z] else []
  | [], k => by
    show (if (!(valV D (kS z)).isSome && f k) = true then [z] else []) ++ [] = [] ++ _
    rw [List.append_nil, List.nil_append]
    rfl
  | y :: r, k => by
    have := chA_snoc f D z r (k + 1)
    show (if (!(valV D (kS y)).isSome && f k) = true then [y] else []) ++ chA f D (k + 1) (r ++ [z]) = (_ ++ chA f D (k + 1) r) ++ _
    rw [this, List.append_assoc, List.length_cons, show k + 1 + r.length = k + (r.length + 1) by omega]
theorem chA_sub (f : Nat → Bool) (D : Dct) : ∀ (l : List Str) (k : Nat), (chA f D k l).Sublist l
  | [], _ => .slnil
  | z :: r, k => by
    have := chA_sub f D r (k + 1)
    show ((if _ then [z] else []) ++ chA f D (k + 1) r).Sublist (z :: r)
    split
    · exact this.cons₂ z
    · exact this.cons z
theorem chA_new (f : Nat → Bool) (D : Dct) : ∀ (l : List Str) (k : Nat), ∀ z ∈ chA f D k l, valV D (kS z) = none
  | [], _ => fun z h => absurd h List.not_mem_nil
  | y :: r, k => fun z h => by
    rcases List.mem_append.1 h with h | h
    · split at h
      · rename_i c
        rw [List.mem_singleton.1 h]
        cases e : valV D (kS y) with
        | none => rfl
        | some v =>
          rw [e] at c
          cases c
      · exact absurd h List.not_mem_nil
    · exact chA_new f D r (k + 1) z h
def ripeB (m : Md) (seed t : Int) (h : Dct) (k : Nat) : Bool := decide (Int.fmod (Int.fmod ((Int.fmod (sumD h * 104729 + t * 7919 + seed + (k : Int) * 1299709) 1000003) * (Int.fmod (sumD h * 104729 + t * 7919 + seed + (k : Int) * 1299709) 1000003)) 1000003) 7 < 2) || (decide (V.int t = V.int m.last) && decide (0 < Int.fmod seed 3))
def chS (m : Md) (seed : Int) (n : Nat) (D h : Dct) : List Str := (chA (ripeB m seed (n : Int) h) D 0 m.own).reverse
theorem ch_ok {m : Md} (ok : MdOk m) (seed : Int) : KeepOk m.own (chS m seed) := fun n D h => by
  have nd := (List.nodup_append.1 ok.nd).1
  have sub := chA_sub (ripeB m seed (n : Int) h) D m.own 0
  refine ⟨?_, fun z hz => ?_⟩
  · unfold chS
    exact (List.reverse_perm _).nodup_iff.2 (nodup_sub sub nd)
  · unfold chS at hz
    have hz := List.mem_reverse.1 hz
    exact ⟨sub.subset hz, chA_new _ _ _ _ z hz⟩
/-- one dict is locked while it is walked -/
def Lkd (d : Addr) (f : HO) (H Hc : Hp) : Prop := (∀ b o, H b = some o → b ≠ d → Hc b = some o) ∧ Hc d = some f
theorem Lkd.new {d : Addr} {f : HO} {H : Hp} : Lkd d f H (upd H d f) := ⟨fun b o e n => by rw [upd_ne n]; exact e, upd_same⟩
theorem Lkd.put {d D : Addr} {f o : HO} {H Hc : Hp} (h : Lkd d f H Hc) (nD : H D = none) (nd : D ≠ d) : Lkd d f H (upd Hc D o) := ⟨fun b x e n => by rw [upd_ne (ne_of_none e nD)]; exact h.1 b x e n, by rw [upd_ne nd.symm]; exact h.2⟩
theorem Lkd.out {d : Addr} {f u : HO} {H Hc : Hp} (h : Lkd d f H Hc) (hd : H d = some u) : Same H (upd Hc d u) := fun b o e => by
  by_cases c : b = d
  · rw [c, upd_same, ← hd, ← c, e]
  · rw [upd_ne c]; exact h.1 b o e c
theorem or_k {tb : TE} {σ : L2.St} {H : Hp} {a r : Bool} {Kont : V → Hp → Prop} (k : Kont (.bl r) H) (h1 : a = true → r = true) (h2 : a = false → (∀ b, b = r → Kont (.bl b) H) → tb σ H Kont) : ∃ c, V.bl a = V.bl c ∧ if c = true then Kont (.bl true) H else tb σ H Kont := by
  refine ⟨a, rfl, ?_⟩
  cases a with
  | true =>
    rw [h1 rfl] at k
    exact k
  | false => exact h2 rfl fun b e => by rw [e]; exact k
section
variable {P : Program} {w : World} {K : PySem.W.Frag} {mg : Str → Option Value} {base : Heap}
def OwnAt (H : Hp) (d : Addr) (m : Md) : Prop := ∃ o w b : Addr, H d = some (.dK (mk m.last o w b)) ∧ H o = some (.lst (m.own.map V.str))
def sp_choice : Sp := fun vs H Q _ => ∃ (d D h : Addr) (m : Md) (seed : Int) (n : Nat) (Dk hk : Dct), vs = [.ref d, .int seed, .int (n : Int), .ref D, .ref h] ∧ OwnAt H d m ∧ m.own.length ≤ 10 ∧ H D = some (.dK Dk) ∧ H h = some (.dK hk) ∧ D ≠ h ∧ (∀ k v, valV hk k = some v → ∃ i : Int, v = .int i) ∧ hk.length ≤ 100 ∧
  ∀ (N : Addr) (H' : Hp), Same H H' → H N = none → H' N = some (.lst ((chS m seed n Dk hk).map V.str)) → Q (.ref N) H'
theorem cal__law_choice (T : Tp K mg) : Cal P w K mg base 2 "_law_choice" sp_choice := by
  obtain ⟨fd, F⟩ := f__law_choice T
  refine cal_of F (g__law_choice T) (b__law_choice F) sc__law_choice (fun vs H Q E h => ?_) (fun cdv A outer s H vs Q E hr h => ?_)
  · obtain ⟨d, D, h, m, seed, n, Dk, hk, rfl, _⟩ := h
    rfl
  · obtain ⟨d, D, h, m, seed, n, Dk, hk, rfl, ⟨o, u, b, hd, ho⟩, lo, hD, hh, nDh, hi, few, q⟩ := h
    have hu := hu_of hr
    have nhd : h ≠ d := fun e => by
      rw [e, hd] at hh
      have e2 := HO.dK.inj (Option.some.inj hh)
      have e3 : valV (mk m.last o u b) kOwn = some (.ref o) := by
        unfold mk
        rw [valV_neg k1, valV_pos rfl]
      obtain ⟨i, z⟩ := hi kOwn (.ref o) (by rw [← e2]; exact e3)
      cases z
    have noh : o ≠ h := fun e => by
      rw [e, hh] at ho
      cases ho
    refine ⟨_, (pss_cons (ps_set (i := 5) sc__law_choice.nd rfl (.inl rfl) (pe_lst pa_nil))
      (pss_cons (ps_set (i := 6) sc__law_choice.nd rfl (.inl rfl) (pe_op op_add (pe_op op_add (pe_op op_mul (pe_callB (cr_sum rfl) (by rfl) (z_sum T) bb_sum (pa_cons (pe_lock (pe_lc (own := [("_law_name", 10)]) (g := gName 10) (tt := tYes) rfl sc__law_choice.nd (pi_keys (pv 4)) (blkOk_by (N := N__law_choice) (sc := defScope s__law_choice) (by decide +kernel)) (fun _ _ _ _ _ => (pg_name (i := 10) sc__law_choice.nd rfl (.inl rfl))) (fun _ _ _ _ _ => pts_nil) (fun _ _ _ _ _ => (pe_dget hu (pv 4) (pv 10) (fun _ _ => rfl))))) pa_nil)) pe_int) (pe_op op_mul (pv 2) pe_int)) (pv 1)))
      (pss_cons (ps_for PassesOwn.never rfl (pi_range1 rfl (z_range T) (pa_cons (pe_callB call_len_seq (by rfl) (z_len T) bb_len (pa_cons (pe_dget hu (pv 0) pe_str (fun _ _ => rfl)) pa_nil)) pa_nil)) (pg_name (i := 7) sc__law_choice.nd rfl (.inl rfl))
        (pss_cons (ps_set (i := 8) sc__law_choice.nd rfl (.inl rfl) (pe_op op_modN (pe_op op_add (pv 6) (pe_op op_mul (pv 7) pe_int)) pe_int))
        (pss_cons (ps_set (i := 9) sc__law_choice.nd rfl (.inl rfl) (pe_or (pe_cmpR op_lt (pe_op op_modN (pe_op op_modN (pe_op op_mul (pv 8) (pv 8)) pe_int) pe_int) pe_int (nomark _)) (pe_one (pe_and (pe_cmpR op_eq (pv 2) (pe_dget hu (pv 0) pe_str (fun _ _ => rfl)) (nomark _)) (pe_one (pe_cmpR op_gt (pe_op op_modN (pv 1) pe_int) pe_int (nomark _)))))))
        (pss_one (ps_if (PW.pt (pw_and (pt_cmp (pc_dnotin hu (pe_ix ix_list (pe_dget hu (pv 0) pe_str (fun _ _ => rfl)) (pv 7) (fun _ _ => rfl)) (pv 3)) (by rfl)) (pw_and1 (pt_val (pv 9))))) (pss_one (ps_expr (pe_bm PySem.F.plainAttrs_list PySem.F.slot_list_append PySem.F.type_list_append mt_append (pv 5) (pa_cons (pe_ix ix_list (pe_dget hu (pv 0) pe_str (fun _ _ => rfl)) (pv 7) (fun _ _ => rfl)) pa_nil)))) pss_nil)))))
      (pss_one (ps_ret (pe_revL (pv 5))))))), ?_⟩
    refine ⟨by decide, fun N nN => ?_⟩
    have sN := same_upd (o := .lst []) nN
    have hN : upd H N (.lst []) N = some (.lst []) := upd_same
    have hd1 := sN _ _ hd
    have ho1 := sN _ _ ho
    have hD1 := sN _ _ hD
    have hh1 := sN _ _ hh
    generalize upd H N (.lst []) = H1 at sN hN hd1 ho1 hD1 hh1 ⊢
    refine ⟨h, .dK hk, hh1, True.intro, fun od => ⟨_, rfl, h, od, rfl, .inl ⟨hk, upd_same, fun R nR => ?_⟩⟩⟩
    have n1 : R ≠ h := fun e => by rw [e, upd_same] at nR; cases nR
    have nR0 : H1 R = none := by rw [← nR, upd_ne n1]
    refine lc_it (walk_keys (d := h) (o := od) (kvs := hk)) (fun i Hc => Lkd h (.frz od (.dK hk)) H1 Hc ∧ Hc R = some (.lst (((hk.take i).map fun p => iv (valV hk p.1)).map V.int))) ⟨Lkd.new.put nR0 n1, upd_same⟩ (fun i Hc _ h => h.1.2) ?_ ?_
    · rintro i x Hc Hx hil ⟨lk, hR⟩ ⟨rfl, k, v, ekv, rfl⟩
      have ev : ∃ z, valV hk k = some z ∧ V.int (iv (valV hk k)) = z := by
        cases e : valV hk k with
        | none =>
          have := key_some.1 (List.mem_map_of_mem (f := (·.1)) (List.mem_of_getElem? ekv))
          rw [show ((k, v) : Key × V).1 = k from rfl, e] at this
          cases this
        | some z =>
          obtain ⟨j, rfl⟩ := hi k z e
          exact ⟨_, rfl, rfl⟩
      obtain ⟨z, ez, ei⟩ := ev
      refine ⟨rfl, yes_i (iteT ⟨_, rfl, _, rfl, h, z, rfl, ?_, ?_⟩)⟩
      · exact .inl ⟨hk, k, .inr ⟨od, lk.2⟩, rfl, ez.symm⟩
      · refine ⟨_, hR, ?_, lk.put nR0 n1, ?_⟩
        · rw [List.length_map, List.length_map, List.length_take]
          exact small1000 (by omega)
        · rw [upd_same, List.take_add_one, ekv, List.map_append, List.map_append, ← ei]
          rfl
    · rintro Hc ⟨lk, hR⟩
      rw [List.take_length] at hR
      have s1 := lk.out hh1
      have sA := sN.trans s1
      have hR1 : upd Hc h (.dK hk) R = some (.lst ((hk.map fun p => iv (valV hk p.1)).map V.int)) := by rw [upd_ne n1]; exact hR
      refine ⟨lk.2, R, _, rfl, .inl (.inl hR1), ?_⟩
      have hN2 := s1 _ _ hN
      have hd2 := s1 _ _ hd1
      have ho2 := s1 _ _ ho1
      have hD2 := s1 _ _ hD1
      generalize upd Hc h (.dK hk) = H2 at s1 sA hR1 hN2 hd2 ho2 hD2 ⊢
      refine ⟨_, _, rfl, rfl, .inr (by decide), _, rfl, _, _, rfl, rfl, .inr (by decide), _, _, rfl, rfl, _, rfl, _, _, rfl, rfl, ?_⟩
      refine ⟨_, rfl, d, _, rfl, mk_own hd2, o, m.own.map V.str, rfl, .inl (.inl (.inl ho2)), ((m.own.length : Nat) : Int), by rw [List.length_map], by omega, by omega, ?_⟩
      refine for_range (lo := 0) (n := ((m.own.length : Nat) : Int).toNat) (fun i σ H' => ∃ y7 y8 y9 : Option V, σ = [some (.ref d), some (.int seed), some (.int (n : Int)), some (.ref D), some (.ref h), some (.ref N), some (.int (sumD hk * 104729 + (n : Int) * 7919 + seed)), y7, y8, y9, none] ∧ Sb N H2 H' ∧ H' N = some (.lst ((chA (ripeB m seed n hk) Dk 0 (m.own.take i)).map V.str))) ⟨none, none, none, rfl, (fun b o e _ => e), hN2⟩ ?_ ?_
      · rintro i σ H3 hil ⟨y7, y8, y9, rfl, s3, h3⟩
        rw [Int.zero_add]
        have hd3 := s3 _ _ hd2 (ne_of_none hd nN)
        have ho3 := s3 _ _ ho2 (ne_of_none ho nN)
        have hD3 := s3 _ _ hD2 (ne_of_none hD nN)
        have sm : ∀ x : Int, 0 ≤ Int.fmod x 1000003 ∧ Int.fmod x 1000003 < 1000003 := fun x => ⟨Int.fmod_nonneg_of_pos _ (by decide), Int.fmod_lt_of_pos _ (by decide)⟩
        have lt : i < m.own.length := by omega
        obtain ⟨z, ez⟩ : ∃ z, m.own[i]? = some z := ⟨_, List.getElem?_eq_getElem lt⟩
        have tk1 : m.own.take (i + 1) = m.own.take i ++ [z] := by rw [List.take_add_one, ez]; rfl
        have az : atI (m.own.map V.str) ((i : Nat) : Int) = some (.str z) := by rw [atI_nat (v := .str z)]; rw [List.getElem?_map, ez]; rfl
        have ll : (m.own.take i).length = i := by rw [List.length_take]; omega
        rw [tk1, chA_snoc, ll, Nat.zero_add]
        refine ⟨_, rfl, _, rfl, _, _, rfl, rfl, .inr (by decide), _, _, rfl, rfl, _, _, rfl, rfl, (by show (1000003 : Int) ≠ 0; decide), ?_⟩
        have bd := sm (sumD hk * 104729 + (n : Int) * 7919 + seed + (i : Int) * 1299709)
        refine ⟨_, rfl, _, rfl, _, _, rfl, rfl, .inl ⟨by omega, by omega⟩, _, _, rfl, rfl, (by show (1000003 : Int) ≠ 0; decide), _, _, rfl, rfl, (by show (7 : Int) ≠ 0; decide), _, _, rfl, rfl, ?_⟩
        have nNo : N ≠ o := (ne_of_none ho nN).symm
        refine or_k (H := H3) (r := ripeB m seed n hk i) ?_ (fun e => ?_) (fun e k => ?_)
        · refine ⟨_, rfl, d, .ref o, rfl, mk_own hd3, _, rfl, o, _, _, _, rfl, rfl, .inl (.inl ho3), az, _, rfl, D, _, rfl, .k (k := kS z) hD3, _, rfl, ?_⟩
          cases ev : (valV Dk (kS z)).isSome with
          | true =>
            refine iteF ?_
            refine ⟨_, _, _, rfl, s3, ?_⟩
            rw [h3]
            simp
          | false =>
            refine iteT ⟨_, rfl, _, rfl, ?_⟩
            cases er : ripeB m seed (n : Int) hk i with
            | false =>
              refine iteF ?_
              refine ⟨_, _, _, rfl, s3, ?_⟩
              rw [h3]
              simp
            | true =>
              refine iteT ?_
              have lc := (chA_sub (ripeB m seed n hk) Dk (m.own.take i) 0).length_le
              rw [ll] at lc
              refine ⟨_, rfl, .inl ⟨rfl, _, .inl (.inl h3)⟩, _, rfl, d, .ref o, rfl, mk_own hd3, _, rfl, o, _, _, _, rfl, rfl, .inl (.inl ho3), az, N, _, _, rfl, rfl, h3, by rw [List.length_map]; exact small1000 (by omega), ?_⟩
              refine ⟨_, _, _, rfl, sb_putF s3, ?_⟩
              rw [upd_same, List.map_append]
              simp
        · unfold ripeB
          rw [e, Bool.true_or]
        · refine ⟨_, rfl, _, rfl, d, _, rfl, mk_by hd3, rfl, _, rfl, ?_⟩
          by_cases c : decide (V.int (n : Int) = V.int m.last) = true
          · rw [if_pos c]
            refine ⟨_, rfl, _, _, rfl, rfl, (by show (3 : Int) ≠ 0; decide), _, _, rfl, rfl, ?_⟩
            have e2 : ripeB m seed n hk i = decide (0 < Int.fmod seed 3) := by
              unfold ripeB
              rw [e, c, Bool.false_or, Bool.true_and]
            exact k _ e2.symm
          · rw [if_neg c]
            have e2 : ripeB m seed n hk i = false := by
              unfold ripeB
              rw [e, Bool.eq_false_iff.2 c, Bool.false_or, Bool.false_and]
            exact k _ e2.symm
      · rintro σ H3 ⟨y7, y8, y9, rfl, s3, h3⟩
        rw [show ((m.own.length : Nat) : Int).toNat = m.own.length by omega, List.take_length] at h3
        refine ⟨_, rfl, N, _, rfl, .inl (.inl h3), fun q1 nq => ?_⟩
        have nq0 : H q1 = none := by
          cases e : H q1 with
          | none => rfl
          | some x =>
            have := s3 _ _ (sA _ _ e) (ne_of_none e nN)
            rw [nq] at this
            cases this
        refine q q1 _ (fun b x e => ?_) nq0 ?_
        · rw [upd_ne (ne_of_none e nq0)]
          exact s3 _ _ (sA _ _ e) (ne_of_none e nN)
        · rw [upd_same, ← List.map_reverse]
          rfl
end
end Tw

set_option maxHeartbeats 4000000
namespace Tw
open PySem PySem.Spec PyProof.Rows L2
/-! the law's own runs: what comes, lengths -/
def comeA (L : Str → Int) (wd : List Wd) (D : Dct) : Dct := wd.foldl (end1 L D) D
theorem come_snoc (L : Str → Int) (D e : Dct) (wd : List Wd) (x : Wd) : (wd ++ [x]).foldl (end1 L D) e = end1 L D (wd.foldl (end1 L D) e) x := by
  rw [List.foldl_append]
  rfl
def WdAt (H : Hp) (d : Addr) (m : Md) : Prop := ∃ (o w b : Addr) (ws : List V), H d = some (.dK (mk m.last o w b)) ∧ H w = some (.lst ws) ∧ Rows H ws (m.wd.map Wd.row)
theorem row_at {H : Hp} {ws : List V} {wd : List Wd} {i : Nat} {v : V} (R : Rows H ws (wd.map Wd.row)) (hv : ws[i]? = some v) : ∃ (x : Wd) (tt : Addr), wd[i]? = some x ∧ v = .ref tt ∧ H tt = some (.tup x.row) := by
  obtain ⟨r, er, tt, rfl, ht⟩ := paired_at R hv
  rw [List.getElem?_map] at er
  obtain ⟨x, ex, rfl⟩ : ∃ x, wd[i]? = some x ∧ Wd.row x = r := by
    cases z : wd[i]? with
    | none => rw [z] at er; cases er
    | some x => exact ⟨x, rfl, by rw [z] at er; exact Option.some.inj er⟩
  exact ⟨x, tt, ex, rfl, ht⟩
section
variable {P : Program} {w : World} {K : PySem.W.Frag} {mg : Str → Option Value} {base : Heap}
def sp_come : Sp := fun vs H Q _ => ∃ (d D l : Addr) (m : Md) (L : Str → Int) (Dk lv : Dct), vs = [.ref d, .ref D, .ref l] ∧ WdAt H d m ∧ m.wd.length ≤ 4 ∧ H D = some (.dK Dk) ∧ (∀ k v, valV Dk k = some v → ∃ b : Int, v = .int b) ∧ (Dk.map (·.1)).Nodup ∧ Dk.length ≤ 100 ∧ H l = some (.dK lv) ∧ (∀ x ∈ m.wd, valV lv (kS x.en) = some (.int (L x.en))) ∧
  ∀ (R : Addr) (H' : Hp), Same H H' → H R = none → H' R = some (.dK (comeA L m.wd Dk)) → Q (.ref R) H'
def sp_sizes : Sp := fun vs H Q _ => ∃ (f c d : Addr) (m : Md), vs = [.ref f, .ref d] ∧ Flow H f c ∧ WdAt H d m ∧ MdOk m ∧
  ∀ (l : Addr) (H' : Hp) (lv : Dct) (L : Str → Int), Sb f H H' → Flow H' f c → H l = none → H' l = some (.dK lv) → lv.length ≤ 4 → (∀ k v, valV lv k = some v → ∃ b : Int, v = .int b) → (∀ x ∈ m.wd, valV lv (kS x.en) = some (.int (L x.en)) ∧ x.lo ≤ L x.en ∧ L x.en ≤ x.hi) → Q (.ref l) H'
theorem cal__law_sizes (T : Tp K mg) : Cal P w K mg base 3 "_law_sizes" sp_sizes := by
  obtain ⟨fd, F⟩ := f__law_sizes T
  refine cal_of F (g__law_sizes T) (b__law_sizes F) sc__law_sizes (fun vs H Q E h => ?_) (fun cdv A outer s H vs Q E hr h => ?_)
  · obtain ⟨f, c, d, m, rfl, _⟩ := h
    rfl
  · obtain ⟨f, c, d, m, rfl, FL, ⟨o, u, b, ws, hd, hw, R⟩, ok, q⟩ := h
    have hu := hu_of hr
    have lws : ws.length = m.wd.length := by rw [R.len, List.length_map]
    have lens := ok.len
    obtain ⟨zs, hf⟩ := FL.lst
    have ndE := (List.nodup_append.mp ok.nd).2.1
    refine ⟨_, (pss_cons (ps_set (i := 2) sc__law_sizes.nd rfl (.inl rfl) pe_dnewK)
      (pss_cons (ps_for PassesOwn.never rfl (pi_list (pe_dget hu (pv 1) pe_str (fun _ _ => rfl))) (pg_tup rfl (pgs_cons (pg_name (i := 3) sc__law_sizes.nd rfl (.inl rfl)) (pgs_cons (pg_name (i := 4) sc__law_sizes.nd rfl (.inl rfl)) (pgs_cons (pg_name (i := 5) sc__law_sizes.nd rfl (.inl rfl)) (pgs_cons (pg_name (i := 6) sc__law_sizes.nd rfl (.inl rfl)) (pgs_cons (pg_name (i := 7) sc__law_sizes.nd rfl (.inl rfl)) pgs_nil))))))
        (pss_one (ps_asg (pe_op op_add (pv 5) (C8.pe_c (cal__law_draw T) hr (by decide) rfl (pa_cons (pv 0) (pa_cons (pe_op op_add (pe_op op_sub (pv 6) (pv 5)) pe_int) pa_nil)))) (pg_sub (pv 2) (pv 3) (set_dict hu)))))
      (pss_one (ps_ret (pv 2))))), ?_⟩
    refine fun l nl => ?_
    have sl := same_upd (o := .dK []) nl
    have nfu := rows_flow FL hw R
    have nfd : d ≠ f := ne_of hd hf fun z => by cases z
    have nlf : l ≠ f := (ne_of_none hf nl).symm
    refine ⟨_, rfl, d, _, rfl, mk_wd (sl _ _ hd), u, rfl, ⟨_, .inl (.inl (sl _ _ hw))⟩, for_list (K := K) (a := u) (xs := ws) (fun i σ H' => ∃ (y3 y4 y5 y6 y7 : Option V) (lv : Dct), σ = [some (.ref f), some (.ref d), some (.ref l), y3, y4, y5, y6, y7] ∧ Sb f H H' ∧ Flow H' f c ∧ H' l = some (.dK lv) ∧ lv.length ≤ i ∧ (∀ k v, valV lv k = some v → ∃ b : Int, v = .int b) ∧ ∀ x ∈ m.wd.take i, ∃ j : Int, valV lv (kS x.en) = some (.int j) ∧ x.lo ≤ j ∧ j ≤ x.hi) ⟨none, none, none, none, none, [], rfl, Sb.of sl, FL.same sl, upd_same, Nat.le_refl _, (fun k v e => by cases e), fun x hx => absurd hx (by rw [List.take_zero]; exact List.not_mem_nil)⟩ (fun i σ H' _ ⟨_, _, _, _, _, _, _, s, _⟩ => .inl (.inl (s _ _ hw nfu))) ?_ ?_⟩
    · rintro i v σ H1 hv ⟨y3, y4, y5, y6, y7, lv, rfl, s1, F1, h1, l1, i1, g1⟩
      obtain ⟨x, tt, ex, rfl, ht⟩ := row_at R hv
      have tk1 : m.wd.take (i + 1) = m.wd.take i ++ [x] := by rw [List.take_add_one, ex]; rfl
      have li : i < m.wd.length := (List.getElem?_eq_some_iff.mp ex).1
      have wx := ok.wd x (List.mem_of_getElem? ex)
      have x1 := wx.lo
      have x2 := wx.hi
      have x3 := wx.top
      refine ⟨tt, _, rfl, .inl (.inl (s1 _ _ ht (ne_of ht hf fun z => by cases z))), rfl, _, _, rfl, _, _, rfl, _, _, rfl, _, _, rfl, _, _, rfl, rfl, ?_⟩
      refine ⟨_, rfl, _, rfl, _, rfl, _, rfl, _, _, rfl, rfl, _, _, rfl, rfl, f, c, _, rfl, F1, by omega, by omega, fun v H2 v0 v1 sb2 F2 => ?_⟩
      have h2 := sb2 _ _ h1 nlf
      refine ⟨_, _, rfl, rfl, _, rfl, _, rfl, l, _, rfl, .k (k := kS x.en) h2 (small1000 (by omega)), ?_⟩
      obtain ⟨xs1, hf2⟩ := F2.lst
      obtain ⟨xs2, hc2⟩ := F2.cells
      refine ⟨_, _, _, _, _, _, rfl, fun b o e n => ?_, F2.upd (ne_of hf2 h2 fun z => by cases z) (ne_of hc2 h2 fun z => by cases z), upd_same, ?_, fun k z e => ?_, fun y hy => ?_⟩
      · rw [upd_ne (ne_of_none e nl)]
        exact sb2 _ _ (s1 _ _ e n) n
      · have := length_putK lv (kS x.en) (.int (x.lo + v))
        show (putK lv (kS x.en) (.int (x.lo + v))).length ≤ i + 1
        omega
      · rw [valV_put] at e
        split at e
        · exact ⟨_, (Option.some.inj e).symm⟩
        · exact i1 k z e
      · rw [tk1] at hy
        rw [valV_put]
        rcases List.mem_append.1 hy with hy | hy
        · rw [if_neg]
          · exact g1 y hy
          · intro e
            have e := kS_eq e
            obtain ⟨j, hj⟩ := List.mem_iff_getElem?.1 hy
            have jl : j < i := by
              have := (List.getElem?_eq_some_iff.mp hj).1
              rw [List.length_take] at this
              omega
            rw [List.getElem?_take_of_lt jl] at hj
            have a1 : (m.wd.map (·.en))[j]? = some y.en := by rw [List.getElem?_map, hj]; rfl
            have a2 : (m.wd.map (·.en))[i]? = some x.en := by rw [List.getElem?_map, ex]; rfl
            rw [e] at a1
            have := nodup_ix ndE a1 a2
            omega
        · rw [List.mem_singleton.1 hy, if_pos rfl]
          exact ⟨_, rfl, by omega, by omega⟩
    · rintro σ H1 ⟨y3, y4, y5, y6, y7, lv, rfl, s1, F1, h1, l1, i1, g1⟩
      rw [lws] at l1
      rw [lws, List.take_length] at g1
      refine ⟨_, rfl, q l H1 lv (fun z => iv (valV lv (kS z))) s1 F1 nl h1 (by omega) i1 fun x hx => ?_⟩
      obtain ⟨j, e, a, b⟩ := g1 x hx
      rw [e]
      exact ⟨rfl, a, b⟩
end
end Tw

set_option maxHeartbeats 4000000
namespace Tw
open PySem PySem.Spec PyProof.Rows L2
/-! runs that are refused: lengths that lack a span or are none, keepers that tell what may not be told -/
section
variable {P : Program} {w : World} {K : PySem.W.Frag} {mg : Str → Option Value} {base : Heap}
/-- the first span that lacks a length, else the first length that is none -/
structure LenX (K : PySem.W.Frag) (H : Hp) (E : XK) (wd : List Wd) (lv : Dct) : Prop where
  no : ∀ i x, wd[i]? = some x → (∀ y ∈ wd.take i, (valV lv (kS y.en)).isSome = true) → valV lv (kS x.en) = none → Out H E (He.ga K "NoSpan") "NoSpan" "name" (.str x.en)
  bad : (∀ y ∈ wd, (valV lv (kS y.en)).isSome = true) → ∀ i x v, wd[i]? = some x → (∀ y ∈ wd.take i, ∃ u, valV lv (kS y.en) = some u ∧ whB y.lo y.hi u = true) → valV lv (kS x.en) = some v → whB x.lo x.hi v = false → Out2 H E (He.ga K "BadLength") "BadLength" "low" "high" v v
theorem LenX.same {H H' : Hp} {E : XK} {wd : List Wd} {lv : Dct} (h : LenX K H E wd lv) (s : Same H H') : LenX K H' E wd lv :=
  ⟨fun i x a b c => OutF.same (h.no i x a b c) s, fun a i x v b c d e => OutF.same (h.bad a i x v b c d e) s⟩
def sp_needlX (K : PySem.W.Frag) : Sp := fun vs H Q E => ∃ (p l : Addr) (m : Md) (lv : Dct), vs = [.ref p, .ref l] ∧ WebAt (CW K) H p m ∧ H l = some (.dK lv) ∧ (∀ k v, valV lv k = some v → (plK v).isSome = true) ∧ LenX K H E m.wd lv ∧
  ∀ H', Same H H' → (∀ x ∈ m.wd, ∃ v, valV lv (kS x.en) = some v ∧ whB x.lo x.hi v = true) → Q .non H'
theorem calx_need_lengths (T : Tp K mg) : CalX P w K mg base 5 "need_lengths" (sp_needlX K) := by
  obtain ⟨fd, F⟩ := f_need_lengths T
  refine calx_of F (g_need_lengths T) (b_need_lengths F) sc_need_lengths (fun vs H Q E h => ?_) (fun cdv A outer s H vs Q E hr h tk => ?_)
  · obtain ⟨p, l, m, lv, rfl, _⟩ := h
    rfl
  · obtain ⟨p, l, m, lv, rfl, W, hl, pl, O, q⟩ := h
    have hu := hu_of hr
    have step : ∀ {ws : List V} {H1 : Hp} {i : Nat} {v : V}, Rows H1 ws (m.wd.map Wd.row) → ws[i]? = some v → ∃ (x : Wd) (tt : Addr), m.wd[i]? = some x ∧ v = .ref tt ∧ H1 tt = some (.tup x.row) := fun {ws H1 i v} R hv => row_at R hv
    obtain ⟨dx, a, b, c, ws0, bs, hp, _⟩ := W.ex
    refine ⟨_, (pss_cons (ps_for (passes_of rfl) rfl (pi_list (C8.pe_mt0 (met_Web_spans T) hr (by decide) (pv 0))) (pg_tup rfl (pgs_cons (pg_name (i := 2) sc_need_lengths.nd rfl (.inl rfl)) (pgs_cons (pg_name (i := 3) sc_need_lengths.nd rfl (.inl rfl)) (pgs_cons (pg_name (i := 4) sc_need_lengths.nd rfl (.inl rfl)) (pgs_cons (pg_name (i := 5) sc_need_lengths.nd rfl (.inl rfl)) (pgs_cons (pg_name (i := 6) sc_need_lengths.nd rfl (.inl rfl)) pgs_nil))))))
        (pss_one (ps_if (pt_cmp (pc_dnotin hu (pv 2) (pv 1)) (by rfl)) (pss_one (ps_raise rfl tk (pmk_b (mkx_NoSpan T) hr (by decide) rfl (pa_cons (pv 2) pa_nil)))) pss_nil)))
      (pss_one (ps_for (passes_of rfl) rfl (pi_list (C8.pe_mt0 (met_Web_spans T) hr (by decide) (pv 0))) (pg_tup rfl (pgs_cons (pg_name (i := 2) sc_need_lengths.nd rfl (.inl rfl)) (pgs_cons (pg_name (i := 3) sc_need_lengths.nd rfl (.inl rfl)) (pgs_cons (pg_name (i := 4) sc_need_lengths.nd rfl (.inl rfl)) (pgs_cons (pg_name (i := 5) sc_need_lengths.nd rfl (.inl rfl)) (pgs_cons (pg_name (i := 6) sc_need_lengths.nd rfl (.inl rfl)) pgs_nil))))))
        (pss_one (ps_if (pt_not (pt_val (C8.pe_c (cal_iswh T) hr (by decide) rfl (pa_cons (pe_dget hu (pv 1) (pv 2) (fun _ _ => rfl)) (pa_cons (pv 4) (pa_cons (pv 5) pa_nil)))))) (pss_one (ps_raise rfl tk (pmk_b (mkx_BadLength T) hr (by decide) rfl (pa_cons (pe_dget hu (pv 1) (pv 2) (fun _ _ => rfl)) (pa_cons (pe_dget hu (pv 1) (pv 2) (fun _ _ => rfl)) pa_nil))))) pss_nil))))), ?_⟩
    refine ⟨_, rfl, p, dx, _, rfl, hp, rfl, p, m, rfl, W, fun ws S R nS => ?_⟩
    have sS := same_upd (o := .lst ws) nS
    have hS : upd H S (.lst ws) S = some (.lst ws) := upd_same
    have W1 := W.same sS
    have R1 : Rows (upd H S (.lst ws)) ws (m.wd.map Wd.row) := R.keep (Kt.of sS)
    have hl1 := sS _ _ hl
    have hp1 := sS _ _ hp
    have lw : ws.length = m.wd.length := by rw [R.len, List.length_map]
    generalize upd H S (.lst ws) = H1 at sS hS W1 R1 hl1 hp1 ⊢
    refine ⟨S, rfl, ⟨_, .inl (.inl hS)⟩, for_list (K := K) (a := S) (xs := ws) (fun i σ H' => ∃ y2 y3 y4 y5 y6 : Option V, σ = [some (.ref p), some (.ref l), y2, y3, y4, y5, y6] ∧ H' = H1 ∧ ∀ y ∈ m.wd.take i, (valV lv (kS y.en)).isSome = true) ⟨none, none, none, none, none, rfl, rfl, fun y hy => absurd hy (by rw [List.take_zero]; exact List.not_mem_nil)⟩ (fun i σ H' _ ⟨_, _, _, _, _, _, e, _⟩ => by rw [e]; exact .inl (.inl hS)) ?_ ?_⟩
    · rintro i v σ H2 hv ⟨y2, y3, y4, y5, y6, rfl, rfl, good⟩
      obtain ⟨x, tt, ex, rfl, ht⟩ := step R1 hv
      have tk1 : m.wd.take (i + 1) = m.wd.take i ++ [x] := by rw [List.take_add_one, ex]; rfl
      refine ⟨tt, _, rfl, .inl (.inl ht), rfl, _, _, rfl, _, _, rfl, _, _, rfl, _, _, rfl, _, _, rfl, rfl, ?_⟩
      refine ⟨_, rfl, _, rfl, l, _, rfl, .k (k := kS x.en) hl1, _, rfl, ?_⟩
      cases ev : valV lv (kS x.en) with
      | none =>
        refine iteT ⟨_, rfl, mk_out ((O.no i x ex good ev).same sS)⟩
      | some u =>
        refine iteF ?_
        refine ⟨_, _, _, _, _, rfl, rfl, fun y hy => ?_⟩
        rw [tk1] at hy
        rcases List.mem_append.1 hy with hy | hy
        · exact good y hy
        · rw [List.mem_singleton.1 hy, ev]
          rfl
    · rintro σ H2 ⟨y2, y3, y4, y5, y6, rfl, rfl, good⟩
      rw [lw, List.take_length] at good
      refine ⟨_, rfl, p, dx, _, rfl, hp1, rfl, p, m, rfl, W1, fun ws2 S2 R2 nS2 => ?_⟩
      have sS2 := same_upd (o := .lst ws2) nS2
      have hS2 : upd H2 S2 (.lst ws2) S2 = some (.lst ws2) := upd_same
      have R3 : Rows (upd H2 S2 (.lst ws2)) ws2 (m.wd.map Wd.row) := R2.keep (Kt.of sS2)
      have hl2 := sS2 _ _ hl1
      have sA := sS.trans sS2
      have lw2 : ws2.length = m.wd.length := by rw [R2.len, List.length_map]
      generalize upd H2 S2 (.lst ws2) = H3 at sS2 hS2 R3 hl2 sA ⊢
      refine ⟨S2, rfl, ⟨_, .inl (.inl hS2)⟩, for_list (K := K) (a := S2) (xs := ws2) (fun i σ H' => ∃ y2 y3 y4 y5 y6 : Option V, σ = [some (.ref p), some (.ref l), y2, y3, y4, y5, y6] ∧ Same H3 H' ∧ ∀ y ∈ m.wd.take i, ∃ u, valV lv (kS y.en) = some u ∧ whB y.lo y.hi u = true) ⟨_, _, _, _, _, rfl, Same.refl _, fun y hy => absurd hy (by rw [List.take_zero]; exact List.not_mem_nil)⟩ (fun i σ H' _ ⟨_, _, _, _, _, _, s, _⟩ => .inl (.inl (s _ _ hS2))) ?_ ?_⟩
      · rintro i v σ H4 hv ⟨y2, y3, y4, y5, y6, rfl, s4, fit⟩
        obtain ⟨x, tt, ex, rfl, ht⟩ := step R3 hv
        have tk1 : m.wd.take (i + 1) = m.wd.take i ++ [x] := by rw [List.take_add_one, ex]; rfl
        have hl4 := s4 _ _ hl2
        obtain ⟨u, eu⟩ := Option.isSome_iff_exists.1 (good x (List.mem_of_getElem? ex))
        refine ⟨tt, _, rfl, .inl (.inl (s4 _ _ ht)), rfl, _, _, rfl, _, _, rfl, _, _, rfl, _, _, rfl, _, _, rfl, rfl, ?_⟩
        refine ⟨_, rfl, _, rfl, l, u, rfl, by rw [← eu]; exact .k (k := kS x.en) hl4, _, rfl, _, rfl, ?_⟩
        refine ⟨u, x.lo, x.hi, rfl, pl _ _ eu, ?_⟩
        refine ⟨_, rfl, ?_⟩
        cases ew : whB x.lo x.hi u with
        | false =>
          refine iteT ?_
          refine ⟨_, rfl, _, rfl, l, u, rfl, by rw [← eu]; exact .k (k := kS x.en) hl4, _, rfl, _, rfl, l, u, rfl, by rw [← eu]; exact .k (k := kS x.en) hl4, mk_out2 ((O.bad good i x u ex fit eu ew).same (sA.trans s4))⟩
        | true =>
          refine iteF ?_
          refine ⟨_, _, _, _, _, rfl, s4, fun y hy => ?_⟩
          rw [tk1] at hy
          rcases List.mem_append.1 hy with hy | hy
          · exact fit y hy
          · rw [List.mem_singleton.1 hy]
            exact ⟨u, eu, ew⟩
      · rintro σ H4 ⟨y2, y3, y4, y5, y6, rfl, s4, fit⟩
        rw [lw2, List.take_length] at fit
        exact q _ (sA.trans s4) fit
end
end Tw

set_option maxHeartbeats 4000000
namespace Tw
open PySem PySem.Spec PyProof.Rows L2
/-! what a keeper told is done, or refused -/
def goodN (own : List Str) (t : Int) : Dct → List Str → Bool
  | _, [] => true
  | D, z :: r => decide (z ∈ own) && (!(valV D (kS z)).isSome && goodN own t (putK D (kS z) (.int t)) r)
theorem goodN_nd {own : List Str} {t : Int} : ∀ {ns : List Str} {D : Dct}, goodN own t D ns = true → ns.Nodup ∧ ∀ z ∈ ns, z ∈ own ∧ valV D (kS z) = none
  | [], _, _ => ⟨List.nodup_nil, fun z h => absurd h List.not_mem_nil⟩
  | y :: r, D, h => by
    unfold goodN at h
    simp only [Bool.and_eq_true, decide_eq_true_eq, Bool.not_eq_true'] at h
    obtain ⟨h1, h2, h3⟩ := h
    obtain ⟨nd, all⟩ := goodN_nd h3
    have hy : valV D (kS y) = none := by
      cases e : valV D (kS y) with
      | none => rfl
      | some v => rw [e] at h2; cases h2
    have ne : ∀ z ∈ r, ¬ kS z = kS y := fun z hz e => by
      have := (all z hz).2
      rw [valV_put, if_pos e] at this
      cases this
    refine ⟨List.nodup_cons.2 ⟨fun hm => ne y hm rfl, nd⟩, fun z hz => ?_⟩
    rcases List.mem_cons.1 hz with rfl | hz
    · exact ⟨h1, hy⟩
    · obtain ⟨a, b⟩ := all z hz
      rw [valV_put, if_neg (ne z hz)] at b
      exact ⟨a, b⟩
/-- a refusal while one dict was changed -/
def OutB (D : Addr) (H : Hp) (E : XK) (C : Addr) (fs : List (Str × V)) : Prop := ∀ (d : Addr) (H' : Hp), Sb D H H' → H d = none → H' d = some (.xd fs) → E (.ref C) (some d) H'
theorem OutB.out {D : Addr} {H H1 : Hp} {E : XK} {C : Addr} {fs : List (Str × V)} {o : HO} (h : OutB D H E C fs) (s : Sb D H H1) (hD : H1 D = some o) : OutF H1 E C fs := fun d H' s' n e => by
  refine h d H' (fun b x y z => s' _ _ (s b x y z)) ?_ e
  cases y : H d with
  | none => rfl
  | some x =>
    by_cases c : d = D
    · rw [c, hD] at n
      cases n
    · rw [s d x y c] at n
      cases n
section
variable {P : Program} {w : World} {K : PySem.W.Frag} {mg : Str → Option Value} {base : Heap}
def sp_doX (K : PySem.W.Frag) : Sp := fun vs H Q E => ∃ (p D N : Addr) (t : Int) (m : Md) (ns : List Str) (Dk : Dct), vs = [.ref p, .ref D, .ref N, .int t] ∧ WebAt (CW K) H p m ∧ H D = some (.dK Dk) ∧ H N = some (.lst (ns.map V.str)) ∧ ns.length ≤ 100 ∧ Dk.length ≤ 100 ∧
  (goodN m.own t Dk ns = false → OutB D H E (He.ga K "BadKeeper") [(("tick" : Str), .int t), (("word" : Str), .str "BadKeeper")]) ∧
  ∀ H', goodN m.own t Dk ns = true → Sb D H H' → H' D = some (.dK (doA t Dk ns)) → Q .non H'
theorem calx_do_all (T : Tp K mg) : CalX P w K mg base 5 "do_all" (sp_doX K) := by
  obtain ⟨fd, F⟩ := f_do_all T
  refine calx_of F (g_do_all T) (b_do_all F) sc_do_all (fun vs H Q E h => ?_) (fun cdv A outer s H vs Q E hr h tk => ?_)
  · obtain ⟨p, D, N, t, m, ns, Dk, rfl, _⟩ := h
    rfl
  · obtain ⟨p, D, N, t, m, ns, Dk, rfl, W, hD, hN, few1, few2, O, q⟩ := h
    have hu := hu_of hr
    obtain ⟨dx, a, b, c, ws, bs, hp, _⟩ := W.ex
    refine ⟨_, (pss_cons (ps_set (i := 4) sc_do_all.nd rfl (.inl rfl) (C8.pe_mt0 (met_Web_moments T) hr (by decide) (pv 0)))
      (pss_one (ps_for (passes_of rfl) rfl (pi_list (pv 2)) (pg_name (i := 5) sc_do_all.nd rfl (.inl rfl))
        (pss_cons (ps_if (PW.pt (pw_or (pt_not (pt_val (C8.pe_c (cal_is_one_of T) hr (by decide) rfl (pa_cons (pv 5) (pa_cons (pv 4) pa_nil))))) (pw_or1 (pt_cmp (pc_din hu (pv 5) (pv 1)) (by rfl))))) (pss_one (ps_raise rfl tk (pmk_b (mkx_BadKeeper T) hr (by decide) rfl (pa_cons (pv 3) pa_nil)))) pss_nil)
        (pss_one (ps_asg (pv 3) (pg_sub (pv 1) (pv 5) (set_dict hu)))))))), ?_⟩
    refine ⟨_, rfl, p, dx, _, rfl, hp, rfl, p, m, rfl, W, fun M nM => ?_⟩
    have sM := same_upd (o := .lst (m.own.map V.str)) nM
    have hM : upd H M (.lst (m.own.map V.str)) M = some (.lst (m.own.map V.str)) := upd_same
    have hD1 := sM _ _ hD
    have hN1 := sM _ _ hN
    have nDM : M ≠ D := fun e => by
      rw [e, hD] at nM
      cases nM
    have nDN : N ≠ D := fun e => by
      rw [e, hD] at hN
      cases hN
    refine ⟨_, rfl, N, rfl, ⟨_, .inl (.inl hN1)⟩, for_list (K := K) (a := N) (xs := ns.map V.str) (fun i σ H' => ∃ y5 : Option V, σ = [some (.ref p), some (.ref D), some (.ref N), some (.int t), some (.ref M), y5] ∧ Sb D (upd H M (.lst (m.own.map V.str))) H' ∧ H' D = some (.dK (doA t Dk (ns.take i))) ∧ goodN m.own t (doA t Dk (ns.take i)) (ns.drop i) = goodN m.own t Dk ns) ⟨none, rfl, (fun b o e _ => e), hD1, rfl⟩ (fun i σ H' _ ⟨_, _, s, _⟩ => .inl (.inl (s _ _ hN1 nDN))) ?_ ?_⟩
    · rintro i v σ H1 hv ⟨y5, rfl, s1, h1, g1⟩
      rw [List.getElem?_map] at hv
      obtain ⟨z, ez, rfl⟩ : ∃ z, ns[i]? = some z ∧ V.str z = v := by
        cases y : ns[i]? with
        | none => rw [y] at hv; cases hv
        | some z => exact ⟨z, rfl, by rw [y] at hv; exact Option.some.inj hv⟩
      have li : i < ns.length := (List.getElem?_eq_some_iff.mp ez).1
      have tk1 : ns.take (i + 1) = ns.take i ++ [z] := by rw [List.take_add_one, ez]; rfl
      have dr : ns.drop i = z :: ns.drop (i + 1) := by
        rw [List.drop_eq_getElem_cons li, (List.getElem?_eq_some_iff.mp ez).2]
      have ld := do_len t (ns.take i) Dk
      rw [List.length_take] at ld
      have s01 : Sb D H H1 := fun b o e n => s1 b o (sM _ _ e) n
      have sb1 : goodN m.own t Dk ns = (decide (z ∈ m.own) && (!(valV (doA t Dk (ns.take i)) (kS z)).isSome && goodN m.own t (putK (doA t Dk (ns.take i)) (kS z) (.int t)) (ns.drop (i + 1)))) := by
        rw [← g1, dr]
        rfl
      refine ⟨_, rfl, _, rfl, z, M, m.own, rfl, s1 _ _ hM nDM, ?_⟩
      by_cases hz : z ∈ m.own
      · rw [decide_eq_true hz]
        refine ⟨_, rfl, iteF ⟨_, rfl, _, rfl, D, _, rfl, .k (k := kS z) h1, _, rfl, ?_⟩⟩
        cases ev : (valV (doA t Dk (ns.take i)) (kS z)).isSome with
        | true =>
          rw [ev] at sb1
          refine iteT ?_
          refine ⟨_, rfl, mk_out ((O (by rw [sb1]; simp)).out s01 h1)⟩
        | false =>
          rw [ev, decide_eq_true hz] at sb1
          refine iteF ⟨_, rfl, _, rfl, _, rfl, D, _, rfl, .k (k := kS z) h1 (small1000 (by omega)), ?_⟩
          refine ⟨_, rfl, sb_putF s1, ?_, ?_⟩
          · rw [upd_same, tk1, do_snoc]
          · rw [tk1, do_snoc, sb1]
            rfl
      · rw [decide_eq_false hz]
        rw [decide_eq_false hz] at sb1
        refine ⟨_, rfl, iteT ?_⟩
        refine ⟨_, rfl, mk_out ((O (by rw [sb1]; rfl)).out s01 h1)⟩
    · rintro σ H1 ⟨y5, rfl, s1, h1, g1⟩
      rw [List.length_map, List.take_length] at h1
      rw [List.length_map, List.take_length, List.drop_length] at g1
      exact q H1 g1.symm (fun b o e n => s1 b o (sM _ _ e) n) h1
end
end Tw

set_option maxHeartbeats 4000000
namespace Tw
open PySem PySem.Spec PyProof.Rows L2
/-! a whole run of any keeper: what comes, or the refusal -/
abbrev M0 : Addr → Prop := fun _ => False
/-- what is told in the n-th tick may be told -/
def goodAt (L : Str → Int) (m : Md) (kf : Nat → Dct → Dct → List Str) (n : Nat) : Prop := goodN m.own (n : Int) (standA L m.wd kf n).1 (kf n (standA L m.wd kf n).1 (hearA L m.wd (n : Int) (standA L m.wd kf n).1 (standA L m.wd kf n).2)) = true
theorem stand_okG {L : Str → Int} {m : Md} {kf : Nat → Dct → Dct → List Str} {b : Int} : ∀ n : Nat, (∀ k, k < n → goodAt L m kf k) → 0 ≤ b → (n : Int) ≤ b + 1 → TkD ("start" :: m.own) b (standA L m.wd kf n).1 ∧ TkD (m.wd.map (·.en)) b (standA L m.wd kf n).2
  | 0, _, b0, _ => stand_ok (own := m.own) (kf := fun _ _ _ => []) (fun _ _ _ => ⟨List.nodup_nil, fun z h => absurd h List.not_mem_nil⟩) (L := L) (wd := m.wd) 0 b0 (by omega)
  | n + 1, g, b0, le => by
    obtain ⟨h1, h2⟩ := stand_okG n (fun k h => g k (by omega)) b0 (by omega)
    have hb : (n : Int) ≤ b := by omega
    have h3 := TkD.hear (L := L) (D := (standA L m.wd kf n).1) (t := (n : Int)) (by omega) hb m.wd _ h2 fun x hx => List.mem_map_of_mem hx
    exact ⟨TkD.doA (by omega) hb _ _ h1 fun z hz => List.mem_cons_of_mem _ ((goodN_nd (g n (by omega))).2 z hz).1, h3⟩
section
variable {P : Program} {w : World} {K : PySem.W.Frag} {mg : Str → Option Value} {base : Heap}
def lensL (lv : Dct) : Str → Int := fun z => iv (valV lv (kS z))
def sp_playX (P : Program) (w : World) (K : PySem.W.Frag) (mg : Str → Option Value) (base : Heap) (kk : Nat) : Sp := fun vs H Q E => ∃ (p f l : Addr) (m : Md) (lv : Dct) (kf : Nat → Dct → Dct → List Str) (J : Nat → Hp → Prop) (G : Hp → Prop) (sp : Sp),
  vs = [.ref p, .ref f, .ref l] ∧ WebAt (CW K) H p m ∧ m.pts.Nodup ∧ H l = some (.dK lv) ∧ (∀ k v, valV lv k = some v → (plK v).isSome = true) ∧ LenX K H E m.wd lv ∧ (∀ n D h, (kf n D h).length ≤ 100) ∧ Clo P w K mg base kk f G sp ∧ (∀ n H, J n H → G H) ∧ KeepP m.own (m.wd.map (·.en)) m.last kf J M0 sp ∧ J 0 H ∧
  (∀ n H1 H2, J n H1 → (∀ b o, H1 b = some o → (H b).isSome = true → H2 b = some o) → J n H2) ∧
  ((∀ x ∈ m.wd, ∃ v, valV lv (kS x.en) = some v ∧ whB x.lo x.hi v = true) → ∀ n : Nat, (n : Int) ≤ m.last → (∀ k, k < n → goodAt (lensL lv) m kf k) → ¬ goodAt (lensL lv) m kf n → OutF H E (He.ga K "BadKeeper") [(("tick" : Str), .int (n : Int)), (("word" : Str), .str "BadKeeper")]) ∧
  ∀ (R : Addr) (H' : Hp), (∀ x ∈ m.wd, ∃ v, valV lv (kS x.en) = some v ∧ whB x.lo x.hi v = true) → (∀ k : Nat, (k : Int) ≤ m.last → goodAt (lensL lv) m kf k) → Same H H' → H R = none → H' R = some (.dK (outA m.pts (tickA (standA (lensL lv) m.wd kf (m.last.toNat + 1)).1 (endA (lensL lv) m.wd (standA (lensL lv) m.wd kf (m.last.toNat + 1)).1)))) → Q (.ref R) H'
theorem calx_play (T : Tp K mg) (kk : Nat) : CalX P w K mg base (kk + 8) "play" (sp_playX P w K mg base kk) := by
  obtain ⟨fd, F⟩ := f_play T
  refine calx_of F (g_play T) (b_play F) sc_play (fun vs H Q E h => ?_) (fun cdv A outer s H vs Q E hr h tk => ?_)
  · obtain ⟨p, f, l, m, lv, kf, J, G, sp, rfl, _⟩ := h
    rfl
  · obtain ⟨p, f, l, m, lv, kf, J, G, sp, rfl, W, nd, hl, pl, LX, short, FC, hG, kp, J0, stab, OK, q⟩ := h
    have hM : ∀ n H1 b, J n H1 → M0 b → ∃ xs, H1 b = some (.lst xs) := fun _ _ _ _ z => z.elim
    have hu := hu_of hr
    have hu64 := hr.units
    refine ⟨_, (pss_cons (ps_expr (pe_cx (calx_need_lengths T) tk (fun _ _ _ _ h ↦ h) hr (by omega) rfl (pa_cons (pv 0) (pa_cons (pv 2) pa_nil))))
      (pss_cons (ps_setLc (i := 3) (own := [("end", 10), ("begin", 11), ("low", 12), ("high", 13), ("late", 14)]) (tt := tYes) rfl sc_play.nd rfl rfl (sw_true rfl rfl rfl (by decide +kernel)) (pi_list (C8.pe_mt0 (met_Web_spans T) hr (by omega) (pv 0))) (blkOk_by (N := N_play) (sc := defScope s_play) (by decide +kernel)) (fun _ _ _ _ _ => (pg_tupK (K := K) (n := 5) rfl rfl (pgs_cons (pg_name (i := 10) sc_play.nd rfl (.inl rfl)) (pgs_cons (pg_name (i := 11) sc_play.nd rfl (.inl rfl)) (pgs_cons (pg_name (i := 12) sc_play.nd rfl (.inl rfl)) (pgs_cons (pg_name (i := 13) sc_play.nd rfl (.inl rfl)) (pgs_cons (pg_name (i := 14) sc_play.nd rfl (.inl rfl)) pgs_nil))))))) (fun _ _ _ _ _ => pts_nil) (fun _ _ _ _ _ => (pe_tup (pa_cons (pv 10) (pa_cons (pv 11) (pa_cons (pe_dget hu (pv 2) (pv 10) (fun _ _ => rfl)) (pa_cons (pv 14) pa_nil)))))))
      (pss_cons (ps_set (i := 4) sc_play.nd rfl (.inr rfl) (pe_disp (pps_cons (C8.pe_gc (by rfl) (c_START T)) pe_int pps_nil) (by rfl) (by rfl) (fun z => by cases z) (by decide)))
      (pss_cons (ps_set (i := 5) sc_play.nd rfl (.inl rfl) pe_dnewK)
      (pss_cons (ps_for (passes_of rfl) rfl (pi_range1 rfl (z_range T) (pa_cons (pe_op op_add (pe_fld (pv 0) rfl) pe_int) pa_nil)) (pg_name (i := 6) sc_play.nd rfl (.inl rfl))
        (pss_cons (ps_expr (C8.pe_c (cal_hear_all T) hr (by omega) rfl (pa_cons (pv 3) (pa_cons (pv 4) (pa_cons (pv 5) (pa_cons (pv 6) pa_nil))))))
        (pss_cons (ps_set (i := 7) sc_play.nd rfl (.inl rfl) (pe_clo (i := 1) FC hr (by omega) rfl (.inl rfl) (pa_cons (pv 6) (pa_cons (pe_callTy call_dictD (by rfl) (z_dict T) bb_dict (pa_cons (pv 4) pa_nil)) (pa_cons (pe_callTy call_dictD (by rfl) (z_dict T) bb_dict (pa_cons (pv 5) pa_nil)) pa_nil)))))
        (pss_one (ps_expr (pe_cx (calx_do_all T) tk (fun _ _ _ _ h ↦ h) hr (by omega) rfl (pa_cons (pv 0) (pa_cons (pv 4) (pa_cons (pv 7) (pa_cons (pv 6) pa_nil))))))))))
      (pss_cons (ps_dcs (i := 8) (own := [("end", 10), ("begin", 11), ("length", 15), ("late", 14)]) ⟨rfl, rfl, rfl, rfl, by decide +kernel⟩ ⟨rfl, sc_play.nd, (pi_list (pv 3)), blkOk_by (N := N_play) (sc := defScope s_play) (by decide +kernel), fun _ _ _ _ _ => (pg_tupK (K := K) (n := 4) rfl rfl (pgs_cons (pg_name (i := 10) sc_play.nd rfl (.inl rfl)) (pgs_cons (pg_name (i := 11) sc_play.nd rfl (.inl rfl)) (pgs_cons (pg_name (i := 15) sc_play.nd rfl (.inl rfl)) (pgs_cons (pg_name (i := 14) sc_play.nd rfl (.inl rfl)) pgs_nil))))), fun _ _ _ _ _ => (pts_one (pt_cmp (pc_din hu (pv 11) (pv 4)) (by rfl))), fun _ _ _ _ _ => (pv 10), fun _ _ _ _ _ => (pe_op op_add (pe_dget hu (pv 4) (pv 11) (fun _ _ => rfl)) (pv 15)), fun _ => rfl⟩)
      (pss_cons (ps_set (i := 9) sc_play.nd rfl (.inr rfl) (pe_starS (pv 4) (pv 8)))
      (pss_one (ps_ret (pe_dc (own := [("name", 16)]) (g := gName 16) rfl sc_play.nd (pi_list (C8.pe_mt0 (met_Web_points T) hr (by omega) (pv 0))) (blkOk_by (N := N_play) (sc := defScope s_play) (by decide +kernel)) (fun _ _ _ _ _ => (pg_name (i := 16) sc_play.nd rfl (.inl rfl))) (fun _ _ _ _ _ => (pts_one (pt_cmp (pc_din hu (pv 16) (pv 9)) (by rfl)))) (fun _ _ _ _ _ => (pv 16)) (fun _ _ _ _ _ => (pe_dget hu (pv 9) (pv 16) (fun _ _ => rfl))))))))))))), ?_⟩
    have lst0 : ∀ b, M0 b → ∃ xs, H b = some (.lst xs) := fun b z => hM 0 H b J0 z
    have noM : ∀ {b : Addr}, H b = none → ¬ M0 b := fun {b} n z => by
      obtain ⟨xs, e⟩ := lst0 b z
      rw [n] at e
      cases e
    have frn : ∀ {n : Nat} {H' : Hp} {b : Addr}, Fr M0 H H' → J n H' → H' b = none → H b = none ∧ ¬ M0 b := fun {n H' b} f j e => by
      have nm : ¬ M0 b := fun z => by
        obtain ⟨xs, y⟩ := hM n H' b j z
        rw [e] at y
        cases y
      refine ⟨?_, nm⟩
      cases y : H b with
      | none => rfl
      | some o =>
        have := f b o y nm
        rw [e] at this
        cases this
    have nl : ¬ M0 l := fun z => by
      obtain ⟨xs, e⟩ := lst0 l z
      rw [hl] at e
      cases e
    have lens := W.len
    have last := W.last
    have lp : m.pts.length ≤ 20 := by
      unfold Md.pts
      simp only [List.length_append, List.length_cons, List.length_map, List.length_nil]
      omega
    refine ⟨_, rfl, _, rfl, p, l, m, lv, rfl, W, hl, pl, LX, fun H1 s1 fit => ?_⟩
    have good : ∀ x ∈ m.wd, valV lv (kS x.en) = some (.int (lensL lv x.en)) ∧ x.lo ≤ lensL lv x.en ∧ lensL lv x.en ≤ x.hi := fun x hx => by
      obtain ⟨v, e, h⟩ := fit x hx
      obtain ⟨i, rfl, i1, i2⟩ := wh_int h
      unfold lensL
      rw [e]
      exact ⟨rfl, i1, i2⟩
    have OK := OK fit
    have q := fun R H' => q R H' fit
    generalize lensL lv = L at good OK q
    have W1 := W.same s1
    have hl1 := s1 _ _ hl
    obtain ⟨dx, a, b, c, ws0, bs, hp, _⟩ := W1.ex
    refine ⟨_, rfl, p, dx, _, rfl, hp, rfl, p, m, rfl, W1, fun ws S0 R nS0 => ?_⟩
    have sS0 := s1.trans (same_upd (o := .lst ws) nS0)
    have hS0 : upd H1 S0 (.lst ws) S0 = some (.lst ws) := upd_same
    have R1 : Rows (upd H1 S0 (.lst ws)) ws (m.wd.map Wd.row) := R.keep (Kt.of (same_upd nS0))
    generalize upd H1 S0 (.lst ws) = H2 at sS0 hS0 R1 ⊢
    have hl2 := sS0 _ _ hl
    have lw : ws.length = m.wd.length := by rw [R1.len, List.length_map]
    refine ⟨S0, rfl, ⟨_, .inl (.inl hS0)⟩, fun S nS => ?_⟩
    refine lc_it (walk_listN (K := K) (a := S0) (xs := ws) (n := ws.length) rfl) (fun i H' => ∃ acc : List V, Same H2 H' ∧ H' S = some (.lst acc) ∧ Rows H' acc ((m.wd.take i).map (row4 L))) ⟨[], same_upd nS, upd_same, .nil⟩ (fun i H' _ ⟨_, s, _⟩ => .inl (.inl (s _ _ hS0))) ?_ ?_
    · rintro i x _ H3 hi ⟨acc, s3, hS3, R3⟩ ⟨rfl, hx⟩
      obtain ⟨r, er, tt, rfl, ht⟩ := paired_at R1 hx
      rw [List.getElem?_map] at er
      obtain ⟨x, ex, rfl⟩ : ∃ x, m.wd[i]? = some x ∧ x.row = r := by
        cases z : m.wd[i]? with
        | none => rw [z] at er; cases er
        | some x => exact ⟨x, rfl, by rw [z] at er; exact Option.some.inj er⟩
      have tk1 : m.wd.take (i + 1) = m.wd.take i ++ [x] := by rw [List.take_add_one, ex]; rfl
      obtain ⟨g1, g2, g3⟩ := good x (List.mem_of_getElem? ex)
      have la := R3.len
      rw [List.length_map, List.length_take] at la
      rw [show wipe (L2.start N_play [V.ref p, V.ref f, V.ref l]) (List.map (fun x => x.2) [(("end" : Str), 10), ("begin", 11), ("low", 12), ("high", 13), ("late", 14)]) = [some (.ref p), some (.ref f), some (.ref l), none, none, none, none, none, none, none, none, none, none, none, none, none, none] from rfl]
      refine ⟨tt, _, rfl, .inl (.inl (s3 _ _ ht)), rfl, _, _, rfl, _, _, rfl, _, _, rfl, _, _, rfl, _, _, rfl, rfl, ?_⟩
      refine ⟨rfl, yes_i (iteT ⟨_, rfl, _, rfl, _, rfl, _, rfl, l, .int (L x.en), rfl, by rw [← g1]; exact .k (k := kS x.en) (s3 _ _ hl2), _, rfl, (by show 4 ≤ sizeLine; decide), fun t2 nt2 => ?_⟩)⟩
      have st2 := same_upd (o := .tup (row4 L x)) nt2
      have nTS : t2 ≠ S := fun e => by
        rw [e, hS3] at nt2
        cases nt2
      refine ⟨acc, st2 _ _ hS3, small1000 (by omega), acc ++ [.ref t2], same_put (s3.trans st2) nS, upd_same, ?_⟩
      rw [tk1, List.map_append]
      refine Rows.snoc ?_ ?_
      · exact R3.keep fun u xs e => by
          rw [upd_ne (fun z => by rw [z, hS3] at e; cases e)]
          exact st2 _ _ e
      · rw [upd_ne nTS]
        exact upd_same
    · rintro H3 ⟨acc, s3, hS3, R3⟩
      rw [lw, List.take_length] at R3
      have sA := sS0.trans s3
      have nS0' := sS0.free nS
      refine fun D nD => ⟨upd_same, [(kS "start", .int 0)], rfl, by decide, ?_⟩
      have sP : Same H3 (upd (upd H3 D (.dK [])) D (.dK (mergeK [] [(kS "start", .int 0)]))) := same_put (same_upd nD) nD
      have hD3 : upd (upd H3 D (.dK [])) D (.dK (mergeK [] [(kS "start", .int 0)])) D = some (.dK [(kS "start", .int 0)]) := upd_same
      have nD0 := sA.free nD
      have sB := sA.trans sP
      have hS4 := sP _ _ hS3
      have R4 : Rows (upd (upd H3 D (.dK [])) D (.dK (mergeK [] [(kS "start", .int 0)]))) acc (m.wd.map (row4 L)) := R3.keep (Kt.of sP)
      generalize upd (upd H3 D (.dK [])) D (.dK (mergeK [] [(kS "start", .int 0)])) = H4 at sP hD3 sB hS4 R4 ⊢
      refine fun Hd nHd => ?_
      have sH := same_upd (o := .dK []) nHd
      have nHd0 := sB.free nHd
      have nDH : D ≠ Hd := fun e => by
        rw [← e, hD3] at nHd
        cases nHd
      have sC := sB.trans sH
      have start : PlAt H M0 J L m kf S D Hd acc 0 (upd H4 Hd (.dK [])) := ⟨fun b o e _ => sC _ _ e, sH _ _ hS4, R4.keep (Kt.of sH), sH _ _ hD3, upd_same, stab 0 H _ J0 fun b o e _ => sC _ _ e⟩
      generalize upd H4 Hd (.dK []) = H5 at start ⊢
      obtain ⟨dx5, a5, b5, c5, ws5, bs5, hp5, _⟩ := (web_fr W start.fr lst0).ex
      refine ⟨_, rfl, p, CW K, dx5, _, _, rfl, hp5, cl_Web T, na_by T, wf_by, ?_⟩
      refine ⟨m.last, 1, rfl, rfl, m.last + 1, rfl, by omega, by omega, ?_⟩
      refine for_range (lo := 0) (n := (m.last + 1).toNat) (fun i σ H' => ∃ y6 y7 : Option V, σ = [some (.ref p), some (.ref f), some (.ref l), some (.ref S), some (.ref D), some (.ref Hd), y6, y7, none, none, none, none, none, none, none, none, none] ∧ PlAt H M0 J L m kf S D Hd acc i H' ∧ ∀ k, k < i → goodAt L m kf k) ⟨none, none, rfl, start, fun k h => absurd h (Nat.not_lt_zero _)⟩ ?_ ?_
      · rintro i σ H6 hi ⟨y6, y7, rfl, A6, g6⟩
        rw [Int.zero_add]
        obtain ⟨ok1, ok2⟩ := stand_okG (L := L) (m := m) (b := m.last) i g6 (by omega) (by omega)
        have l1 := ok1.len
        have l2 := ok2.len
        rw [List.length_cons] at l1
        rw [List.length_map] at l2
        refine ⟨_, rfl, _, rfl, _, rfl, _, rfl, S, D, Hd, (i : Int), L, m.wd, acc, _, _, rfl, A6.sp, A6.rows, A6.done, A6.heard, nDH, fun k v e => ?_, by omega, fun H7 s7 h7 => ?_⟩
        · obtain ⟨j, e, _⟩ := ok1.int e
          exact ⟨j, e⟩
        have nSD : S ≠ D := fun e => by
          have := A6.sp
          rw [e, A6.done] at this
          cases this
        have nSH : S ≠ Hd := fun e => by
          have := A6.sp
          rw [e, A6.heard] at this
          cases this
        have F7 := A6.fr.sb s7 nHd0
        have J7 : J i H7 := stab i H6 H7 A6.j fun b o e z => s7 b o e fun y => by
          rw [y, nHd0] at z
          cases z
        have hD7 := s7 _ _ A6.done nDH
        have hS7 := s7 _ _ A6.sp nSH
        have R7 : Rows H7 acc (m.wd.map (row4 L)) := A6.rows.keep fun b xs e => s7 b _ e fun y => by
          rw [y, A6.heard] at e
          cases e
        have ok3 : TkD (m.wd.map (·.en)) m.last (hearA L m.wd (i : Int) (standA L m.wd kf i).1 (standA L m.wd kf i).2) := TkD.hear (by omega) (by omega) m.wd _ ok2 fun x hx => List.mem_map_of_mem hx
        have sh7 := short i (standA L m.wd kf i).1 (hearA L m.wd (i : Int) (standA L m.wd kf i).1 (standA L m.wd kf i).2)
        refine ⟨rfl, hG i _ J7, _, rfl, _, rfl, D, _, rfl, .inl hD7, fun d1 n1 => ?_⟩
        have s8 := same_upd (o := .dK (standA L m.wd kf i).1) n1
        have e8 : upd H7 d1 (.dK (standA L m.wd kf i).1) d1 = some (.dK (standA L m.wd kf i).1) := upd_same
        obtain ⟨n10, nM1⟩ := frn F7 J7 n1
        generalize upd H7 d1 (.dK (standA L m.wd kf i).1) = H8 at s8 e8 ⊢
        refine ⟨_, rfl, Hd, _, rfl, .inl (s8 _ _ h7), fun d2 n2 => ?_⟩
        have s9 := same_upd (o := .dK (hearA L m.wd (i : Int) (standA L m.wd kf i).1 (standA L m.wd kf i).2)) n2
        have e9 : upd H8 d2 (.dK (hearA L m.wd (i : Int) (standA L m.wd kf i).1 (standA L m.wd kf i).2)) d2 = some (.dK (hearA L m.wd (i : Int) (standA L m.wd kf i).1 (standA L m.wd kf i).2)) := upd_same
        have s79 := s8.trans s9
        have F9 := F7.same s79
        have J9 : J i (upd H8 d2 (.dK (hearA L m.wd (i : Int) (standA L m.wd kf i).1 (standA L m.wd kf i).2))) := stab i H7 _ J7 fun b o e _ => s79 b o e
        obtain ⟨n20, nM2⟩ := frn (F7.same s8) (stab i H7 _ J7 fun b o e _ => s8 b o e) n2
        have n12 : d1 ≠ d2 := fun z => by
          rw [z, n2] at e8
          cases e8
        have e19 := s9 _ _ e8
        generalize upd H8 d2 (.dK (hearA L m.wd (i : Int) (standA L m.wd kf i).1 (standA L m.wd kf i).2)) = H9 at s9 e9 s79 F9 J9 e19 ⊢
        refine ⟨hG i _ J9, kp i _ _ d1 d2 H9 _ e19 e9 n12 nM1 nM2 J9 ok1 ok3 (by omega) fun N H10 f10 hN J10 => ?_⟩
        have keep : ∀ {b : Addr} {o : HO}, H7 b = some o → ¬ M0 b → H10 b = some o := fun {b o} e n => f10 b o (s79 _ _ e) (fun z => by rw [z] at e; rw [e] at n1; cases n1) (fun z => by
          have e := s8 _ _ e
          rw [z, n2] at e
          cases e) n
        have F10 : Fr M0 H H10 := fun b o e n => f10 b o (F9 b o e n) (fun z => by rw [z, n10] at e; cases e) (fun z => by rw [z, n20] at e; cases e) n
        have hD10 := keep hD7 (noM nD0)
        have hH10 := keep h7 (noM nHd0)
        have hS10 := keep hS7 (noM nS0')
        have R10 : Rows H10 acc (m.wd.map (row4 L)) := R7.keep fun b xs e => keep e fun z => by
          obtain ⟨ys, y⟩ := hM i H7 b J7 z
          rw [y] at e
          cases e
        refine ⟨_, rfl, _, rfl, _, rfl, _, rfl, p, D, N, (i : Int), m, _, _, rfl, web_fr W F10 lst0, hD10, hN, sh7, by omega, fun bad => ?_, fun H11 ok11 s11 h11 => ?_⟩
        · have o := OK i (by omega) g6 (fun z => by
            unfold goodAt at z
            rw [bad] at z
            cases z)
          intro dd H11 s11 ndd e
          refine o dd H11 (fun b x y => s11 _ _ (F10 b x y fun z => z) (ne_of_none y nD0)) ?_ e
          exact (frn F10 J10 ndd).1
        refine ⟨_, _, rfl, ⟨F10.sb s11 nD0, s11 _ _ hS10 nSD, R10.keep (fun b xs e => s11 b _ e fun z => by
          rw [z, hD10] at e
          cases e), h11, s11 _ _ hH10 nDH.symm, stab (i + 1) H10 H11 J10 fun b o e z => s11 b o e fun y => by
          rw [y, nD0] at z
          cases z⟩, fun k hk => ?_⟩
        rcases Nat.lt_succ_iff_lt_or_eq.1 hk with h | h
        · exact g6 k h
        · rw [h]
          exact ok11
      · rintro σ H6 ⟨y6, y7, rfl, A6, g6⟩
        have nT : ((m.last + 1).toNat) = m.last.toNat + 1 := by omega
        rw [nT] at A6
        obtain ⟨ok1, ok2⟩ := stand_okG (L := L) (m := m) (b := m.last) (m.last.toNat + 1) (fun k h => g6 k (by omega)) (by omega) (by omega)
        have q := fun R H' => q R H' fun k h => g6 k (by omega)
        have l1 := ok1.len
        rw [List.length_cons] at l1
        generalize hDk : (standA L m.wd kf (m.last.toNat + 1)).1 = Dk at ok1 l1 q A6 ⊢
        have d6 := A6.done
        rw [hDk] at d6
        have la : acc.length = m.wd.length := by rw [A6.rows.len, List.length_map]
        refine ⟨_, rfl, S, rfl, ⟨_, .inl (.inl A6.sp)⟩, fun E0' nE => ?_⟩
        obtain ⟨nE0, nME⟩ := frn A6.fr A6.j nE
        have nDE : D ≠ E0' := fun z => by
          rw [← z, d6] at nE
          cases nE
        refine dc_walk (walk_list (K := K) (a := S) (xs := acc)) (fun i H' => Same H6 H' ∧ H' E0' = some (.dK (endA L (m.wd.take i) Dk))) ⟨same_upd nE, upd_same⟩ (fun i H' _ h => .inl (.inl (h.1 _ _ A6.sp))) ?_ ?_
        · rintro i v H7 H8 hi ⟨s7, h7⟩ ⟨rfl, hv⟩
          obtain ⟨r, er, tt, rfl, ht⟩ := paired_at A6.rows hv
          rw [List.getElem?_map] at er
          obtain ⟨x, ex, rfl⟩ : ∃ x, m.wd[i]? = some x ∧ row4 L x = r := by
            cases z : m.wd[i]? with
            | none => rw [z] at er; cases er
            | some x => exact ⟨x, rfl, by rw [z] at er; exact Option.some.inj er⟩
          have tk1 : m.wd.take (i + 1) = m.wd.take i ++ [x] := by rw [List.take_add_one, ex]; rfl
          have el := (end_len L Dk (m.wd.take i)).1
          rw [List.length_take] at el
          refine ⟨tt, _, rfl, .inl (.inl (s7 _ _ ht)), rfl, _, _, rfl, _, _, rfl, _, _, rfl, _, _, rfl, rfl, ?_⟩
          refine ⟨rfl, _, rfl, _, rfl, D, _, rfl, .k (k := kS x.bg) (s7 _ _ d6), ?_⟩
          rw [tk1, endA_snoc]
          cases eb : valV Dk (kS x.bg) with
          | none =>
            refine ⟨_, rfl, iteF ⟨s7, ?_⟩⟩
            rw [h7]
            unfold end1
            rw [eb]
          | some u =>
            obtain ⟨b, rfl, _⟩ := ok1.int eb
            refine ⟨_, rfl, iteT ⟨_, rfl, _, rfl, _, rfl, D, .int b, rfl, by rw [← eb]; exact .k (k := kS x.bg) (s7 _ _ d6), _, rfl, _, _, rfl, rfl, _, kS x.en, rfl, h7, small1000 (by omega), same_put s7 nE, ?_⟩⟩
            rw [upd_same]
            unfold end1
            rw [eb]
        · rintro H7 ⟨s7, h7⟩
          rw [la, List.take_length] at h7
          obtain ⟨el, en⟩ := end_len L Dk m.wd
          have d7 := s7 _ _ d6
          refine fun B nB => ?_
          have sB := same_upd (o := .dK []) nB
          have hB : upd H7 B (.dK []) B = some (.dK []) := upd_same
          have nBD : B ≠ D := fun z => by
            rw [z, d7] at nB
            cases nB
          have nBE : B ≠ E0' := fun z => by
            rw [z, h7] at nB
            cases nB
          have d8 := sB _ _ d7
          have e8 := sB _ _ h7
          refine ⟨_, rfl, D, Dk, rfl, nBD, d8, hB, by omega, ?_⟩
          refine ⟨_, rfl, E0', _, rfl, nBE, by rw [upd_ne (Ne.symm nBE)]; exact e8, upd_same, by omega, ?_⟩
          have sT : Same H7 (upd (upd (upd H7 B (.dK [])) B (.dK (mergeK [] Dk))) B (.dK (mergeK (mergeK [] Dk) (endA L m.wd Dk)))) := same_put (same_put sB nB) nB
          have hT : upd (upd (upd H7 B (.dK [])) B (.dK (mergeK [] Dk))) B (.dK (mergeK (mergeK [] Dk) (endA L m.wd Dk))) B = some (.dK (mergeK (mergeK [] Dk) (endA L m.wd Dk))) := upd_same
          have vT : ∀ k, valV (mergeK (mergeK [] Dk) (endA L m.wd Dk)) k = tickA Dk (endA L m.wd Dk) k := fun k => by
            rw [merge_val _ _ _ en]
            unfold tickA
            rw [merge_val _ _ _ ok1.nd]
            unfold tickA
            cases valV (endA L m.wd Dk) k with
            | some v => rfl
            | none =>
              cases valV Dk k with
              | some v => rfl
              | none => rfl
          generalize mergeK (mergeK [] Dk) (endA L m.wd Dk) = Tk at sT hT vT ⊢
          generalize upd (upd (upd H7 B (.dK [])) B (.dK (mergeK [] Dk))) B (.dK Tk) = H8 at sT hT ⊢
          have s8 := s7.trans sT
          have F8 := A6.fr.same s8
          have J8 : J (m.last.toNat + 1) H8 := stab _ H6 H8 A6.j fun b o e _ => s8 b o e
          have W8 := web_fr W F8 lst0
          obtain ⟨dx8, a8, b8, c8, ws8, bs8, hp8, _⟩ := W8.ex
          refine ⟨_, rfl, p, dx8, _, rfl, hp8, rfl, p, m, rfl, W8, fun qa H9 s9 nq hq => ?_⟩
          have J9 : J (m.last.toNat + 1) H9 := stab _ H8 H9 J8 fun b o e _ => s9 b o e
          have F9 := F8.same s9
          refine ⟨qa, rfl, ⟨_, .inl (.inl hq)⟩, fun R nR => ?_⟩
          obtain ⟨nR0, nMR⟩ := frn F9 J9 nR
          refine dc_walk (walk_list (K := K) (a := qa) (xs := m.pts.map V.str)) (fun i H' => Same H9 H' ∧ H' R = some (.dK (outA (m.pts.take i) (tickA Dk (endA L m.wd Dk))))) ⟨same_upd nR, upd_same⟩ (fun i H' _ h => .inl (.inl (h.1 _ _ hq))) ?_ ?_
          · rintro i v H10 H11 hi ⟨s10, h10⟩ ⟨rfl, hv⟩
            rw [List.getElem?_map] at hv
            obtain ⟨z, ez, rfl⟩ : ∃ z, m.pts[i]? = some z ∧ V.str z = v := by
              cases y : m.pts[i]? with
              | none => rw [y] at hv; cases hv
              | some z => exact ⟨z, rfl, by rw [y] at hv; exact Option.some.inj hv⟩
            have tk1 : m.pts.take (i + 1) = m.pts.take i ++ [z] := by rw [List.take_add_one, ez]; rfl
            have hz : z ∉ m.pts.take i := fun h => by
              obtain ⟨j, hj⟩ := List.mem_iff_getElem?.1 h
              have jl : j < i := by
                have := (List.getElem?_eq_some_iff.mp hj).1
                rw [List.length_take] at this
                omega
              rw [List.getElem?_take_of_lt jl] at hj
              have := nodup_ix nd hj ez
              omega
            have ol := out_len (tickA Dk (endA L m.wd Dk)) (m.pts.take i)
            rw [List.length_take] at ol
            have hT10 := s10 _ _ (s9 _ _ hT)
            refine ⟨rfl, _, rfl, _, rfl, B, _, rfl, .k (k := kS z) hT10, ?_⟩
            rw [vT, tk1]
            cases et : tickA Dk (endA L m.wd Dk) (kS z) with
            | none =>
              refine ⟨_, rfl, iteF ⟨s10, ?_⟩⟩
              rw [h10, out_snoc, et, Option.map_none, Option.toList_none, List.append_nil]
            | some u =>
              refine ⟨_, rfl, iteT ⟨_, rfl, _, rfl, _, rfl, B, u, rfl, by rw [← et, ← vT]; exact .k (k := kS z) hT10, _, kS z, rfl, h10, small1000 (by omega), same_put s10 nR, ?_⟩⟩
              rw [upd_same, out_put et hz]
          · rintro H10 ⟨s10, h10⟩
            rw [List.length_map, List.take_length] at h10
            exact q R H10 (fun b x e => F9.same s10 b x e fun z => z) nR0 h10
end
end Tw

set_option maxHeartbeats 4000000
namespace Tw
open PySem PySem.Spec PyProof.Rows L2
open LamX (ExtN Tabs TabB)
open NdefX (slotAt)
/-! keepers that tell what may not be told: the lambdas of _law_wild -/
abbrev qw : Str := ("_law_wild" : Str) ++ ".<locals>." ++ "<lambda>"
def rLof (K : PySem.W.Frag) : List V → Hp → VK → Prop := fun xs H Q => ∃ p ys, xs = [V.ref p] ∧ (SqL K H p ys ∨ SqT K H p ys) ∧ ∀ (l : Addr), H l = none → Q (V.ref l) (upd H l (HO.lst ys))
def w3 : TE := tIf (tTest (tOp rEq (tVar 0) (tVar 4))) (tVar 3) (tLst tNil)
def w5 (K : PySem.W.Frag) : TE := tIf (tTest (tOp rEq (tVar 0) (tC (.int 0)))) (tCB (rLof K) (tCons (tDGet (tVar 4) (tC (.str "own"))) tNil)) (tIf (tTest (tOp rEq (tVar 0) (tVar 5))) (tVar 3) (tLst tNil))
def w4 (K : PySem.W.Frag) : TE := tIf (tTest (tOp (rIn K false) (tVar 0) (tLst (tCons (tC (.int 0)) (tCons (tVar 4) tNil))))) (tVar 3) (tLst tNil)
abbrev NW : List Str := ["_law_tick", "_law_done", "_law_heard", "_law_some", "_law_at"]
abbrev NV : List Str := ["_law_tick", "_law_done", "_law_heard", "_law_some", "_law_m", "_law_at"]
/-- what such a keeper tells in the n-th tick -/
def kfW (own : List Str) (some_ : List Str) (at_ kind : Int) (n : Nat) (_ _ : Dct) : List Str :=
  if kind = 5 ∧ n = 0 then own else if (n : Int) = at_ ∨ (kind = 4 ∧ n = 0) then some_ else []
/-- its state: its function, and its list, and the moments of the law's web -/
def JW (G : Hp → Prop) (d o u b S : Addr) (m : Md) (sm : List Str) (n : Nat) (H : Hp) : Prop := G H ∧ H d = some (.dK (mk m.last o u b)) ∧ H o = some (.lst (m.own.map V.str)) ∧ H S = some (.lst (sm.map V.str))
theorem cut_new {cs : Cels} {H : Hp} {N : Addr} (n : cutC cs H N = none) (c : cs N = none) : H N = none := by rw [← n, cutC_out c]
theorem keepS {cs : Cels} {H : Hp} {W : Addr → Prop} (c : CelsIn cs H) {b : Addr} {o : HO} (e : H b = some o) : putC cs (cutC cs H) b = some o := by
  cases q : cs b with
  | some v =>
    rw [c b v q] at e
    rw [putC_in q]
    exact e
  | none => rw [putC_out q, cutC_out q, e]
theorem keep_w3 {cs : Cels} {G : Hp → Prop} {d o u b S : Addr} {m : Md} {sm es : List Str} {at_ kind bb : Int} (k4 : kind ≠ 4) (k5 : kind ≠ 5) (ge : GExt G) (gc : ∀ H, G H → CelsIn cs H) : KeepP m.own es bb (kfW m.own sm at_ kind) (JW G d o u b S m sm) M0 (sp_lam NW [V.ref S, V.int at_] 3 cs w3) := by
  rintro n D h d1 d2 H Q e1 e2 n12 _ _ ⟨g, hd, ho, hS⟩ okD okh le q
  have c := gc H g
  have cS := (cut_keep c hS nxL)
  refine ⟨rfl, ?_⟩
  unfold w3
  refine ⟨_, rfl, _, rfl, rfl, _, rfl, ?_⟩
  have ek : kfW m.own sm at_ kind n D h = if (n : Int) = at_ then sm else [] := by
    unfold kfW
    rw [if_neg fun z => k5 z.1]
    by_cases e : (n : Int) = at_
    · rw [if_pos (.inl e), if_pos e]
    · rw [if_neg fun z => z.elim e fun y => k4 y.1, if_neg e]
  by_cases e : (n : Int) = at_
  · rw [decide_eq_true (show V.int (n : Int) = V.int at_ by rw [e])]
    rw [ek, if_pos e] at q
    refine iteT ⟨_, rfl, fun cn => ?_⟩
    have back : ∀ {b : Addr} {o : HO}, H b = some o → putC cs (cutC cs H) b = some o := fun {b o} e => keepS (W := fun _ => False) c e
    exact q S _ (fun b o e _ _ _ => back e) (back hS) ⟨ge H _ g fun b φ e => back e, back hd, back ho, back hS⟩
  · rw [decide_eq_false (show ¬ V.int (n : Int) = V.int at_ from fun z => e (V.int.inj z))]
    rw [ek, if_neg e] at q
    refine iteF ⟨(by show 0 ≤ sizeLine; decide), fun N nN cn => ?_⟩
    have hN : upd (cutC cs H) N (.lst []) N = some (.lst []) := upd_same
    have cN : cs N = none := by
      cases z : cs N with
      | none => rfl
      | some v =>
        rw [cn N v z] at hN
        cases hN
    have back : ∀ {b : Addr} {o : HO}, H b = some o → putC cs (upd (cutC cs H) N (.lst [])) b = some o := fun {b o} e => put_back (W := fun _ => False) c (fun b o e _ => same_upd nN _ _ e) e fun z => z
    exact q N _ (fun b o e _ _ _ => back e) ((putC_out cN).trans hN) ⟨ge H _ g fun b φ e => back e, back hd, back ho, back hS⟩
/-- a list that the keeper makes anew, or the one that it holds, is told of behind it -/
theorem told_new {cs : Cels} {G : Hp → Prop} {d o u b S : Addr} {m : Md} {sm l : List Str} {n : Nat} {H : Hp} {N : Addr} (c : CelsIn cs H) (ge : GExt G) (g : G H) (hd : H d = some (.dK (mk m.last o u b))) (ho : H o = some (.lst (m.own.map V.str))) (hS : H S = some (.lst (sm.map V.str))) {H1 : Hp} (s : Same (cutC cs H) H1) (nN : H1 N = none) (cn : ∀ b v, cs b = some v → upd H1 N (.lst (l.map V.str)) b = none) :
    (∀ b o, H b = some o → putC cs (upd H1 N (.lst (l.map V.str))) b = some o) ∧ putC cs (upd H1 N (.lst (l.map V.str))) N = some (.lst (l.map V.str)) ∧ JW G d o u b S m sm (n + 1) (putC cs (upd H1 N (.lst (l.map V.str)))) := by
  have hN : upd H1 N (.lst (l.map V.str)) N = some (.lst (l.map V.str)) := upd_same
  have cN : cs N = none := by
    cases z : cs N with
    | none => rfl
    | some v =>
      rw [cn N v z] at hN
      cases hN
  have back : ∀ {b : Addr} {o : HO}, H b = some o → putC cs (upd H1 N (.lst (l.map V.str))) b = some o := fun {b o} e => put_back (W := fun _ => False) c (fun b o e _ => same_upd nN _ _ (s _ _ e)) e fun z => z
  exact ⟨fun b o e => back e, (putC_out cN).trans hN, ge H _ g fun b φ e => back e, back hd, back ho, back hS⟩
theorem keep_w4 {K : PySem.W.Frag} {cs : Cels} {G : Hp → Prop} {d o u b S : Addr} {m : Md} {sm es : List Str} {at_ kind bb : Int} (k4 : kind = 4) (ge : GExt G) (gc : ∀ H, G H → CelsIn cs H) : KeepP m.own es bb (kfW m.own sm at_ kind) (JW G d o u b S m sm) M0 (sp_lam NW [V.ref S, V.int at_] 3 cs (w4 K)) := by
  rintro n D h d1 d2 H Q e1 e2 n12 _ _ ⟨g, hd, ho, hS⟩ okD okh le q
  have c := gc H g
  refine ⟨rfl, ?_⟩
  unfold w4
  refine ⟨_, rfl, _, rfl, (by show 2 ≤ sizeLine; decide), fun N0 nN0 => ?_⟩
  have s0 := same_upd (o := .lst [.int 0, .int at_]) nN0
  refine ⟨N0, [.int 0, .int at_], rfl, .inl (.inl (.inl upd_same)), rfl, rfl, _, rfl, ?_⟩
  have ek : kfW m.own sm at_ kind n D h = if n = 0 ∨ (n : Int) = at_ then sm else [] := by
    unfold kfW
    rw [if_neg fun z => by rw [k4] at z; exact absurd z.1 (by decide)]
    by_cases e : n = 0 ∨ (n : Int) = at_
    · rw [if_pos e, if_pos (e.elim (fun z => .inr ⟨k4, z⟩) .inl)]
    · rw [if_neg e, if_neg fun z => e (z.elim .inr fun y => .inl y.2)]
  have ei : (if (false : Bool) = true then !inV (V.int (n : Nat)) [.int 0, .int at_] else inV (V.int (n : Nat)) [.int 0, .int at_]) = decide (n = 0 ∨ (n : Int) = at_) := by
    rw [if_neg (by decide)]
    unfold inV
    rw [List.any_cons, List.any_cons, List.any_nil, Bool.or_false]
    have x1 : eqV (.int 0) (.int (n : Nat)) = decide (n = 0) := by
      show decide ((0 : Int) = (n : Nat)) = decide (n = 0)
      exact decide_eq_decide.2 ⟨fun z => by omega, fun z => by omega⟩
    have x2 : eqV (.int at_) (.int (n : Nat)) = decide ((n : Int) = at_) := by
      show decide (at_ = (n : Int)) = _
      exact decide_eq_decide.2 ⟨fun z => z.symm, fun z => z.symm⟩
    rw [x1, x2, Bool.decide_or]
  rw [ei]
  by_cases e : n = 0 ∨ (n : Int) = at_
  · rw [decide_eq_true e]
    rw [ek, if_pos e] at q
    refine iteT ⟨_, rfl, fun cn => ?_⟩
    have back : ∀ {b : Addr} {o : HO}, H b = some o → putC cs (upd (cutC cs H) N0 (.lst [.int 0, .int at_])) b = some o := fun {b o} e => put_back (W := fun _ => False) c (fun b o e _ => s0 _ _ e) e fun z => z
    exact q S _ (fun b o e _ _ _ => back e) (back hS) ⟨ge H _ g fun b φ e => back e, back hd, back ho, back hS⟩
  · rw [decide_eq_false e]
    rw [ek, if_neg e] at q
    refine iteF ⟨(by show 0 ≤ sizeLine; decide), fun N nN cn => ?_⟩
    obtain ⟨back, hN, J⟩ := told_new (l := []) (n := n) c ge g hd ho hS s0 nN cn
    exact q N _ (fun b o e _ _ _ => back b o e) hN J
theorem keep_w5 {K : PySem.W.Frag} {cs : Cels} {G : Hp → Prop} {d o u b S : Addr} {m : Md} {sm es : List Str} {at_ kind bb : Int} (k5 : kind = 5) (ge : GExt G) (gc : ∀ H, G H → CelsIn cs H) : KeepP m.own es bb (kfW m.own sm at_ kind) (JW G d o u b S m sm) M0 (sp_lam NV [V.ref S, V.ref d, V.int at_] 3 cs (w5 K)) := by
  rintro n D h d1 d2 H Q e1 e2 n12 _ _ ⟨g, hd, ho, hS⟩ okD okh le q
  have c := gc H g
  have cd := (cut_keep c hd nxK).2
  have co := (cut_keep c ho nxL).2
  refine ⟨rfl, ?_⟩
  unfold w5
  refine ⟨_, rfl, rfl, _, rfl, ?_⟩
  by_cases e0 : n = 0
  · rw [decide_eq_true (show V.int (n : Int) = V.int 0 by rw [e0]; rfl)]
    have ek : kfW m.own sm at_ kind n D h = m.own := by
      unfold kfW
      rw [if_pos ⟨k5, e0⟩]
    rw [ek] at q
    refine iteT ⟨_, rfl, d, .ref o, rfl, mk_own cd, o, _, rfl, .inl (.inl (.inl co)), fun N nN cn => ?_⟩
    obtain ⟨back, hN, J⟩ := told_new (l := m.own) (n := n) c ge g hd ho hS (Same.refl _) nN cn
    exact q N _ (fun b o e _ _ _ => back b o e) hN J
  · rw [decide_eq_false (show ¬ V.int (n : Int) = V.int 0 from fun z => e0 (by have := V.int.inj z; omega))]
    refine iteF ⟨_, rfl, _, rfl, rfl, _, rfl, ?_⟩
    have ek : kfW m.own sm at_ kind n D h = if (n : Int) = at_ then sm else [] := by
      unfold kfW
      rw [if_neg fun z => e0 z.2]
      by_cases e : (n : Int) = at_
      · rw [if_pos (.inl e), if_pos e]
      · rw [if_neg fun z => z.elim e fun y => e0 y.2, if_neg e]
    by_cases e : (n : Int) = at_
    · rw [decide_eq_true (show V.int (n : Int) = V.int at_ by rw [e])]
      rw [ek, if_pos e] at q
      refine iteT ⟨_, rfl, fun cn => ?_⟩
      have back : ∀ {b : Addr} {o : HO}, H b = some o → putC cs (cutC cs H) b = some o := fun {b o} e => keepS (W := fun _ => False) c e
      exact q S _ (fun b o e _ _ _ => back e) (back hS) ⟨ge H _ g fun b φ e => back e, back hd, back ho, back hS⟩
    · rw [decide_eq_false (show ¬ V.int (n : Int) = V.int at_ from fun z => e (V.int.inj z))]
      rw [ek, if_neg e] at q
      refine iteF ⟨(by show 0 ≤ sizeLine; decide), fun N nN cn => ?_⟩
      obtain ⟨back, hN, J⟩ := told_new (l := []) (n := n) c ge g hd ho hS (Same.refl _) nN cn
      exact q N _ (fun b o e _ _ _ => back b o e) hN J
end Tw

set_option maxHeartbeats 4000000
namespace Tw
open PySem PySem.Spec PyProof.Rows L2
open LamX (ExtN Tabs TabB)
open NdefX (slotAt)
/-! _law_wild: a def that hands one of three lambdas back -/
theorem eqv_one (a : Str) : (PyData.list [.str a]).eqv (.list [.str "end"]) = (a == "end") := by
  simp [PyData.eqv, PyData.eqvAll]
theorem eqv_two (a b : Str) : (PyData.list [.str a, .str b]).eqv (.list [.str "end"]) = false := by
  simp [PyData.eqv, PyData.eqvAll]
theorem tabsW {T : List (Addr × Str)} {H H' : Hp} (h : Tabs T H) (s : Same H H') : Tabs T H' := fun p hp => (h p hp).ext s
def wildL (a e : Str) (kind : Int) : List Str := if kind = 0 then ["start"] else if kind = 1 then ["gone"] else if kind = 2 then [a, a] else if kind = 3 then [e] else if kind = 4 then [a] else ["gone"]
section
variable {P : Program} {w : World} {K : PySem.W.Frag} {mg : Str → Option Value} {base : Heap}
def sp_wild (P : Program) (w : World) (K : PySem.W.Frag) (mg : Str → Option Value) (base : Heap) (T : List (Addr × Str)) : Sp := fun vs H Q _ => ∃ (d o u b : Addr) (m : Md) (ws : List V) (a e : Str) (at_ kind : Int), vs = [.ref d, .int at_, .int kind] ∧ H d = some (.dK (mk m.last o u b)) ∧ H o = some (.lst (m.own.map V.str)) ∧ H u = some (.lst ws) ∧ Rows H ws (m.wd.map Wd.row) ∧ m.own[0]? = some a ∧ (m.wd[0]?).map (·.en) = some e ∧ a ≠ "end" ∧ PyData.strOk a = true ∧ 0 ≤ kind ∧ kind ≤ 5 ∧ Tabs T H ∧
  ∀ (f S : Addr) (G : Hp → Prop) (sp : Sp) (H' : Hp), Clo P w K mg base 1 f G sp → (∀ es bb, KeepP m.own es bb (kfW m.own (wildL a e kind) at_ kind) (JW G d o u b S m (wildL a e kind)) M0 sp) → GKeep G → GExt G → JW G d o u b S m (wildL a e kind) 0 H' → ExtN H H' → Tabs T H' → Q (.ref f) H'
theorem cal__law_wild (T : Tp K mg) {Tb : List (Addr × Str)} (TB : TabB base mg (He.cT K ("_law_wild", none)).1 (He.cT K ("_law_wild", none)).2) (hm : ((He.cT K ("_law_wild", none)).2, qw) ∈ Tb) (hq : ∀ z ∈ Tb, z.1 = (He.cT K ("_law_wild", none)).2 → z.2 = qw) : Cal P w K mg base 3 "_law_wild" (sp_wild P w K mg base Tb) := by
  obtain ⟨fd, F⟩ := f__law_wild T
  refine ⟨_, fd, ["_law_m", "_law_at", "_law_kind"], [], fnmkp_of (k := 0) (k1 := 2) F sc__law_wild TB hm hq (fun vs H Q E h => ?_) (fun A outer s H vs Q E hr h => ?_), g__law_wild T, F.kp, b__law_wild F, .nil⟩
  · obtain ⟨d, o, u, b, m, ws, a, e, at_, kind, rfl, _⟩ := h
    rfl
  obtain ⟨d, o, u, b, m, ws, a, e, at_, kind, rfl, hd, ho, hw, R, ha, he, ne, sa, k0, k5, tb, q⟩ := h
  have hu := hu_of hr
  have hu64 := hr.units
  have az : atI (m.own.map V.str) 0 = some (.str a) := by
    rw [show (0 : Int) = ((0 : Nat) : Int) from rfl, atI_nat (v := .str a)]
    rw [List.getElem?_map, ha]
    rfl
  refine ⟨_, pl_cons (ps_set (i := 3) sc__law_wild.nd rfl (.inr rfl) (pe_ix ix_list (pe_lst (pa_cons (pe_lst (pa_cons pe_str pa_nil)) (pa_cons (pe_lst (pa_cons pe_str pa_nil)) (pa_cons (pe_lst (pa_cons (pe_ix ix_list (pe_dget hu (pv 0) pe_str (fun _ _ => rfl)) pe_int (fun _ _ => rfl)) (pa_cons (pe_ix ix_list (pe_dget hu (pv 0) pe_str (fun _ _ => rfl)) pe_int (fun _ _ => rfl)) pa_nil))) (pa_cons (pe_lst (pa_cons pe_str pa_nil)) (pa_cons (pe_lst (pa_cons (pe_ix ix_list (pe_dget hu (pv 0) pe_str (fun _ _ => rfl)) pe_int (fun _ _ => rfl)) pa_nil)) (pa_cons (pe_lst (pa_cons pe_str pa_nil)) pa_nil))))))) (pv 2) (fun _ _ => rfl))) (pl_cons (ps_if (pt_cmpR (op_eqD hu64) (pv 3) (pe_lst (pa_cons pe_str pa_nil)) (nomark _)) (pss_one (ps_set (i := 3) sc__law_wild.nd rfl (.inr rfl) (pe_lst (pa_cons (pe_ix ix_tup (pe_ix ix_list (pe_dget hu (pv 0) pe_str (fun _ _ => rfl)) pe_int (fun _ _ => rfl)) pe_int (fun _ _ => rfl)) pa_nil)))) pss_nil) (pl_if (pt_cmpR op_eq (pv 2) pe_int (nomark _)) pl_ret (pl_if (pt_cmpR op_eq (pv 2) pe_int (nomark _)) pl_ret pl_ret))), ?_⟩
  refine ⟨(by show 1 ≤ sizeLine; decide), fun l0 n0 => ?_⟩
  have s0 := same_upd (o := .lst [.str "start"]) n0
  have h0 : upd H l0 (.lst [.str "start"]) l0 = some (.lst [.str "start"]) := upd_same
  generalize upd H l0 (.lst [.str "start"]) = H0 at s0 h0 ⊢
  refine ⟨(by show 1 ≤ sizeLine; decide), fun l1 n1 => ?_⟩
  have s1 := same_upd (o := .lst [.str "gone"]) n1
  have h1 : upd H0 l1 (.lst [.str "gone"]) l1 = some (.lst [.str "gone"]) := upd_same
  generalize upd H0 l1 (.lst [.str "gone"]) = H1 at s1 h1 ⊢
  have c1 := s0.trans s1
  refine ⟨_, rfl, d, .ref o, rfl, mk_own (c1 _ _ hd), o, _, 0, .str a, rfl, rfl, .inl (.inl (c1 _ _ ho)), az, _, rfl, d, .ref o, rfl, mk_own (c1 _ _ hd), o, _, 0, .str a, rfl, rfl, .inl (.inl (c1 _ _ ho)), az, (by show 2 ≤ sizeLine; decide), fun l2 n2 => ?_⟩
  have s2 := same_upd (o := .lst [.str a, .str a]) n2
  have h2 : upd H1 l2 (.lst [.str a, .str a]) l2 = some (.lst [.str a, .str a]) := upd_same
  generalize upd H1 l2 (.lst [.str a, .str a]) = H2 at s2 h2 ⊢
  refine ⟨(by show 1 ≤ sizeLine; decide), fun l3 n3 => ?_⟩
  have s3 := same_upd (o := .lst [.str "end"]) n3
  have h3 : upd H2 l3 (.lst [.str "end"]) l3 = some (.lst [.str "end"]) := upd_same
  generalize upd H2 l3 (.lst [.str "end"]) = H3 at s3 h3 ⊢
  have c3 := (c1.trans s2).trans s3
  refine ⟨_, rfl, d, .ref o, rfl, mk_own (c3 _ _ hd), o, _, 0, .str a, rfl, rfl, .inl (.inl (c3 _ _ ho)), az, (by show 1 ≤ sizeLine; decide), fun l4 n4 => ?_⟩
  have s4 := same_upd (o := .lst [.str a]) n4
  have h4 : upd H3 l4 (.lst [.str a]) l4 = some (.lst [.str a]) := upd_same
  generalize upd H3 l4 (.lst [.str a]) = H4 at s4 h4 ⊢
  refine ⟨(by show 1 ≤ sizeLine; decide), fun l5 n5 => ?_⟩
  have s5 := same_upd (o := .lst [.str "gone"]) n5
  have h5 : upd H4 l5 (.lst [.str "gone"]) l5 = some (.lst [.str "gone"]) := upd_same
  generalize upd H4 l5 (.lst [.str "gone"]) = H5 at s5 h5 ⊢
  refine ⟨(by show 6 ≤ sizeLine; decide), fun LL nL => ?_⟩
  have s6 := same_upd (o := .lst [.ref l0, .ref l1, .ref l2, .ref l3, .ref l4, .ref l5]) nL
  have h6 : upd H5 LL (.lst [.ref l0, .ref l1, .ref l2, .ref l3, .ref l4, .ref l5]) LL = some (.lst [.ref l0, .ref l1, .ref l2, .ref l3, .ref l4, .ref l5]) := upd_same
  generalize upd H5 LL (.lst [.ref l0, .ref l1, .ref l2, .ref l3, .ref l4, .ref l5]) = H6 at s6 h6 ⊢
  have c6 := ((c3.trans s4).trans s5).trans s6
  have g5 := s6 _ _ h5
  have g4 := s6 _ _ (s5 _ _ h4)
  have g3 := s6 _ _ (s5 _ _ (s4 _ _ h3))
  have g2 := s6 _ _ (s5 _ _ (s4 _ _ (s3 _ _ h2)))
  have g1 := s6 _ _ (s5 _ _ (s4 _ _ (s3 _ _ (s2 _ _ h1))))
  have g0 := s6 _ _ (s5 _ _ (s4 _ _ (s3 _ _ (s2 _ _ (s1 _ _ h0)))))
  have kk : kind = 0 ∨ kind = 1 ∨ kind = 2 ∨ kind = 3 ∨ kind = 4 ∨ kind = 5 := by omega
  rcases kk with rfl | rfl | rfl | rfl | rfl | rfl
  · refine ⟨_, rfl, LL, _, 0, .ref l0, rfl, rfl, .inl (.inl h6), rfl, ?_⟩
    refine ⟨_, rfl, (by show 1 ≤ sizeLine; decide), fun E1 nE => ?_⟩
    have s7 := same_upd (o := .lst [.str "end"]) nE
    have c7 := c6.trans s7
    refine ⟨_, _, .lst (.inl (.inl (s7 _ _ g0))) (.cons (.str _) .nil), .lst (.inl (.inl upd_same)) (.cons (.str _) .nil), by decide +kernel, by decide +kernel, _, rfl, ?_⟩
    rw [(by decide +kernel : (PyData.list [.str ("start" : Str)]).eqv (.list [.str "end"]) = false)]
    refine iteF ?_
    refine ⟨_, rfl, rfl, _, rfl, iteF ⟨_, rfl, rfl, _, rfl, iteF ?_⟩⟩
    refine ⟨_, _, _, _, ["_law_some", "_law_at"], [3, 1], [.ref l0, .int at_], NW, ["_law_tick", "_law_done", "_law_heard"], w3, rfl, by decide +kernel, by decide +kernel, by decide +kernel, by decide +kernel, NdefX.nscope_by (by decide +kernel), ?_, fun q cl c f A outer s H hr => pe_ifExp (pt_cmpR op_eq (pv 0) (pv 4) (nomark _)) (pv 3) (pe_lst pa_nil), (fun _ => rfl), tabsW tb c7, rfl, fun f G cs H' CL gk ge gc g ex tbs nf nc => ?_⟩
    · intro q cl c pm ct us hl
      match us, hl with
      | [x1, x2, x3], _ => rfl
    · exact q f l0 G _ H' CL (fun es bb => keep_w3 (by decide) (by decide) ge gc) gk ge ⟨g, ex _ _ (c7 _ _ hd) (fun ps z => by cases z), ex _ _ (c7 _ _ ho) (fun ps z => by cases z), ex _ _ (s7 _ _ g0) (fun ps z => by cases z)⟩ (fun b x y n => ex b x (c7 b x y) n) tbs
  · refine ⟨_, rfl, LL, _, 1, .ref l1, rfl, rfl, .inl (.inl h6), rfl, ?_⟩
    refine ⟨_, rfl, (by show 1 ≤ sizeLine; decide), fun E1 nE => ?_⟩
    have s7 := same_upd (o := .lst [.str "end"]) nE
    have c7 := c6.trans s7
    refine ⟨_, _, .lst (.inl (.inl (s7 _ _ g1))) (.cons (.str _) .nil), .lst (.inl (.inl upd_same)) (.cons (.str _) .nil), by decide +kernel, by decide +kernel, _, rfl, ?_⟩
    rw [(by decide +kernel : (PyData.list [.str ("gone" : Str)]).eqv (.list [.str "end"]) = false)]
    refine iteF ?_
    refine ⟨_, rfl, rfl, _, rfl, iteF ⟨_, rfl, rfl, _, rfl, iteF ?_⟩⟩
    refine ⟨_, _, _, _, ["_law_some", "_law_at"], [3, 1], [.ref l1, .int at_], NW, ["_law_tick", "_law_done", "_law_heard"], w3, rfl, by decide +kernel, by decide +kernel, by decide +kernel, by decide +kernel, NdefX.nscope_by (by decide +kernel), ?_, fun q cl c f A outer s H hr => pe_ifExp (pt_cmpR op_eq (pv 0) (pv 4) (nomark _)) (pv 3) (pe_lst pa_nil), (fun _ => rfl), tabsW tb c7, rfl, fun f G cs H' CL gk ge gc g ex tbs nf nc => ?_⟩
    · intro q cl c pm ct us hl
      match us, hl with
      | [x1, x2, x3], _ => rfl
    · exact q f l1 G _ H' CL (fun es bb => keep_w3 (by decide) (by decide) ge gc) gk ge ⟨g, ex _ _ (c7 _ _ hd) (fun ps z => by cases z), ex _ _ (c7 _ _ ho) (fun ps z => by cases z), ex _ _ (s7 _ _ g1) (fun ps z => by cases z)⟩ (fun b x y n => ex b x (c7 b x y) n) tbs
  · refine ⟨_, rfl, LL, _, 2, .ref l2, rfl, rfl, .inl (.inl h6), rfl, ?_⟩
    refine ⟨_, rfl, (by show 1 ≤ sizeLine; decide), fun E1 nE => ?_⟩
    have s7 := same_upd (o := .lst [.str "end"]) nE
    have c7 := c6.trans s7
    refine ⟨_, _, .lst (.inl (.inl (s7 _ _ g2))) (.cons (.str _) (.cons (.str _) .nil)), .lst (.inl (.inl upd_same)) (.cons (.str _) .nil), by unfold SeqAt.shaped; simp [PyData.canLay0, PyData.canLayAll0, PyData.depth, PyData.depthAll, sa], by decide +kernel, _, rfl, ?_⟩
    rw [eqv_two a a]
    refine iteF ?_
    refine ⟨_, rfl, rfl, _, rfl, iteF ⟨_, rfl, rfl, _, rfl, iteF ?_⟩⟩
    refine ⟨_, _, _, _, ["_law_some", "_law_at"], [3, 1], [.ref l2, .int at_], NW, ["_law_tick", "_law_done", "_law_heard"], w3, rfl, by decide +kernel, by decide +kernel, by decide +kernel, by decide +kernel, NdefX.nscope_by (by decide +kernel), ?_, fun q cl c f A outer s H hr => pe_ifExp (pt_cmpR op_eq (pv 0) (pv 4) (nomark _)) (pv 3) (pe_lst pa_nil), (fun _ => rfl), tabsW tb c7, rfl, fun f G cs H' CL gk ge gc g ex tbs nf nc => ?_⟩
    · intro q cl c pm ct us hl
      match us, hl with
      | [x1, x2, x3], _ => rfl
    · exact q f l2 G _ H' CL (fun es bb => keep_w3 (by decide) (by decide) ge gc) gk ge ⟨g, ex _ _ (c7 _ _ hd) (fun ps z => by cases z), ex _ _ (c7 _ _ ho) (fun ps z => by cases z), ex _ _ (s7 _ _ g2) (fun ps z => by cases z)⟩ (fun b x y n => ex b x (c7 b x y) n) tbs
  · refine ⟨_, rfl, LL, _, 3, .ref l3, rfl, rfl, .inl (.inl h6), rfl, ?_⟩
    refine ⟨_, rfl, (by show 1 ≤ sizeLine; decide), fun E1 nE => ?_⟩
    have s7 := same_upd (o := .lst [.str "end"]) nE
    have c7 := c6.trans s7
    refine ⟨_, _, .lst (.inl (.inl (s7 _ _ g3))) (.cons (.str _) .nil), .lst (.inl (.inl upd_same)) (.cons (.str _) .nil), by decide +kernel, by decide +kernel, _, rfl, ?_⟩
    rw [(by decide +kernel : (PyData.list [.str ("end" : Str)]).eqv (.list [.str "end"]) = true)]
    refine iteT ?_
    have lws : ws.length = m.wd.length := by rw [R.len, List.length_map]
    obtain ⟨x0, ex0, ee⟩ : ∃ x, m.wd[0]? = some x ∧ x.en = e := by
      cases z : m.wd[0]? with
      | none => rw [z] at he; cases he
      | some x => exact ⟨x, rfl, by rw [z] at he; exact Option.some.inj he⟩
    have lw0 : 0 < ws.length := by
      rw [lws]
      exact (List.getElem?_eq_some_iff.mp ex0).1
    have hv0 : ws[0]? = some ws[0] := List.getElem?_eq_getElem lw0
    obtain ⟨x1, tt, ex1, ev, ht⟩ := row_at R hv0
    rw [ex0] at ex1
    cases Option.some.inj ex1
    have aw : atI ws 0 = some (.ref tt) := by
      rw [show (0 : Int) = ((0 : Nat) : Int) from rfl, atI_nat (v := .ref tt)]
      rw [hv0, ev]
    have ae : atI x0.row 0 = some (.str e) := by
      rw [← ee]
      rfl
    refine ⟨_, rfl, d, .ref u, rfl, mk_wd (c7 _ _ hd), u, ws, 0, .ref tt, rfl, rfl, .inl (.inl (c7 _ _ hw)), aw, tt, _, 0, .str e, rfl, rfl, .inl (.inl (c7 _ _ ht)), ae, (by show 1 ≤ sizeLine; decide), fun SS nS => ?_⟩
    have c8 := c7.trans (same_upd (o := .lst [.str e]) nS)
    refine ⟨_, rfl, rfl, _, rfl, iteF ⟨_, rfl, rfl, _, rfl, iteF ?_⟩⟩
    refine ⟨_, _, _, _, ["_law_some", "_law_at"], [3, 1], [.ref SS, .int at_], NW, ["_law_tick", "_law_done", "_law_heard"], w3, rfl, by decide +kernel, by decide +kernel, by decide +kernel, by decide +kernel, NdefX.nscope_by (by decide +kernel), ?_, fun q cl c f A outer s H hr => pe_ifExp (pt_cmpR op_eq (pv 0) (pv 4) (nomark _)) (pv 3) (pe_lst pa_nil), (fun _ => rfl), tabsW tb c8, rfl, fun f G cs H' CL gk ge gc g ex tbs nf nc => ?_⟩
    · intro q cl c pm ct us hl
      match us, hl with
      | [x1, x2, x3], _ => rfl
    · exact q f SS G _ H' CL (fun es bb => keep_w3 (by decide) (by decide) ge gc) gk ge ⟨g, ex _ _ (c8 _ _ hd) (fun ps z => by cases z), ex _ _ (c8 _ _ ho) (fun ps z => by cases z), ex _ _ (upd_same) (fun ps z => by cases z)⟩ (fun b x y n => ex b x (c8 b x y) n) tbs
  · refine ⟨_, rfl, LL, _, 4, .ref l4, rfl, rfl, .inl (.inl h6), rfl, ?_⟩
    refine ⟨_, rfl, (by show 1 ≤ sizeLine; decide), fun E1 nE => ?_⟩
    have s7 := same_upd (o := .lst [.str "end"]) nE
    have c7 := c6.trans s7
    refine ⟨_, _, .lst (.inl (.inl (s7 _ _ g4))) (.cons (.str _) .nil), .lst (.inl (.inl upd_same)) (.cons (.str _) .nil), by unfold SeqAt.shaped; simp [PyData.canLay0, PyData.canLayAll0, PyData.depth, PyData.depthAll, sa], by decide +kernel, _, rfl, ?_⟩
    rw [((eqv_one a).trans (beq_false_of_ne ne))]
    refine iteF ?_
    refine ⟨_, rfl, rfl, _, rfl, iteF ⟨_, rfl, rfl, _, rfl, iteT ?_⟩⟩
    refine ⟨_, _, _, _, ["_law_some", "_law_at"], [3, 1], [.ref l4, .int at_], NW, ["_law_tick", "_law_done", "_law_heard"], w4 K, rfl, by decide +kernel, by decide +kernel, by decide +kernel, by decide +kernel, NdefX.nscope_by (by decide +kernel), ?_, fun q cl c f A outer s H hr => pe_ifExp (pt_cmpR (op_in_seqK (K := K) rfl) (pv 0) (pe_lst (pa_cons pe_int (pa_cons (pv 4) pa_nil))) (by rfl)) (pv 3) (pe_lst pa_nil), (fun _ => rfl), tabsW tb c7, rfl, fun f G cs H' CL gk ge gc g ex tbs nf nc => ?_⟩
    · intro q cl c pm ct us hl
      match us, hl with
      | [x1, x2, x3], _ => rfl
    · exact q f l4 G _ H' CL (fun es bb => keep_w4 rfl ge gc) gk ge ⟨g, ex _ _ (c7 _ _ hd) (fun ps z => by cases z), ex _ _ (c7 _ _ ho) (fun ps z => by cases z), ex _ _ (s7 _ _ g4) (fun ps z => by cases z)⟩ (fun b x y n => ex b x (c7 b x y) n) tbs
  · refine ⟨_, rfl, LL, _, 5, .ref l5, rfl, rfl, .inl (.inl h6), rfl, ?_⟩
    refine ⟨_, rfl, (by show 1 ≤ sizeLine; decide), fun E1 nE => ?_⟩
    have s7 := same_upd (o := .lst [.str "end"]) nE
    have c7 := c6.trans s7
    refine ⟨_, _, .lst (.inl (.inl (s7 _ _ g5))) (.cons (.str _) .nil), .lst (.inl (.inl upd_same)) (.cons (.str _) .nil), by decide +kernel, by decide +kernel, _, rfl, ?_⟩
    rw [(by decide +kernel : (PyData.list [.str ("gone" : Str)]).eqv (.list [.str "end"]) = false)]
    refine iteF ?_
    refine ⟨_, rfl, rfl, _, rfl, iteT ?_⟩
    refine ⟨_, _, _, _, ["_law_some", "_law_m", "_law_at"], [3, 0, 1], [.ref l5, .ref d, .int at_], NV, ["_law_tick", "_law_done", "_law_heard"], w5 K, rfl, by decide +kernel, by decide +kernel, by decide +kernel, by decide +kernel, NdefX.nscope_by (by decide +kernel), ?_, fun q cl c f A outer s H hr => (have hu := hu_of hr; pe_ifExp (pt_cmpR op_eq (pv 0) pe_int (nomark _)) (pe_callTy call_list_of (by rfl) (z_list T) bb_list (pa_cons (pe_dget hu (pv 4) pe_str (fun _ _ => rfl)) pa_nil)) (pe_ifExp (pt_cmpR op_eq (pv 0) (pv 5) (nomark _)) (pv 3) (pe_lst pa_nil))), (fun _ => rfl), tabsW tb c7, rfl, fun f G cs H' CL gk ge gc g ex tbs nf nc => ?_⟩
    · intro q cl c pm ct us hl
      match us, hl with
      | [x1, x2, x3], _ => rfl
    · exact q f l5 G _ H' CL (fun es bb => keep_w5 rfl ge gc) gk ge ⟨g, ex _ _ (c7 _ _ hd) (fun ps z => by cases z), ex _ _ (c7 _ _ ho) (fun ps z => by cases z), ex _ _ (s7 _ _ g5) (fun ps z => by cases z)⟩ (fun b x y n => ex b x (c7 b x y) n) tbs
end
end Tw

set_option maxHeartbeats 4000000
namespace Tw
open PySem PySem.Spec PyProof.Rows L2
open LamX (ExtN Tabs TabB)
/-! k35: the law's own keeper, and which tick of a wild one is bad -/
abbrev qk : Str := ("_law_keeper" : Str) ++ ".<locals>." ++ "<lambda>"
def cK : TE := tCall sp_choice [] C8.E0 (tCons (tVar 3) (tCons (tVar 4) (tCons (tVar 0) (tCons (tVar 1) (tCons (tVar 2) tNil)))))
abbrev NK : List Str := ["_law_tick", "_law_done", "_law_heard", "_law_m", "_law_seed"]
section
variable {P : Program} {w : World} {K : PySem.W.Frag} {mg : Str → Option Value} {base : Heap}
theorem cal__law_keeper (T : Tp K mg) {Tb : List (Addr × Str)} (TB : TabB base mg (He.cT K ("_law_keeper", none)).1 (He.cT K ("_law_keeper", none)).2) (hm : ((He.cT K ("_law_keeper", none)).2, qk) ∈ Tb) (hq : ∀ z ∈ Tb, z.1 = (He.cT K ("_law_keeper", none)).2 → z.2 = qk) : Cal P w K mg base 2 "_law_keeper" (sp_mkc P w K mg base Tb 2 [0, 1] 2 NK 3 cK) := by
  obtain ⟨fd, F⟩ := f__law_keeper T
  refine ⟨_, fd, ["_law_m", "_law_seed"], [], fnmkc_of (fr := ["_law_m", "_law_seed"]) (pl := ["_law_tick", "_law_done", "_law_heard"]) F sc__law_keeper TB hm hq (by decide +kernel) (by decide +kernel) (by decide +kernel) (by decide +kernel) (by decide) (by decide +kernel) (NdefX.nscope_by (by decide +kernel)) (fun q cl c pm ct us hl => ?_) (fun q cl c f A outer s H hr => ?_), g__law_keeper T, F.kp, b__law_keeper F, .nil⟩
  · match us, hl with
    | [a, b, d], _ => rfl
  · exact C8.pe_c (cal__law_choice T) hr (by decide) rfl (pa_cons (pv 3) (pa_cons (pv 4) (pa_cons (pv 0) (pa_cons (pv 1) (pa_cons (pv 2) pa_nil)))))
end
theorem own_ne {H : Hp} {d d1 : Addr} {m : Md} {D : Dct} {ps : List Str} {b : Int} (h : OwnAt H d m) (e : H d1 = some (.dK D)) (ok : TkD ps b D) : d ≠ d1 := fun z => by
  obtain ⟨o, u, b', hd, _⟩ := h
  rw [z, e] at hd
  have e2 := HO.dK.inj (Option.some.inj hd)
  have e3 : valV (mk m.last o u b') kOwn = some (.ref o) := by
    unfold mk
    rw [valV_neg k1, valV_pos rfl]
  obtain ⟨i, z, _⟩ := ok.int (k := kOwn) (v := .ref o) (by rw [e2]; exact e3)
  cases z
def J0k (G : Hp → Prop) (d o u b : Addr) (m : Md) (n : Nat) (H : Hp) : Prop := G H ∧ H d = some (.dK (mk m.last o u b)) ∧ H o = some (.lst (m.own.map V.str))
theorem js2 {d : Addr} {i : Int} {ws : List V} (e : [0, 1].map (fun j => [V.ref d, V.int i][j]?) = ws.map some) : ws = [V.ref d, V.int i] := by
  have e : [some (V.ref d), some (V.int i)] = ws.map some := e
  match ws, e with
  | [a, b], e =>
    injection e with e1 e2
    injection e2 with e2 _
    rw [Option.some.inj e1, Option.some.inj e2]
theorem keep_k {cs : Cels} {G : Hp → Prop} {d o u b : Addr} {m : Md} {seed : Int} {es : List Str} {bb : Int} (ge : GExt G) (gc : ∀ H, G H → CelsIn cs H) (len : m.own.length ≤ 10) (few : es.length ≤ 10) : KeepP m.own es bb (chS m seed) (J0k G d o u b m) (fun _ => False) (sp_lam NK [V.ref d, V.int seed] 3 cs cK) := by
  rintro n D h d1 d2 H Q e1 e2 n12 _ _ ⟨g, hd, ho⟩ okD okh le q
  have c := gc H g
  have lh := okh.len
  refine ⟨rfl, ?_⟩
  unfold cK
  refine ⟨_, rfl, _, rfl, _, rfl, _, rfl, _, rfl, d, d1, d2, m, seed, n, D, h, rfl, ⟨o, u, b, (cut_keep c hd nxK).2, (cut_keep c ho nxL).2⟩, len, (cut_keep c e1 nxK).2, (cut_keep c e2 nxK).2, n12, fun k v e => (okh.int e).imp fun _ z => z.1, by omega, fun N H' s nN hN cn => ?_⟩
  have cN : cs N = none := by
    cases z : cs N with
    | none => rfl
    | some v =>
      rw [cn N v z] at hN
      cases hN
  have back : ∀ {b : Addr} {o : HO}, H b = some o → putC cs H' b = some o := fun {b o} e => put_back (W := fun _ => False) c (fun b o e _ => s b o e) e fun z => z
  refine q N _ (fun b o e _ _ _ => back e) ((putC_out cN).trans hN) ⟨ge H _ g fun b φ e => back e, back hd, back ho⟩
theorem good_of {own : List Str} {t : Int} : ∀ {ns : List Str} {D : Dct}, ns.Nodup → (∀ z ∈ ns, z ∈ own ∧ valV D (kS z) = none) → goodN own t D ns = true
  | [], _, _, _ => rfl
  | y :: r, D, nd, h => by
    obtain ⟨n1, n2⟩ := List.nodup_cons.1 nd
    obtain ⟨h1, h2⟩ := h y List.mem_cons_self
    have ih := good_of (own := own) (t := t) (ns := r) (D := putK D (kS y) (.int t)) n2 fun z hz => by
      obtain ⟨a, b⟩ := h z (List.mem_cons_of_mem _ hz)
      refine ⟨a, ?_⟩
      rw [valV_put, if_neg fun e => n1 (by rw [← kS_eq e]; exact hz)]
      exact b
    show (decide (y ∈ own) && (!(valV D (kS y)).isSome && goodN own t (putK D (kS y) (.int t)) r)) = true
    rw [decide_eq_true h1, h2, ih]
    rfl
/-- the law's own keeper is good in each tick -/
theorem ch_good {m : Md} (ok : MdOk m) (L : Str → Int) (seed : Int) (n : Nat) : goodAt L m (chS m seed) n := by
  have := ch_ok ok seed n (standA L m.wd (chS m seed) n).1 (hearA L m.wd (n : Int) (standA L m.wd (chS m seed) n).1 (standA L m.wd (chS m seed) n).2)
  exact good_of this.1 this.2
/-- a moment that was told in a tick ahead is done -/
theorem done_keep {L : Str → Int} {wd : List Wd} {kf : Nat → Dct → Dct → List Str} {k : Key} : ∀ (n j : Nat), (valV (standA L wd kf n).1 k).isSome = true → (valV (standA L wd kf (n + j)).1 k).isSome = true
  | n, 0, h => h
  | n, j + 1, h => by
    have ih := done_keep (kf := kf) (wd := wd) (L := L) n j h
    show (valV (doA ((n + j : Nat) : Int) (standA L wd kf (n + j)).1 _) k).isSome = true
    generalize kf (n + j) _ _ = ns
    revert ih
    generalize (standA L wd kf (n + j)).1 = D
    intro ih
    induction ns generalizing D with
    | nil => exact ih
    | cons z r ihr =>
      refine ihr (putK D (kS z) (.int ((n + j : Nat) : Int))) ?_
      rw [valV_put]
      split
      · rfl
      · exact ih
end Tw

set_option maxHeartbeats 4000000
namespace Tw
open PySem PySem.Spec PyProof.Rows L2
/-! k35: which tick of a wild keeper is bad -/
theorem goodN_not {own : List Str} {t : Int} {D : Dct} {z : Str} {r : List Str} (h : z ∉ own) : goodN own t D (z :: r) = false := by
  show (decide (z ∈ own) && _) = false
  rw [decide_eq_false h]
  rfl
theorem goodN_done {own : List Str} {t : Int} {D : Dct} {z : Str} {r : List Str} (h : (valV D (kS z)).isSome = true) : goodN own t D (z :: r) = false := by
  show (decide (z ∈ own) && (!(valV D (kS z)).isSome && _)) = false
  rw [h]
  simp
theorem goodN_two {own : List Str} {t : Int} {D : Dct} {z : Str} : goodN own t D [z, z] = false := by
  show (decide (z ∈ own) && (!(valV D (kS z)).isSome && goodN own t (putK D (kS z) (.int t)) [z])) = false
  rw [goodN_done (by rw [valV_put, if_pos rfl]; rfl)]
  simp
theorem val_start {z : Str} (h : z ≠ "start") : valV [(kS "start", V.int 0)] (kS z) = none := by
  rw [valV_neg (p := (kS "start", V.int 0)) fun e => h (kS_eq e).symm]
  rfl
theorem wild_bad {m : Md} (ok : MdOk m) {L : Str → Int} {a e : Str} (ha : m.own[0]? = some a) (he : (m.wd[0]?).map (·.en) = some e) {at_ kind : Int} (a1 : 1 ≤ at_) (k0 : 0 ≤ kind) (k5 : kind ≤ 5) :
    (∀ k, k < at_.toNat → goodAt L m (kfW m.own (wildL a e kind) at_ kind) k) ∧ ¬ goodAt L m (kfW m.own (wildL a e kind) at_ kind) at_.toNat := by
  have nd := (List.nodup_append.1 ok.nd).1
  have ma := List.mem_of_getElem? ha
  have inp : ∀ z ∈ m.own, z ∈ pool := fun z hz => ok.pool z (List.mem_append_left _ hz)
  have nst : ∀ z ∈ m.own, z ≠ "start" := fun z hz => (pool_nm (inp z hz)).2
  have ngo : ("gone" : Str) ∉ m.own := fun h => absurd (inp _ h) (by decide +kernel)
  have nss : ("start" : Str) ∉ m.own := fun h => nst _ h rfl
  have nen : e ∉ m.own := fun h => by
    obtain ⟨x, hx, ex⟩ : ∃ x, x ∈ m.wd ∧ x.en = e := by
      cases z : m.wd[0]? with
      | none => rw [z] at he; cases he
      | some x => exact ⟨x, List.mem_of_getElem? z, by rw [z] at he; exact Option.some.inj he⟩
    exact (List.nodup_append.1 ok.nd).2.2 e h e (by rw [← ex]; exact List.mem_map_of_mem hx) rfl
  refine ⟨fun k hk => ?_, fun g => ?_⟩
  · show goodN m.own (k : Int) (standA L m.wd _ k).1 (kfW m.own (wildL a e kind) at_ kind k _ _) = true
    unfold kfW
    by_cases c5 : kind = 5 ∧ k = 0
    · rw [if_pos c5]
      obtain ⟨_, rfl⟩ := c5
      exact good_of nd fun z hz => ⟨hz, val_start (nst z hz)⟩
    · rw [if_neg c5]
      by_cases c : (k : Int) = at_ ∨ (kind = 4 ∧ k = 0)
      · rw [if_pos c]
        rcases c with c | ⟨c, rfl⟩
        · omega
        · rw [c]
          exact good_of (ns := [a]) (List.nodup_cons.2 ⟨List.not_mem_nil, List.nodup_nil⟩) fun z hz => by
            rw [List.mem_singleton.1 hz]
            exact ⟨ma, val_start (nst a ma)⟩
      · rw [if_neg c]
        rfl
  · have ek : ∀ D h, kfW m.own (wildL a e kind) at_ kind at_.toNat D h = wildL a e kind := fun D h => by
      unfold kfW
      rw [if_neg fun z => by omega, if_pos (.inl (by omega))]
    unfold goodAt at g
    rw [ek] at g
    have kk : kind = 0 ∨ kind = 1 ∨ kind = 2 ∨ kind = 3 ∨ kind = 4 ∨ kind = 5 := by omega
    rcases kk with rfl | rfl | rfl | rfl | rfl | rfl
    · rw [show wildL a e 0 = [("start" : Str)] from rfl, goodN_not nss] at g
      cases g
    · rw [show wildL a e 1 = [("gone" : Str)] from rfl, goodN_not ngo] at g
      cases g
    · rw [show wildL a e 2 = [a, a] from rfl, goodN_two] at g
      cases g
    · rw [show wildL a e 3 = [e] from rfl, goodN_not nen] at g
      cases g
    · rw [show wildL a e 4 = [a] from rfl] at g
      have d1 : (valV (standA L m.wd (kfW m.own [a] at_ 4) 1).1 (kS a)).isSome = true := by
        show (valV (doA ((0 : Nat) : Int) _ (kfW m.own [a] at_ 4 0 _ _)) (kS a)).isSome = true
        rw [show ∀ D h, kfW m.own [a] at_ 4 0 D h = [a] from fun D h => by
          unfold kfW
          rw [if_neg (by omega), if_pos (.inr ⟨rfl, rfl⟩)]]
        show (valV (putK _ (kS a) _) (kS a)).isSome = true
        rw [valV_put, if_pos rfl]
        rfl
      have d2 := done_keep (L := L) (wd := m.wd) (kf := kfW m.own [a] at_ 4) (k := kS a) 1 (at_.toNat - 1) d1
      rw [show 1 + (at_.toNat - 1) = at_.toNat by omega] at d2
      rw [goodN_done d2] at g
      cases g
    · rw [show wildL a e 5 = [("gone" : Str)] from rfl, goodN_not ngo] at g
      cases g
end Tw

set_option maxHeartbeats 4000000
namespace Tw
open PySem PySem.Spec PyProof.Rows L2
def inL (c : Nat) : Bool := decide (c ∈ letters.cps.toList)
def nmB (z : Str) : Bool := decide (1 ≤ z.length) && (decide (z.length ≤ 8) && z.cps.toList.all inL)
theorem nmB_ok {z : Str} : nmB z = true ↔ Nm z := by
  unfold nmB Nm inL
  simp only [Bool.and_eq_true, decide_eq_true_eq, List.all_eq_true]
end Tw

set_option maxHeartbeats 4000000
namespace Tw
open PySem PySem.Spec PyProof.Rows L2
open LamX (ExtN Tabs)
theorem WebAt.ext {C : Addr} {H H' : Hp} {p : Addr} {m : Md} (W : WebAt C H p m) (e : ExtN H H') : WebAt C H' p m := W.keep (fun dx fs h => e _ _ h fun ps z => by cases z) (fun b xs h => e _ _ h fun ps z => by cases z)
theorem Flow.ext {H H' : Hp} {f c : Addr} (h : Flow H f c) (e : ExtN H H') : Flow H' f c := by
  obtain ⟨ns, i, r, st, e1, e2, e3⟩ := h.ex
  exact ⟨ns, i, r, st, e _ _ e1 (fun ps z => by cases z), e _ _ e2 (fun ps z => by cases z), e3⟩
theorem MdAt.ext {H H' : Hp} {d : Addr} {m : Md} (M : MdAt H d m) (e : ExtN H H') : MdAt H' d m := by
  obtain ⟨o, w, b, ws, bs, h1, h2, h3, h4, h5, h6, h7⟩ := M.ex
  have k : Kt H H' := fun b xs h => e _ _ h fun ps z => by cases z
  exact ⟨o, w, b, ws, bs, e _ _ h1 (fun ps z => by cases z), e _ _ h2 (fun ps z => by cases z), e _ _ h3 (fun ps z => by cases z), h4.keep k, e _ _ h5 (fun ps z => by cases z), h6.keep k, h7⟩
theorem tabs_same {T : List (Addr × Str)} {H H' : Hp} (h : Tabs T H) (s : Same H H') : Tabs T H' := fun p hp => (h p hp).ext s
theorem tabs_sb {T : List (Addr × Str)} {H H' : Hp} {f : Addr} {xs : List V} (h : Tabs T H) (s : Sb f H H') (hf : H f = some (.lst xs)) : Tabs T H' := fun p hp => by
  obtain ⟨ps, h1, h2, h3⟩ := h p hp
  refine ⟨ps, s _ _ h1 (ne_of h1 hf (by intro z; cases z)), h2, fun pos cv hc => ?_⟩
  obtain ⟨c, e1, e2⟩ := h3 pos cv hc
  exact ⟨c, e1, s _ _ e2 (ne_of e2 hf (by intro z; cases z))⟩
theorem kt_lst {H : Hp} {D : Addr} {xs ys : List V} (h : H D = some (.lst xs)) : Kt H (upd H D (.lst ys)) := Kt.upd fun zs z => by
  rw [h] at z
  cases z
theorem pts_nm {m : Md} (ok : MdOk m) {z : Str} (h : z ∈ m.pts) : Nm z := by
  rcases List.mem_cons.mp h with h | h
  · rw [h]
    exact nmB_ok.mp (by decide +kernel)
  · exact (pool_nm (ok.pool z h)).1
theorem nm_len {z : Str} (h : Nm z) : z.length ≤ 1000 := Nat.le_trans h.2.1 (by decide)
theorem sm_two {H : Hp} {a b : Addr} {x y : V} {n : Nat} (h1 : H a = some (.tup [x, y])) (h2 : H b = some (.tup [x, y])) (hx : flatV x = true) (hy : flatV y = true) : Sm (n + 2) (.ref a) (.ref b) H :=
  sm_tup h1 h2 rfl (by show 2 ≤ 1000; decide) (sm_flats (by show (flatV x && (flatV y && true)) = true; rw [hx, hy]; rfl))
theorem sm_pair {H : Hp} {a b : Addr} {x1 x2 y1 y2 : V} {n : Nat} (h1 : H a = some (.lst [x1, x2])) (h2 : H b = some (.lst [y1, y2])) (e1 : Sm n x1 y1 H) (e2 : Sm n x2 y2 H) : Sm (n + 1) (.ref a) (.ref b) H := by
  refine sm_lst h1 h2 rfl (by show 2 ≤ 1000; decide) fun i x y hx hy => ?_
  match i, hx, hy with
  | 0, hx, hy =>
    cases hx
    cases hy
    exact e1
  | 1, hx, hy =>
    cases hx
    cases hy
    exact e2
  | i + 2, hx, hy => cases hx
abbrev qlam : Str := ("law" : Str) ++ ".<locals>." ++ "<lambda>"
theorem tabs_new {P : Addr} {q : Str} {H : Hp} (h : H P = some (.tbl #[])) : Tabs [(P, q)] H := fun p hp => by
  have e := List.mem_singleton.mp hp
  subst e
  exact ⟨#[], h, True.intro, fun pos cv hc => nomatch hc⟩
theorem free_of {l : List Str} (h : (l.all fun z => nmB z && (!pool.contains z && !(z == "start"))) = true) {m : Md} (ok : MdOk m) {z : Str} (hz : z ∈ l) : Nm z ∧ ¬ z ∈ m.pts := by
  have e := List.all_eq_true.mp h z hz
  simp only [Bool.and_eq_true, Bool.not_eq_true', beq_eq_false_iff_ne, ne_eq] at e
  obtain ⟨e1, e2, e3⟩ := e
  refine ⟨nmB_ok.mp e1, fun hm => ?_⟩
  rcases List.mem_cons.mp hm with hm | hm
  · exact e3 hm
  · have := List.contains_iff_mem.mpr (ok.pool z hm)
    rw [e2] at this
    cases this
theorem MdX.addO {H : Hp} {d o w b : Addr} {m : Md} {z : Str} (M : MdX H d o w b m) : MdX (upd H o (.lst (m.own.map V.str ++ [.str z]))) d o w b (m.addM z) := by
  obtain ⟨ws, h1, h2⟩ := M.wd
  obtain ⟨bs, h3, h4⟩ := M.bd
  have k := kt_lst (ys := m.own.map V.str ++ [.str z]) M.own
  refine ⟨by rw [upd_ne (ne_of M.dk M.own (by intro z; cases z))]; exact M.dk, ?_, ⟨ws, by rw [upd_ne M.now.symm]; exact h1, h2.keep k⟩, ⟨bs, by rw [upd_ne M.nob.symm]; exact h3, h4.keep k⟩, M.now, M.nob, M.nwb⟩
  rw [upd_same]
  show _ = some (HO.lst ((m.own ++ [z]).map V.str))
  rw [List.map_append]
  rfl
theorem gone_out {m : Md} (ok : MdOk m) : ¬ ("gone" : Str) ∈ m.pts := fun h => by
  rcases List.mem_cons.mp h with h | h
  · exact absurd h (by decide +kernel)
  · exact absurd (ok.pool _ h) (by decide +kernel)
theorem none_out {m : Md} (ok : MdOk m) : ¬ ("" : Str) ∈ m.pts := fun h => absurd (pts_nm ok h) fun n => absurd (nmB_ok.mpr n) (by decide +kernel)
theorem mk_putWd {l : Int} {o w b w2 : Addr} : putK (mk l o w b) kWd (.ref w2) = mk l o w2 b := by
  have n6 : ¬ kBd = kWd := fun e => k6 e.symm
  unfold putK mk
  rw [if_pos (by rw [List.any_cons, List.any_cons, List.any_cons, decide_eq_true (rfl : kWd = kWd)]; simp)]
  simp only [List.map_cons, List.map_nil, if_neg k2, if_neg k4, if_neg n6, if_true]
/-- what stands all along: the flow, the model, the web, the table of the law's code -/
structure All (K : PySem.W.Frag) (f c d p Pt : Addr) (m : Md) (H : Hp) : Prop where
  fl : Flow H f c
  md : MdAt H d m
  web : WebAt (CW K) H p m
  tab : Tabs [(Pt, qlam)] H
theorem All.same {K : PySem.W.Frag} {f c d p Pt : Addr} {m : Md} {H H' : Hp} (A : All K f c d p Pt m H) (s : Same H H') : All K f c d p Pt m H' := ⟨A.fl.same s, A.md.same s, A.web.same s, tabs_same A.tab s⟩
theorem All.ext {K : PySem.W.Frag} {f c d p Pt : Addr} {m : Md} {H H' : Hp} (A : All K f c d p Pt m H) (e : ExtN H H') (t : Tabs [(Pt, qlam)] H') : All K f c d p Pt m H' := ⟨A.fl.ext e, A.md.ext e, A.web.ext e, t⟩
theorem All.sb {K : PySem.W.Frag} {f c d p Pt : Addr} {m : Md} {H H' : Hp} (A : All K f c d p Pt m H) (s : Sb f H H') (F : Flow H' f c) : All K f c d p Pt m H' := by
  obtain ⟨xs, hf⟩ := A.fl.lst
  exact ⟨F, A.md.sb A.fl s, A.web.sb s hf, tabs_sb A.tab s hf⟩
theorem kt_ext {H H' : Hp} (e : ExtN H H') : Kt H H' := fun b xs h => e _ _ h fun ps z => by cases z
theorem nm_ok {z : Str} (h : Nm z) : PyData.canLay0 (.str z) = true := by
  show z.cps.all (fun c => decide (c < 0x110000)) = true
  rw [Array.all_eq_true']
  intro c hc
  have h1 := h.2.2 c (Array.mem_toList_iff.mpr hc)
  have h2 : (letters.cps.toList.all fun c => decide (c < 0x110000)) = true := by decide +kernel
  exact List.all_eq_true.mp h2 c h1
end Tw

set_option maxHeartbeats 4000000
namespace Tw
open PySem PySem.Spec PyProof.Rows L2
section
variable {P : Program} {w : World} {K : PySem.W.Frag} {mg : Str → Option Value} {base : Heap}
/-! ### _law_strange -/
def sp_strange : Sp := fun vs H Q _ => ∃ (f c : Addr) (lo hi : Int), vs = [.ref f, .int lo, .int hi] ∧ Flow H f c ∧ ∀ (v : V) (H' : Hp), (plK v).isSome = true → flatV v = true → whB lo hi v = false → Sb f H H' → Flow H' f c → Q v H'
theorem cal__law_strange (T : Tp K mg) : Cal P w K mg base 4 "_law_strange" sp_strange := by
  obtain ⟨fd, F⟩ := f__law_strange T
  refine cal_of F (g__law_strange T) (b__law_strange F) sc__law_strange (fun vs H Q E h => ?_) (fun cdv A outer s H vs Q E hr h => ?_)
  · obtain ⟨f, c, lo, hi, rfl, _⟩ := h
    rfl
  · obtain ⟨f, c, lo, hi, rfl, FL, q⟩ := h
    refine ⟨_, (pss_cons (ps_set (i := 3) sc__law_strange.nd rfl (.inl rfl) (pe_op op_add pe_int (C8.pe_c (cal__law_draw T) hr (by decide) rfl (pa_cons (pv 0) (pa_cons (pe_op op_pow pe_int pe_int) pa_nil)))))
      (pss_one (ps_ret (C8.pe_c (cal__law_pick T) hr (by decide) rfl (pa_cons (pv 0) (pa_cons (pe_lst (pa_cons pe_bl (pa_cons pe_bl (pa_cons pe_non (pa_cons (pe_op op_sub (pv 1) pe_int) (pa_cons (pe_op op_add (pv 2) pe_int) (pa_cons (pe_op op_sub (pv 1) (pv 3)) (pa_cons (pe_op op_add (pv 2) (pv 3)) pa_nil)))))))) pa_nil)))))), ?_⟩
    refine ⟨_, rfl, 10, 30, rfl, rfl, ⟨by decide, by decide, by decide⟩, f, c, _, rfl, FL, by decide, by decide, fun v H1 v0 v1 sb1 F1 => ⟨1, v, rfl, rfl, ?_⟩⟩
    refine ⟨_, rfl, _, rfl, _, _, rfl, rfl, _, rfl, _, _, rfl, rfl, _, rfl, _, rfl, _, _, rfl, rfl, _, rfl, _, rfl, _, _, rfl, rfl, (by show 7 ≤ sizeLine; decide), fun l nl => ?_⟩
    have s2 := same_upd (o := .lst [.bl true, .bl false, .non, .int (lo - 1), .int (hi + 1), .int (lo - (1 + v)), .int (hi + (1 + v))]) nl
    obtain ⟨zs, hf⟩ := F1.lst
    refine ⟨f, c, l, _, rfl, F1.same s2, upd_same, (ne_of_none hf nl).symm, by show 0 < 7; decide, by show 7 ≤ 1000; decide, fun x H2 hx sb3 F3 => ?_⟩
    have sb := (sb1.trans (Sb.of s2)).trans sb3
    have no : ∀ i : Int, (i < lo ∨ hi < i) → whB lo hi (.int i) = false := fun i h => decide_eq_false (by omega)
    simp only [List.mem_cons, List.not_mem_nil, or_false] at hx
    rcases hx with rfl | rfl | rfl | rfl | rfl | rfl | rfl
    · exact q _ H2 rfl rfl rfl sb F3
    · exact q _ H2 rfl rfl rfl sb F3
    · exact q _ H2 rfl rfl rfl sb F3
    · exact q _ H2 rfl rfl (no _ (by omega)) sb F3
    · exact q _ H2 rfl rfl (no _ (by omega)) sb F3
    · exact q _ H2 rfl rfl (no _ (by omega)) sb F3
    · exact q _ H2 rfl rfl (no _ (by omega)) sb F3
end
end Tw

set_option maxHeartbeats 4000000
namespace Tw
open PySem PySem.Spec PyProof.Rows L2
open LamX (ExtN Tabs TabB)
/-! k35: runs refused -/
abbrev tbR (K : PySem.W.Frag) : List (Addr × Str) := [((He.cT K ("law", none)).2, qlam), ((He.cT K ("_law_keeper", none)).2, qk), ((He.cT K ("_law_wild", none)).2, qw)]
theorem tbR_l {K : PySem.W.Frag} (n1 : ¬ (He.cT K ("law", none)).2 = (He.cT K ("_law_keeper", none)).2) (n2 : ¬ (He.cT K ("law", none)).2 = (He.cT K ("_law_wild", none)).2) : ∀ z ∈ tbR K, z.1 = (He.cT K ("law", none)).2 → z.2 = qlam := fun z hz e => by
  rcases List.mem_cons.1 hz with h | h
  · rw [h]
  rcases List.mem_cons.1 h with h | h
  · rw [h] at e
    exact absurd e.symm n1
  · rw [List.mem_singleton.1 h] at e
    exact absurd e.symm n2
theorem tbR_k {K : PySem.W.Frag} (n1 : ¬ (He.cT K ("law", none)).2 = (He.cT K ("_law_keeper", none)).2) (n2 : ¬ (He.cT K ("_law_keeper", none)).2 = (He.cT K ("_law_wild", none)).2) : ∀ z ∈ tbR K, z.1 = (He.cT K ("_law_keeper", none)).2 → z.2 = qk := fun z hz e => by
  rcases List.mem_cons.1 hz with h | h
  · rw [h] at e
    exact absurd e n1
  rcases List.mem_cons.1 h with h | h
  · rw [h]
  · rw [List.mem_singleton.1 h] at e
    exact absurd e.symm n2
theorem tbR_w {K : PySem.W.Frag} (n1 : ¬ (He.cT K ("law", none)).2 = (He.cT K ("_law_wild", none)).2) (n2 : ¬ (He.cT K ("_law_keeper", none)).2 = (He.cT K ("_law_wild", none)).2) : ∀ z ∈ tbR K, z.1 = (He.cT K ("_law_wild", none)).2 → z.2 = qw := fun z hz e => by
  rcases List.mem_cons.1 hz with h | h
  · rw [h] at e
    exact absurd e n1
  rcases List.mem_cons.1 h with h | h
  · rw [h] at e
    exact absurd e n2
  · rw [List.mem_singleton.1 h]
/-- the value of the first span of these whose length is none -/
def firstB (lv : Dct) : List Wd → Option V
  | [] => none
  | x :: r => match valV lv (kS x.en) with
    | some v => if whB x.lo x.hi v = true then firstB lv r else some v
    | none => firstB lv r
theorem first_at {lv : Dct} : ∀ {wd : List Wd} {i : Nat} {x : Wd} {v : V}, wd[i]? = some x → (∀ y ∈ wd.take i, ∃ u, valV lv (kS y.en) = some u ∧ whB y.lo y.hi u = true) → valV lv (kS x.en) = some v → whB x.lo x.hi v = false → firstB lv wd = some v
  | [], _, _, _, e, _, _, _ => by cases e
  | y :: r, 0, x, v, e, _, h1, h2 => by
    cases Option.some.inj e
    unfold firstB
    rw [h1]
    show (if whB y.lo y.hi v = true then _ else _) = _
    rw [h2, if_neg (by decide)]
  | y :: r, i + 1, x, v, e, p, h1, h2 => by
    obtain ⟨u, e1, e2⟩ := p y List.mem_cons_self
    have ih := first_at (lv := lv) (wd := r) (i := i) (x := x) (v := v) e (fun z hz => p z (List.mem_cons_of_mem _ hz)) h1 h2
    unfold firstB
    rw [e1]
    show (if whB y.lo y.hi u = true then _ else _) = _
    rw [e2, if_pos rfl, ih]
theorem first_no {lv : Dct} : ∀ {wd : List Wd}, (∀ y ∈ wd, ∃ u, valV lv (kS y.en) = some u ∧ whB y.lo y.hi u = true) → firstB lv wd = none
  | [], _ => rfl
  | y :: r, p => by
    obtain ⟨u, e1, e2⟩ := p y List.mem_cons_self
    unfold firstB
    rw [e1]
    show (if whB y.lo y.hi u = true then _ else _) = _
    rw [e2, if_pos rfl, first_no fun z hz => p z (List.mem_cons_of_mem _ hz)]
/-- what is due of these spans, else what was due ahead -/
def DueL (lv : Dct) (ws : List Wd) (d0 due : V) (H : Hp) : Prop := match firstB lv ws with
  | none => due = d0
  | some v => ∃ t, due = .ref t ∧ H t = some (.tup [.str "BadLength", v, v])
theorem DueL.keep {lv : Dct} {ws : List Wd} {d0 due : V} {H H' : Hp} (D : DueL lv ws d0 due H) (k : Kt H H') : DueL lv ws d0 due H' := by
  unfold DueL at *
  cases e : firstB lv ws with
  | none => rw [e] at D; exact D
  | some v =>
    rw [e] at D
    obtain ⟨t, e1, e2⟩ := D
    exact ⟨t, e1, k _ _ e2⟩
/-- what is due of the keeper alone: nothing, or a refusal in the tick at_ -/
def DueK (m : Md) (kf : Nat → Dct → Dct → List Str) (due : V) (H : Hp) : Prop := (due = .non ∧ ∀ L n, goodAt L m kf n) ∨ ∃ (t : Addr) (a : Int), due = .ref t ∧ H t = some (.tup [.str "BadKeeper", .int a]) ∧ 1 ≤ a ∧ a ≤ m.last ∧ ∀ L, (∀ k, k < a.toNat → goodAt L m kf k) ∧ ¬ goodAt L m kf a.toNat
theorem DueK.keep {m : Md} {kf : Nat → Dct → Dct → List Str} {due : V} {H H' : Hp} (D : DueK m kf due H) (k : Kt H H') : DueK m kf due H' := by
  rcases D with h | ⟨t, a, e, h, r⟩
  · exact .inl h
  · exact .inr ⟨t, a, e, k _ _ h, r⟩
/-- what the run refuses -/
def DueR (m : Md) (kf : Nat → Dct → Dct → List Str) (lv : Dct) (due : V) (H : Hp) : Prop :=
  ((∀ y ∈ m.wd, (valV lv (kS y.en)).isSome = true) ∧ ∃ d0, DueK m kf d0 H ∧ DueL lv m.wd d0 due H) ∨
  (∃ x ∈ m.wd, ∃ t : Addr, due = .ref t ∧ H t = some (.tup [.str "NoSpan", .str x.en]) ∧ valV lv (kS x.en) = none ∧ ∀ y ∈ m.wd, y.en ≠ x.en → (valV lv (kS y.en)).isSome = true)
theorem DueR.keep {m : Md} {kf : Nat → Dct → Dct → List Str} {lv : Dct} {due : V} {H H' : Hp} (D : DueR m kf lv due H) (k : Kt H H') : DueR m kf lv due H' := by
  rcases D with ⟨h, d0, h1, h2⟩ | ⟨x, hx, t, e, h, r⟩
  · exact .inl ⟨h, d0, h1.keep k, h2.keep k⟩
  · exact .inr ⟨x, hx, t, e, k _ _ h, r⟩
theorem JW.mv {G : Hp → Prop} {d o u b S : Addr} {m : Md} {sm : List Str} {n : Nat} {H H' : Hp} (ge : GExt G) (j : JW G d o u b S m sm n H) (k : ∀ x ob, H x = some ob → (∀ a i r s, ob ≠ .lst [.ref a, .int i, .int r, .int s]) → (x = d ∨ ∀ kv, ob ≠ .dK kv) → H' x = some ob) : JW G d o u b S m sm n H' := by
  obtain ⟨g, hd, ho, hS⟩ := j
  have ns : ∀ (l : List Str) a i r s, (HO.lst (l.map V.str)) ≠ .lst [.ref a, .int i, .int r, .int s] := fun l a i r s z => by
    have z := HO.lst.inj z
    match l, z with
    | y :: _, z => injection z with z _; cases z
  exact ⟨ge _ _ g fun x φ e => k x _ e (fun _ _ _ _ z => by cases z) (.inr fun _ z => by cases z), k _ _ hd (fun _ _ _ _ z => by cases z) (.inl rfl), k _ _ ho (ns _) (.inr fun _ z => by cases z), k _ _ hS (ns _) (.inr fun _ z => by cases z)⟩
theorem Flow.shape {H : Hp} {f c : Addr} (F : Flow H f c) : ∃ a i r s, H f = some (.lst [.ref a, .int i, .int r, .int s]) := by
  obtain ⟨ns, i, r, st, e1, _⟩ := F.ex
  exact ⟨_, _, _, _, e1⟩
theorem JW.sb {G : Hp → Prop} {d o u b S : Addr} {m : Md} {sm : List Str} {n : Nat} {H H' : Hp} {f c : Addr} (ge : GExt G) (j : JW G d o u b S m sm n H) (F : Flow H f c) (s : Sb f H H') : JW G d o u b S m sm n H' := j.mv ge fun x ob e n1 _ => s _ _ e fun z => by
  obtain ⟨a, i, r, st, e2⟩ := F.shape
  rw [z, e2] at e
  exact n1 a i r st (Option.some.inj e).symm
theorem JW.dk {G : Hp → Prop} {d o u b S l : Addr} {m : Md} {sm : List Str} {n : Nat} {H H' : Hp} {lv : Dct} (ge : GExt G) (j : JW G d o u b S m sm n H) (hl : H l = some (.dK lv)) (ne : d ≠ l) (s : Sb l H H') : JW G d o u b S m sm n H' := j.mv ge fun x ob e _ n2 => s _ _ e fun z => by
  rcases n2 with h | h
  · exact ne (h.symm.trans z)
  · rw [z, hl] at e
    exact h _ (Option.some.inj e).symm
theorem JW.ext {G : Hp → Prop} {d o u b S : Addr} {m : Md} {sm : List Str} {n : Nat} {H H' : Hp} (ge : GExt G) (j : JW G d o u b S m sm n H) (s : ExtN H H') : JW G d o u b S m sm n H' := by
  obtain ⟨g, hd, ho, hS⟩ := j
  exact ⟨ge _ _ g (fun x φ e => s _ _ e (fun _ z => by cases z)), s _ _ hd (fun _ z => by cases z), s _ _ ho (fun _ z => by cases z), s _ _ hS (fun _ z => by cases z)⟩
theorem JW.stab {G : Hp → Prop} {d o u b S : Addr} {m : Md} {sm : List Str} {H : Hp} (gk : GKeep G) (j : JW G d o u b S m sm 0 H) : ∀ n H1 H2, JW G d o u b S m sm n H1 → (∀ b o, H1 b = some o → (H b).isSome = true → H2 b = some o) → JW G d o u b S m sm n H2 := fun n H1 H2 ⟨g1, h1, h2, h3⟩ k =>
  ⟨gk H H1 H2 j.1 g1 k, k _ _ h1 (by rw [j.2.1]; rfl), k _ _ h2 (by rw [j.2.2.1]; rfl), k _ _ h3 (by rw [j.2.2.2]; rfl)⟩
theorem keep_kW {G : Hp → Prop} {d o u b : Addr} {m : Md} {es : List Str} {bb : Int} {kf : Nat → Dct → Dct → List Str} {sp : Sp} (k : KeepP m.own es bb kf (J0k G d o u b m) M0 sp) : KeepP m.own es bb kf (JW G d o u b o m m.own) M0 sp :=
  fun n D h d1 d2 H Q e1 e2 n12 m1 m2 ⟨g, hd, ho, _⟩ okD okh le q => k n D h d1 d2 H Q e1 e2 n12 m1 m2 ⟨g, hd, ho⟩ okD okh le fun N H' s hN ⟨g', hd', ho'⟩ => q N H' s hN ⟨g', hd', ho', ho'⟩
theorem mdW {H : Hp} {d : Addr} {m : Md} (M : MdAt H d m) : WdAt H d m := by
  obtain ⟨o, w, b, ws, bs, h1, h2, h3, h4, _⟩ := M.ex
  exact ⟨o, w, b, ws, h1, h3, h4⟩
theorem drop_none (k : Key) : ∀ kvs : List (Key × V), valV (dropK kvs k) k = none
  | [] => rfl
  | p :: r => by
    by_cases e : p.1 = k
    · rw [dropK_pos e]
      exact drop_none k r
    · rw [dropK_neg e, valV_neg e]
      exact drop_none k r
theorem drop_ne {k j : Key} (n : ¬ j = k) : ∀ kvs : List (Key × V), valV (dropK kvs k) j = valV kvs j
  | [] => rfl
  | p :: r => by
    by_cases e : p.1 = k
    · rw [dropK_pos e, valV_neg (fun z => n (by rw [← z, e]))]
      exact drop_ne n r
    · rw [dropK_neg e]
      by_cases a : p.1 = j
      · rw [valV_pos a, valV_pos a]
      · rw [valV_neg a, valV_neg a]
        exact drop_ne n r
theorem drop_some {k j : Key} {kvs : List (Key × V)} {v : V} (h : valV (dropK kvs k) j = some v) : valV kvs j = some v := by
  by_cases e : j = k
  · rw [e, drop_none] at h
    cases h
  · rw [drop_ne e] at h
    exact h
theorem putK_there {kvs : Dct} {k : Key} {v : V} (h : (valV kvs k).isSome = true) : (putK kvs k v).length = kvs.length := by
  unfold putK
  rw [if_pos (by rw [valV_any]; exact h), List.length_map]
theorem due_bad {lv : Dct} {x : Wd} {r : List Wd} {v d0 : V} {t : Addr} {H : Hp} (e1 : valV lv (kS x.en) = some v) (e2 : whB x.lo x.hi v = false) (ht : H t = some (.tup [.str "BadLength", v, v])) : DueL lv (x :: r) d0 (.ref t) H := by
  unfold DueL firstB
  rw [e1]
  show match (if whB x.lo x.hi v = true then firstB lv r else some v) with
    | none => V.ref t = d0
    | some v => ∃ t', V.ref t = .ref t' ∧ H t' = some (.tup [.str "BadLength", v, v])
  rw [e2, if_neg (by decide)]
  exact ⟨t, rfl, ht⟩
theorem due_ok {lv : Dct} {x : Wd} {r : List Wd} {v d0 due : V} {H : Hp} (e1 : valV lv (kS x.en) = some v) (e2 : whB x.lo x.hi v = true) (D : DueL lv r d0 due H) : DueL lv (x :: r) d0 due H := by
  unfold DueL firstB
  rw [e1]
  show match (if whB x.lo x.hi v = true then firstB lv r else some v) with
    | none => due = d0
    | some v => ∃ t', due = .ref t' ∧ H t' = some (.tup [.str "BadLength", v, v])
  rw [e2, if_pos rfl]
  exact D
theorem rrow_at {H : Hp} {ws : List V} {wd : List Wd} {i : Nat} {v : V} (R : Rows H ws (wd.map Wd.row)) (hv : ws.reverse[i]? = some v) : ∃ (x : Wd) (tt : Addr), wd.reverse[i]? = some x ∧ x ∈ wd ∧ v = .ref tt ∧ H tt = some (.tup x.row) := by
  have l1 : ws.length = wd.length := by rw [R.len, List.length_map]
  have l2 : i < ws.length := by
    have := (List.getElem?_eq_some_iff.mp hv).1
    rwa [List.length_reverse] at this
  rw [List.getElem?_reverse l2] at hv
  obtain ⟨x, tt, ex, e1, e2⟩ := row_at R hv
  refine ⟨x, tt, ?_, List.mem_of_getElem? ex, e1, e2⟩
  rw [List.getElem?_reverse (by omega), ← l1]
  exact ex
theorem no_end : ∀ z ∈ pool, z ≠ "end" := by decide +kernel
theorem ok_txt : ∀ z ∈ pool, PyData.strOk z = true := by decide +kernel
/-- a keeper that stands -/
structure KAt (P : Program) (w : World) (K : PySem.W.Frag) (mg : Str → Option Value) (base : Heap) (m : Md) (d f1 : Addr) (kf : Nat → Dct → Dct → List Str) (H : Hp) : Prop where
  ex : ∃ (G : Hp → Prop) (sp : Sp) (o u b S : Addr) (sm : List Str), Clo P w K mg base 3 f1 G sp ∧ KeepP m.own (m.wd.map (·.en)) m.last kf (JW G d o u b S m sm) M0 sp ∧ GKeep G ∧ GExt G ∧ JW G d o u b S m sm 0 H
  short : ∀ n D h, (kf n D h).length ≤ 100
section
variable {P : Program} {w : World} {K : PySem.W.Frag} {mg : Str → Option Value} {base : Heap} {m : Md} {d f1 : Addr} {kf : Nat → Dct → Dct → List Str} {H H' : Hp}
theorem KAt.sb {f c : Addr} (h : KAt P w K mg base m d f1 kf H) (F : Flow H f c) (s : Sb f H H') : KAt P w K mg base m d f1 kf H' := by
  obtain ⟨⟨G, sp, o, u, b, S, sm, h1, h2, h3, h4, h5⟩, sh⟩ := h
  exact ⟨⟨G, sp, o, u, b, S, sm, h1, h2, h3, h4, h5.sb h4 F s⟩, sh⟩
theorem KAt.ext (h : KAt P w K mg base m d f1 kf H) (s : ExtN H H') : KAt P w K mg base m d f1 kf H' := by
  obtain ⟨⟨G, sp, o, u, b, S, sm, h1, h2, h3, h4, h5⟩, sh⟩ := h
  exact ⟨⟨G, sp, o, u, b, S, sm, h1, h2, h3, h4, h5.ext h4 s⟩, sh⟩
theorem KAt.dk {l : Addr} {lv : Dct} (h : KAt P w K mg base m d f1 kf H) (hl : H l = some (.dK lv)) (ne : d ≠ l) (s : Sb l H H') : KAt P w K mg base m d f1 kf H' := by
  obtain ⟨⟨G, sp, o, u, b, S, sm, h1, h2, h3, h4, h5⟩, sh⟩ := h
  exact ⟨⟨G, sp, o, u, b, S, sm, h1, h2, h3, h4, h5.dk h4 hl ne s⟩, sh⟩
theorem Clo.up {i j : Nat} {G : Hp → Prop} {sp : Sp} (h : Clo P w K mg base i f1 G sp) (l : i ≤ j) : Clo P w K mg base j f1 G sp := ⟨h.fn, fun A outer s H us vs Q r => h.run A outer s H us vs Q (r.mono l)⟩
/-- what stands while a run is tried -/
structure RR (P : Program) (w : World) (K : PySem.W.Frag) (mg : Str → Option Value) (base : Heap) (f c d p l : Addr) (m : Md) (f1 : Addr) (kf : Nat → Dct → Dct → List Str) (d0 : V) (H : Hp) : Prop where
  fl : Flow H f c
  md : MdAt H d m
  web : WebAt (CW K) H p m
  tb : Tabs (tbR K) H
  ka : KAt P w K mg base m d f1 kf H
  du : DueK m kf d0 H
  ne : d ≠ l
variable {f c p l : Addr} {d0 : V} {lv : Dct}
theorem RR.sb (R : RR P w K mg base f c d p l m f1 kf d0 H) (s : Sb f H H') (F : Flow H' f c) : RR P w K mg base f c d p l m f1 kf d0 H' := by
  obtain ⟨zf, hf⟩ := R.fl.lst
  exact ⟨F, R.md.sb R.fl s, R.web.sb s hf, tabs_sb R.tb s hf, R.ka.sb R.fl s, R.du.keep (s.kt hf), R.ne⟩
theorem RR.ext (R : RR P w K mg base f c d p l m f1 kf d0 H) (s : ExtN H H') (t : Tabs (tbR K) H') : RR P w K mg base f c d p l m f1 kf d0 H' :=
  ⟨R.fl.ext s, R.md.ext s, R.web.ext s, t, R.ka.ext s, R.du.keep (fun b xs h => s _ _ h fun _ z => by cases z), R.ne⟩
theorem RR.same (R : RR P w K mg base f c d p l m f1 kf d0 H) (s : Same H H') : RR P w K mg base f c d p l m f1 kf d0 H' := R.ext (fun b o e _ => s b o e) (tabs_same R.tb s)
theorem RR.dk (R : RR P w K mg base f c d p l m f1 kf d0 H) (hl : H l = some (.dK lv)) (s : Sb l H H') : RR P w K mg base f c d p l m f1 kf d0 H' := by
  have nk : ∀ {x : Addr} {ob : HO}, H x = some ob → (∀ kv, ob ≠ .dK kv) → H' x = some ob := fun {x ob} e n => s _ _ e fun z => by
    rw [z, hl] at e
    exact n _ (Option.some.inj e).symm
  have k : Kt H H' := fun b xs h => nk h fun _ z => by cases z
  obtain ⟨ns, i, r, st, e1, e2, e3⟩ := R.fl.ex
  obtain ⟨o, w, b, ws, bs, h1, h2, h3, h4, h5, h6, h7⟩ := R.md.ex
  refine ⟨⟨ns, i, r, st, nk e1 fun _ z => (by cases z), nk e2 fun _ z => (by cases z), e3⟩, ⟨o, w, b, ws, bs, s _ _ h1 R.ne, nk h2 fun _ z => (by cases z), nk h3 fun _ z => (by cases z), h4.keep k, nk h5 fun _ z => (by cases z), h6.keep k, h7⟩, R.web.keep (fun dx fs h => nk h fun _ z => by cases z) (fun b xs h => nk h fun _ z => by cases z), fun q hq => ?_, R.ka.dk hl R.ne s, R.du.keep k, R.ne⟩
  obtain ⟨ps, t1, t2, t3⟩ := R.tb q hq
  refine ⟨ps, nk t1 fun _ z => (by cases z), t2, fun pos cv hc => ?_⟩
  obtain ⟨c, e1, e2⟩ := t3 pos cv hc
  exact ⟨c, e1, nk e2 fun _ z => by cases z⟩
def sp_law (K : PySem.W.Frag) : Sp := fun vs H Q _ => ∃ (a : Addr) (ns : List Int), vs = [.ref a] ∧ SqL K H a (ns.map V.int) ∧ H (He.cT K ("law", none)).2 = some (.tbl #[]) ∧ H (He.cT K ("_law_keeper", none)).2 = some (.tbl #[]) ∧ H (He.cT K ("_law_wild", none)).2 = some (.tbl #[]) ∧ ∀ H', Q (.bl true) H'
theorem ok_law (T : Tp K mg) (TB0 : TabB base mg (He.cT K ("law", none)).1 (He.cT K ("law", none)).2) (TB1 : TabB base mg (He.cT K ("_law_keeper", none)).1 (He.cT K ("_law_keeper", none)).2) (TB2 : TabB base mg (He.cT K ("_law_wild", none)).1 (He.cT K ("_law_wild", none)).2)
    {fd : FuncData} (F : FunD K "law" "law" (defArgs s_law) (defBody s_law) (defScope s_law) [] [] (He.ga K "law") fd) : FnOk P w K mg base CX0 16 (He.ga K "law") fd ["_law_script"] (sp_law K) := by
  obtain ⟨oc, od, dV, kV, doc, pm, an, cdv, ct, osl, rfl, lk, hcd, _, _⟩ := F.ex
  obtain ⟨cc, rfl⟩ := He.codeIn_ref hcd
  have hcc : He.codeOf K ("law", none) = cc := He.codeOf_eq lk rfl
  have TB : TabB base mg cc (He.cT K ("law", none)).2 := by
    rw [← hcc]
    exact TB0
  refine fn_of lk hcd sc_law (fun vs H Q E h => ?_) (fun A outer s H vs Q E hr h => ?_)
  · obtain ⟨a, ns, rfl, _⟩ := h
    rfl
  suffices hh : ∃ t, PSs (cxOf CX0 P w K mg base N_law "law" (defScope s_law) (He.ga K "law") (.ref cc) A outer s H E).nox (defBody s_law) t ∧ t { nx := fun _ H' => Q .non H', rt := Q } (start N_law vs) H by
    obtain ⟨t, h1, h2⟩ := hh
    exact ⟨t, h1.nox, h2⟩
  obtain ⟨a, ns, rfl, hS, hT1, hT2, hT3, q⟩ := h
  have hu := hu_of hr
  have hu64 := hr.units
  have tb0 : Tabs (tbR K) H := fun z hz => by
    rcases List.mem_cons.1 hz with h | h
    · rw [h]
      exact tabs_new hT1 _ List.mem_cons_self
    rcases List.mem_cons.1 h with h | h
    · rw [h]
      exact tabs_new (q := qk) hT2 _ List.mem_cons_self
    · rw [List.mem_singleton.1 h]
      exact tabs_new (q := qw) hT3 _ List.mem_cons_self
  refine ⟨_, (pss_cons (ps_set (i := 1) sc_law.nd rfl (.inl rfl) (C8.pe_c (cal__law_flow T) hr (by decide) rfl (pa_cons (pv 0) pa_nil)))
      (pss_cons (ps_par (i := 2) (j := 3) (by rfl) sc_law.nd rfl rfl (by decide) rfl rfl (pa_cons (pe_op op_add pe_int (C8.pe_c (cal__law_draw T) hr (by decide) rfl (pa_cons (pv 1) (pa_cons pe_int pa_nil)))) (pa_cons (pe_op op_add pe_int (C8.pe_c (cal__law_draw T) hr (by decide) rfl (pa_cons (pv 1) (pa_cons pe_int pa_nil)))) pa_nil)) (by rfl))
      (pss_cons (ps_set (i := 4) sc_law.nd rfl (.inl rfl) (C8.pe_c (cal__law_drawn T) hr (by decide) rfl (pa_cons (pv 1) (pa_cons (pe_op op_add pe_int (C8.pe_c (cal__law_draw T) hr (by decide) rfl (pa_cons (pv 1) (pa_cons pe_int pa_nil)))) (pa_cons (pe_op op_add pe_int (C8.pe_c (cal__law_draw T) hr (by decide) rfl (pa_cons (pv 1) (pa_cons pe_int pa_nil)))) (pa_cons pe_int (pa_cons (pv 2) (pa_cons (pv 3) pa_nil))))))))
      (pss_cons (ps_set (i := 5) sc_law.nd rfl (.inr rfl) (C8.pe_c (cal__law_web T) hr (by decide) rfl (pa_cons (pv 4) pa_nil)))
      (pss_cons (ps_for PassesOwn.never rfl (pi_range1 rfl (z_range T) (pa_cons pe_int pa_nil)) (pg_name (i := 6) sc_law.nd rfl (.inl rfl))
        (pss_cons (ps_set (i := 7) sc_law.nd rfl (.inr rfl) (C8.pe_c (cal__law_sizes T) hr (by decide) rfl (pa_cons (pv 1) (pa_cons (pv 4) pa_nil))))
        (pss_cons (ps_set (i := 8) sc_law.nd rfl (.inl rfl) pe_non)
        (pss_cons (ps_set (i := 9) sc_law.nd rfl (.inl rfl) (pe_op op_add pe_int (C8.pe_c (cal__law_draw T) hr (by decide) rfl (pa_cons (pv 1) (pa_cons (pv 3) pa_nil)))))
        (pss_cons (ps_set (i := 10) sc_law.nd rfl (.inl rfl) (C8.pe_c (cal__law_draw T) hr (by decide) rfl (pa_cons (pv 1) (pa_cons pe_int pa_nil))))
        (pss_cons (ps_set (i := 11) sc_law.nd rfl (.inr rfl) (C8.pe_c (cal__law_keeper T TB1 (List.mem_cons_of_mem _ List.mem_cons_self) (tbR_k (dt__law_keeper T) (dt__law_keeper__law_wild T))) hr (by decide) rfl (pa_cons (pv 4) (pa_cons pe_int pa_nil))))
        (C8.pss_cut (ps_if (pt_cmpR op_lt (pv 10) pe_int (nomark _)) (pss_cons (ps_set (i := 11) sc_law.nd rfl (.inr rfl) (C8.pe_c (cal__law_wild T TB2 (List.mem_cons_of_mem _ (List.mem_cons_of_mem _ List.mem_cons_self)) (tbR_w (dt__law_wild T) (dt__law_keeper__law_wild T))) hr (by decide) rfl (pa_cons (pv 4) (pa_cons (pv 9) (pa_cons (pv 10) pa_nil)))))
          (pss_one (ps_set (i := 8) sc_law.nd rfl (.inl rfl) (pe_tup (pa_cons pe_str (pa_cons (pv 9) pa_nil)))))) pss_nil)
        (pss_cons (ps_for PassesOwn.never rfl (pi_list (pe_revL (pe_dget hu (pv 4) pe_str (fun _ _ => rfl)))) (pg_tup rfl (pgs_cons (pg_name (i := 12) sc_law.nd rfl (.inl rfl)) (pgs_cons (pg_name (i := 13) sc_law.nd rfl (.inl rfl)) (pgs_cons (pg_name (i := 14) sc_law.nd rfl (.inl rfl)) (pgs_cons (pg_name (i := 15) sc_law.nd rfl (.inl rfl)) (pgs_cons (pg_name (i := 16) sc_law.nd rfl (.inl rfl)) pgs_nil))))))
          (pss_one (ps_if (pt_cmpR op_eq (C8.pe_c (cal__law_draw T) hr (by decide) rfl (pa_cons (pv 1) (pa_cons pe_int pa_nil))) pe_int (nomark _)) (pss_one (ps_dput hu (pv 7) (pv 12) (C8.pe_c (cal__law_strange T) hr (by decide) rfl (pa_cons (pv 1) (pa_cons (pv 14) (pa_cons (pv 15) pa_nil)))) rfl)) pss_nil)))
        (pss_cons (ps_for PassesOwn.never rfl (pi_list (pe_revL (pe_dget hu (pv 4) pe_str (fun _ _ => rfl)))) (pg_tup rfl (pgs_cons (pg_name (i := 12) sc_law.nd rfl (.inl rfl)) (pgs_cons (pg_name (i := 13) sc_law.nd rfl (.inl rfl)) (pgs_cons (pg_name (i := 14) sc_law.nd rfl (.inl rfl)) (pgs_cons (pg_name (i := 15) sc_law.nd rfl (.inl rfl)) (pgs_cons (pg_name (i := 16) sc_law.nd rfl (.inl rfl)) pgs_nil))))))
          (pss_one (ps_if (pt_not (pt_val (C8.pe_c (cal__law_whole T) hr (by decide) rfl (pa_cons (pe_dget hu (pv 7) (pv 12) (fun _ _ => rfl)) (pa_cons (pv 14) (pa_cons (pv 15) pa_nil)))))) (pss_one (ps_set (i := 8) sc_law.nd rfl (.inl rfl) (pe_tup (pa_cons pe_str (pa_cons (pe_dget hu (pv 7) (pv 12) (fun _ _ => rfl)) (pa_cons (pe_dget hu (pv 7) (pv 12) (fun _ _ => rfl)) pa_nil)))))) pss_nil)))
        (C8.pss_cut (ps_if (pt_cmpR op_eq (C8.pe_c (cal__law_draw T) hr (by decide) rfl (pa_cons (pv 1) (pa_cons pe_int pa_nil))) pe_int (nomark _)) (pss_cons (ps_set (i := 17) sc_law.nd rfl (.inl rfl) (pe_ix ix_tup (C8.pe_c (cal__law_pick T) hr (by decide) rfl (pa_cons (pv 1) (pa_cons (pe_dget hu (pv 4) pe_str (fun _ _ => rfl)) pa_nil))) pe_int (fun _ _ => rfl)))
          (pss_cons (ps_expr (pe_dpop1 (pv 7) (pv 17) ⟨rfl, rfl, rfl, rfl⟩))
          (pss_one (ps_set (i := 8) sc_law.nd rfl (.inl rfl) (pe_tup (pa_cons pe_str (pa_cons (pv 17) pa_nil))))))) pss_nil)
        (pss_one (ps_if (pt_not (pt_val (C8.pe_c (cal__law_same T) hr (by decide) rfl (pa_cons (pe_lamT T TB List.mem_cons_self (tbR_l (dt__law_keeper T) (dt__law_wild T)) rfl hr (LamX.lamS_by (sc := defScope s_law) (by decide +kernel)) (fun A' outer' s' H' E' f' c' hr tk => (pe_cx (calx_play (P := P) (w := w) (base := base) T 3) tk (fun _ _ _ _ h ↦ h) hr (by decide) rfl (pa_cons (pv 5) (pa_cons (pv 11) (pa_cons (pv 7) pa_nil)))))) (pa_cons (pv 8) pa_nil))))) (pss_one (ps_ret pe_bl)) pss_nil))))))))))))
      (pss_one (ps_ret (C8.pe_c (cal__law_stands T) hr (by decide) rfl (pa_cons (pv 5) (pa_cons (pv 4) pa_nil)))))))))), ?_⟩
  refine ⟨_, rfl, a, ns, rfl, hS, fun f c H1 s1 nf nc F1 => ?_⟩
  have tb1 := tabs_same tb0 s1
  obtain ⟨zf1, hf1⟩ := F1.lst
  refine ⟨_, rfl, f, c, 6, rfl, F1, by decide, by decide, fun v1 H2 a1 b1 sb1 F2 => ⟨1, v1, rfl, rfl, ?_⟩⟩
  have tb2 := tabs_sb tb1 sb1 hf1
  obtain ⟨zf2, hf2⟩ := F2.lst
  refine ⟨_, rfl, f, c, 12, rfl, F2, by decide, by decide, fun v2 H3 a2 b2 sb2 F3 => ⟨1, v2, rfl, rfl, ?_⟩⟩
  have tb3 := tabs_sb tb2 sb2 hf2
  obtain ⟨zf3, hf3⟩ := F3.lst
  refine ⟨_, _, rfl, ?_⟩
  refine ⟨_, rfl, _, rfl, f, c, 2, rfl, F3, by decide, by decide, fun v3 H4 a3 b3 sb3 F4 => ⟨2, v3, rfl, rfl, ?_⟩⟩
  have tb4 := tabs_sb tb3 sb3 hf3
  obtain ⟨zf4, hf4⟩ := F4.lst
  refine ⟨_, rfl, f, c, 3, rfl, F4, by decide, by decide, fun v4 H5 a4 b4 sb4 F5 => ⟨1, v4, rfl, rfl, ?_⟩⟩
  have tb5 := tabs_sb tb4 sb4 hf4
  obtain ⟨zf5, hf5⟩ := F5.lst
  refine ⟨_, rfl, _, rfl, f, c, 2 + v3, 1 + v4, 0, 1 + v1, 1 + v2, rfl, F5, by omega, by omega, by omega, by omega, by omega, by omega, by omega, by omega, .inl rfl, by omega, by omega, fun d m H7 sb7 F7 nd M ok hlast hown hwd hbd _ => ?_⟩
  have tb7 := tabs_sb tb5 sb7 hf5
  refine ⟨_, rfl, d, m, rfl, M, ok, fun p H8 s8 np W => ?_⟩
  have lens := ok.len
  have last := ok.last
  have ndp : m.pts.Nodup := pts_nd ok.nd ok.pool
  refine ⟨4, rfl, by decide, by decide, for_range (lo := 0) (n := 4) (fun i σ H9 => ∃ y6 y7 y8 y9 y10 y11 y12 y13 y14 y15 y16 y17 : Option V, σ = [some (.ref a), some (.ref f), some (.int (1 + v1)), some (.int (1 + v2)), some (.ref d), some (.ref p), y6, y7, y8, y9, y10, y11, y12, y13, y14, y15, y16, y17] ∧ Flow H9 f c ∧ MdAt H9 d m ∧ WebAt (CW K) H9 p m ∧ Tabs (tbR K) H9) ⟨none, none, none, none, none, none, none, none, none, none, none, none, rfl, F7.same s8, M.same s8, W, tabs_same tb7 s8⟩ ?_ ?_⟩
  · rintro i σ H9 hi ⟨y6, y7, y8, y9, y10, y11, y12, y13, y14, y15, y16, y17, rfl, F9, M9, W9, tb9⟩
    obtain ⟨zf9, hf9⟩ := F9.lst
    refine ⟨_, rfl, _, rfl, f, c, d, m, rfl, F9, mdW M9, ok, fun l HA lv0 L0 sbA FA nlA hlA lvl lvi good => ?_⟩
    have tbA := tabs_sb tb9 sbA hf9
    have MA := M9.sb F9 sbA
    have WA := W9.sb sbA hf9
    have nla : d ≠ l := by
      obtain ⟨o, w, b, ws, bs, h1, _⟩ := M9.ex
      exact (ne_of_none h1 nlA)
    refine ⟨_, rfl, _, rfl, ?_⟩
    refine ⟨f, c, 1 + v2, rfl, FA, by omega, by omega, fun va HB b0 b1 sbB FB => ⟨1, va, rfl, rfl, ?_⟩⟩
    obtain ⟨zfA, hfA⟩ := FA.lst
    refine ⟨_, rfl, f, c, 7, rfl, FB, by decide, by decide, fun vk HC k0 k1 sbC FC => ?_⟩
    obtain ⟨zfB, hfB⟩ := FB.lst
    have tbC := tabs_sb (tabs_sb tbA sbB hfA) sbC hfB
    have MC := (MA.sb FA sbB).sb FB sbC
    have WC := (WA.sb sbB hfA).sb sbC hfB
    have hlC := sbC _ _ (sbB _ _ hlA (ne_of hlA hfA fun z => by cases z)) (ne_of (sbB _ _ hlA (ne_of hlA hfA fun z => by cases z)) hfB fun z => by cases z)
    refine ⟨_, rfl, [.ref d, .int 1], rfl, tbC, rfl, fun f1 G cs HD CL gk ge gc g exD tbD nf1 ncs => ?_⟩
    obtain ⟨o, u, bb, wsD, bsD, hd, ho, hwd1, rwd, _⟩ := MC.ex
    have hlD := exD _ _ hlC (fun ps z => by cases z)
    have RD : RR P w K mg base f c d p l m f1 (chS m 1) .non HD := ⟨FC.ext exD, MC.ext exD, WC.ext exD, tbD, ⟨⟨G, _, o, u, bb, o, m.own, CL, keep_kW (keep_k ge gc (by omega) (by rw [List.length_map]; omega)), gk, ge, g, exD _ _ hd (fun ps z => by cases z), exD _ _ ho (fun ps z => by cases z), exD _ _ ho (fun ps z => by cases z)⟩, fun n D h => (by
      have z := ch_ok ok 1 n D h
      have := nd_len _ m.own z.1 fun y hy => (z.2 y hy).1
      omega)⟩, .inl ⟨rfl, fun L n => ch_good ok L 1 n⟩, nla⟩
    obtain ⟨a0, ea0⟩ : ∃ a0, m.own[0]? = some a0 := ⟨_, List.getElem?_eq_getElem (by omega)⟩
    obtain ⟨x0, ex0⟩ : ∃ x0, m.wd[0]? = some x0 := ⟨_, List.getElem?_eq_getElem (by omega)⟩
    have pa0 := ok.pool a0 (List.mem_append_left _ (List.mem_of_getElem? ea0))
    refine ⟨fun σ' H' => ∃ (f1 : Addr) (kf : Nat → Dct → Dct → List Str) (d0 : V) (y6 y10 : Option V), σ' = [some (.ref a), some (.ref f), some (.int (1 + v1)), some (.int (1 + v2)), some (.ref d), some (.ref p), y6, some (.ref l), some d0, some (.int (1 + va)), y10, some (.ref f1), y12, y13, y14, y15, y16, y17] ∧ H' l = some (.dK lv0) ∧ RR P w K mg base f c d p l m f1 kf d0 H', ?_, ?_⟩
    · refine ⟨_, rfl, vk, 6, rfl, rfl, _, rfl, ite2 (fun e => ?_) (fun e => ?_)⟩
      · have e6 : vk < 6 := of_decide_eq_true e
        obtain ⟨o, u, bb, wsD, bsD, hd, ho, hwd1, rwd, _⟩ := RD.md.ex
        refine ⟨_, rfl, _, rfl, _, rfl, d, o, u, bb, m, wsD, a0, x0.en, 1 + va, vk, rfl, hd, ho, hwd1, rwd, ea0, by rw [ex0]; rfl, no_end a0 pa0, ok_txt a0 pa0, by omega, by omega, tbD, fun f2 S G2 sp2 HE CL2 kp2 gk2 ge2 j2 exE tbE => ?_⟩
        refine ⟨_, rfl, (by show 2 ≤ sizeLine; decide), fun t nt => ?_⟩
        have st := same_upd (o := .tup [.str "BadKeeper", .int (1 + va)]) nt
        have htt : upd HE t (.tup [.str "BadKeeper", .int (1 + va)]) t = some (.tup [.str "BadKeeper", .int (1 + va)]) := upd_same
        have RE : RR P w K mg base f c d p l m f2 (kfW m.own (wildL a0 x0.en vk) (1 + va) vk) (.ref t) (upd HE t (.tup [.str "BadKeeper", .int (1 + va)])) :=
          ⟨(RD.fl.ext exE).same st, (RD.md.ext exE).same st, (RD.web.ext exE).same st, tabs_same tbE st, ⟨⟨G2, sp2, o, u, bb, S, _, CL2.up (by decide), kp2 _ _, gk2, ge2, j2.ext ge2 fun b o e _ => st b o e⟩, fun n D h => ?_⟩, .inr ⟨t, 1 + va, rfl, htt, by omega, by omega, fun L => wild_bad ok ea0 (by rw [ex0]; rfl) (by omega) (by omega) (by omega)⟩, nla⟩
        · exact ⟨f2, _, _, _, _, rfl, st _ _ (exE _ _ hlD (fun ps z => by cases z)), RE⟩
        · have lw : (wildL a0 x0.en vk).length ≤ 2 := by
            unfold wildL
            repeat' split
            all_goals simp
          unfold kfW
          split
          · omega
          · split
            · omega
            · decide
      · exact ⟨f1, _, _, _, _, rfl, hlD, RD⟩
    · rintro σ' HE ⟨f1, kf, d0, y6, y10, rfl, hlE, RE⟩
      obtain ⟨o, u, bb, ws, bsD, hd, ho, hwd1, rwd, _⟩ := RE.md.ex
      have lws : ws.length = m.wd.length := by rw [rwd.len, List.length_map]
      refine ⟨_, rfl, d, .ref u, rfl, mk_wd hd, u, ws, rfl, .inl (.inl hwd1), fun rl nrl => ?_⟩
      have s1 := same_upd (o := .lst ws.reverse) nrl
      have hrl : upd HE rl (.lst ws.reverse) rl = some (.lst ws.reverse) := upd_same
      have RF := RE.same s1
      have hlF := s1 _ _ hlE
      have rwF := rwd.keep (Kt.of s1)
      have nrf : rl ≠ f := by
        obtain ⟨zf, hf⟩ := RE.fl.lst
        exact (ne_of_none hf nrl).symm
      have nrl2 : rl ≠ l := (ne_of_none hlE nrl).symm
      generalize upd HE rl (.lst ws.reverse) = HF at s1 hrl RF hlF rwF ⊢
      refine ⟨rl, rfl, ⟨_, .inl (.inl hrl)⟩, for_list (K := K) (a := rl) (xs := ws.reverse) (fun i σ' H' => ∃ (y6 y10 y12 y13 y14 y15 y16 : Option V) (lv : Dct), σ' = [some (.ref a), some (.ref f), some (.int (1 + v1)), some (.int (1 + v2)), some (.ref d), some (.ref p), y6, some (.ref l), some d0, some (.int (1 + va)), y10, some (.ref f1), y12, y13, y14, y15, y16, y17] ∧ H' rl = some (.lst ws.reverse) ∧ Rows H' ws (m.wd.map Wd.row) ∧ H' l = some (.dK lv) ∧ lv.length ≤ 4 ∧ (∀ y ∈ m.wd, (valV lv (kS y.en)).isSome = true) ∧ (∀ k v, valV lv k = some v → (plK v).isSome = true ∧ flatV v = true) ∧ RR P w K mg base f c d p l m f1 kf d0 H')
        ⟨_, _, _, _, _, _, _, lv0, rfl, hrl, rwF, hlF, lvl, fun y hy => (by rw [(good y hy).1]; rfl), fun k v e => (by obtain ⟨b, rfl⟩ := lvi k v e; exact ⟨rfl, rfl⟩), RF⟩ (fun i σ' H' _ ⟨_, _, _, _, _, _, _, _, _, h, _⟩ => .inl (.inl h)) ?_ ?_⟩
      · rintro i v σ' HG hv ⟨y6, y10, y12, y13, y14, y15, y16, lv, rfl, hrG, rwG, hlG, few, has, pl, RG⟩
        obtain ⟨x, tt, ex, mx, rfl, ht⟩ := rrow_at rwG hv
        refine ⟨tt, _, rfl, .inl (.inl ht), rfl, _, _, rfl, _, _, rfl, _, _, rfl, _, _, rfl, _, _, rfl, rfl, ?_⟩
        obtain ⟨zfG, hfG⟩ := RG.fl.lst
        refine ⟨_, rfl, f, c, 4, rfl, RG.fl, by decide, by decide, fun z HH z0 z1 sbH FH => ⟨rfl, _, rfl, ite2 (fun e => ?_) (fun e => ?_)⟩⟩
        · have nlf : l ≠ f := ne_of hlG hfG fun z => by cases z
          obtain ⟨zfH, hfH⟩ := FH.lst
          refine ⟨_, rfl, _, rfl, _, rfl, f, c, x.lo, x.hi, rfl, FH, fun v HI pv fv bv sbI FI => ?_⟩
          have hlI := sbI _ _ (sbH _ _ hlG nlf) nlf
          have RI := (RG.sb sbH FH).sb sbI FI
          have hrI := sbI _ _ (sbH _ _ hrG nrf) nrf
          have rwI := (rwG.keep (sbH.kt hfG)).keep (sbI.kt hfH)
          have kI : Kt HI (upd HI l (.dK (putK lv (kS x.en) v))) := Kt.upd fun xs z => by rw [hlI] at z; cases z
          have hasx := has x mx
          refine ⟨_, rfl, _, rfl, l, _, rfl, .k (k := kS x.en) hlI (small1000 (by omega)), ?_⟩
          refine ⟨_, _, _, _, _, _, _, putK lv (kS x.en) v, rfl, (upd_ne nrl2).trans hrI, rwI.keep kI, upd_same, ?_, fun y hy => ?_, fun k u e => ?_, RI.dk hlI Sb.upd⟩
          · rw [putK_there hasx]
            exact few
          · rw [valV_put]
            split
            · rfl
            · exact has y hy
          · rw [valV_put] at e
            split at e
            · cases Option.some.inj e
              exact ⟨pv, fv⟩
            · exact pl k u e
        · have nlf : l ≠ f := ne_of hlG hfG fun z => by cases z
          exact ⟨_, _, _, _, _, _, _, lv, rfl, sbH _ _ hrG nrf, rwG.keep (sbH.kt hfG), sbH _ _ hlG nlf, few, has, pl, RG.sb sbH FH⟩
      · rintro σ' HG ⟨y6, y10, y12, y13, y14, y15, y16, lv, rfl, hrG, rwG, hlG, few, has, pl, RG⟩
        obtain ⟨o, u, bb, ws, bsD, hd, ho, hwd1, rwd, _⟩ := RG.md.ex
        have lws : ws.length = m.wd.length := by rw [rwd.len, List.length_map]
        refine ⟨_, rfl, d, .ref u, rfl, mk_wd hd, u, ws, rfl, .inl (.inl hwd1), fun r2 nr2 => ?_⟩
        have s2 := same_upd (o := .lst ws.reverse) nr2
        have hr2 : upd HG r2 (.lst ws.reverse) r2 = some (.lst ws.reverse) := upd_same
        have RH := RG.same s2
        have hlH := s2 _ _ hlG
        have rwH := rwd.keep (Kt.of s2)
        generalize upd HG r2 (.lst ws.reverse) = HH at s2 hr2 RH hlH rwH ⊢
        refine ⟨r2, rfl, ⟨_, .inl (.inl hr2)⟩, for_list (K := K) (a := r2) (xs := ws.reverse) (fun i σ' H' => ∃ (y6 y10 y12 y13 y14 y15 y16 : Option V) (due : V), σ' = [some (.ref a), some (.ref f), some (.int (1 + v1)), some (.int (1 + v2)), some (.ref d), some (.ref p), y6, some (.ref l), some due, some (.int (1 + va)), y10, some (.ref f1), y12, y13, y14, y15, y16, y17] ∧ Same HH H' ∧ DueL lv (m.wd.reverse.take i).reverse d0 due H')
          ⟨_, _, _, _, _, _, _, d0, rfl, Same.refl _, rfl⟩ (fun i σ' H' _ ⟨_, _, _, _, _, _, _, _, _, h, _⟩ => .inl (.inl (h _ _ hr2))) ?_ ?_⟩
        · rintro i v σ' HI hv ⟨y6, y10, y12, y13, y14, y15, y16, due, rfl, sI, DI⟩
          obtain ⟨x, tt, ex, mx, rfl, ht⟩ := rrow_at rwH hv
          have tk : (m.wd.reverse.take (i + 1)).reverse = x :: (m.wd.reverse.take i).reverse := by
            rw [List.take_add_one, ex]
            show (m.wd.reverse.take i ++ [x]).reverse = _
            rw [List.reverse_append]
            rfl
          rw [tk]
          obtain ⟨v, ev⟩ := Option.isSome_iff_exists.1 (has x mx)
          refine ⟨tt, _, rfl, .inl (.inl (sI _ _ ht)), rfl, _, _, rfl, _, _, rfl, _, _, rfl, _, _, rfl, _, _, rfl, rfl, ?_⟩
          have hlI := sI _ _ hlH
          have gt : DGet HI l (.str x.en) (some v) := by
            rw [← ev]
            exact .k (k := kS x.en) hlI
          refine ⟨_, rfl, _, rfl, l, v, rfl, gt, _, rfl, _, rfl, v, x.lo, x.hi, rfl, (pl _ _ ev).1, ?_⟩
          refine ⟨_, rfl, ?_⟩
          cases ew : whB x.lo x.hi v with
          | false =>
            refine iteT ?_
            refine ⟨_, rfl, _, rfl, l, v, rfl, gt, _, rfl, _, rfl, l, v, rfl, gt, (by show 3 ≤ sizeLine; decide), fun t nt => ?_⟩
            exact ⟨_, _, _, _, _, _, _, .ref t, rfl, sI.trans (same_upd nt), due_bad ev ew upd_same⟩
          | true =>
            refine iteF ?_
            exact ⟨_, _, _, _, _, _, _, due, rfl, sI, due_ok ev ew DI⟩
        · rintro σ' HI ⟨y6, y10, y12, y13, y14, y15, y16, due, rfl, sI, DI⟩
          have el : (m.wd.reverse.take ws.reverse.length).reverse = m.wd := by
            rw [List.length_reverse, lws, ← List.length_reverse (as := m.wd), List.take_length, List.reverse_reverse]
          rw [el] at DI
          have RI := RH.same sI
          have hlI := sI _ _ hlH
          have few1000 := few
          refine ⟨fun σ' H' => ∃ (y6 y10 y12 y13 y14 y15 y16 y17 : Option V) (due : V) (lv : Dct), σ' = [some (.ref a), some (.ref f), some (.int (1 + v1)), some (.int (1 + v2)), some (.ref d), some (.ref p), y6, some (.ref l), some due, some (.int (1 + va)), y10, some (.ref f1), y12, y13, y14, y15, y16, y17] ∧ H' l = some (.dK lv) ∧ (∀ k v, valV lv k = some v → (plK v).isSome = true ∧ flatV v = true) ∧ RR P w K mg base f c d p l m f1 kf d0 H' ∧ DueR m kf lv due H', ?_, ?_⟩
          · obtain ⟨zfI, hfI⟩ := RI.fl.lst
            refine ⟨_, rfl, f, c, 4, rfl, RI.fl, by decide, by decide, fun z HJ z0 z1 sbJ FJ => ⟨rfl, _, rfl, ite2 (fun e => ?_) (fun e => ?_)⟩⟩
            · have RJ := RI.sb sbJ FJ
              have nlf : l ≠ f := ne_of hlI hfI fun z => by cases z
              have hlJ := sbJ _ _ hlI nlf
              obtain ⟨o, u, bb, ws, bsD, hd, ho, hwd1, rwd, _⟩ := RJ.md.ex
              have lws : ws.length = m.wd.length := by rw [rwd.len, List.length_map]
              obtain ⟨zfJ, hfJ⟩ := RJ.fl.lst
              refine ⟨_, rfl, _, rfl, d, .ref u, rfl, mk_wd hd, f, c, u, ws, rfl, RJ.fl, hwd1, rows_flow RJ.fl hwd1 rwd, by omega, by omega, fun v HK hv sbK FK => ?_⟩
              obtain ⟨ix, hi⟩ := List.mem_iff_getElem?.1 hv
              obtain ⟨x, tt, ex, rfl, ht⟩ := row_at rwd hi
              have mx := List.mem_of_getElem? ex
              have ae : atI x.row 0 = some (.str x.en) := rfl
              obtain ⟨v, ev⟩ := Option.isSome_iff_exists.1 (has x mx)
              have hlK := sbK _ _ hlJ nlf
              have RK := RJ.sb sbK FK
              refine ⟨tt, _, 0, .str x.en, rfl, rfl, .inl (.inl (sbK.kt hfJ _ _ ht)), ae, ?_⟩
              refine ⟨_, rfl, l, rfl, .inl ⟨_, .inl hlK⟩, _, rfl, lv, kS x.en, v, hlK, rfl, ev, ?_⟩
              have RL := RK.dk hlK (Sb.upd (o := .dK (dropK lv (kS x.en))))
              have hlL : upd HK l (.dK (dropK lv (kS x.en))) l = some (.dK (dropK lv (kS x.en))) := upd_same
              generalize upd HK l (.dK (dropK lv (kS x.en))) = HL at RL hlL ⊢
              refine ⟨_, rfl, (by show 2 ≤ sizeLine; decide), fun t nt => ?_⟩
              have st := same_upd (o := .tup [.str "NoSpan", .str x.en]) nt
              exact ⟨_, _, _, _, _, _, _, _, .ref t, dropK lv (kS x.en), rfl, st _ _ hlL, fun k u e => pl k u (drop_some e), RL.same st, .inr ⟨x, mx, t, rfl, upd_same, drop_none _ _, fun y hy ne => by
                rw [drop_ne fun z => ne (kS_eq z)]
                exact has y hy⟩⟩
            · have nlf : l ≠ f := ne_of hlI hfI fun z => by cases z
              exact ⟨_, _, _, _, _, _, _, _, due, lv, rfl, sbJ _ _ hlI nlf, pl, RI.sb sbJ FJ, .inl ⟨has, d0, (RI.sb sbJ FJ).du, DI.keep (sbJ.kt hfI)⟩⟩
          · rintro σ' HJ ⟨y6, y10, y12, y13, y14, y15, y16, y17, due, lv, rfl, hlJ, pl, RJ, DJ⟩
            refine ⟨RJ.tb, fun HK exK tbK => ?_⟩
            have RK := RJ.ext exK tbK
            have DK := DJ.keep (fun b xs h => exK b _ h fun _ z => by cases z)
            have hlK := exK _ _ hlJ (fun _ z => by cases z)
            obtain ⟨⟨G, sp, o, u, bb, S, sm, CL, kp, gk, ge, j⟩, short⟩ := RK.ka
            refine ⟨_, rfl, _, rfl, _, rfl, p, f1, l, m, lv, kf, _, G, sp, rfl, RK.web, ndp, hlK, fun k v e => (pl k v e).1, ?_, short, CL, (fun n H z => z.1), kp, j, JW.stab gk j, ?_, ?_⟩
            · refine ⟨fun i x ex pre no => ?_, fun has i x v ex pre ev ew => ?_⟩
              · intro e H20 s20 ne he
                refine ⟨_, e, _, _, _, .cNoSpan _, rfl, rfl, he, fun t3 nt3 => ?_⟩
                have s21 := s20.trans (same_upd (o := .tup [.str "NoSpan", .str x.en]) nt3)
                obtain ⟨t, rfl, ht⟩ : ∃ t : Addr, due = .ref t ∧ HK t = some (.tup [.str "NoSpan", .str x.en]) := by
                  rcases DK with ⟨has, _⟩ | ⟨y, my, t, e1, e2, e3, e4⟩
                  · have := has x (List.mem_of_getElem? ex)
                    rw [no] at this
                    cases this
                  · refine ⟨t, e1, ?_⟩
                    by_cases ey : x.en = y.en
                    · rw [ey]
                      exact e2
                    · have := e4 x (List.mem_of_getElem? ex) ey
                      rw [no] at this
                      cases this
                refine ⟨_, rfl, _, _, rfl, sm_two (n := 5) upd_same (s21 _ _ ht) rfl rfl, fun H22 s22 => ⟨_, rfl, iteF ?_⟩⟩
                have R22 := RK.same (s21.trans s22)
                exact ⟨_, _, _, _, _, _, _, _, _, _, _, _, rfl, R22.fl, R22.md, R22.web, R22.tb⟩
              · intro e H20 s20 ne he
                refine ⟨_, e, _, _, _, .cBadLength _ _, rfl, rfl, he, fun t3 nt3 => ?_⟩
                have s21 := s20.trans (same_upd (o := .tup [.str "BadLength", v, v]) nt3)
                obtain ⟨t, rfl, ht⟩ : ∃ t : Addr, due = .ref t ∧ HK t = some (.tup [.str "BadLength", v, v]) := by
                  rcases DK with ⟨_, d0, _, D⟩ | ⟨y, my, t, e1, e2, e3, e4⟩
                  · unfold DueL at D
                    rw [first_at ex pre ev ew] at D
                    exact D
                  · have := has y my
                    rw [e3] at this
                    cases this
                have fv := (pl _ _ ev).2
                refine ⟨_, rfl, _, _, rfl, sm_tup (n := 6) upd_same (s21 _ _ ht) rfl (by show 3 ≤ 1000; decide) (sm_flats (n := 5) (by show (flatV (.str "BadLength") && (flatV v && (flatV v && true))) = true; rw [fv]; rfl)), fun H22 s22 => ⟨_, rfl, iteF ?_⟩⟩
                have R22 := RK.same (s21.trans s22)
                exact ⟨_, _, _, _, _, _, _, _, _, _, _, _, rfl, R22.fl, R22.md, R22.web, R22.tb⟩
            · intro all n le pre bad e H20 s20 ne he
              refine ⟨_, e, _, _, _, .cBadKeeper _, rfl, rfl, he, fun t3 nt3 => ?_⟩
              have s21 := s20.trans (same_upd (o := .tup [.str "BadKeeper", .int (n : Int)]) nt3)
              obtain ⟨t, rfl, ht⟩ : ∃ t : Addr, due = .ref t ∧ HK t = some (.tup [.str "BadKeeper", .int (n : Int)]) := by
                rcases DK with ⟨_, d0, Dk, D⟩ | ⟨y, my, t, e1, e2, e3, e4⟩
                · unfold DueL at D
                  rw [first_no all] at D
                  subst D
                  rcases Dk with ⟨_, ok2⟩ | ⟨t, aa, e1, e2, a1, a2, gd⟩
                  · exact absurd (ok2 _ n) bad
                  · obtain ⟨g1, g2⟩ := gd (lensL lv)
                    have en : n = aa.toNat := by
                      rcases Nat.lt_trichotomy n aa.toNat with h | h | h
                      · exact absurd (g1 n h) bad
                      · exact h
                      · exact absurd (pre _ h) g2
                    refine ⟨t, e1, ?_⟩
                    rw [e2, show ((n : Nat) : Int) = aa by omega]
                · obtain ⟨v, ev, _⟩ := all y my
                  rw [e3] at ev
                  cases ev
              refine ⟨_, rfl, _, _, rfl, sm_two (n := 5) upd_same (s21 _ _ ht) rfl rfl, fun H22 s22 => ⟨_, rfl, iteF ?_⟩⟩
              have R22 := RK.same (s21.trans s22)
              exact ⟨_, _, _, _, _, _, _, _, _, _, _, _, rfl, R22.fl, R22.md, R22.web, R22.tb⟩
            · intro R2 H20 all goods s20 nR hR
              obtain rfl : due = .non := by
                rcases DK with ⟨_, d0, Dk, D⟩ | ⟨y, my, t, e1, e2, e3, e4⟩
                · unfold DueL at D
                  rw [first_no all] at D
                  subst D
                  rcases Dk with ⟨e1, _⟩ | ⟨t, aa, e1, e2, a1, a2, gd⟩
                  · exact e1
                  · exact absurd (goods aa.toNat (by omega)) (gd (lensL lv)).2
                · obtain ⟨v, ev, _⟩ := all y my
                  rw [e3] at ev
                  cases ev
              refine ⟨_, rfl, _, rfl, _, _, rfl, Sm.flat rfl, fun H22 s22 => ⟨_, rfl, iteF ?_⟩⟩
              have R22 := RK.same (s20.trans s22)
              exact ⟨_, _, _, _, _, _, _, _, _, _, _, _, rfl, R22.fl, R22.md, R22.web, R22.tb⟩
  · rintro σ H9 ⟨y6, y7, y8, y9, y10, y11, y12, y13, y14, y15, y16, y17, rfl, F9, M9, W9, tb9⟩
    exact ⟨_, rfl, _, rfl, p, d, m, rfl, W9, M9, fun H10 _ => q H10⟩
end
end Tw

set_option maxHeartbeats 0
namespace Tw
open PySem PySem.Spec PyProof.Rows L2
theorem facts {l : PySem.W.OpenLaw} {w : World} {K : PySem.W.Frag} {h : Heap} {mg : Str → Option Value} {f : Addr} (X : K.In h) (G : h.Ns mainGlobals mg) (hfa : mg ("law" : Str) = some (.ref f)) (c : SaysY fa fn tf ex h K) : LamX.LawAtS l w K CX0 16 63 "_law_script" mg f h := by
  have T : Tp K mg := tp_mk X G c.d c.more
  have e := hfa.symm.trans (g_law T)
  cases e
  obtain ⟨fd, F⟩ := f_law T
  have b := FunD.bindsA (ps := ["_law_script"]) F fun _ _ _ _ _ _ us hl => match us, hl with
    | [_], _ => rfl
  have of_ : ∀ {R : Addr × Addr → Prop}, (∀ d ∈ tf, R (He.cT K d)) → ∀ p ∈ tf.map (He.cT K), R p := fun hR p hp => by
    obtain ⟨d, hd, rfl⟩ := List.mem_map.1 hp
    exact hR d hd
  exact ⟨fd, tf.map (He.cT K), sp_law K, of_ c.empty, of_ c.out, of_ (fun d hd => PySem.W.codeHd_of_K X (c.code d hd)), fun s v => b s [v] rfl, fun H a ns _ _ hH hS => ⟨a, ns, rfl, hS, hH _ (List.mem_map_of_mem List.mem_cons_self), hH _ (List.mem_map_of_mem (List.mem_cons_of_mem _ List.mem_cons_self)), hH _ (List.mem_map_of_mem (List.mem_cons_of_mem _ (List.mem_cons_of_mem _ List.mem_cons_self))), fun _ => rfl⟩,
    fun base _ _ hT => ok_law T (hT _ (List.mem_map_of_mem List.mem_cons_self)) (hT _ (List.mem_map_of_mem (List.mem_cons_of_mem _ List.mem_cons_self))) (hT _ (List.mem_map_of_mem (List.mem_cons_of_mem _ (List.mem_cons_of_mem _ List.mem_cons_self)))) F⟩
end Tw
open PySem PySem.W PySem.Calls PyProof.Rows
theorem PySem.Challenge.cw_tidewaiter_k35_runs_refused_holds : PySem.Challenge.rw_tidewaiter_k35_runs_refused.Holds := by
  w_on; o_law
  refine HandSHeadRun.head_any (r := Tw.R) (q := view Tw.R.prog [Tw.lawAt]) (H := Tw.hk) (ob := Tw.ob) (M := 20000) (loose := Tw.loose) (d := HandSHeadRun.topDef Tw.R.prog Tw.lawAt) (kwd := []) Tw.ob_eq
    (by kernel_rfl) (fun s => by kernel_rfl) Tw.run (by kernel_rfl) (by kernel_rfl) (by kernel_rfl) (by rfl) (by first | assumption | decide +kernel) (by decide +kernel) ⟨rfl, rfl, rfl, rfl, rfl, by decide +kernel⟩ ?hw ?hc
  case hw => w_witness2
  case hc =>
    refine LamX.walk_ofTsE (l := PySem.Challenge.rw_tidewaiter_k35_runs_refused) (n := 63) (k := 16) (x := "_law_script") (CX := fun _ => L2.CX0) rfl (by decide) (by kernel_rfl) ⟨rfl, by decide, by decide⟩ ?F (fun _ _ _ _ _ z => z)
    intro w mg fa h Y G hmg0
    obtain ⟨K, KX, c⟩ := Y
    have hmg : mg ("law" : PySem.Str) = some (.ref fa) := by
      have e : (HandSHeadRun.topDef Tw.R.prog Tw.lawAt).name = ("law" : PySem.Str) := by kernel_rfl
      rw [← e]
      exact hmg0
    exact ⟨K, KX, Tw.facts KX G hmg c⟩

