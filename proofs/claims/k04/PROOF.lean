import PyProof.Rows.All
import Wide.All
import OpenK.AllK
import Wide.FinOn
import PyProof.EqAt
import PyProof.EqKinds
import PyProof.TupleCall
import HandS.ForMost
import HandS.ForExc
import HandS.HotCalls
import HandS.ExcIs
import HandS.IsInst
import HandS.NoneIn
import HandS.ListItems
import PySem.Challenge.RW_timestretch_k04_clocks_gathered
set_option Elab.async false
set_option linter.all false
set_option maxRecDepth 100000
set_option maxHeartbeats 4000000
section
/-! A caught error handed to a def: the def's promise speaks of the error's own class. -/
namespace Ts
open PySem PySem.Spec PyProof.Rows L2
abbrev St := L2.St

/-- a promise about a caught error: its place, its class -/
abbrev SpE := Addr → Value → Sp

/-- the def at f, called within an except suite that holds the error -/
structure FnE (P : Program) (w : World) (K : PySem.W.Frag) (mg : Str → Option Value) (base : Heap) (k : Nat)
    (f : Addr) (fd : FuncData) (ps : List Str) (sp : SpE) : Prop where
  len : ∀ a c vs H Q E, sp a c vs H Q E → vs.length = ps.length
  run : ∀ (A : Around) (outer : List Env) (s : Shared) (H : Hp) (args : Args) (us : List Value) (vs : List V) (Q : VK) (E : XK)
    (p : Addr × Obj) (c : Value),
    L2H.RoomH k A → L2H.PinOk outer H s p → Zc c none p.2 → (∃ v, p.2.data = .fields v) →
    Env0 P w K mg base A outer s H → BindsTo s fd args (ps.zip us) → Vals vs us → sp p.1 c vs H Q E →
    codeAny (model P w) A (.call (.ref f) args) (CR CX0 outer P w H s Q E) s

theorem fnE_of {P : Program} {w : World} {K : PySem.W.Frag} {mg : Str → Option Value} {base : Heap} {k : Nat}
    {x qual : Str} {st : Stmt} {f : Addr} {fd : FuncData} {N ps : List Str} {sp : SpE}
    (F : Fun K x qual st f fd) (S : FnScope N ps (defScope st))
    (len : ∀ a c vs H Q E, sp a c vs H Q E → vs.length = ps.length)
    (body : ∀ (cdv : Value) (A : Around) (outer : List Env) (s : Shared) (H : Hp) (vs : List V) (Q : VK) (E : XK)
      (p : Addr × Obj) (c : Value), Zc c none p.2 → (∃ v, p.2.data = .fields v) →
      L2H.RoomH k (A.deeper (envOfC qual (defScope st) s.heap.objs.size f cdv)) → sp p.1 c vs H Q E →
      ∃ t, PSs (L2H.cxH CX0 P w K mg base N qual (defScope st) f cdv A outer s H E p) (defBody st) t ∧
        t { nx := fun _ H' => Q .non H', rt := Q } (start N vs) H) :
    FnE P w K mg base (k + 1) f fd ps sp := by
  obtain ⟨oc, od, kV, doc, pm, an, cdv, ct, osl, hfd, lk, hcd⟩ := F.ex
  subst hfd
  constructor
  · exact len
  intro A outer s H args us vs Q E p c hr hpin hz hf e0 hb r hsp
  have hl := len _ _ _ _ _ _ hsp
  have old : ∀ b o, base.get? b = some o → s.heap.get? b = some o := fun b o e => (e0.bs b o e).1
  have lim := e0.mod.nolimit.keeps old
  have kinds : ∀ y ∈ ps.zip us, (defScope st).names.lookup y.1 = some .local ∨
      ((defScope st).names.lookup y.1 = some .cell ∧
        ((cellsFrom (s.heap.objs.size + 1) (defScope st).names []).lookup y.1).isSome = true) := by
    rintro ⟨n, v⟩ hy
    cases S.par n (List.of_mem_zip hy).1 with
    | inl q => exact .inl q
    | inr q => exact .inr ⟨q, PySem.W.cellsFrom_some _ _ _ (.inl q)⟩
  refine codeAny_call_function hr.depth ((e0.mod.kin.keeps old) _ _ lk) rfl S.co S.gen rfl
    (PySem.W.codeRec_of (e0.mod.kin.keeps old) hcd) (hb _ _ _ _ ?_)
  refine wpAny_newFunctionEnv_cells S.kind kinds ?_
  intro env he s1 x1
  subst he
  refine ⟨lim.keeps x1.toInCall.keep, codeAny_func ?_⟩
  obtain ⟨t, ht, hq⟩ := body cdv A outer s H vs Q E p c hz hf (hr.deeper _) hsp
  have I := L2H.inv_startH (CX := CX0) (E := E) S hpin e0 hl r x1
  have goal := ht.run [] s1 (start N vs) H _ I hq
  refine wpAny_mono goal ?_ (fun _ _ z => z)
  intro fl s' hs
  have fin : ∀ {σ' : St} {H' : Hp} {v : V} {u : Value},
      Inv (L2H.cxH CX0 P w K mg base N qual (defScope st) f cdv A outer s H E p) [] σ' H' s' → RelV v u → Q v H' →
      CE outer P w H s Q u s' :=
    fun {_ H' v _} J rv q => ⟨v, H', J.os, J.bare, J.base, J.hok, rv, q⟩
  cases fl with
  | ret u => exact match hs with | ⟨_, _, _, J, rv, q⟩ => fin J rv q
  | next => exact match hs with | ⟨_, _, J, q⟩ => fin (v := V.non) (u := Value.none) J rfl q
  | brk => exact match hs with | ⟨_, _, _, q⟩ => q.elim
  | cont => exact match hs with | ⟨_, _, _, q⟩ => q.elim

/-- g(e, ..) in a suite that holds the error p -/
def tCallE (sp : SpE) (a : Addr) (c : Value) (d : Option Addr) (t : TA) : TE := fun σ H Q => t σ H fun vs H1 => d = none ∧ sp a c vs H1 Q E0
theorem pe_callE {X : Cx} {k : Nat} {f : Addr} {fd : FuncData} {ps : List Str} {sp : SpE} {x : Str} {q pos : Pos} {e : Expr} {es : List Expr} {t : TA} {p : Addr × Obj} {c : Value} {d : Option Addr}
    (F : FnE X.prog X.w X.K X.mg X.base k f fd ps sp) (hr : L2H.RoomH k X.A) (hp : p ∈ X.pn) (hz : Zc c d p.2) (hf : ∃ v, p.2.data = .fields v)
    (hm : X.mg x = some (.ref f)) (hk : PySem.W.keepIn X.K (.ref f) = true) (hb : Binds X.K fd ps [])
    (ha : PA X (e :: es) t) (hg : Gl X x := by rfl) (hdb : (x == ("__debug__" : Str)) = false := by decide)
    (he : starEach (e :: es) X.env = (false, eval e X.env) :: starEach es X.env := by rfl) (hpl : (backTo pos (starEach es X.env)).any (·.1) = false := by rfl) :
    PE X (.Call (.Name x q) (e :: es) [] pos) (tCallE sp p.1 c d t) := by
  constructor
  intro pins s σ H Q I h
  refine wpAny_Call_Name_kw (ld_glob I hg hm ?_ hdb)
  refine PySem.W.callWith_K (h₀ := X.base) I.ok.mod.kin hk (thn (ha.run pos pins s σ H _ I h) ?_) he hpl
  rintro us s1 ⟨vs, H1, I1, r, hd, w1⟩
  subst hd
  refine ⟨I1.kIn, ?_⟩
  have n1 : us.length = ps.length := by rw [← r.length]; exact F.len _ _ _ _ _ _ w1
  have b := hb s1 us I1.kIn (by rw [List.append_nil]; exact n1)
  rw [List.append_nil] at b
  have P1 := I1.pin p (List.mem_append_left _ hp)
  have ns : p.1 ∉ frs X.stack := fun hm => by
    cases List.mem_cons.mp (I1.stkSub p.1 hm) with
    | inl z => exact P1.2.2.1 z
    | inr z => exact P1.2.2.2.1 z
  refine wpAny_call (codeAny_mono (F.run X.A X.stack s1 H1 ⟨us, []⟩ us vs Q E0 p c hr ⟨P1.1, P1.2.1, ns, P1.2.2.2.2⟩ hz hf I1.env0 b r w1) ?_)
  intro r' s' hq
  cases r' with
  | error e => exact hq.elim
  | ok fl => cases fl with
    | ret u => exact I1.after hq
    | next => exact hq.elim
    | brk => exact hq.elim
    | cont => exact hq.elim

theorem rm_suite {j k : Nat} {A : Around} {v : Option Value} (hr : Room k A) (h : j ≤ k) : L2H.RoomH j (A.mark v) := L2H.RoomH.mono (k := k) ⟨hr.dp, hr.un⟩ h
/-- isinstance(e, c), e the error that X holds -/
theorem call_isP {X : Cx} {D : Addr} {p : Addr × Obj} (C : ExcC X.K D) (hp : p ∈ X.pn) (hz : Zc (.ref D) none p.2) (hf : ∃ v, p.2.data = .fields v) :
    CallR X (.builtin "isinstance") (rIsE X.K D p.1) := by
  rintro pins s σ H xs us Q I r ⟨c, cv, b, rfl, hcv, e, q⟩
  obtain ⟨a, oe⟩ := p
  match r with
  | .cons rx (.cons rt .nil) =>
    cases rx
    have ec := hcv _ rt
    subst ec
    have hget := (I.pin (a, oe) (List.mem_append_left _ hp)).1
    have J : PySem.W.InstAt s.heap a oe D none := by
      obtain ⟨v, hv⟩ := hf
      obtain ⟨h1, h2⟩ := hz
      obtain ⟨oc, od, oda, osl⟩ := oe
      dsimp only at hv h1 h2
      subst hv h1 h2
      exact ⟨hget, rfl, rfl, trivial⟩
    refine PySem.W.kia_one (PySem.W.handS_kitx_exc C.hg C.hk C.hs C.hd C.ha C.hn C.ht C.hm) I.kIn J e (fun z => nomatch z) ?_
    intro tk
    exact ⟨.bl b, H, I.kept (t' := tk) fun _ _ z => z, rfl, q⟩

/-- xs.count(y), flat items -/
def rCount (K : PySem.W.Frag) : V → List V → Hp → VK → Prop := fun x xs H Q => ∃ (a : Addr) (ys : List V) (y : V), x = .ref a ∧ xs = [y] ∧ SqL K H a ys ∧ flatV y = true ∧ ys.all flatV = true ∧ Q (.int ((ys.countP fun z => eqV z y : Nat) : Int)) H
theorem count_eqU {x : V} : ∀ {xs : List V} {us : List Value}, Vals xs us → xs.all flatV = true → us.countP (eqU x) = xs.countP fun y => eqV y x
  | _, _, .nil, _ => rfl
  | y :: xs, u :: us, .cons r t, f => by
    rw [List.all_cons, Bool.and_eq_true] at f
    rw [List.countP_cons, List.countP_cons, eqU_of r f.1, count_eqU t f.2]
theorem mt_count {X : Cx} : MtR X "list.count" (rCount X.K) := by
  rintro pins s σ H x xs v us Q I rx rxs ⟨a, ys, y, rfl, rfl, hs, fy, fys, q⟩
  cases rx
  match rxs with
  | .cons (b := uy) ry .nil =>
    obtain ⟨its, rv, ⟨⟨cls, dd, data, sl⟩, n, ho, hc, hdn, hd⟩, hlen⟩ := I.list hs
    simp only at hc hd
    subst hc hd
    refine call_meets PySem.F.slot_list_count ⟨_, ho, rfl⟩ PySem.F.entry_list_count (PySem.F.args_list_count_2 _ _) (SeqAt.list_countAt a its.toArray n dd sl uy (eqU y)) ⟨ho, ?_, ?_⟩
    · exact fun u hu => mem_eqAt ry fy rv fys u (by simpa using hu)
    · refine ⟨.int ((ys.countP fun z => eqV z y : Nat) : Int), H, I.tok _, ⟨s.toks, ?_⟩, q⟩
      rw [← count_eqU rv fys]
end Ts
end
section
namespace Ts
open PySem PySem.Spec PyProof.Rows L2

theorem pe_imp {X : Cx} {e : Expr} {t t' : TE} (h : PE X e t) (q : ∀ σ H Q, t' σ H Q → t σ H Q) : PE X e t' :=
  ⟨fun pins s σ H Q I w => h.run pins s σ H Q I (q σ H Q w)⟩
theorem opr_imp {X : Cx} {f : Value → Value → Sem Value} {r r' : R2} (h : OpR X f r) (q : ∀ x y H Q, r' x y H Q → r x y H Q) : OpR X f r' :=
  fun pins s σ H x y v u Q I rx ry w => h pins s σ H x y v u Q I rx ry (q x y H Q w)
theorem ixr_imp {X : Cx} {r r' : R2} (h : IxR X r) (q : ∀ x y H Q, r' x y H Q → r x y H Q) : IxR X r' :=
  fun value slice pins s σ H x y v u Q I rx ry w => h value slice pins s σ H x y v u Q I rx ry (q x y H Q w)

/-- an operation by a written number -/
def rByC (c : Int) (g : Int → V) : R2 := fun x y H Q => ∃ i, x = .int i ∧ y = .int c ∧ Q (g i) H
section
variable {X : Cx} {c : Int}
theorem op_modc (hc : (0 : Int) < c) : OpR X (binaryOp .Mod) (rByC c fun i => .int (i % c)) :=
  opr_imp op_mod fun _ _ _ _ h => match h with | ⟨i, e1, e2, q⟩ => ⟨i, c, e1, e2, hc, q⟩
theorem op_divc (hc : (0 : Int) < c) (h2 : c < 1073741824) : OpR X (binaryOp .FloorDiv) (rByC c fun i => .int (i / c)) :=
  opr_imp op_fdiv fun _ _ _ _ h => match h with | ⟨i, e1, e2, q⟩ => ⟨i, c, e1, e2, ⟨hc, h2⟩, q⟩
theorem op_mulc (hc : -(2 ^ 64) < c ∧ c < 2 ^ 64) : OpR X (binaryOp .Mult) (rByC c fun i => .int (i * c)) :=
  opr_imp op_mul fun _ _ _ _ h => match h with | ⟨i, e1, e2, q⟩ => ⟨i, c, e1, e2, Or.inr hc, q⟩
end
/-- c * e with a written number c -/
def rOfC (c : Int) (g : Int → V) : R2 := fun x y H Q => ∃ i, x = .int c ∧ y = .int i ∧ Q (g i) H
theorem op_cmul {X : Cx} {c : Int} (hc : -(2 ^ 64) < c ∧ c < 2 ^ 64) : OpR X (binaryOp .Mult) (rOfC c fun i => .int (c * i)) :=
  opr_imp op_mul fun _ _ _ _ h => match h with | ⟨i, e1, e2, q⟩ => ⟨c, i, e1, e2, Or.inl hc, q⟩
theorem pe_negc {X : Cx} {c : Int} {k : Nat} {p pos : Pos} : PE X (.UnaryOp .USub (.Constant (.int c) k p) pos) (tC (.int (-c))) :=
  pe_imp (pe_un un_neg pe_int) fun _ _ _ h => ⟨c, rfl, h⟩
theorem pe_powc {X : Cx} {n m : Int} {k k' : Nat} {p p' pos : Pos} (h0 : 0 ≤ m ∧ m ≤ 1000000 ∧ n.natAbs < 2 ^ 64) : PE X (.BinOp (.Constant (.int n) k p) .Pow (.Constant (.int m) k' p') pos) (tC (.int (n ^ m.toNat))) :=
  pe_imp (pe_op op_pow pe_int pe_int) fun _ _ _ h => ⟨n, m, rfl, rfl, h0, h⟩
theorem pe_pow12 {X : Cx} {k k' : Nat} {p p' pos : Pos} : PE X (.BinOp (.Constant (.int 10) k p) .Pow (.Constant (.int 12) k' p') pos) (tC (.int 1000000000000)) := pe_powc (by decide)
theorem pe_pow24 {X : Cx} {k k' : Nat} {p p' pos : Pos} : PE X (.BinOp (.Constant (.int 10) k p) .Pow (.Constant (.int 24) k' p') pos) (tC (.int 1000000000000000000000000)) := pe_powc (by decide)
theorem pe_pow40 {X : Cx} {k k' : Nat} {p p' pos : Pos} : PE X (.BinOp (.Constant (.int 10) k p) .Pow (.Constant (.int 40) k' p') pos) (tC (.int 10000000000000000000000000000000000000000)) := pe_powc (by decide)

theorem pe_gint {X : Cx} {x : Str} {c : Int} {t : Tok} {pos : Pos} (hm : X.mg x = some (.int c t)) (hg : Gl X x := by rfl) (hd : (x == ("__debug__" : Str)) = false := by decide) : PE X (.Name x pos) (tC (.int c)) := pe_glob hg hm ⟨_, rfl⟩ hd
theorem pe_gref {X : Cx} {x : Str} {C : Addr} {pos : Pos} (hm : X.mg x = some (.ref C)) (hg : Gl X x := by rfl) (hd : (x == ("__debug__" : Str)) = false := by decide) : PE X (.Name x pos) (tC (.ref C)) := pe_glob hg hm rfl hd
theorem pe_bty {X : Cx} {x : Str} {n : String} {pos : Pos} (hm : X.mg x = none) (hv : bootBuiltins x = some (.type n)) (hg : Gl X x := by rfl) (hn : x ≠ "__name__" := by decide) (hd : (x == ("__debug__" : Str)) = false := by decide) : PE X (.Name x pos) (tC (.ty n)) := pe_bltn hg hm hv rfl hn hd
/-! ### rules whose reading names K itself (under a binder X's own K is no answer) -/
section
variable {X : Cx} (K : PySem.W.Frag)
theorem ixL (h : X.K = K := by rfl) : IxR X (rIxL K) := h ▸ ix_list
theorem ixT (h : X.K = K := by rfl) : IxR X (rIxT K) := h ▸ ix_tup
theorem slL (h : X.K = K := by rfl) : SlR X (rSlL K) := h ▸ sl_list
theorem slT (h : X.K = K := by rfl) : SlR X (rSlT K) := h ▸ sl_tup
def rLenQ (K : PySem.W.Frag) : List V → Hp → VK → Prop := fun xs H Q => ∃ p ys, xs = [.ref p] ∧ (SqL K H p ys ∨ SqT K H p ys) ∧ Q (.int ys.length) H
theorem lenK (h : X.K = K := by rfl) : CallR X (.builtin "len") (rLenQ K) := h ▸ call_len_seq
def rListQ (K : PySem.W.Frag) : List V → Hp → VK → Prop := fun xs H Q => ∃ p ys, xs = [.ref p] ∧ (SqL K H p ys ∨ SqT K H p ys) ∧ ∀ l, H l = none → Q (.ref l) (upd H l (.lst ys))
theorem listK (h : X.K = K := by rfl) : CallR X (.type "list") (rListQ K) := h ▸ call_list_of
theorem isiK (h : X.K = K := by rfl) : CallR X (.builtin "isinstance") (rIsi K) := h ▸ call_isi
theorem eqDK (hu : X.A.units + 64 < cLine) (h : X.K = K := by rfl) : OpR X (compareOp .Eq) (rEqD K) := h ▸ op_eqD hu
theorem neDK (hu : X.A.units + 64 < cLine) (h : X.K = K := by rfl) : OpR X (compareOp .NotEq) (rNeD K) := h ▸ op_neD hu
theorem inK (h : X.K = K := by rfl) : OpR X (compareOp .In) (rIn K false) := h ▸ op_in_seq
theorem niK (h : X.K = K := by rfl) : OpR X (compareOp .NotIn) (rIn K true) := h ▸ op_notIn_seq
theorem piL {tg l : Expr} {tl : TE} (hl : PE X l tl) (h : X.K = K := by rfl) : PI X tg l (iList K tl) := h ▸ pi_list hl
theorem piT {tg l : Expr} {tl : TE} (hl : PE X l tl) (h : X.K = K := by rfl) : PI X tg l (iTup K tl) := h ▸ pi_tup hl
theorem sortK (h : X.K = K := by rfl) : CallR X (.builtin "sorted") (rSorted K) := h ▸ cr_sorted
theorem maxK (hc : X.calm = true) (h : X.K = K := by rfl) : CallR X (.builtin "max") (rMax K) := h ▸ cr_max hc
theorem minK (hc : X.calm = true) (h : X.K = K := by rfl) : CallR X (.builtin "min") (rMin K) := h ▸ cr_min hc
end
/-! ### an item of a list -/
/-- an item at a place that lies in the list -/
theorem at_in {xs : List V} {i : Int} (h0 : 0 ≤ i) (h1 : i < xs.length) : ∃ v, v ∈ xs ∧ xs[i.toNat]? = some v ∧ atI xs i = some v := by
  have hn : i.toNat < xs.length := by omega
  refine ⟨xs[i.toNat], List.getElem_mem hn, List.getElem?_eq_getElem hn, ?_⟩
  exact at_of (j := i.toNat) (by omega) (List.getElem?_eq_getElem hn)
/-- xs[i], i in bounds: any of them -/
theorem ix_any {K : PySem.W.Frag} {H : Hp} {p : Addr} {xs : List V} {i : Int} {Q : VK} (P : V → Prop) (h : SqL K H p xs) (h0 : 0 ≤ i) (h1 : i < xs.length) (hp : ∀ v ∈ xs, P v) (q : ∀ v, P v → Q v H) : rIxL K (.ref p) (.int i) H Q := by
  obtain ⟨v, hm, _, ha⟩ := at_in h0 h1
  exact ⟨p, xs, i, v, rfl, rfl, h, ha, q v (hp v hm)⟩
/-- the same of numbers -/
theorem ix_int {K : PySem.W.Frag} {H : Hp} {p : Addr} {xs : List V} {i : Int} {Q : VK} (P : Int → Prop) (h : SqL K H p xs) (h0 : 0 ≤ i) (h1 : i < xs.length) (hp : ∀ v ∈ xs, ∃ j, v = .int j ∧ P j) (q : ∀ j, P j → Q (.int j) H) : rIxL K (.ref p) (.int i) H Q :=
  ix_any (fun v => ∃ j, v = .int j ∧ P j) h h0 h1 hp fun _ ⟨j, e, pj⟩ => e ▸ q j pj
theorem all1 {P : V → Prop} {a : V} (ha : P a) : ∀ v ∈ [a], P v := fun v hv => by
  rw [List.mem_singleton] at hv
  exact hv ▸ ha
theorem allc {P : V → Prop} {a : V} {l : List V} (ha : P a) (hl : ∀ v ∈ l, P v) : ∀ v ∈ a :: l, P v := fun v hv => by
  rcases List.mem_cons.mp hv with e | e
  · exact e ▸ ha
  · exact hl v e
theorem SqL.here {K : PySem.W.Frag} {H : Hp} {p : Addr} {xs : List V} : SqL K (upd H p (.lst xs)) p xs := SqL.of upd_same
theorem same_new {H : Hp} {p : Addr} {o : HO} (h : H p = none) : Same H (upd H p o) := fun b u e => by rw [upd_ne (ne_of_none e h)]; exact e
theorem Same.seqT {K : PySem.W.Frag} {H H' : Hp} {a : Addr} {xs : List V} (e : Same H H') (h : SqT K H a xs) : SqT K H' a xs := by
  rcases h with (h | ⟨o, h⟩) | h
  · exact .inl (.inl (e _ _ h))
  · exact .inl (.inr ⟨o, e _ _ h⟩)
  · exact .inr h

/-! ### a def of the text by its name -/
structure Dfn (K : PySem.W.Frag) (mg : Str → Option Value) (x : Str) (st : Stmt) (ps : List Str) (f : Addr) (fd : FuncData) : Prop where
  F : Fun K x x st f fd
  g : mg x = some (.ref f)
  b : Binds K fd ps []
section
variable {X : Cx} {k : Nat} {f : Addr} {fd : FuncData} {ps : List Str} {sp : Sp} {st : Stmt} {x : Str} {p pos : Pos} {e : Expr} {es : List Expr} {t : TA}
/-- a call that raises nothing -/
theorem pe_cl (G : FnOk X.prog X.w X.K X.mg X.base CX0 k f fd ps sp) (D : Dfn X.K X.mg x st ps f fd) (hr : Room k X.A) (ha : PA X (e :: es) t) (hg : Gl X x := by rfl) (hdb : (x == ("__debug__" : Str)) = false := by decide)
    (he : starEach (e :: es) X.env = (false, eval e X.env) :: starEach es X.env := by rfl) (hpl : (backTo pos (starEach es X.env)).any (·.1) = false := by rfl) : PE X (.Call (.Name x p) (e :: es) [] pos) (tCall sp [] E0 t) :=
  pe_call G hr hg D.g D.F.kp D.b .nil pass0 ha hdb he hpl
/-- a call of a def that may raise, in a def that may raise: the error goes on -/
theorem pe_clX {E : XK} (G : FnOk X.prog X.w X.K X.mg X.base (L2.CX X.prog X.w) k f fd ps sp) (D : Dfn X.K X.mg x st ps f fd) (hr : Room k X.A) (tk : Takes X (fun cls d _ H => E cls d H)) (ha : PA X (e :: es) t) (hg : Gl X x := by rfl) (hdb : (x == ("__debug__" : Str)) = false := by decide)
    (he : starEach (e :: es) X.env = (false, eval e X.env) :: starEach es X.env := by rfl) (hpl : (backTo pos (starEach es X.env)).any (·.1) = false := by rfl) : PE X (.Call (.Name x p) (e :: es) [] pos) (tCall sp [] E t) :=
  pe_call G hr hg D.g D.F.kp D.b .nil (passes_call tk fun _ _ _ _ h => h) ha hdb he hpl
/-- a call of a def that may raise, where it does not -/
theorem pe_cl0 (G : FnOk X.prog X.w X.K X.mg X.base (L2.CX X.prog X.w) k f fd ps sp) (D : Dfn X.K X.mg x st ps f fd) (hr : Room k X.A) (ha : PA X (e :: es) t) (hg : Gl X x := by rfl) (hdb : (x == ("__debug__" : Str)) = false := by decide)
    (he : starEach (e :: es) X.env = (false, eval e X.env) :: starEach es X.env := by rfl) (hpl : (backTo pos (starEach es X.env)).any (·.1) = false := by rfl) : PE X (.Call (.Name x p) (e :: es) [] pos) (tCall sp [] E0 t) :=
  pe_call G hr hg D.g D.F.kp D.b .nil passL ha hdb he hpl
/-- a call of a def that may raise, in a try's body -/
theorem pe_clT {W : WX} (G : FnOk X.prog X.w X.K X.mg X.base (L2.CX X.prog X.w) k f fd ps sp) (D : Dfn X.K X.mg x st ps f fd) (hr : Room k X.A) (tk : Takes X W) (ha : PA X (e :: es) t) (hg : Gl X x := by rfl) (hdb : (x == ("__debug__" : Str)) = false := by decide)
    (he : starEach (e :: es) X.env = (false, eval e X.env) :: starEach es X.env := by rfl) (hpl : (backTo pos (starEach es X.env)).any (·.1) = false := by rfl) : PE X (.Call (.Name x p) (e :: es) [] pos) (tCallS sp (WE W) t) :=
  pe_callS G hr hg D.g D.F.kp D.b (fun σ => passAt tk σ) ha hdb he hpl
end
/-! ### an error class of the program -/
structure Err (K : PySem.W.Frag) (mg : Str → Option Value) (x : Str) (C : Addr) : Prop where
  g : mg x = some (.ref C)
  x : PySem.W.excIn K C [.type "ValueError", .type "Exception", .type "BaseException", .type "object"] "ValueError.__new__" = true
  k : PySem.W.keepIn K (.ref C) = true
  s : PySem.W.subIn K (.ref C) (.type "BaseException") = some true
  t : PySem.W.typeIn K (.ref C) = some (.type "type")
theorem ps_rs {X : Cx} {W : WX} {x m : Str} {C : Addr} {j : Nat} {p p2 pos pos2 : Pos} (hc : X.calm = true) (tk : Takes X W) (T : Err X.K X.mg x C) (hg : Gl X x := by rfl) (hdb : (x == ("__debug__" : Str)) = false := by decide) :
    PS X (.Raise (some (.Call (.Name x p) [.Constant (.str m) j p2] [] pos)) none pos2) (fun _ σ H => W (.ref C) none σ H) :=
  ps_raise hc tk (pmk_own PySem.F.excBase_ValueError T.x T.g T.k (raises_own T.s T.t) hg hdb)
theorem gen_new {H H3 : Hp} {p : Addr} {o : HO} (h : upd H p o = H3) (np : H p = none) : Same H H3 ∧ H3 p = some o := by
  subst h
  exact ⟨same_new np, upd_same⟩
theorem perm2 {ns : List Int} {x y : Int} (h : ns.Perm [x, y]) (s : ns.Pairwise (· ≤ ·)) : ∃ a b, ns = [a, b] ∧ a ≤ b ∧ ((a = x ∧ b = y) ∨ (a = y ∧ b = x)) := by
  have hl : ns.length = 2 := h.length_eq
  match ns, hl with
  | [a, b], _ =>
    refine ⟨a, b, rfl, (List.pairwise_cons.mp s).1 b List.mem_cons_self, ?_⟩
    have ha : a = x ∨ a = y := by
      have z := h.mem_iff.mp (List.mem_cons_self (a := a) (l := [b]))
      simpa using z
    rcases ha with rfl | rfl
    · have z := (List.perm_cons a).mp h
      exact Or.inl ⟨rfl, by simpa using z⟩
    · have z : [a, b].Perm [a, x] := h.trans (List.Perm.swap a x [])
      have z2 := (List.perm_cons a).mp z
      exact Or.inr ⟨rfl, by simpa using z2⟩
/-- sorted of a list of two numbers -/
theorem sorted2 {K : PySem.W.Frag} {H : Hp} {p : Addr} {x y : Int} {Q : VK} (h : SqL K H p [.int x, .int y])
    (q : ∀ (a b : Int) (p' : Addr), a ≤ b → ((a = x ∧ b = y) ∨ (a = y ∧ b = x)) → H p' = none → Q (.ref p') (upd H p' (.lst [.int a, .int b]))) : rSorted K [.ref p] H Q := by
  refine ⟨p, [x, y], rfl, h, (by show 2 < 64; decide), fun ns' p' hp hs np => ?_⟩
  obtain ⟨a, b, e, hab, hxy⟩ := perm2 hp hs
  subst e
  exact q a b p' hab hxy np
/-- behind a statement one goes on from what it leaves -/
theorem seq_cut {t u : TS} {D : Ends} {σ : L2.St} {H : Hp} (P : L2.St → Hp → Prop) (h1 : ∀ N : L2.St → Hp → Prop, (∀ σ' H', P σ' H' → N σ' H') → t { D with nx := N } σ H)
    (h2 : ∀ σ' H', P σ' H' → u D σ' H') : tSeq t u D σ H := h1 (u D) h2
theorem bl_true {Q : VK} {H : Hp} {b : Bool} (h : b = true) (q : Q (.bl true) H) : Q (.bl b) H := h.symm ▸ q
theorem bl_false {Q : VK} {H : Hp} {b : Bool} (h : b = false) (q : Q (.bl false) H) : Q (.bl b) H := h.symm ▸ q
/-- a test that is known -/
theorem ite_yes {c : Bool} {A B : Prop} (h : c = true) (q : A) : if c = true then A else B := by
  rw [if_pos h]
  exact q
theorem ite_no {c : Bool} {A B : Prop} (h : c = false) (q : B) : if c = true then A else B := by
  rw [if_neg (by rw [h]; exact Bool.false_ne_true)]
  exact q
theorem dec_int {i j : Int} : decide (V.int i = V.int j) = decide (i = j) := by
  by_cases h : i = j
  · rw [decide_eq_true h, decide_eq_true (by rw [h])]
  · rw [decide_eq_false h, decide_eq_false (fun z => h (V.int.inj z))]
/-- a == b on numbers, as a test: both ways -/
theorem ite_eq {i j : Int} {A B : Prop} (h1 : i = j → A) (h2 : i ≠ j → B) : if decide (V.int i = V.int j) = true then A else B := by
  rw [dec_int]
  exact ite2 (fun z => h1 (of_decide_eq_true z)) (fun z => h2 fun e => z (decide_eq_true e))
/-- a < b and its kin: both ways -/
theorem ite_dec {p : Prop} [Decidable p] {A B : Prop} (h1 : p → A) (h2 : ¬ p → B) : if decide p = true then A else B :=
  ite2 (fun z => h1 (of_decide_eq_true z)) (fun z => h2 fun e => z (decide_eq_true e))
end Ts
end
section
namespace Ts
open PySem PySem.Spec PyProof.Rows L2

/-- what the class at D, the j-th of cs, must say of itself -/
structure Kd (K : PySem.W.Frag) (cs : List Addr) (S D : Addr) (j : Nat) : Prop where
  ex : ExcC K D
  em : PySem.W.exmOne K (.ref D) (.ref S) = some true
  ve : PySem.W.kitOne K (.ref D) (.type "ValueError") = some true
  bit : ∀ (i : Nat) (c : Addr), cs[i]? = some c → PySem.W.kitOne K (.ref D) (.ref c) = some (decide (i = j))
  lt : j < 10
theorem exm_sub {K : PySem.W.Frag} {C D : Addr} (h1 : PySem.W.subIn K (.ref C) (.type "BaseException") = some true) (h2 : PySem.W.hasDictIn K C = true) (h3 : PySem.W.typeIn K (.ref C) = some (.type "type"))
    (h4 : PySem.W.subIn K (.ref D) (.ref C) = some true) : PySem.W.exmOne K (.ref D) (.ref C) = some true := PySem.W.exm_ref h1 h2 h3 h4
theorem kd_mk {K : PySem.W.Frag} {S D c0 c1 c2 c3 c4 c5 c6 c7 c8 c9 : Addr} {j : Nat} {b0 b1 b2 b3 b4 b5 b6 b7 b8 b9 : Bool} (ex : ExcC K D) (em : PySem.W.exmOne K (.ref D) (.ref S) = some true) (ve : PySem.W.kitOne K (.ref D) (.type "ValueError") = some true)
    (q0 : PySem.W.kitOne K (.ref D) (.ref c0) = some b0) (q1 : PySem.W.kitOne K (.ref D) (.ref c1) = some b1) (q2 : PySem.W.kitOne K (.ref D) (.ref c2) = some b2) (q3 : PySem.W.kitOne K (.ref D) (.ref c3) = some b3) (q4 : PySem.W.kitOne K (.ref D) (.ref c4) = some b4)
    (q5 : PySem.W.kitOne K (.ref D) (.ref c5) = some b5) (q6 : PySem.W.kitOne K (.ref D) (.ref c6) = some b6) (q7 : PySem.W.kitOne K (.ref D) (.ref c7) = some b7) (q8 : PySem.W.kitOne K (.ref D) (.ref c8) = some b8) (q9 : PySem.W.kitOne K (.ref D) (.ref c9) = some b9)
    (hj : j < 10 := by decide) (hb : [b0, b1, b2, b3, b4, b5, b6, b7, b8, b9] = (List.range 10).map fun i => decide (i = j) := by decide) : Kd K [c0, c1, c2, c3, c4, c5, c6, c7, c8, c9] S D j where
  ex := ex
  em := em
  ve := ve
  lt := hj
  bit := fun i c h => by
    have e : ∀ {b : Bool}, [b0, b1, b2, b3, b4, b5, b6, b7, b8, b9][i]? = some b → b = decide (i = j) := fun {b} hi => by
      rw [hb, List.getElem?_map] at hi
      cases hr : (List.range 10)[i]? with
      | none => rw [hr] at hi; cases hi
      | some k =>
        rw [hr] at hi
        obtain ⟨_, e1⟩ := List.getElem?_eq_some_iff.mp hr
        rw [List.getElem_range] at e1
        rw [e1]
        exact (Option.some.inj hi).symm
    match i, h with
    | 0, h => cases h; rw [q0, e rfl]
    | 1, h => cases h; rw [q1, e rfl]
    | 2, h => cases h; rw [q2, e rfl]
    | 3, h => cases h; rw [q3, e rfl]
    | 4, h => cases h; rw [q4, e rfl]
    | 5, h => cases h; rw [q5, e rfl]
    | 6, h => cases h; rw [q6, e rfl]
    | 7, h => cases h; rw [q7, e rfl]
    | 8, h => cases h; rw [q8, e rfl]
    | 9, h => cases h; rw [q9, e rfl]
    | i + 10, h => simp at h

def kwords : List Str := ["name", "letter", "off", "early", "count", "none", "wide", "many", "clock", "text"]
def kword (j : Nat) : Str := kwords.getD j "other"
def spKind (K : PySem.W.Frag) (cs : List Addr) (S : Addr) : SpE := fun a c vs H Q _ => ∃ (D : Addr) (j : Nat), c = .ref D ∧ vs = [.ref a] ∧ Kd K cs S D j ∧ ∀ H', Same H H' → Q (.str (kword j)) H'
def kbits (j : Nat) : List V := (List.range 10).map fun i => V.bl (decide (i = j))
theorem kbits_eq (j : Nat) : kbits j = [V.bl (decide (0 = j)), V.bl (decide (1 = j)), V.bl (decide (2 = j)), V.bl (decide (3 = j)), V.bl (decide (4 = j)), V.bl (decide (5 = j)), V.bl (decide (6 = j)), V.bl (decide (7 = j)), V.bl (decide (8 = j)), V.bl (decide (9 = j))] := rfl
theorem k10 {j : Nat} (h : j < 10) {P : Nat → Prop} (p : P 0 ∧ P 1 ∧ P 2 ∧ P 3 ∧ P 4 ∧ P 5 ∧ P 6 ∧ P 7 ∧ P 8 ∧ P 9) : P j := by
  obtain ⟨p0, p1, p2, p3, p4, p5, p6, p7, p8, p9⟩ := p
  match j, h with
  | 0, _ => exact p0
  | 1, _ => exact p1
  | 2, _ => exact p2
  | 3, _ => exact p3
  | 4, _ => exact p4
  | 5, _ => exact p5
  | 6, _ => exact p6
  | 7, _ => exact p7
  | 8, _ => exact p8
  | 9, _ => exact p9
theorem kbits_count {j : Nat} (h : j < 10) : (kbits j).countP (fun z => eqV z (.bl true)) = 1 := k10 (P := fun j => (kbits j).countP (fun z => eqV z (.bl true)) = 1) h (by decide)
theorem kbits_flat (j : Nat) : (kbits j).all flatV = true := by rw [kbits_eq]; rfl
theorem kbits_at {j : Nat} (h : j < 10) : (kbits j)[j]? = some (.bl true) := k10 (P := fun j => (kbits j)[j]? = some (.bl true)) h (by decide)
theorem kbits_no {j : Nat} (h : j < 10) : ∀ (m : Nat) (z : V), m < j → (kbits j)[m]? = some z → eqV z (.bl true) = false := fun m z hm hz => by
  unfold kbits at hz
  rw [List.getElem?_map] at hz
  have e : (List.range 10)[m]? = some m := by rw [List.getElem?_range (by omega)]
  rw [e] at hz
  have e2 : V.bl (decide (m = j)) = z := Option.some.inj hz
  rw [← e2, decide_eq_false (by omega)]
  rfl
theorem kword_at {j : Nat} (h : j < 10) : atI (kwords.map V.str) ((j : Nat) : Int) = some (.str (kword j)) := by
  refine atI_nat ?_
  rw [List.getElem?_map]
  have e : kwords[j]? = some (kword j) := k10 (P := fun j => kwords[j]? = some (kword j)) h (by refine ⟨rfl, rfl, rfl, rfl, rfl, rfl, rfl, rfl, rfl, rfl⟩)
  rw [e]
  rfl
end Ts
end
section
/-! Texts by their codes. -/
namespace Ts
open PySem PySem.Spec PyProof.Rows L2

def mkS (l : List Nat) : Str := ⟨l.toArray⟩
theorem mkS_list (l : List Nat) : (mkS l).cps.toList = l := by simp [mkS]
theorem mkS_len (l : List Nat) : (mkS l).length = l.length := by simp [mkS, Str.length]
theorem mkS_cat (a b : List Nat) : mkS a ++ mkS b = mkS (a ++ b) := by
  show Str.mk (a.toArray ++ b.toArray) = Str.mk (a ++ b).toArray
  congr 1
  simp
theorem mkS_inj {a b : List Nat} (h : mkS a = mkS b) : a = b := by
  have := congrArg (fun z : Str => z.cps.toList) h
  simpa [mkS] using this
theorem cut_to (l : List Nat) (k : Nat) : cutS (mkS l) none (some (k : Int)) = mkS (l.take k) := by
  unfold cutS
  rw [HT.sIx_none, HT.sIx_nat, mkS_list, mkS_len, List.drop_zero, Nat.sub_zero]
  congr 2
  by_cases h : k ≤ l.length
  · rw [Nat.min_eq_left h]
  · rw [Nat.min_eq_right (by omega), List.take_of_length_le (Nat.le_refl _), List.take_of_length_le (by omega)]
theorem cut_from (l : List Nat) (k : Nat) : cutS (mkS l) (some (k : Int)) none = mkS (l.drop k) := by
  unfold cutS
  rw [HT.sIx_none, HT.sIx_nat, mkS_list, mkS_len]
  congr 1
  by_cases h : k ≤ l.length
  · rw [Nat.min_eq_left h, List.take_of_length_le (by rw [List.length_drop]; exact Nat.le_refl _)]
  · rw [Nat.min_eq_right (by omega), Nat.sub_self, List.take_zero, List.drop_eq_nil_of_le (by omega)]
theorem ofS (x : Str) : x = mkS x.cps.toList := by simp [mkS]
theorem alpha_list : ("abcdefghijklmnopqrstuvwxyz" : Str).cps.toList = (List.range 26).map (97 + ·) := by decide +kernel
theorem alpha_at {i : Int} (h0 : 0 ≤ i) (h1 : i < 26) : atI ("abcdefghijklmnopqrstuvwxyz" : Str).cps.toList i = some (97 + i.toNat) := by
  rw [alpha_list]
  obtain ⟨k, rfl⟩ := Int.eq_ofNat_of_zero_le h0
  refine atI_nat ?_
  rw [List.getElem?_map, List.getElem?_range (by omega)]
  rfl
theorem alpha_len : ("abcdefghijklmnopqrstuvwxyz" : Str).length ≤ sizeLine := by decide +kernel
def low (l : List Nat) : Prop := ∀ c ∈ l, 97 ≤ c ∧ c ≤ 122
/-- a name: 1 to 12 small letters -/
def nmOk (l : List Nat) : Prop := 1 ≤ l.length ∧ l.length ≤ 12 ∧ low l
/-- the k-th of the names round a base -/
def nmL (b : List Nat) (j k : Nat) : List Nat := b.take j ++ [97 + k % 26] ++ (if k < 26 then [] else [122]) ++ b.drop j
theorem nmL_ok {b : List Nat} {j k : Nat} (hb : b.length ≤ 10) (hl : low b) (hk : k < 42) : nmOk (nmL b j k) := by
  have e : (nmL b j k).length = b.length + 1 + (if k < 26 then 0 else 1) := by
    unfold nmL
    by_cases h : k < 26
    · simp only [h, if_true, List.length_append, List.length_take, List.length_drop, List.length_cons, List.length_nil]
      omega
    · simp only [h, if_false, List.length_append, List.length_take, List.length_drop, List.length_cons, List.length_nil]
      omega
  refine ⟨?_, ?_, fun c hc => ?_⟩
  · rw [e]; omega
  · rw [e]; split <;> omega
  · unfold nmL at hc
    simp only [List.mem_append] at hc
    rcases hc with ((hc | hc) | hc) | hc
    · exact hl c (List.mem_of_mem_take hc)
    · simp at hc; omega
    · by_cases h : k < 26
      · simp [h] at hc
      · simp [h] at hc; omega
    · exact hl c (List.mem_of_mem_drop hc)
theorem nmL_inj {b : List Nat} {j k k' : Nat} (hk : k < 42) (hk' : k' < 42) (h : nmL b j k = nmL b j k') : k = k' := by
  unfold nmL at h
  have h1 := List.append_cancel_right h
  rw [List.append_assoc, List.append_assoc] at h1
  have h2 := List.append_cancel_left h1
  by_cases a : k < 26 <;> by_cases a' : k' < 26 <;> simp [a, a'] at h2 <;> omega
def nmList (b : List Nat) (j : Nat) : List (List Nat) := (List.range 42).map (nmL b j)
theorem nmList_nodup (b : List Nat) (j : Nat) : (nmList b j).Nodup := by
  unfold nmList
  refine List.pairwise_map.mpr (List.Pairwise.imp_of_mem (fun {x y} hx hy hne h => hne (nmL_inj (List.mem_range.mp hx) (List.mem_range.mp hy) h)) List.nodup_range)
theorem slr_imp {X : Cx} {r r' : V → Option Int → Option Int → Hp → VK → Prop} (h : SlR X r) (q : ∀ x lo hi H Q, r' x lo hi H Q → r x lo hi H Q) : SlR X r' := by
  intro pins s σ H x v vl vu lo hi sl Q I r1 r2 r3 r4 w
  exact h pins s σ H x v vl vu lo hi sl Q I r1 r2 r3 r4 (q _ _ _ _ _ w)
/-- texts by their codes: z[:k], z[k:], x + y, z[i] -/
def rTo : V → Option Int → Option Int → Hp → VK → Prop := fun x lo hi H Q => ∃ (l : List Nat) (k : Nat), x = .str (mkS l) ∧ lo = none ∧ hi = some (k : Int) ∧ l.length ≤ 1000000 ∧ Q (.str (mkS (l.take k))) H
def rFrom : V → Option Int → Option Int → Hp → VK → Prop := fun x lo hi H Q => ∃ (l : List Nat) (k : Nat), x = .str (mkS l) ∧ lo = some (k : Int) ∧ hi = none ∧ l.length ≤ 1000000 ∧ Q (.str (mkS (l.drop k))) H
def rAddS : R2 := fun x y H Q => ∃ a b : List Nat, x = .str (mkS a) ∧ y = .str (mkS b) ∧ a.length + b.length ≤ 1000000 ∧ Q (.str (mkS (a ++ b))) H
def rAtS : R2 := fun x y H Q => ∃ (l : List Nat) (i c : Nat), x = .str (mkS l) ∧ y = .int (i : Int) ∧ l.length ≤ 1000000 ∧ l[i]? = some c ∧ Q (.str (mkS [c])) H
section
variable {X : Cx}
theorem mkS_le0 {l : List Nat} (h : l.length ≤ 1000000) : (mkS l).length ≤ sizeLine := by
  rw [mkS_len]
  exact Nat.le_trans h (by decide)
theorem sl_to : SlR X rTo := slr_imp sl_str fun x lo hi H Q h => by
  obtain ⟨l, k, rfl, rfl, rfl, hl, q⟩ := h
  rw [← cut_to] at q
  exact ⟨_, rfl, mkS_le0 hl, q⟩
theorem sl_from : SlR X rFrom := slr_imp sl_str fun x lo hi H Q h => by
  obtain ⟨l, k, rfl, rfl, rfl, hl, q⟩ := h
  rw [← cut_from] at q
  exact ⟨_, rfl, mkS_le0 hl, q⟩
theorem op_addC : OpR X (binaryOp .Add) rAddS := opr_imp op_add_str fun x y H Q h => by
  obtain ⟨a, b, rfl, rfl, hl, q⟩ := h
  rw [← mkS_cat] at q
  exact ⟨_, _, rfl, rfl, by rw [mkS_len, mkS_len]; exact Nat.le_trans hl (by decide), q⟩
theorem ix_C : IxR X rAtS := ixr_imp ix_str fun x y H Q h => by
  obtain ⟨l, i, c, rfl, rfl, hl, hc, q⟩ := h
  exact ⟨_, _, c, rfl, rfl, mkS_le0 hl, atI_nat (by rw [mkS_list]; exact hc), q⟩
theorem pe_strC {x : Str} {j : Nat} {pos : Pos} {l : List Nat} (h : x = mkS l) : PE X (.Constant (.str x) j pos) (tC (.str (mkS l))) := h ▸ pe_str
end
/-- texts of a list of codes -/
def txs (ls : List (List Nat)) : List V := ls.map fun l => V.str (mkS l)
theorem txs_at {ls : List (List Nat)} {i : Int} (h0 : 0 ≤ i) (h1 : i < ls.length) : ∃ l, l ∈ ls ∧ atI (txs ls) i = some (.str (mkS l)) := by
  have hn : i.toNat < ls.length := by omega
  refine ⟨ls[i.toNat], List.getElem_mem hn, ?_⟩
  refine at_of (j := i.toNat) (by omega) ?_
  unfold txs
  rw [List.getElem?_map, List.getElem?_eq_getElem hn]
  rfl
theorem mkS_le {l : List Nat} (h : l.length ≤ 1000000) : (mkS l).length ≤ sizeLine := by
  rw [mkS_len]
  exact Nat.le_trans h (by decide)
theorem mkS2_le {a b : List Nat} (h : a.length + b.length ≤ 1000000) : (mkS a).length + (mkS b).length ≤ sizeLine := by
  rw [mkS_len, mkS_len]
  exact Nat.le_trans h (by decide)
theorem mkS_one (c : Nat) : (⟨#[c]⟩ : Str) = mkS [c] := rfl
theorem str_nil : ("" : Str) = mkS [] := by decide +kernel
theorem str_z : ("z" : Str) = mkS [122] := by decide +kernel
end Ts
namespace Ts
open PySem PySem.Spec PyProof.Rows L2
theorem alphaL {j : Nat} (h : j < 26) : [97, 98, 99, 100, 101, 102, 103, 104, 105, 106, 107, 108, 109, 110, 111, 112, 113, 114, 115, 116, 117, 118, 119, 120, 121, 122][j]? = some (97 + j) := by
  have e : [97, 98, 99, 100, 101, 102, 103, 104, 105, 106, 107, 108, 109, 110, 111, 112, 113, 114, 115, 116, 117, 118, 119, 120, 121, 122] = (List.range 26).map (97 + ·) := by decide
  rw [e, List.getElem?_map, List.getElem?_range h]
  rfl
/-- an object that H does not know may change -/
theorem Same.mut {H H1 : Hp} {D : Addr} {o : HO} (s : Same H H1) (h : H D = none) : Same H (upd H1 D o) := fun b u e => by
  rw [upd_ne (ne_of_none e h)]
  exact s b u e
end Ts
namespace Ts
open PySem PySem.Spec PyProof.Rows L2
theorem SqT.grow {K : PySem.W.Frag} {H : Hp} {D t : Addr} {xs acc acc' : List V} (h : SqT K H t xs) (hD : H D = some (.lst acc)) : SqT K (upd H D (.lst acc')) t xs := by
  rcases h with (h | ⟨o, h⟩) | h
  · exact .inl (.inl (by rw [upd_ne (ne_of h hD (by intro z; cases z))]; exact h))
  · exact .inl (.inr ⟨o, by rw [upd_ne (ne_of h hD (by intro z; cases z))]; exact h⟩)
  · exact .inr h
theorem cutV_len {xs : List V} (lo hi : Nat) : cutV xs (some (lo : Int)) (some (hi : Int)) = (xs.drop lo).take (hi - lo) := by
  unfold cutV
  rw [HT.sIx_nat, HT.sIx_nat]
  by_cases h1 : lo ≤ xs.length
  · rw [Nat.min_eq_left h1]
    by_cases h2 : hi ≤ xs.length
    · rw [Nat.min_eq_left h2]
    · rw [Nat.min_eq_right (show xs.length ≤ hi by omega)]
      rw [List.take_of_length_le (by rw [List.length_drop]; exact Nat.le_refl _), List.take_of_length_le (by rw [List.length_drop]; omega)]
  · rw [Nat.min_eq_right (show xs.length ≤ lo by omega), List.drop_eq_nil_of_le (Nat.le_refl _), List.drop_eq_nil_of_le (by omega), List.take_nil, List.take_nil]
end Ts
namespace Ts
open PySem PySem.Spec PyProof.Rows L2
theorem tyT {K : PySem.W.Frag} {H : Hp} {t : Addr} {xs : List V} (h : SqT K H t xs) : TyX K H (.ref t) (.type "tuple") := by
  rcases h with (h | ⟨o, h⟩) | ⟨o, its, n, h, c, _⟩
  · exact .base (.tup h)
  · exact .fTuple h
  · exact .kTuple h c
theorem take_snoc {α : Type} {l : List α} {i : Nat} {x : α} (h : l[i]? = some x) : l.take (i + 1) = l.take i ++ [x] := by
  obtain ⟨hi, e⟩ := List.getElem?_eq_some_iff.mp h
  rw [List.take_succ_eq_append_getElem hi, e]
theorem inV_txs (n : List Nat) (ls : List (List Nat)) : inV (.str (mkS n)) (txs ls) = decide (n ∈ ls) := by
  unfold inV txs
  rw [List.any_map]
  have e : ∀ l : List Nat, eqV (.str (mkS l)) (.str (mkS n)) = decide (l = n) := fun l => by
    show (mkS l == mkS n) = decide (l = n)
    by_cases h : l = n
    · rw [decide_eq_true h, h]
      exact beq_self_eq_true _
    · rw [decide_eq_false h]
      exact beq_eq_false_iff_ne.mpr fun z => h (mkS_inj z)
  induction ls with
  | nil => rfl
  | cons l r ih =>
    rw [List.any_cons, ih]
    show (eqV (.str (mkS l)) (.str (mkS n)) || decide (n ∈ r)) = _
    rw [e]
    by_cases h : l = n
    · subst h
      simp
    · have h2 : n ≠ l := fun z => h z.symm
      simp [h, h2]
theorem txs_flat (ls : List (List Nat)) : (txs ls).all flatV = true := by
  unfold txs
  rw [List.all_map]
  exact List.all_eq_true.mpr fun _ _ => rfl
theorem eq_str (a b : List Nat) : decide (V.str (mkS a) = V.str (mkS b)) = decide (a = b) := by
  by_cases h : a = b
  · rw [decide_eq_true h, decide_eq_true (by rw [h])]
  · rw [decide_eq_false h, decide_eq_false fun z => h (mkS_inj (V.str.inj z))]
end Ts
end
section
namespace Ts.k04
open PySem PySem.Spec PyProof.Rows L2 Ts
/-! ### promises of the law's own helpers -/
def spMix : Sp := fun vs H Q _ => ∃ c k : Int, vs = [.int c, .int k] ∧ ∀ r : Int, 0 ≤ r → r < 999983 → Q (.int r) H
def spBig : Sp := fun vs H Q _ => ∃ c k : Int, vs = [.int c, .int k] ∧ ∀ (r : Int) (H' : Hp), 0 ≤ r → r ≤ 1000000000000 → Same H H' → Q (.int r) H'
def spOff : Sp := fun vs H Q _ => ∃ c : Int, vs = [.int c] ∧ ∀ (r : Int) (H' : Hp), 0 ≤ r → r ≤ 999 → Same H H' → Q (.int r) H'
/-- the least number not less than p times o by 1000 -/
def slk (p o : Int) : Int := (p * o + 999) / 1000
def spSlack : Sp := fun vs H Q _ => ∃ p o : Int, vs = [.int p, .int o] ∧ -1000000 < o ∧ o < 1000000 ∧ Q (.int (slk p o)) H
def spCellAt (K : PySem.W.Frag) : Sp := fun vs H Q _ => ∃ (l : Addr) (ns : List Int) (j : Nat), vs = [.ref l, .int (j : Int)] ∧ SqL K H l (ns.map V.int) ∧ Q (.int (ns.getD j 0)) H
def spWhole (K : PySem.W.Frag) : Sp := fun vs H Q _ => ∃ i : Int, vs = [.int i] ∧ Q (.bl true) H
def spLaw (K : PySem.W.Frag) : Sp := fun vs H Q _ => ∃ (a : Addr) (ns : List Int), vs = [.ref a] ∧ SqL K H a (ns.map V.int) ∧ ns.length ≤ 63 ∧ ∀ H', Q (.bl true) H'

def okOff (o : Int) : Prop := 0 ≤ o ∧ o ≤ 999
def spCheckOff (C : Addr) : Sp := fun vs H Q E => ∃ o : Int, vs = [.int o] ∧ (okOff o → Q .non H) ∧ (¬ okOff o → E (.ref C) none H)

/-- a letter as a tuple -/
def letV (nm : V) (s b lo hi : Int) : List V := [nm, .int s, .int b, .int lo, .int hi]
def brLo (b lo now o : Int) : Int := lo + (now - b) - slk (now - b) o
def brHi (s hi now o : Int) : Int := hi + (now - s) + slk (now - s) o
def spBrought (K : PySem.W.Frag) (cO cE : Addr) : Sp := fun vs H Q E => ∃ (t : Addr) (nm : V) (s b lo hi now o : Int), vs = [.ref t, .int now, .int o] ∧ SqT K H t (letV nm s b lo hi) ∧
  (¬ okOff o → E (.ref cO) none H) ∧ (okOff o → now < b → E (.ref cE) none H) ∧
  (okOff o → b ≤ now → ∀ u, H u = none → Q (.ref u) (upd H u (.tup [.int (brLo b lo now o), .int (brHi s hi now o)])))
def spLawBrought (K : PySem.W.Frag) : Sp := fun vs H Q _ => ∃ (t : Addr) (nm : V) (s b lo hi now o : Int), vs = [.ref t, .int now, .int o] ∧ SqT K H t (letV nm s b lo hi) ∧ okOff o ∧
  ∀ u, H u = none → Q (.ref u) (upd H u (.tup [.int (brLo b lo now o), .int (brHi s hi now o)]))

def spWord : Sp := fun vs H Q _ => ∃ c n : Int, vs = [.int c, .int n] ∧ 0 ≤ n ∧ n ≤ 1000 ∧ ∀ z : List Nat, (z.length : Int) = n → low z → Q (.str (mkS z)) H
def spNames : Sp := fun vs H Q _ => ∃ c : Int, vs = [.int c] ∧ ∀ (p : Addr) (xs : List (List Nat)) (H' : Hp), xs.length = 42 → xs.Nodup → (∀ z ∈ xs, nmOk z) → Same H H' → H' p = some (.lst (txs xs)) → Q (.ref p) H'

/-- a letter's data -/
structure Let where
  nm : List Nat
  s : Int
  b : Int
  lo : Int
  hi : Int
def Let.vals (x : Let) : List V := letV (.str (mkS x.nm)) x.s x.b x.lo x.hi
structure Let.Ok (x : Let) : Prop where
  nm : nmOk x.nm
  s0 : 0 ≤ x.s
  sb : x.s ≤ x.b
  b1 : x.b ≤ 1000000000000
  l0 : 0 ≤ x.lo
  lh : x.lo ≤ x.hi
  h1 : x.hi ≤ 1000000000000
/-- letters as tuples at addresses -/
def LetsAt (K : PySem.W.Frag) (H : Hp) (as : List Addr) (ls : List Let) : Prop := as.length = ls.length ∧ ∀ (i : Nat) (t : Addr) (x : Let), as[i]? = some t → ls[i]? = some x → SqT K H t x.vals
theorem LetsAt.same {K : PySem.W.Frag} {H H' : Hp} {as : List Addr} {ls : List Let} (h : LetsAt K H as ls) (s : Same H H') : LetsAt K H' as ls := ⟨h.1, fun i t x a b => Ts.Same.seqT s (h.2 i t x a b)⟩
theorem LetsAt.get {K : PySem.W.Frag} {H : Hp} {as : List Addr} {ls : List Let} (h : LetsAt K H as ls) {i : Nat} {v : V} (e : (as.map V.ref)[i]? = some v) : ∃ t x, v = .ref t ∧ as[i]? = some t ∧ ls[i]? = some x ∧ SqT K H t x.vals := by
  rw [List.getElem?_map] at e
  cases ea : as[i]? with
  | none => rw [ea] at e; cases e
  | some t =>
    rw [ea] at e
    have hi : i < ls.length := by rw [← h.1]; exact (List.getElem?_eq_some_iff.mp ea).1
    exact ⟨t, ls[i], (Option.some.inj e).symm, rfl, List.getElem?_eq_getElem hi, h.2 i t _ ea (List.getElem?_eq_getElem hi)⟩
theorem LetsAt.nil {K : PySem.W.Frag} {H : Hp} : LetsAt K H [] [] := ⟨rfl, fun i t x h _ => by simp at h⟩
theorem LetsAt.snoc {K : PySem.W.Frag} {H : Hp} {as : List Addr} {ls : List Let} {t : Addr} {x : Let} (h : LetsAt K H as ls) (hx : SqT K H t x.vals) : LetsAt K H (as ++ [t]) (ls ++ [x]) := by
  refine ⟨by rw [List.length_append, List.length_append, h.1]; rfl, fun i u y a b => ?_⟩
  by_cases hi : i < as.length
  · rw [List.getElem?_append_left hi] at a
    rw [List.getElem?_append_left (by rw [← h.1]; exact hi)] at b
    exact h.2 i u y a b
  · have hl := (List.getElem?_eq_some_iff.mp a).1
    rw [List.length_append] at hl
    have e : i = as.length := by simp at hl; omega
    subst e
    rw [List.getElem?_append_right (Nat.le_refl _), Nat.sub_self] at a
    rw [List.getElem?_append_right (by rw [h.1]; exact Nat.le_refl _), h.1, Nat.sub_self] at b
    cases a
    cases b
    exact hx
theorem LetsAt.grow {K : PySem.W.Frag} {H : Hp} {D : Addr} {acc acc' : List V} {as : List Addr} {ls : List Let} (h : LetsAt K H as ls) (hD : H D = some (.lst acc)) : LetsAt K (upd H D (.lst acc')) as ls := ⟨h.1, fun i t x a b => Ts.SqT.grow (h.2 i t x a b) hD⟩
def spLetter (K : PySem.W.Frag) : Sp := fun vs H Q _ => ∃ (c m : Int) (p : Addr) (xs : List (List Nat)), vs = [.int c, .ref p, .int m] ∧ SqL K H p (txs xs) ∧ xs.length = 42 ∧ (∀ z ∈ xs, nmOk z) ∧ 1 ≤ m ∧ m ≤ 42 ∧
  ∀ (x : Let) (t : Addr) (H' : Hp), x.Ok → x.nm ∈ xs → Same H H' → H' t = some (.tup x.vals) → Q (.ref t) H'
def spLetters (K : PySem.W.Frag) : Sp := fun vs H Q _ => ∃ (l p : Addr) (ns : List Int) (xs : List (List Nat)), vs = [.ref l, .ref p] ∧ SqL K H l (ns.map V.int) ∧ ns.length ≤ 63 ∧ SqL K H p (txs xs) ∧ xs.length = 42 ∧ (∀ z ∈ xs, nmOk z) ∧
  ∀ (as : List Addr) (ls : List Let) (q : Addr) (H' : Hp), ls.length ≤ 200 → (∀ x ∈ ls, x.Ok) → Same H H' → LetsAt K H' as ls → H' q = some (.lst (as.map V.ref)) → H q = none → Q (.ref q) H'
/-- no answer later than now -/
def spNow (K : PySem.W.Frag) : Sp := fun vs H Q _ => ∃ (l p : Addr) (ns : List Int) (as : List Addr) (ls : List Let), vs = [.ref l, .ref p] ∧ SqL K H l (ns.map V.int) ∧ SqL K H p (as.map V.ref) ∧ LetsAt K H as ls ∧ (∀ x ∈ ls, x.Ok) ∧
  ∀ (now : Int) (H' : Hp), 0 ≤ now → now ≤ 1000000010000 → (∀ x ∈ ls, x.b ≤ now) → Same H H' → Q (.int now) H'

/-! ### the clocks of letters -/
abbrev St2 := Int × Int
def brSt (now o : Int) (x : Let) : St2 := (brLo x.b x.lo now o, brHi x.s x.hi now o)
theorem slk_ge0 {p o : Int} (hp : 0 ≤ p) (h : okOff o) : 0 ≤ slk p o := by
  have h1 : 0 ≤ p * o := Int.mul_nonneg hp h.1
  unfold slk
  omega
theorem slk_le {p o : Int} (hp : 0 ≤ p) (h : okOff o) : slk p o ≤ p := by
  have h1 : p * o ≤ p * 999 := Int.mul_le_mul_of_nonneg_left h.2 hp
  unfold slk
  omega
theorem brSt_le {now o : Int} {x : Let} (hx : x.Ok) (h : okOff o) (hb : x.b ≤ now) : (brSt now o x).1 ≤ (brSt now o x).2 := by
  have h1 := slk_le (p := now - x.b) (by omega) h
  have h0 := slk_ge0 (p := now - x.b) (by omega) h
  have h2 := slk_ge0 (p := now - x.s) (by have := hx.sb; omega) h
  have := hx.sb
  have := hx.lh
  show brLo x.b x.lo now o ≤ brHi x.s x.hi now o
  unfold brLo brHi
  omega
def addN (acc : List (List Nat)) (n : List Nat) : List (List Nat) := if n ∈ acc then acc else acc ++ [n]
def namesOf (ls : List Let) : List (List Nat) := ls.foldl (fun acc x => addN acc x.nm) []
theorem namesOf_snoc (ls : List Let) (x : Let) : namesOf (ls ++ [x]) = addN (namesOf ls) x.nm := by
  unfold namesOf
  rw [List.foldl_append]
  rfl
theorem addN_mem {acc : List (List Nat)} {n m : List Nat} : m ∈ addN acc n ↔ m ∈ acc ∨ m = n := by
  unfold addN
  split
  · rename_i h
    exact ⟨.inl, fun z => z.elim id fun e => e ▸ h⟩
  · rw [List.mem_append, List.mem_singleton]
theorem addN_nodup {acc : List (List Nat)} {n : List Nat} (h : acc.Nodup) : (addN acc n).Nodup := by
  unfold addN
  split
  · exact h
  · rename_i hn
    exact nd_snoc h hn
theorem fold_mem {m : List Nat} : ∀ (ls : List Let) (acc : List (List Nat)), m ∈ ls.foldl (fun acc x => addN acc x.nm) acc ↔ m ∈ acc ∨ ∃ x ∈ ls, x.nm = m
  | [], acc => by simp
  | x :: r, acc => by
    rw [List.foldl_cons, fold_mem r, addN_mem]
    constructor
    · rintro ((h | h) | ⟨y, hy, e⟩)
      · exact .inl h
      · exact .inr ⟨x, List.mem_cons_self, h.symm⟩
      · exact .inr ⟨y, List.mem_cons_of_mem _ hy, e⟩
    · rintro (h | ⟨y, hy, e⟩)
      · exact .inl (.inl h)
      · rcases List.mem_cons.mp hy with rfl | hy
        · exact .inl (.inr e.symm)
        · exact .inr ⟨y, hy, e⟩
theorem fold_nodup : ∀ (ls : List Let) (acc : List (List Nat)), acc.Nodup → (ls.foldl (fun acc x => addN acc x.nm) acc).Nodup
  | [], _, h => h
  | x :: r, acc, h => fold_nodup r _ (addN_nodup h)
theorem namesOf_mem {ls : List Let} {m : List Nat} : m ∈ namesOf ls ↔ ∃ x ∈ ls, x.nm = m := by
  unfold namesOf
  rw [fold_mem]
  simp
theorem namesOf_nodup (ls : List Let) : (namesOf ls).Nodup := fold_nodup ls [] List.nodup_nil
theorem namesOf_len (ls : List Let) : (namesOf ls).length ≤ ls.length := by
  have h : ∀ (ls : List Let) (acc : List (List Nat)), (ls.foldl (fun acc x => addN acc x.nm) acc).length ≤ acc.length + ls.length := by
    intro ls
    induction ls with
    | nil => intro acc; simp
    | cons x r ih =>
      intro acc
      rw [List.foldl_cons]
      refine Nat.le_trans (ih _) ?_
      rw [List.length_cons]
      unfold addN
      split
      · omega
      · rw [List.length_append]; simp; omega
  have z := h ls []
  rw [List.length_nil, Nat.zero_add] at z
  exact z
def stsOf (now o : Int) (n : List Nat) (ls : List Let) : List St2 := (ls.filter fun x => decide (x.nm = n)).map (brSt now o)
theorem stsOf_eq (now o : Int) {n : List Nat} (ls : List Let) {x : Let} (h : x.nm = n) : stsOf now o n (ls ++ [x]) = stsOf now o n ls ++ [brSt now o x] := by
  unfold stsOf
  rw [List.filter_append, List.map_append]
  simp [h]
theorem stsOf_ne (now o : Int) {n : List Nat} (ls : List Let) {x : Let} (h : x.nm ≠ n) : stsOf now o n (ls ++ [x]) = stsOf now o n ls := by
  unfold stsOf
  rw [List.filter_append]
  simp [h]
theorem stsOf_nil (now o : Int) {n : List Nat} {ls : List Let} (h : n ∉ namesOf ls) : stsOf now o n ls = [] := by
  unfold stsOf
  rw [List.map_eq_nil_iff, List.filter_eq_nil_iff]
  intro x hx
  simpa using fun e => h (namesOf_mem.mpr ⟨x, hx, e⟩)
theorem stsOf_some (now o : Int) {n : List Nat} {ls : List Let} (h : n ∈ namesOf ls) : stsOf now o n ls ≠ [] := by
  obtain ⟨x, hx, e⟩ := namesOf_mem.mp h
  unfold stsOf
  rw [Ne, List.map_eq_nil_iff, List.filter_eq_nil_iff]
  intro z
  exact absurd e (by simpa using z x hx)
def loOf : List St2 → Int
  | [] => 0
  | s :: r => r.foldl (fun m t => if t.1 > m then t.1 else m) s.1
def hiOf : List St2 → Int
  | [] => 0
  | s :: r => r.foldl (fun m t => if t.2 < m then t.2 else m) s.2
theorem loOf_snoc {l : List St2} (h : l ≠ []) (t : St2) : loOf (l ++ [t]) = if t.1 > loOf l then t.1 else loOf l := by
  cases l with
  | nil => exact absurd rfl h
  | cons s r =>
    show (r ++ [t]).foldl _ _ = _
    rw [List.foldl_append]
    rfl
theorem hiOf_snoc {l : List St2} (h : l ≠ []) (t : St2) : hiOf (l ++ [t]) = if t.2 < hiOf l then t.2 else hiOf l := by
  cases l with
  | nil => exact absurd rfl h
  | cons s r =>
    show (r ++ [t]).foldl _ _ = _
    rw [List.foldl_append]
    rfl
theorem fmax_spec : ∀ (r : List St2) (m : Int), m ≤ r.foldl (fun m t => if t.1 > m then t.1 else m) m ∧ (∀ t ∈ r, t.1 ≤ r.foldl (fun m t => if t.1 > m then t.1 else m) m)
  | [], m => ⟨Int.le_refl _, fun _ h => nomatch h⟩
  | s :: r, m => by
    obtain ⟨h1, h2⟩ := fmax_spec r (if s.1 > m then s.1 else m)
    rw [List.foldl_cons]
    refine ⟨?_, fun t ht => ?_⟩
    · refine Int.le_trans ?_ h1
      split <;> omega
    · rcases List.mem_cons.mp ht with rfl | ht
      · refine Int.le_trans ?_ h1
        split <;> omega
      · exact h2 t ht
theorem fmin_spec : ∀ (r : List St2) (m : Int), r.foldl (fun m t => if t.2 < m then t.2 else m) m ≤ m ∧ (∀ t ∈ r, r.foldl (fun m t => if t.2 < m then t.2 else m) m ≤ t.2)
  | [], m => ⟨Int.le_refl _, fun _ h => nomatch h⟩
  | s :: r, m => by
    obtain ⟨h1, h2⟩ := fmin_spec r (if s.2 < m then s.2 else m)
    rw [List.foldl_cons]
    refine ⟨?_, fun t ht => ?_⟩
    · refine Int.le_trans h1 ?_
      split <;> omega
    · rcases List.mem_cons.mp ht with rfl | ht
      · refine Int.le_trans h1 ?_
        split <;> omega
      · exact h2 t ht
theorem fmax_mem : ∀ (r : List St2) (m : Int), r.foldl (fun m t => if t.1 > m then t.1 else m) m = m ∨ ∃ t ∈ r, t.1 = r.foldl (fun m t => if t.1 > m then t.1 else m) m
  | [], m => .inl rfl
  | s :: r, m => by
    rw [List.foldl_cons]
    rcases fmax_mem r (if s.1 > m then s.1 else m) with h | ⟨t, ht, e⟩
    · rw [h]
      split
      · exact .inr ⟨s, List.mem_cons_self, rfl⟩
      · exact .inl rfl
    · exact .inr ⟨t, List.mem_cons_of_mem _ ht, e⟩
theorem fmin_mem : ∀ (r : List St2) (m : Int), r.foldl (fun m t => if t.2 < m then t.2 else m) m = m ∨ ∃ t ∈ r, t.2 = r.foldl (fun m t => if t.2 < m then t.2 else m) m
  | [], m => .inl rfl
  | s :: r, m => by
    rw [List.foldl_cons]
    rcases fmin_mem r (if s.2 < m then s.2 else m) with h | ⟨t, ht, e⟩
    · rw [h]
      split
      · exact .inr ⟨s, List.mem_cons_self, rfl⟩
      · exact .inl rfl
    · exact .inr ⟨t, List.mem_cons_of_mem _ ht, e⟩
/-- the greatest low, the least high, by what they are -/
theorem loOf_is {l : List St2} {m : Int} (h1 : m ∈ l.map (·.1)) (h2 : ∀ y ∈ l.map (·.1), y ≤ m) : m = loOf l := by
  cases l with
  | nil => cases h1
  | cons s r =>
    have g := fmax_spec r s.1
    have k := fmax_mem r s.1
    have up : m ≤ loOf (s :: r) := by
      obtain ⟨t, ht, e⟩ := List.mem_map.mp h1
      rcases List.mem_cons.mp ht with rfl | ht
      · exact e ▸ g.1
      · exact e ▸ g.2 t ht
    have dn : loOf (s :: r) ≤ m := by
      refine h2 _ ?_
      rcases k with k | ⟨t, ht, e⟩
      · exact List.mem_map.mpr ⟨s, List.mem_cons_self, k.symm⟩
      · exact List.mem_map.mpr ⟨t, List.mem_cons_of_mem _ ht, e⟩
    omega
theorem hiOf_is {l : List St2} {m : Int} (h1 : m ∈ l.map (·.2)) (h2 : ∀ y ∈ l.map (·.2), m ≤ y) : m = hiOf l := by
  cases l with
  | nil => cases h1
  | cons s r =>
    have g := fmin_spec r s.2
    have k := fmin_mem r s.2
    have up : hiOf (s :: r) ≤ m := by
      obtain ⟨t, ht, e⟩ := List.mem_map.mp h1
      rcases List.mem_cons.mp ht with rfl | ht
      · exact e ▸ g.1
      · exact e ▸ g.2 t ht
    have dn : m ≤ hiOf (s :: r) := by
      refine h2 _ ?_
      rcases k with k | ⟨t, ht, e⟩
      · exact List.mem_map.mpr ⟨s, List.mem_cons_self, k.symm⟩
      · exact List.mem_map.mpr ⟨t, List.mem_cons_of_mem _ ht, e⟩
    omega
def comb (l : List St2) : Option St2 := if loOf l ≤ hiOf l then some (loOf l, hiOf l) else none
def joinSt (o : Option St2) (t : St2) : Option St2 := match o with
  | none => none
  | some k => if (if t.1 > k.1 then t.1 else k.1) > (if t.2 < k.2 then t.2 else k.2) then none else some ((if t.1 > k.1 then t.1 else k.1), (if t.2 < k.2 then t.2 else k.2))
theorem comb_one {t : St2} (h : t.1 ≤ t.2) : comb [t] = some t := if_pos h
theorem comb_snoc {l : List St2} (h : l ≠ []) (t : St2) : comb (l ++ [t]) = joinSt (comb l) t := by
  unfold comb
  rw [loOf_snoc h, hiOf_snoc h]
  by_cases c : loOf l ≤ hiOf l
  · rw [if_pos c]
    show _ = if _ then _ else _
    by_cases d : (if t.1 > loOf l then t.1 else loOf l) ≤ (if t.2 < hiOf l then t.2 else hiOf l)
    · rw [if_pos d, if_neg (Int.not_lt.mpr d)]
    · rw [if_neg d, if_pos (Int.not_le.mp d)]
  · rw [if_neg c]
    refine if_neg fun d => c ?_
    have h1 : loOf l ≤ (if t.1 > loOf l then t.1 else loOf l) := by split <;> omega
    have h2 : (if t.2 < hiOf l then t.2 else hiOf l) ≤ hiOf l := by split <;> omega
    omega
abbrev Clk := List Nat × Option St2
def clkOf (now o : Int) (ls : List Let) (n : List Nat) : Option St2 := comb (stsOf now o n ls)
def gath (now o : Int) (ls : List Let) : List Clk := (namesOf ls).map fun n => (n, clkOf now o ls n)
/-- a clock's stretch as a value -/
def ClV (K : PySem.W.Frag) (H : Hp) (v : V) (o : Option St2) : Prop := match o with
  | none => v = .non
  | some t => ∃ b : Addr, v = .ref b ∧ SqT K H b [.int t.1, .int t.2]
theorem ClV.same {K : PySem.W.Frag} {H H' : Hp} {v : V} {o : Option St2} (h : ClV K H v o) (s : Same H H') : ClV K H' v o := by
  cases o with
  | none => exact h
  | some t => exact match h with | ⟨b, e, q⟩ => ⟨b, e, Ts.Same.seqT s q⟩
theorem SqT.off {K : PySem.W.Frag} {H : Hp} {d t : Addr} {xs : List V} {u o : HO} (h : SqT K H t xs) (hd : H d = some u) (n1 : ∀ ys, u ≠ .tup ys) (n2 : ∀ ob ys, u ≠ .frz ob (.tup ys)) : SqT K (upd H d o) t xs := by
  rcases h with (h | ⟨ob, h⟩) | h
  · exact .inl (.inl (by rw [upd_ne (ne_of h hd (fun z => n1 _ z.symm))]; exact h))
  · exact .inl (.inr ⟨ob, by rw [upd_ne (ne_of h hd (fun z => n2 _ _ z.symm))]; exact h⟩)
  · exact .inr h
theorem ClV.off {K : PySem.W.Frag} {H : Hp} {d : Addr} {v : V} {c : Option St2} {u o : HO} (h : ClV K H v c) (hd : H d = some u) (n1 : ∀ ys, u ≠ .tup ys) (n2 : ∀ ob ys, u ≠ .frz ob (.tup ys)) : ClV K (upd H d o) v c := by
  cases c with
  | none => exact h
  | some t => exact match h with | ⟨b, e, q⟩ => ⟨b, e, SqT.off q hd n1 n2⟩
def ClAt (K : PySem.W.Frag) (H : Hp) (v : V) (c : Clk) : Prop := ∃ (t : Addr) (w : V), v = .ref t ∧ SqT K H t [.str (mkS c.1), w] ∧ ClV K H w c.2
theorem ClAt.same {K : PySem.W.Frag} {H H' : Hp} {v : V} {c : Clk} (h : ClAt K H v c) (s : Same H H') : ClAt K H' v c := match h with
  | ⟨t, w, e, q, k⟩ => ⟨t, w, e, Ts.Same.seqT s q, k.same s⟩
theorem ClAt.off {K : PySem.W.Frag} {H : Hp} {d : Addr} {v : V} {c : Clk} {u o : HO} (h : ClAt K H v c) (hd : H d = some u) (n1 : ∀ ys, u ≠ .tup ys) (n2 : ∀ ob ys, u ≠ .frz ob (.tup ys)) : ClAt K (upd H d o) v c := match h with
  | ⟨t, w, e, q, k⟩ => ⟨t, w, e, SqT.off q hd n1 n2, k.off hd n1 n2⟩
def ClksAt (K : PySem.W.Frag) (H : Hp) (xs : List V) (cs : List Clk) : Prop := xs.length = cs.length ∧ ∀ (i : Nat) (v : V) (c : Clk), xs[i]? = some v → cs[i]? = some c → ClAt K H v c
theorem ClksAt.same {K : PySem.W.Frag} {H H' : Hp} {xs : List V} {cs : List Clk} (h : ClksAt K H xs cs) (s : Same H H') : ClksAt K H' xs cs := ⟨h.1, fun i v c a b => (h.2 i v c a b).same s⟩
theorem ClksAt.off {K : PySem.W.Frag} {H : Hp} {d : Addr} {xs : List V} {cs : List Clk} {u o : HO} (h : ClksAt K H xs cs) (hd : H d = some u) (n1 : ∀ ys, u ≠ .tup ys) (n2 : ∀ ob ys, u ≠ .frz ob (.tup ys)) : ClksAt K (upd H d o) xs cs := ⟨h.1, fun i v c a b => (h.2 i v c a b).off hd n1 n2⟩
theorem ClksAt.get {K : PySem.W.Frag} {H : Hp} {xs : List V} {cs : List Clk} (h : ClksAt K H xs cs) {i : Nat} {v : V} (e : xs[i]? = some v) : ∃ c, cs[i]? = some c ∧ ClAt K H v c := by
  have hi : i < cs.length := by rw [← h.1]; exact (List.getElem?_eq_some_iff.mp e).1
  exact ⟨cs[i], List.getElem?_eq_getElem hi, h.2 i v _ e (List.getElem?_eq_getElem hi)⟩
theorem ClksAt.nil {K : PySem.W.Frag} {H : Hp} : ClksAt K H [] [] := ⟨rfl, fun i v c h _ => by simp at h⟩
theorem ClksAt.snoc {K : PySem.W.Frag} {H : Hp} {xs : List V} {cs : List Clk} {v : V} {c : Clk} (h : ClksAt K H xs cs) (hc : ClAt K H v c) : ClksAt K H (xs ++ [v]) (cs ++ [c]) := by
  refine ⟨by rw [List.length_append, List.length_append, h.1]; rfl, fun i u y a b => ?_⟩
  by_cases hi : i < xs.length
  · rw [List.getElem?_append_left hi] at a
    rw [List.getElem?_append_left (by rw [← h.1]; exact hi)] at b
    exact h.2 i u y a b
  · have hl := (List.getElem?_eq_some_iff.mp a).1
    rw [List.length_append] at hl
    have e : i = xs.length := by simp at hl; omega
    subst e
    rw [List.getElem?_append_right (Nat.le_refl _), Nat.sub_self] at a
    rw [List.getElem?_append_right (by rw [h.1]; exact Nat.le_refl _), h.1, Nat.sub_self] at b
    cases a
    cases b
    exact hc
/-- a clock's data -/
def stD : Option St2 → PyData
  | none => .none
  | some t => .tuple [.int t.1, .int t.2]
def clkD (c : Clk) : PyData := .tuple [.str (mkS c.1), stD c.2]
def clksD (cs : List Clk) : PyData := .list (cs.map clkD)
theorem ClV.dp {K : PySem.W.Frag} {H : Hp} {v : V} {o : Option St2} (h : ClV K H v o) : Dp K H v (stD o) := by
  cases o with
  | none => cases (show v = .non from h); exact .non
  | some t =>
    obtain ⟨b, rfl, q⟩ := h
    exact .tup q (.cons (.int _) (.cons (.int _) .nil))
theorem ClAt.dp {K : PySem.W.Frag} {H : Hp} {v : V} {c : Clk} (h : ClAt K H v c) : Dp K H v (clkD c) := by
  obtain ⟨t, w, rfl, q, k⟩ := h
  exact .tup q (.cons (.str _) (.cons k.dp .nil))
theorem dps_of {K : PySem.W.Frag} {H : Hp} {α : Type} {f : α → PyData} : ∀ {xs : List V} {cs : List α}, xs.length = cs.length → (∀ (i : Nat) (v : V) (c : α), xs[i]? = some v → cs[i]? = some c → Dp K H v (f c)) → DpAll K H xs (cs.map f)
  | [], [], _, _ => .nil
  | [], _ :: _, h, _ => by cases h
  | _ :: _, [], h, _ => by cases h
  | v :: xs, c :: cs, h, g => .cons (g 0 v c rfl rfl) (dps_of (Nat.succ.inj h) fun i v' c' a b => g (i + 1) v' c' a b)
theorem ClksAt.dp {K : PySem.W.Frag} {H : Hp} {p : Addr} {xs : List V} {cs : List Clk} (h : ClksAt K H xs cs) (hp : SqL K H p xs) : Dp K H (.ref p) (clksD cs) :=
  .lst hp (dps_of h.1 fun i v c a b => (h.2 i v c a b).dp)
def letD (x : Let) : PyData := .tuple [.str (mkS x.nm), .int x.s, .int x.b, .int x.lo, .int x.hi]
theorem LetsAt.dp {K : PySem.W.Frag} {H : Hp} {p : Addr} {as : List Addr} {ls : List Let} (h : LetsAt K H as ls) (hp : SqL K H p (as.map V.ref)) : Dp K H (.ref p) (.list (ls.map letD)) := by
  refine .lst hp (dps_of (by rw [List.length_map, h.1]) fun i v c a b => ?_)
  obtain ⟨t, x, rfl, _, hx, hT⟩ := h.get a
  rw [hx] at b
  cases b
  exact .tup hT (.cons (.str _) (.cons (.int _) (.cons (.int _) (.cons (.int _) (.cons (.int _) .nil)))))
/-! ### such data may be compared -/
theorem strOk_nm {l : List Nat} (h : low l) : PyData.strOk (mkS l) = true := by
  unfold PyData.strOk mkS
  rw [Array.all_eq_true]
  intro i hi
  have hm : l[i]'(by simpa using hi) ∈ l := List.getElem_mem _
  have := h _ hm
  simp only [List.getElem_toArray, decide_eq_true_eq]
  omega
def Shp (n : Nat) (d : PyData) : Prop := d.canLay0 = true ∧ d.depth ≤ n
theorem Shp.ok {n : Nat} {d : PyData} (h : Shp n d) (hn : n ≤ 64) : SeqAt.shaped d = true := by
  unfold SeqAt.shaped
  rw [h.1, decide_eq_true (Nat.le_trans h.2 hn)]
  rfl
theorem Shp.up {n m : Nat} {d : PyData} (h : Shp n d) (hn : n ≤ m) : Shp m d := ⟨h.1, Nat.le_trans h.2 hn⟩
theorem shp_all {n : Nat} : ∀ {ds : List PyData}, (∀ d ∈ ds, Shp n d) → PyData.canLayAll0 ds = true ∧ PyData.depthAll ds ≤ n
  | [], _ => ⟨rfl, Nat.zero_le _⟩
  | d :: ds, h => by
    obtain ⟨h1, h2⟩ := shp_all fun d hd => h d (List.mem_cons_of_mem _ hd)
    obtain ⟨g1, g2⟩ := h d List.mem_cons_self
    refine ⟨?_, Nat.max_le.mpr ⟨g2, h2⟩⟩
    show (PyData.canLay0 d && PyData.canLayAll0 ds) = true
    rw [g1, h1]
    rfl
theorem shp_list {n : Nat} {ds : List PyData} (h : ∀ d ∈ ds, Shp n d) : Shp (n + 1) (.list ds) := ⟨(shp_all h).1, Nat.succ_le_succ (shp_all h).2⟩
theorem shp_tup {n : Nat} {ds : List PyData} (h : ∀ d ∈ ds, Shp n d) : Shp (n + 1) (.tuple ds) := ⟨(shp_all h).1, Nat.succ_le_succ (shp_all h).2⟩
theorem shp_int {n : Nat} (i : Int) : Shp n (.int i) := ⟨rfl, Nat.zero_le _⟩
theorem shp_str {n : Nat} {l : List Nat} (h : low l) : Shp n (.str (mkS l)) := ⟨strOk_nm h, Nat.zero_le _⟩
theorem shp_st (o : Option St2) : Shp 1 (stD o) := by
  cases o with
  | none => exact ⟨rfl, Nat.zero_le _⟩
  | some t => exact ⟨rfl, Nat.le_refl _⟩
theorem shp_clk {c : Clk} (h : low c.1) : Shp 2 (clkD c) := by
  refine shp_tup fun d hd => ?_
  rcases List.mem_cons.mp hd with rfl | hd
  · exact shp_str h
  · rw [List.mem_singleton] at hd
    exact hd ▸ shp_st _
theorem shp_clks {cs : List Clk} (h : ∀ c ∈ cs, low c.1) : SeqAt.shaped (clksD cs) = true := Shp.ok (n := 3) (shp_list fun d hd => by
  obtain ⟨c, hc, rfl⟩ := List.mem_map.mp hd
  exact shp_clk (h c hc)) (by decide)
theorem shp_let {x : Let} (h : low x.nm) : Shp 1 (letD x) := by
  refine shp_tup fun d hd => ?_
  rcases List.mem_cons.mp hd with rfl | hd
  · exact shp_str h
  · simp only [List.mem_cons, List.not_mem_nil, or_false] at hd
    rcases hd with rfl | rfl | rfl | rfl <;> exact shp_int _
theorem shp_lets {ls : List Let} (h : ∀ x ∈ ls, low x.nm) : SeqAt.shaped (.list (ls.map letD)) = true := Shp.ok (n := 2) (shp_list fun d hd => by
  obtain ⟨c, hc, rfl⟩ := List.mem_map.mp hd
  exact shp_let (h c hc)) (by decide)
theorem eqv_self {d : PyData} (h : SeqAt.shaped d = true) : PyData.eqv d d = true := SeqAt.eqv_refl d (SeqAt.canLay_of_shaped h)
theorem gath_low {now o : Int} {ls : List Let} (h : ∀ x ∈ ls, x.Ok) : ∀ c ∈ gath now o ls, low c.1 := fun c hc => by
  obtain ⟨n, hn, rfl⟩ := List.mem_map.mp hc
  obtain ⟨x, hx, e⟩ := namesOf_mem.mp hn
  exact e ▸ (h x hx).nm.2.2

def spCommon (K : PySem.W.Frag) : Sp := fun vs H Q _ => ∃ (v : V) (t : Addr) (o : Option St2) (a b : Int), vs = [v, .ref t] ∧ ClV K H v o ∧ SqT K H t [.int a, .int b] ∧
  ∀ (v' : V) (H' : Hp), Same H H' → ClV K H' v' (joinSt o (a, b)) → Q v' H'
def spGathered (K : PySem.W.Frag) (cO cE : Addr) : Sp := fun vs H Q E => ∃ (p : Addr) (as : List Addr) (ls : List Let) (now o : Int), vs = [.ref p, .int now, .int o] ∧ SqL K H p (as.map V.ref) ∧ LetsAt K H as ls ∧ (∀ x ∈ ls, x.Ok) ∧ ls.length ≤ 1000 ∧
  (¬ okOff o → ∀ H', Same H H' → E (.ref cO) none H') ∧
  (okOff o → (∃ x ∈ ls, now < x.b) → ∀ H', Same H H' → E (.ref cE) none H') ∧
  (okOff o → (∀ x ∈ ls, x.b ≤ now) → ∀ (q : Addr) (xs : List V) (H' : Hp), Same H H' → ClksAt K H' xs (gath now o ls) → H' q = some (.lst xs) → H q = none → Q (.ref q) H')
def spLawGathered (K : PySem.W.Frag) : Sp := fun vs H Q _ => ∃ (p : Addr) (as : List Addr) (ls : List Let) (now o : Int), vs = [.ref p, .int now, .int o] ∧ SqL K H p (as.map V.ref) ∧ LetsAt K H as ls ∧ (∀ x ∈ ls, x.Ok) ∧ ls.length ≤ 1000 ∧ okOff o ∧
  ∀ (q : Addr) (xs : List V) (H' : Hp), Same H H' → ClksAt K H' xs (gath now o ls) → H' q = some (.lst xs) → H q = none → Q (.ref q) H'
/-- the dict of the clocks so far -/
def KvAt (K : PySem.W.Frag) (H : Hp) (kvs : List (Key × V)) (cs : List Clk) : Prop := kvs.map (·.1) = cs.map (fun c => (Sum.inr (mkS c.1) : Key)) ∧ ∀ c ∈ cs, ∃ v, valV kvs (Sum.inr (mkS c.1) : Key) = some v ∧ ClV K H v c.2
theorem KvAt.none_of {K : PySem.W.Frag} {H : Hp} {kvs : List (Key × V)} {cs : List Clk} (h : KvAt K H kvs cs) {n : List Nat} (hn : n ∉ cs.map (·.1)) : valV kvs (Sum.inr (mkS n) : Key) = none := by
  cases e : valV kvs (Sum.inr (mkS n) : Key) with
  | none => rfl
  | some v =>
    have m := valV_in e
    rw [h.1] at m
    obtain ⟨c, hc, e2⟩ := List.mem_map.mp m
    exact absurd (List.mem_map.mpr ⟨c, hc, mkS_inj (Sum.inr.inj e2)⟩) hn
theorem valV_at : ∀ {kvs : List (Key × V)} {i : Nat} {k : Key} {v : V}, (kvs.map (·.1)).Nodup → kvs[i]? = some (k, v) → valV kvs k = some v
  | [], i, k, v, _, h => by simp at h
  | p :: r, 0, k, v, _, h => by
    have e : p = (k, v) := Option.some.inj h
    subst e
    exact valV_pos rfl
  | p :: r, i + 1, k, v, hn, h => by
    have hn' := List.nodup_cons.mp hn
    have ih := valV_at (kvs := r) (i := i) hn'.2 h
    rw [valV_neg (fun e => hn'.1 (List.mem_map.mpr ⟨(k, v), List.mem_of_getElem? h, e.symm⟩))]
    exact ih
theorem keysN {cs : List Clk} (h : (cs.map (·.1)).Nodup) : (cs.map fun c => (Sum.inr (mkS c.1) : Key)).Nodup := by
  have e : (cs.map fun c => (Sum.inr (mkS c.1) : Key)) = (cs.map (·.1)).map fun n => (Sum.inr (mkS n) : Key) := by rw [List.map_map]; rfl
  rw [e]
  exact List.pairwise_map.mpr (h.imp fun {a b} hne q => hne (mkS_inj (Sum.inr.inj q)))
theorem gath_names (now o : Int) (ls : List Let) : (gath now o ls).map (·.1) = namesOf ls := by
  unfold gath
  rw [List.map_map]
  exact (List.map_congr_left fun _ _ => rfl).trans (List.map_id _)
theorem KvAt.same {K : PySem.W.Frag} {H H' : Hp} {kvs : List (Key × V)} {cs : List Clk} (h : KvAt K H kvs cs) (s : Same H H') : KvAt K H' kvs cs := ⟨h.1, fun c hc => match h.2 c hc with | ⟨v, e, q⟩ => ⟨v, e, q.same s⟩⟩
theorem KvAt.off {K : PySem.W.Frag} {H : Hp} {d : Addr} {kvs ks : List (Key × V)} {cs : List Clk} {o : HO} (h : KvAt K H kvs cs) (hd : H d = some (.dK ks)) : KvAt K (upd H d o) kvs cs :=
  ⟨h.1, fun c hc => match h.2 c hc with | ⟨v, e, q⟩ => ⟨v, e, q.off hd (fun _ z => nomatch z) (fun _ _ z => nomatch z)⟩⟩
theorem gath_snoc_new {now o : Int} {ls : List Let} {x : Let} (h : x.nm ∉ namesOf ls) : gath now o (ls ++ [x]) = gath now o ls ++ [(x.nm, comb [brSt now o x])] := by
  unfold gath
  rw [namesOf_snoc]
  unfold addN
  rw [if_neg h, List.map_append]
  congr 1
  · refine List.map_congr_left fun n hn => ?_
    unfold clkOf
    rw [stsOf_ne now o ls (fun e => h (e ▸ hn))]
  · show [(x.nm, clkOf now o (ls ++ [x]) x.nm)] = _
    unfold clkOf
    rw [stsOf_eq now o ls rfl, stsOf_nil now o h]
    rfl
theorem gath_snoc_old {now o : Int} {ls : List Let} {x : Let} (h : x.nm ∈ namesOf ls) : gath now o (ls ++ [x]) = (namesOf ls).map fun n => (n, if n = x.nm then joinSt (clkOf now o ls n) (brSt now o x) else clkOf now o ls n) := by
  unfold gath
  rw [namesOf_snoc]
  unfold addN
  rw [if_pos h]
  refine List.map_congr_left fun n hn => ?_
  by_cases e : n = x.nm
  · rw [if_pos e]
    unfold clkOf
    rw [stsOf_eq now o ls e.symm, comb_snoc (stsOf_some now o hn)]
  · rw [if_neg e]
    unfold clkOf
    rw [stsOf_ne now o ls (fun z => e z.symm)]
theorem KvAt.put {K : PySem.W.Frag} {H : Hp} {kvs : List (Key × V)} {now o : Int} {ls : List Let} {x : Let} {v : V} (h : KvAt K H kvs (gath now o ls))
    (hv : ClV K H v (if x.nm ∈ namesOf ls then joinSt (clkOf now o ls x.nm) (brSt now o x) else comb [brSt now o x])) : KvAt K H (putK kvs (Sum.inr (mkS x.nm)) v) (gath now o (ls ++ [x])) := by
  by_cases hm : x.nm ∈ namesOf ls
  · rw [if_pos hm] at hv
    rw [gath_snoc_old hm]
    have hm2 : x.nm ∈ (gath now o ls).map (·.1) := by rw [gath_names]; exact hm
    obtain ⟨c, hc, ec⟩ := List.mem_map.mp hm2
    obtain ⟨v0, e0, _⟩ := h.2 c hc
    rw [ec] at e0
    have hk : (putK kvs (Sum.inr (mkS x.nm) : Key) v).map (·.1) = kvs.map (·.1) := by
      unfold putK
      rw [valV_any, e0, if_pos (show (some v0).isSome = true from rfl), List.map_map]
      refine List.map_congr_left fun p _ => ?_
      show (if p.1 = _ then (p.1, v) else p).1 = p.1
      split <;> rfl
    refine ⟨?_, fun c' hc' => ?_⟩
    · rw [hk, h.1]
      unfold gath
      rw [List.map_map, List.map_map]
      rfl
    · obtain ⟨n, hn, rfl⟩ := List.mem_map.mp hc'
      rw [valV_put]
      by_cases e : n = x.nm
      · refine ⟨v, if_pos (by rw [e]), ?_⟩
        show ClV K H v (if n = x.nm then _ else _)
        rw [if_pos e, e]
        exact hv
      · have ne : ¬ (Sum.inr (mkS n) : Key) = Sum.inr (mkS x.nm) := fun q => e (mkS_inj (Sum.inr.inj q))
        obtain ⟨v1, e1, q1⟩ := h.2 (n, clkOf now o ls n) (List.mem_map.mpr ⟨n, hn, rfl⟩)
        refine ⟨v1, by rw [if_neg ne]; exact e1, ?_⟩
        show ClV K H v1 (if n = x.nm then _ else _)
        rw [if_neg e]
        exact q1
  · rw [if_neg hm] at hv
    rw [gath_snoc_new hm]
    have e0 : valV kvs (Sum.inr (mkS x.nm) : Key) = none := h.none_of (by rw [gath_names]; exact hm)
    rw [putK_new v e0]
    refine ⟨by rw [List.map_append, h.1, List.map_append]; rfl, fun c hc => ?_⟩
    rcases List.mem_append.mp hc with hc | hc
    · obtain ⟨v1, e1, q1⟩ := h.2 c hc
      have ne : ¬ (Sum.inr (mkS c.1) : Key) = Sum.inr (mkS x.nm) := fun q => hm (by rw [← mkS_inj (Sum.inr.inj q), ← gath_names now o ls]; exact List.mem_map.mpr ⟨c, hc, rfl⟩)
      exact ⟨v1, by rw [valV_snoc _ _ _ _ e0, if_neg ne]; exact e1, q1⟩
    · rw [List.mem_singleton] at hc
      subst hc
      exact ⟨v, by rw [valV_snoc _ _ _ _ e0, if_pos rfl], hv⟩
theorem ClksAt.items {K : PySem.W.Frag} {H : Hp} {kvs : List (Key × V)} {ts : List Addr} {now o : Int} {ls : List Let} (h : KvAt K H kvs (gath now o ls)) (ht : Paired (fun (t : Addr) (q : Key × V) => H t = some (.tup [kV q.1, q.2])) ts kvs) : ClksAt K H (ts.map V.ref) (gath now o ls) := by
  have hl : kvs.length = (gath now o ls).length := by
    have e := congrArg List.length h.1
    rwa [List.length_map, List.length_map] at e
  refine ⟨by rw [List.length_map, Paired.length ht, hl], fun i v c a b => ?_⟩
  rw [List.getElem?_map] at a
  cases ea : ts[i]? with
  | none => rw [ea] at a; cases a
  | some t =>
    rw [ea] at a
    cases a
    obtain ⟨⟨k, w⟩, ek, hk⟩ := LiI.paired_get ht ea
    have ekey : k = Sum.inr (mkS c.1) := by
      have e1 : (kvs.map (·.1))[i]? = some k := by rw [List.getElem?_map, ek]; rfl
      rw [h.1, List.getElem?_map, b] at e1
      exact (Option.some.inj e1).symm
    have nd : (kvs.map (·.1)).Nodup := by rw [h.1]; exact keysN (by rw [gath_names]; exact namesOf_nodup ls)
    have ev := valV_at nd ek
    obtain ⟨v1, e1, q1⟩ := h.2 c (List.mem_of_getElem? b)
    rw [← ekey, ev] at e1
    cases e1
    subst ekey
    exact ⟨t, w, rfl, SqT.of hk, q1⟩

/-- stretches as tuples at addresses -/
def StsAt (K : PySem.W.Frag) (H : Hp) (bs : List Addr) (ts : List St2) : Prop := bs.length = ts.length ∧ ∀ (i : Nat) (b : Addr) (t : St2), bs[i]? = some b → ts[i]? = some t → SqT K H b [.int t.1, .int t.2]
theorem StsAt.same {K : PySem.W.Frag} {H H' : Hp} {bs : List Addr} {ts : List St2} (h : StsAt K H bs ts) (s : Same H H') : StsAt K H' bs ts := ⟨h.1, fun i b t x y => Ts.Same.seqT s (h.2 i b t x y)⟩
theorem StsAt.off {K : PySem.W.Frag} {H : Hp} {d : Addr} {bs : List Addr} {ts : List St2} {u o : HO} (h : StsAt K H bs ts) (hd : H d = some u) (n1 : ∀ ys, u ≠ .tup ys) (n2 : ∀ ob ys, u ≠ .frz ob (.tup ys)) : StsAt K (upd H d o) bs ts := ⟨h.1, fun i b t x y => SqT.off (h.2 i b t x y) hd n1 n2⟩
theorem StsAt.nil {K : PySem.W.Frag} {H : Hp} : StsAt K H [] [] := ⟨rfl, fun i b t h _ => by simp at h⟩
theorem StsAt.snoc {K : PySem.W.Frag} {H : Hp} {bs : List Addr} {ts : List St2} {b : Addr} {t : St2} (h : StsAt K H bs ts) (hb : SqT K H b [.int t.1, .int t.2]) : StsAt K H (bs ++ [b]) (ts ++ [t]) := by
  refine ⟨by rw [List.length_append, List.length_append, h.1]; rfl, fun i u y x z => ?_⟩
  by_cases hi : i < bs.length
  · rw [List.getElem?_append_left hi] at x
    rw [List.getElem?_append_left (by rw [← h.1]; exact hi)] at z
    exact h.2 i u y x z
  · have hl := (List.getElem?_eq_some_iff.mp x).1
    rw [List.length_append] at hl
    have e : i = bs.length := by simp at hl; omega
    subst e
    rw [List.getElem?_append_right (Nat.le_refl _), Nat.sub_self] at x
    rw [List.getElem?_append_right (by rw [h.1]; exact Nat.le_refl _), h.1, Nat.sub_self] at z
    cases x
    cases z
    exact hb
theorem StsAt.get {K : PySem.W.Frag} {H : Hp} {bs : List Addr} {ts : List St2} (h : StsAt K H bs ts) {i : Nat} {v : V} (e : (bs.map V.ref)[i]? = some v) : ∃ b t, v = .ref b ∧ ts[i]? = some t ∧ SqT K H b [.int t.1, .int t.2] := by
  rw [List.getElem?_map] at e
  cases eb : bs[i]? with
  | none => rw [eb] at e; cases e
  | some b =>
    rw [eb] at e
    have hi : i < ts.length := by rw [← h.1]; exact (List.getElem?_eq_some_iff.mp eb).1
    exact ⟨b, ts[i], (Option.some.inj e).symm, List.getElem?_eq_getElem hi, h.2 i b _ eb (List.getElem?_eq_getElem hi)⟩
def gathTo (now o : Int) (ls : List Let) (i : Nat) : List Clk := (namesOf (ls.take i)).map fun n => (n, clkOf now o ls n)
theorem stsOf_take {now o : Int} {n : List Nat} {ls : List Let} {i : Nat} {x : Let} (h : ls[i]? = some x) : stsOf now o n (ls.take (i + 1)) = if x.nm = n then stsOf now o n (ls.take i) ++ [brSt now o x] else stsOf now o n (ls.take i) := by
  rw [take_snoc h]
  split
  · rename_i e; exact stsOf_eq now o _ e
  · rename_i e; exact stsOf_ne now o _ e

def spPairs (K : PySem.W.Frag) : Sp := fun vs H Q _ => ∃ (q p : Addr) (xs ys : List V) (cs : List Clk), vs = [.ref q, .ref p] ∧ H q = some (.lst xs) ∧ SqL K H p ys ∧ ClksAt K H xs cs ∧ ClksAt K H ys cs ∧ (∀ c ∈ cs, low c.1) ∧ cs.length ≤ 1000 ∧
  ∀ H', Same H H' → Q (.bl true) H'
def spTold (K : PySem.W.Frag) : Sp := fun vs H Q _ => ∃ (p : Addr) (as : List Addr) (ls : List Let) (now o : Int), vs = [.ref p, .int now, .int o] ∧ SqL K H p (as.map V.ref) ∧ LetsAt K H as ls ∧ (∀ x ∈ ls, x.Ok) ∧ ls.length ≤ 1000 ∧
  (¬ okOff o → ∀ H', Same H H' → Q (.str "off") H') ∧
  (okOff o → (∃ x ∈ ls, now < x.b) → ∀ H', Same H H' → Q (.str "early") H') ∧
  (okOff o → (∀ x ∈ ls, x.b ≤ now) → ∀ (q : Addr) (xs : List V) (H' : Hp), Same H H' → ClksAt K H' xs (gath now o ls) → H' q = some (.lst xs) → H q = none → Q (.ref q) H')
theorem lets_nil (ls : List Let) : PyData.eqv (.list (ls.map letD)) (.list []) = decide (ls = []) := by
  cases ls with
  | nil => rfl
  | cons x r => rfl
theorem gath_len (now o : Int) (ls : List Let) : (gath now o ls).length ≤ ls.length := by
  unfold gath
  rw [List.length_map]
  exact namesOf_len ls

/-! ### the text by places -/
def top (i : Nat) : Stmt := PySem.Challenge.pw_timestretch_k04_clocks_gathered.main.body.getD i (.Pass ⟨0, 0, 0, 0⟩)
abbrev s_check_off : Stmt := top 14
abbrev s_slack : Stmt := top 15
abbrev s_brought : Stmt := top 16
abbrev s_gathered : Stmt := top 18
abbrev s_common : Stmt := top 19
abbrev s_whole : Stmt := top 21
abbrev s_cell_at : Stmt := top 22
abbrev s_mix : Stmt := top 23
abbrev s_big : Stmt := top 24
abbrev s_off : Stmt := top 25
abbrev s_w_slack : Stmt := top 26
abbrev s_w_brought : Stmt := top 27
abbrev s_kind : Stmt := top 28
abbrev s_word : Stmt := top 29
abbrev s_names : Stmt := top 30
abbrev s_letter : Stmt := top 31
abbrev s_letters : Stmt := top 32
abbrev s_now : Stmt := top 33
abbrev s_w_gathered : Stmt := top 34
abbrev s_pairs : Stmt := top 35
abbrev s_told : Stmt := top 36
abbrev s_law : Stmt := top 37
/-! ### where things stand, and what the top has written -/
structure Ad where
  f_check_off : Addr
  d_check_off : FuncData
  f_slack : Addr
  d_slack : FuncData
  f_brought : Addr
  d_brought : FuncData
  f_gathered : Addr
  d_gathered : FuncData
  f_common : Addr
  d_common : FuncData
  f_whole : Addr
  d_whole : FuncData
  f_cell_at : Addr
  d_cell_at : FuncData
  f_mix : Addr
  d_mix : FuncData
  f_big : Addr
  d_big : FuncData
  f_off : Addr
  d_off : FuncData
  f_w_slack : Addr
  d_w_slack : FuncData
  f_w_brought : Addr
  d_w_brought : FuncData
  f_kind : Addr
  d_kind : FuncData
  f_word : Addr
  d_word : FuncData
  f_names : Addr
  d_names : FuncData
  f_letter : Addr
  d_letter : FuncData
  f_letters : Addr
  d_letters : FuncData
  f_now : Addr
  d_now : FuncData
  f_w_gathered : Addr
  d_w_gathered : FuncData
  f_pairs : Addr
  d_pairs : FuncData
  f_told : Addr
  d_told : FuncData
  f_law : Addr
  d_law : FuncData
  c_StretchError : Addr
  c_BadName : Addr
  c_BadLetter : Addr
  c_BadOff : Addr
  c_TooEarly : Addr
  c_BadCount : Addr
  c_NoAgreement : Addr
  c_TooWide : Addr
  c_TooMany : Addr
  c_NoClock : Addr
  c_NoText : Addr
def Ad.cs (a : Ad) : List Addr := [a.c_BadName, a.c_BadLetter, a.c_BadOff, a.c_TooEarly, a.c_BadCount, a.c_NoAgreement, a.c_TooWide, a.c_TooMany, a.c_NoClock, a.c_NoText]
structure Txt (K : PySem.W.Frag) (mg : Str → Option Value) (a : Ad) : Prop where
  check_off : Dfn K mg "check_off" s_check_off ["off"] a.f_check_off a.d_check_off
  slack : Dfn K mg "slack" s_slack ["passed", "off"] a.f_slack a.d_slack
  brought : Dfn K mg "brought" s_brought ["letter", "now", "off"] a.f_brought a.d_brought
  gathered : Dfn K mg "gathered" s_gathered ["letters", "now", "off"] a.f_gathered a.d_gathered
  common : Dfn K mg "common" s_common ["kept", "stretch"] a.f_common a.d_common
  whole : Dfn K mg "_law_whole" s_whole ["_law_found"] a.f_whole a.d_whole
  cell_at : Dfn K mg "_law_cell_at" s_cell_at ["_law_script", "_law_k"] a.f_cell_at a.d_cell_at
  mix : Dfn K mg "_law_mix" s_mix ["_law_cell", "_law_k"] a.f_mix a.d_mix
  big : Dfn K mg "_law_big" s_big ["_law_cell", "_law_k"] a.f_big a.d_big
  off : Dfn K mg "_law_off" s_off ["_law_cell"] a.f_off a.d_off
  w_slack : Dfn K mg "_law_slack" s_w_slack ["_law_passed", "_law_off_here"] a.f_w_slack a.d_w_slack
  w_brought : Dfn K mg "_law_brought" s_w_brought ["_law_letter_here", "_law_now_here", "_law_off_here"] a.f_w_brought a.d_w_brought
  kind : Dfn K mg "_law_kind" s_kind ["_law_e"] a.f_kind a.d_kind
  word : Dfn K mg "_law_word" s_word ["_law_cell", "_law_size"] a.f_word a.d_word
  names : Dfn K mg "_law_names" s_names ["_law_cell"] a.f_names a.d_names
  letter : Dfn K mg "_law_letter" s_letter ["_law_cell", "_law_names_here", "_law_many"] a.f_letter a.d_letter
  letters : Dfn K mg "_law_letters" s_letters ["_law_script", "_law_names_here"] a.f_letters a.d_letters
  now : Dfn K mg "_law_now" s_now ["_law_script", "_law_letters_here"] a.f_now a.d_now
  w_gathered : Dfn K mg "_law_gathered" s_w_gathered ["_law_letters_here", "_law_now_here", "_law_off_here"] a.f_w_gathered a.d_w_gathered
  pairs : Dfn K mg "_law_pairs" s_pairs ["_law_found", "_law_due"] a.f_pairs a.d_pairs
  told : Dfn K mg "_law_told" s_told ["_law_letters_here", "_law_now_here", "_law_off_here"] a.f_told a.d_told
  law : Dfn K mg "law" s_law ["_law_script"] a.f_law a.d_law
  StretchError : Err K mg "StretchError" a.c_StretchError
  BadName : Err K mg "BadName" a.c_BadName
  BadLetter : Err K mg "BadLetter" a.c_BadLetter
  BadOff : Err K mg "BadOff" a.c_BadOff
  TooEarly : Err K mg "TooEarly" a.c_TooEarly
  BadCount : Err K mg "BadCount" a.c_BadCount
  NoAgreement : Err K mg "NoAgreement" a.c_NoAgreement
  TooWide : Err K mg "TooWide" a.c_TooWide
  TooMany : Err K mg "TooMany" a.c_TooMany
  NoClock : Err K mg "NoClock" a.c_NoClock
  NoText : Err K mg "NoText" a.c_NoText
  kd_BadOff : Kd K a.cs a.c_StretchError a.c_BadOff 2
  kd_TooEarly : Kd K a.cs a.c_StretchError a.c_TooEarly 3
  b_max : mg "max" = none
  b_min : mg "min" = none
  b_list : mg "list" = none
  b_isinstance : mg "isinstance" = none
  b_bool : mg "bool" = none
  b_int : mg "int" = none
  b_len : mg "len" = none
  b_ValueError : mg "ValueError" = none
  b_range : mg "range" = none
  b_sorted : mg "sorted" = none
  b_str : mg "str" = none
  b_tuple : mg "tuple" = none
  c_GREATEST_OFF : ∃ t, mg "GREATEST_OFF" = some (.int 999 t)
section
variable {P : Program} {w : World} {K : PySem.W.Frag} {mg : Str → Option Value} {base : Heap} {a : Ad}
/-! ### check_off -/
abbrev n_check_off : List Str := ["off"]
theorem sc_check_off : FnScope ["off"] ["off"] (defScope s_check_off) := ⟨rfl, rfl, rfl, by decide +kernel, rfl, by decide +kernel, by decide +kernel⟩
theorem ok_check_off (T : Txt K mg a) : FnOk P w K mg base (L2.CX P w) 1 a.f_check_off a.d_check_off ["off"] (spCheckOff a.c_BadOff) := by
  refine T.check_off.F.okX sc_check_off (fun vs H Q E h => ?_) (fun cdv A outer s H vs Q E hr h => ?_)
  · obtain ⟨o, rfl, q, e⟩ := h
    rfl
  · obtain ⟨o, rfl, q, e⟩ := h
    have hu := hu_of hr
    obtain ⟨tk_GREATEST_OFF, hc_GREATEST_OFF⟩ := T.c_GREATEST_OFF
    refine ⟨_, (pss_one (ps_if (pt_not (pt_chain op_le op_le pe_int (pv 0) (pe_gint hc_GREATEST_OFF))) (pss_one (ps_rs rfl (takes_of rfl rfl rfl rfl) T.BadOff)) pss_nil)), ?_⟩
    refine ⟨_, rfl, _, _, rfl, rfl, _, rfl, ?_⟩
    refine ite2 (fun z => ?_) (fun z => ?_)
    · have z0 := of_decide_eq_true z
      refine ⟨_, _, rfl, rfl, _, rfl, ?_⟩
      refine ite2 (fun y => ?_) (fun y => ?_)
      · refine e fun ok => ?_
        have y2 : decide (o ≤ 999) = true := decide_eq_true ok.2
        rw [y2] at y
        cases y
      · refine q ⟨z0, ?_⟩
        by_cases h9 : o ≤ 999
        · exact h9
        · exact absurd (by rw [decide_eq_false h9]; rfl) y
    · refine ⟨_, rfl, ?_⟩
      refine iteT ?_
      exact e fun ok => z (decide_eq_true ok.1)
/-! ### slack -/
abbrev n_slack : List Str := ["passed", "off"]
theorem sc_slack : FnScope ["passed", "off"] ["passed", "off"] (defScope s_slack) := ⟨rfl, rfl, rfl, by decide +kernel, rfl, by decide +kernel, by decide +kernel⟩
theorem ok_slack (T : Txt K mg a) : FnOk P w K mg base CX0 1 a.f_slack a.d_slack ["passed", "off"] (spSlack) := by
  refine T.slack.F.ok sc_slack (fun vs H Q E h => ?_) (fun cdv A outer s H vs Q E hr h => ?_)
  · obtain ⟨p, o, rfl, o0, o1, q⟩ := h
    rfl
  · obtain ⟨p, o, rfl, o0, o1, q⟩ := h
    have hu := hu_of hr
    refine ⟨_, (pss_one (ps_ret (pe_op (op_divc (c := 1000) (by decide) (by decide)) (pe_op op_add (pe_op op_mul (pv 0) (pv 1)) pe_int) pe_int))), ?_⟩
    refine ⟨_, rfl, _, rfl, _, _, rfl, rfl, .inr ⟨by omega, by omega⟩, _, _, rfl, rfl, _, rfl, rfl, ?_⟩
    exact q
/-! ### brought -/
abbrev n_brought : List Str := ["letter", "now", "off", "_", "sent", "back", "low", "high", "shortest", "longest"]
theorem sc_brought : FnScope ["letter", "now", "off", "_", "sent", "back", "low", "high", "shortest", "longest"] ["letter", "now", "off"] (defScope s_brought) := ⟨rfl, rfl, rfl, by decide +kernel, rfl, by decide +kernel, by decide +kernel⟩
theorem ok_brought (T : Txt K mg a) : FnOk P w K mg base (L2.CX P w) 2 a.f_brought a.d_brought ["letter", "now", "off"] (spBrought K a.c_BadOff a.c_TooEarly) := by
  refine T.brought.F.okX sc_brought (fun vs H Q E h => ?_) (fun cdv A outer s H vs Q E hr h => ?_)
  · obtain ⟨t, nm, s', b, lo, hi, now, o, rfl, hT, eO, eE, q⟩ := h
    rfl
  · obtain ⟨t, nm, s', b, lo, hi, now, o, rfl, hT, eO, eE, q⟩ := h
    have hu := hu_of hr
    refine ⟨_, (pss_cons (ps_expr (pe_clX (ok_check_off T) T.check_off (hr.mono (by decide)) (takes_of rfl rfl rfl rfl) (pa_cons (pv 2) pa_nil)))
      (pss_cons (ps_asg (pv 0) (pg_tup (by rfl) (pgs_cons (pg_name (i := 3) sc_brought.nd rfl (Or.inl rfl)) (pgs_cons (pg_name (i := 4) sc_brought.nd rfl (Or.inl rfl)) (pgs_cons (pg_name (i := 5) sc_brought.nd rfl (Or.inl rfl)) (pgs_cons (pg_name (i := 6) sc_brought.nd rfl (Or.inl rfl)) (pgs_cons (pg_name (i := 7) sc_brought.nd rfl (Or.inl rfl)) pgs_nil)))))))
      (pss_cons (ps_if (pt_cmpR op_gt (pv 5) (pv 1) (nomark _)) (pss_one (ps_rs rfl (takes_of rfl rfl rfl rfl) T.TooEarly)) pss_nil)
      (pss_cons (ps_set (i := 8) sc_brought.nd rfl (Or.inl rfl) (pe_op op_sub (pv 1) (pv 5)))
      (pss_cons (ps_set (i := 9) sc_brought.nd rfl (Or.inl rfl) (pe_op op_sub (pv 1) (pv 4)))
      (pss_one (ps_ret (pe_tup (pa_cons (pe_op op_sub (pe_op op_add (pv 6) (pv 8)) (pe_cl (ok_slack T) T.slack (hr.mono (by decide)) (pa_cons (pv 8) (pa_cons (pv 2) pa_nil)))) (pa_cons (pe_op op_add (pe_op op_add (pv 7) (pv 9)) (pe_cl (ok_slack T) T.slack (hr.mono (by decide)) (pa_cons (pv 9) (pa_cons (pv 2) pa_nil)))) pa_nil)))))))))), ?_⟩
    refine ⟨_, rfl, _, rfl, fun ok => ?_, eO⟩
    refine ⟨_, rfl, t, _, rfl, hT, rfl, _, _, rfl, _, _, rfl, _, _, rfl, _, _, rfl, _, _, rfl, rfl, ?_⟩
    refine ⟨_, rfl, _, rfl, _, _, rfl, rfl, _, rfl, ?_⟩
    refine ite_dec (fun z => eE ok z) (fun z => ?_)
    obtain ⟨o0, o1⟩ := id ok
    refine ⟨_, rfl, _, rfl, _, _, rfl, rfl, ?_⟩
    refine ⟨_, rfl, _, rfl, _, _, rfl, rfl, ?_⟩
    refine ⟨_, rfl, _, rfl, _, _, rfl, rfl, _, rfl, _, rfl, _, _, rfl, by omega, by omega, _, _, rfl, rfl, ?_⟩
    refine ⟨_, rfl, _, rfl, _, _, rfl, rfl, _, rfl, _, rfl, _, _, rfl, by omega, by omega, _, _, rfl, rfl, (by show 2 ≤ sizeLine; decide), fun u nu => ?_⟩
    exact q ok (by omega) u nu
/-! ### common -/
abbrev n_common : List Str := ["kept", "stretch", "low", "high"]
theorem sc_common : FnScope ["kept", "stretch", "low", "high"] ["kept", "stretch"] (defScope s_common) := ⟨rfl, rfl, rfl, by decide +kernel, rfl, by decide +kernel, by decide +kernel⟩
theorem ok_common (T : Txt K mg a) : FnOk P w K mg base CX0 1 a.f_common a.d_common ["kept", "stretch"] (spCommon K) := by
  refine T.common.F.ok sc_common (fun vs H Q E h => ?_) (fun cdv A outer s H vs Q E hr h => ?_)
  · obtain ⟨v, t, o, x, y, rfl, hV, hT, q⟩ := h
    rfl
  · obtain ⟨v, t, o, x, y, rfl, hV, hT, q⟩ := h
    have hu := hu_of hr
    refine ⟨_, (pss_cons (ps_if (pt_cmpR op_isN (pv 0) pe_non (nomark _)) (pss_one (ps_ret pe_non)) pss_nil)
      (pss_cons (ps_set (i := 2) sc_common.nd rfl (Or.inl rfl) (pe_callB (call_max2 rfl) (by rfl) T.b_max (by decide +kernel) (pa_cons (pe_ix (ixT K) (pv 0) pe_int (fun _ _ => rfl)) (pa_cons (pe_ix (ixT K) (pv 1) pe_int (fun _ _ => rfl)) pa_nil))))
      (pss_cons (ps_set (i := 3) sc_common.nd rfl (Or.inl rfl) (pe_callB (call_min2 rfl) (by rfl) T.b_min (by decide +kernel) (pa_cons (pe_ix (ixT K) (pv 0) pe_int (fun _ _ => rfl)) (pa_cons (pe_ix (ixT K) (pv 1) pe_int (fun _ _ => rfl)) pa_nil))))
      (pss_cons (ps_if (pt_cmpR op_gt (pv 2) (pv 3) (nomark _)) (pss_one (ps_ret pe_non)) pss_nil)
      (pss_one (ps_ret (pe_tup (pa_cons (pv 2) (pa_cons (pv 3) pa_nil))))))))), ?_⟩
    cases o with
    | none =>
      cases (show v = .non from hV)
      refine ⟨_, rfl, rfl, _, rfl, ?_⟩
      refine ite_dec (fun _ => ?_) (fun z => absurd rfl z)
      exact q .non H (Same.refl H) rfl
    | some k =>
      obtain ⟨b, rfl, hK⟩ := hV
      refine ⟨_, rfl, rfl, _, rfl, ?_⟩
      refine ite_dec (fun z => nomatch z) (fun _ => ?_)
      refine ⟨_, rfl, _, _, _, _, rfl, rfl, hK, atI_nat (j := 0) rfl, _, rfl, _, _, _, _, rfl, rfl, hT, atI_nat (j := 0) rfl, _, _, rfl, ?_⟩
      refine ⟨_, rfl, _, _, _, _, rfl, rfl, hK, atI_nat (j := 1) rfl, _, rfl, _, _, _, _, rfl, rfl, hT, atI_nat (j := 1) rfl, _, _, rfl, ?_⟩
      refine ⟨_, rfl, _, rfl, _, _, rfl, rfl, _, rfl, ?_⟩
      refine ite_dec (fun z => ?_) (fun z => ?_)
      · refine q .non H (Same.refl H) ?_
        show ClV K H .non (if _ then _ else _)
        rw [if_pos z]
        rfl
      · refine ⟨_, rfl, _, rfl, (by show 2 ≤ sizeLine; decide), fun u nu => ?_⟩
        refine q (.ref u) _ (same_new nu) ?_
        show ClV K _ (.ref u) (if _ then _ else _)
        rw [if_neg z]
        exact ⟨u, rfl, SqT.of upd_same⟩
/-! ### gathered -/
abbrev n_gathered : List Str := ["letters", "now", "off", "found", "letter", "name", "stretch"]
theorem sc_gathered : FnScope ["letters", "now", "off", "found", "letter", "name", "stretch"] ["letters", "now", "off"] (defScope s_gathered) := ⟨rfl, rfl, rfl, by decide +kernel, rfl, by decide +kernel, by decide +kernel⟩
theorem ok_gathered (T : Txt K mg a) : FnOk P w K mg base (L2.CX P w) 3 a.f_gathered a.d_gathered ["letters", "now", "off"] (spGathered K a.c_BadOff a.c_TooEarly) := by
  refine T.gathered.F.okX sc_gathered (fun vs H Q E h => ?_) (fun cdv A outer s H vs Q E hr h => ?_)
  · obtain ⟨p, as, ls, now, o, rfl, hL, hA, hok, hl, eO, eE, q⟩ := h
    rfl
  · obtain ⟨p, as, ls, now, o, rfl, hL, hA, hok, hl, eO, eE, q⟩ := h
    have hu := hu_of hr
    refine ⟨_, (pss_cons (ps_expr (pe_clX (ok_check_off T) T.check_off (hr.mono (by decide)) (takes_of rfl rfl rfl rfl) (pa_cons (pv 2) pa_nil)))
      (pss_cons (ps_set (i := 3) sc_gathered.nd rfl (Or.inl rfl) pe_dnewK)
      (pss_cons (ps_for (passes_of rfl) rfl (piL K (pv 0)) (pg_name (i := 4) sc_gathered.nd rfl (Or.inl rfl)) (pss_cons (ps_set (i := 5) sc_gathered.nd rfl (Or.inl rfl) (pe_ix (ixT K) (pv 4) pe_int (fun _ _ => rfl)))
      (pss_cons (ps_set (i := 6) sc_gathered.nd rfl (Or.inl rfl) (pe_clX (ok_brought T) T.brought (hr.mono (by decide)) (takes_of rfl rfl rfl rfl) (pa_cons (pv 4) (pa_cons (pv 1) (pa_cons (pv 2) pa_nil)))))
      (pss_cons (ps_if (pt_cmp (pc_din hu (pv 5) (pv 3))) (pss_one (ps_set (i := 6) sc_gathered.nd rfl (Or.inl rfl) (pe_cl (ok_common T) T.common (hr.mono (by decide)) (pa_cons (pe_dget hu (pv 3) (pv 5) (fun _ _ => rfl)) (pa_cons (pv 6) pa_nil))))) pss_nil)
      (pss_one (ps_dput hu (pv 3) (pv 5) (pv 6) rfl))))))
      (pss_one (ps_ret (LiI.pe_listItems rfl (pv 3) (by rfl) T.b_list (by decide +kernel))))))), ?_⟩
    refine ⟨_, rfl, _, rfl, fun ok => ?_, fun bad => eO bad _ (Same.refl _)⟩
    intro d nd
    dsimp only [gName]
    generalize hH1 : upd _ d _ = H1
    obtain ⟨s1, e1⟩ := gen_new hH1 nd
    clear hH1
    refine ⟨_, rfl, p, rfl, ⟨_, s1.seq hL⟩, for_list (K := K) (a := p) (xs := as.map V.ref) (fun i σ H' => Same H H' ∧ ∃ (kvs : List (Key × V)) (v4 v5 v6 : Option V), σ = [some (.ref p), some (.int now), some (.int o), some (.ref d), v4, v5, v6] ∧
        H' d = some (.dK kvs) ∧ KvAt K H' kvs (gath now o (ls.take i)) ∧ ∀ (j : Nat) (x : Let), j < i → ls[j]? = some x → x.b ≤ now)
      ⟨s1, [], none, none, none, rfl, e1, ⟨rfl, fun _ h => nomatch h⟩, fun j x h => absurd h (Nat.not_lt_zero _)⟩ (fun i σ H' _ h => h.1.seq hL) ?_ ?_⟩
    · rintro i v σ H2 hi ⟨s2, kvs, v4, v5, v6, rfl, hd, hK, hj⟩
      obtain ⟨t, x, rfl, ha, hx, hT⟩ := hA.get hi
      have hT2 := Ts.Same.seqT s2 hT
      have xo := hok x (List.mem_of_getElem? hx)
      have hkl : kvs.length ≤ 1000 := by
        have e := congrArg List.length hK.1
        rw [List.length_map, List.length_map] at e
        have e2 : (gath now o (ls.take i)).length ≤ (ls.take i).length := by unfold gath; rw [List.length_map]; exact namesOf_len _
        rw [List.length_take] at e2
        omega
      refine ⟨_, rfl, _, _, _, _, rfl, rfl, hT2, atI_nat (j := 0) rfl, ?_⟩
      refine ⟨_, rfl, _, rfl, _, rfl, t, .str (mkS x.nm), x.s, x.b, x.lo, x.hi, now, o, rfl, hT2, fun bad => absurd ok bad, fun _ lt => eE ok ⟨x, List.mem_of_getElem? hx, lt⟩ _ s2, fun _ le u nu => ?_⟩
      dsimp only [gName]
      generalize hH3 : upd _ u _ = H3
      obtain ⟨s3, e3⟩ := gen_new hH3 nu
      clear hH3
      have hd3 := s3 _ _ hd
      have hK3 := hK.same s3
      refine seq_cut (fun σ' H' => ∃ v' : V, Same H3 H' ∧ ClV K H' v' (if x.nm ∈ namesOf (ls.take i) then joinSt (clkOf now o (ls.take i) x.nm) (brSt now o x) else comb [brSt now o x]) ∧
        σ' = [some (.ref p), some (.int now), some (.int o), some (.ref d), some (.ref t), some (.str (mkS x.nm)), some v']) (fun N hN => ?_) ?_
      · refine ⟨_, rfl, _, rfl, d, _, rfl, DGet.k (k := Sum.inr (mkS x.nm)) hd3, _, rfl, ?_⟩
        by_cases hm : x.nm ∈ namesOf (ls.take i)
        · have hm2 : x.nm ∈ (gath now o (ls.take i)).map (·.1) := by rw [gath_names]; exact hm
          obtain ⟨v0, e0, c0⟩ := hK3.2 (x.nm, clkOf now o (ls.take i) x.nm) (List.mem_map.mpr ⟨x.nm, hm, rfl⟩)
          have e0' : valV kvs (Sum.inr (mkS x.nm) : Key) = some v0 := e0
          rw [e0']
          refine iteT ?_
          have g0 : DGet H3 d (.str (mkS x.nm)) (some v0) := e0' ▸ DGet.k (k := Sum.inr (mkS x.nm)) hd3
          refine ⟨_, rfl, _, rfl, d, v0, rfl, g0, _, rfl, v0, u, clkOf now o (ls.take i) x.nm, _, _, rfl, c0, SqT.of e3, fun v' H4 s4 c4 => ?_⟩
          exact hN _ _ ⟨v', s4, by rw [if_pos hm]; exact c4, rfl⟩
        · have e0 : valV kvs (Sum.inr (mkS x.nm) : Key) = none := hK3.none_of (by rw [gath_names]; exact hm)
          rw [e0]
          refine iteF ?_
          refine hN _ _ ⟨.ref u, Same.refl _, ?_, rfl⟩
          rw [if_neg hm, comb_one (brSt_le xo ok le)]
          exact ⟨u, rfl, SqT.of e3⟩
      rintro σ' H4 ⟨v', s4, c4, rfl⟩
      have hd4 := s4 _ _ hd3
      refine ⟨_, rfl, _, rfl, _, rfl, d, _, rfl, DPut.k (k := Sum.inr (mkS x.nm)) hd4 (small1000 hkl), ?_⟩
      refine ⟨Same.mut ((s2.trans s3).trans s4) nd, putK kvs (Sum.inr (mkS x.nm)) v', some (.ref t), some (.str (mkS x.nm)), some v', rfl, upd_same, ?_, fun j y hji hy => ?_⟩
      · rw [take_snoc hx]
        exact ((hK3.same s4).put c4).off hd4
      · by_cases e : j = i
        · subst e
          rw [hx] at hy
          cases hy
          exact le
        · exact hj j y (by omega) hy
    · rintro σ H2 ⟨s2, kvs, v4, v5, v6, rfl, hd, hK, hj⟩
      refine ⟨_, rfl, d, kvs, rfl, hd, fun H3 p' ts s3 np' nt nin ep hp => ?_⟩
      rw [List.length_map, hA.1, List.take_length] at hK
      refine q ok (fun x hx => ?_) p' _ H3 (s2.trans s3) (ClksAt.items (hK.same s3) hp) ep (s2.free np')
      obtain ⟨j, hjx⟩ := List.getElem?_of_mem hx
      exact hj j x (by rw [List.length_map, hA.1]; exact (List.getElem?_eq_some_iff.mp hjx).1) hjx
/-! ### _law_whole -/
abbrev n_whole : List Str := ["_law_found"]
theorem sc_whole : FnScope ["_law_found"] ["_law_found"] (defScope s_whole) := ⟨rfl, rfl, rfl, by decide +kernel, rfl, by decide +kernel, by decide +kernel⟩
theorem ok_whole (T : Txt K mg a) : FnOk P w K mg base CX0 1 a.f_whole a.d_whole ["_law_found"] (spWhole K) := by
  refine T.whole.F.ok sc_whole (fun vs H Q E h => ?_) (fun cdv A outer s H vs Q E hr h => ?_)
  · obtain ⟨i, rfl, q⟩ := h
    rfl
  · obtain ⟨i, rfl, q⟩ := h
    have hu := hu_of hr
    refine ⟨_, (pss_one (ps_ret (pe_and (pe_callB (isiK K) (by rfl) T.b_isinstance (by decide +kernel) (pa_cons (pv 0) (pa_cons (pe_bty (n := "int") T.b_int (by decide +kernel)) pa_nil))) (pe_one (pe_not (pe_callB (isiK K) (by rfl) T.b_isinstance (by decide +kernel) (pa_cons (pv 0) (pa_cons (pe_bty (n := "bool") T.b_bool (by decide +kernel)) pa_nil)))))))), ?_⟩
    refine ⟨_, rfl, _, _, _, _, true, rfl, .ty _, .base (.int i), kit_ty (by decide +kernel), _, rfl, ?_⟩
    refine iteT ?_
    refine ⟨_, rfl, _, _, _, _, false, rfl, .ty _, .base (.int i), kit_ty (by decide +kernel), _, rfl, ?_⟩
    exact q
/-! ### _law_cell_at -/
abbrev n_cell_at : List Str := ["_law_script", "_law_k"]
theorem sc_cell_at : FnScope ["_law_script", "_law_k"] ["_law_script", "_law_k"] (defScope s_cell_at) := ⟨rfl, rfl, rfl, by decide +kernel, rfl, by decide +kernel, by decide +kernel⟩
theorem ok_cell_at (T : Txt K mg a) : FnOk P w K mg base CX0 1 a.f_cell_at a.d_cell_at ["_law_script", "_law_k"] (spCellAt K) := by
  refine T.cell_at.F.ok sc_cell_at (fun vs H Q E h => ?_) (fun cdv A outer s H vs Q E hr h => ?_)
  · obtain ⟨l, ns, j, rfl, hS, q⟩ := h
    rfl
  · obtain ⟨l, ns, j, rfl, hS, q⟩ := h
    have hu := hu_of hr
    refine ⟨_, (pss_cons (ps_if (pt_cmpR op_lt (pv 1) (pe_callB (lenK K) (by rfl) T.b_len boot_len (pa_cons (pv 0) pa_nil)) (nomark _)) (pss_one (ps_ret (pe_ix (ixL K) (pv 0) (pv 1) (fun _ _ => rfl)))) pss_nil)
      (pss_one (ps_ret pe_int))), ?_⟩
    refine ⟨_, rfl, _, rfl, _, _, rfl, .inl hS, _, _, rfl, rfl, _, rfl, ?_⟩
    have el : (ns.map V.int).length = ns.length := List.length_map ..
    refine ite2 (fun z => ?_) (fun z => ?_)
    · have z' : j < ns.length := by have := of_decide_eq_true z; omega
      have e : (ns.map V.int)[j]? = some (.int (ns.getD j 0)) := by rw [List.getElem?_map, List.getD_eq_getElem?_getD, List.getElem?_eq_getElem z']; rfl
      exact ⟨_, rfl, _, rfl, _, _, _, _, rfl, rfl, hS, atI_nat e, q⟩
    · have z' : ¬ (j < ns.length) := fun y => z (decide_eq_true (by omega))
      have e : ns.getD j 0 = 0 := by rw [List.getD_eq_getElem?_getD, List.getElem?_eq_none (by omega)]; rfl
      rw [e] at q
      exact q
/-! ### _law_mix -/
abbrev n_mix : List Str := ["_law_cell", "_law_k", "_law_number"]
theorem sc_mix : FnScope ["_law_cell", "_law_k", "_law_number"] ["_law_cell", "_law_k"] (defScope s_mix) := ⟨rfl, rfl, rfl, by decide +kernel, rfl, by decide +kernel, by decide +kernel⟩
theorem ok_mix (T : Txt K mg a) : FnOk P w K mg base CX0 1 a.f_mix a.d_mix ["_law_cell", "_law_k"] (spMix) := by
  refine T.mix.F.ok sc_mix (fun vs H Q E h => ?_) (fun cdv A outer s H vs Q E hr h => ?_)
  · obtain ⟨c, k, rfl, q⟩ := h
    rfl
  · obtain ⟨c, k, rfl, q⟩ := h
    have hu := hu_of hr
    refine ⟨_, (pss_cons (ps_set (i := 2) sc_mix.nd rfl (Or.inl rfl) (pe_op (op_modc (c := 1000003) (by decide)) (pe_op (op_mulc (c := 48271) (by decide)) (pe_op op_add (pe_op op_add (pv 0) (pe_op (op_cmul (c := 7919) (by decide)) pe_int (pv 1))) pe_int) pe_int) pe_int))
      (pss_one (ps_ret (pe_op (op_modc (c := 999983) (by decide)) (pe_op op_mul (pv 2) (pv 2)) pe_int)))), ?_⟩
    refine ⟨_, rfl, _, rfl, _, rfl, rfl, _, _, rfl, rfl, _, _, rfl, rfl, _, rfl, rfl, _, rfl, rfl, _, rfl, _, rfl, _, _, rfl, rfl, .inl ⟨by omega, by omega⟩, _, rfl, rfl, ?_⟩
    exact q _ (Int.emod_nonneg _ (by decide)) (Int.emod_lt_of_pos _ (by decide))
/-! ### _law_big -/
abbrev n_big : List Str := ["_law_cell", "_law_k", "_law_number"]
theorem sc_big : FnScope ["_law_cell", "_law_k", "_law_number"] ["_law_cell", "_law_k"] (defScope s_big) := ⟨rfl, rfl, rfl, by decide +kernel, rfl, by decide +kernel, by decide +kernel⟩
theorem ok_big (T : Txt K mg a) : FnOk P w K mg base CX0 2 a.f_big a.d_big ["_law_cell", "_law_k"] (spBig) := by
  refine T.big.F.ok sc_big (fun vs H Q E h => ?_) (fun cdv A outer s H vs Q E hr h => ?_)
  · obtain ⟨c, k, rfl, q⟩ := h
    rfl
  · obtain ⟨c, k, rfl, q⟩ := h
    have hu := hu_of hr
    refine ⟨_, (pss_cons (ps_set (i := 2) sc_big.nd rfl (Or.inl rfl) (pe_cl (ok_mix T) T.mix (hr.mono (by decide)) (pa_cons (pv 0) (pa_cons (pv 1) pa_nil))))
      (pss_cons (ps_if (pt_cmpR op_eq (pe_op (op_modc (c := 4) (by decide)) (pe_cl (ok_mix T) T.mix (hr.mono (by decide)) (pa_cons (pv 0) (pa_cons (pe_op op_add (pv 1) pe_int) pa_nil))) pe_int) pe_int (nomark _)) (pss_one (ps_ret (pe_op (op_modc (c := 30) (by decide)) (pv 2) pe_int))) pss_nil)
      (pss_cons (ps_if (pt_cmpR op_eq (pe_op (op_modc (c := 4) (by decide)) (pe_cl (ok_mix T) T.mix (hr.mono (by decide)) (pa_cons (pv 0) (pa_cons (pe_op op_add (pv 1) pe_int) pa_nil))) pe_int) pe_int (nomark _)) (pss_one (ps_ret (pe_op (op_modc (c := 3000) (by decide)) (pv 2) pe_int))) pss_nil)
      (pss_cons (ps_if (pt_cmpR op_eq (pe_op (op_modc (c := 4) (by decide)) (pe_cl (ok_mix T) T.mix (hr.mono (by decide)) (pa_cons (pv 0) (pa_cons (pe_op op_add (pv 1) pe_int) pa_nil))) pe_int) pe_int (nomark _)) (pss_one (ps_ret (pe_ix (ixL K) (pe_lst (pa_cons pe_int (pa_cons pe_int (pa_cons pe_pow12 (pa_cons (pe_op op_sub pe_pow12 pe_int) pa_nil))))) (pe_op (op_modc (c := 4) (by decide)) (pv 2) pe_int) (fun _ _ => rfl)))) pss_nil)
      (pss_one (ps_ret (pe_op op_mod (pe_op op_add (pe_op (op_mulc (c := 1000003) (by decide)) (pv 2) pe_int) (pe_cl (ok_mix T) T.mix (hr.mono (by decide)) (pa_cons (pv 0) (pa_cons (pe_op op_add (pv 1) pe_int) pa_nil)))) (pe_op op_add pe_pow12 pe_int)))))))), ?_⟩
    refine ⟨_, rfl, _, rfl, _, _, rfl, fun m m0 m1 => ?_⟩
    refine ⟨_, rfl, _, rfl, _, _, rfl, rfl, _, _, rfl, fun x x0 x1 => ?_⟩
    refine ⟨_, rfl, rfl, rfl, _, rfl, ?_⟩
    refine ite2 (fun z => ?_) (fun z => ?_)
    · refine ⟨_, rfl, _, rfl, rfl, ?_⟩
      exact q _ H (by omega) (by omega) (Same.refl H)
    refine ⟨_, rfl, _, rfl, _, _, rfl, rfl, _, _, rfl, fun y y0 y1 => ?_⟩
    refine ⟨_, rfl, rfl, rfl, _, rfl, ?_⟩
    refine ite2 (fun z => ?_) (fun z => ?_)
    · refine ⟨_, rfl, _, rfl, rfl, ?_⟩
      exact q _ H (by omega) (by omega) (Same.refl H)
    refine ⟨_, rfl, _, rfl, _, _, rfl, rfl, _, _, rfl, fun u u0 u1 => ?_⟩
    refine ⟨_, rfl, rfl, rfl, _, rfl, ?_⟩
    refine ite2 (fun z => ?_) (fun z => ?_)
    · refine ⟨_, _, rfl, rfl, (by show 4 ≤ sizeLine; decide), fun p np => ?_⟩
      refine ⟨_, rfl, _, rfl, rfl, ?_⟩
      refine ix_int (fun j => 0 ≤ j ∧ j ≤ 1000000000000) SqL.here (Int.emod_nonneg _ (by decide)) (Int.emod_lt_of_pos _ (by decide)) (allc ⟨_, rfl, by decide⟩ (allc ⟨_, rfl, by decide⟩ (allc ⟨_, rfl, by decide⟩ (all1 ⟨_, rfl, by decide⟩)))) fun j hj => ?_
      exact q j _ hj.1 hj.2 (same_new np)
    refine ⟨_, rfl, _, rfl, rfl, _, rfl, _, rfl, _, _, rfl, rfl, _, _, rfl, fun v v0 v1 => ?_⟩
    refine ⟨_, _, rfl, rfl, _, _, rfl, rfl, _, _, rfl, rfl, (by show (0 : Int) < 1000000000000 + 1; decide), ?_⟩
    exact q _ H (Int.emod_nonneg _ (by decide)) (Int.le_of_lt_add_one (Int.emod_lt_of_pos _ (by decide))) (Same.refl H)
/-! ### _law_off -/
abbrev n_off : List Str := ["_law_cell"]
theorem sc_off : FnScope ["_law_cell"] ["_law_cell"] (defScope s_off) := ⟨rfl, rfl, rfl, by decide +kernel, rfl, by decide +kernel, by decide +kernel⟩
theorem ok_off (T : Txt K mg a) : FnOk P w K mg base CX0 2 a.f_off a.d_off ["_law_cell"] (spOff) := by
  refine T.off.F.ok sc_off (fun vs H Q E h => ?_) (fun cdv A outer s H vs Q E hr h => ?_)
  · obtain ⟨c, rfl, q⟩ := h
    rfl
  · obtain ⟨c, rfl, q⟩ := h
    have hu := hu_of hr
    refine ⟨_, (pss_one (ps_ret (pe_ix (ixL K) (pe_lst (pa_cons pe_int (pa_cons pe_int (pa_cons pe_int (pa_cons pe_int (pa_cons (pe_op (op_modc (c := 30) (by decide)) (pe_cl (ok_mix T) T.mix (hr.mono (by decide)) (pa_cons (pv 0) (pa_cons pe_int pa_nil))) pe_int) (pa_cons (pe_op (op_modc (c := 1000) (by decide)) (pe_cl (ok_mix T) T.mix (hr.mono (by decide)) (pa_cons (pv 0) (pa_cons pe_int pa_nil))) pe_int) pa_nil))))))) (pe_op (op_modc (c := 6) (by decide)) (pv 0) pe_int) (fun _ _ => rfl)))), ?_⟩
    refine ⟨_, rfl, _, _, rfl, fun x x0 x1 => ?_⟩
    refine ⟨_, rfl, rfl, _, rfl, _, _, rfl, fun y y0 y1 => ?_⟩
    refine ⟨_, rfl, rfl, (by show 6 ≤ sizeLine; decide), fun p np => ?_⟩
    refine ⟨_, rfl, _, rfl, rfl, ?_⟩
    refine ix_int (fun j => 0 ≤ j ∧ j ≤ 999) SqL.here (Int.emod_nonneg _ (by decide)) (Int.emod_lt_of_pos _ (by decide)) (allc ⟨_, rfl, by decide⟩ (allc ⟨_, rfl, by decide⟩ (allc ⟨_, rfl, by decide⟩ (allc ⟨_, rfl, by decide⟩ (allc ⟨_, rfl, by omega⟩ (all1 ⟨_, rfl, by omega⟩)))))) fun j hj => ?_
    exact q j _ hj.1 hj.2 (same_new np)
/-! ### _law_slack -/
abbrev n_w_slack : List Str := ["_law_passed", "_law_off_here", "_law_most"]
theorem sc_w_slack : FnScope ["_law_passed", "_law_off_here", "_law_most"] ["_law_passed", "_law_off_here"] (defScope s_w_slack) := ⟨rfl, rfl, rfl, by decide +kernel, rfl, by decide +kernel, by decide +kernel⟩
theorem ok_w_slack (T : Txt K mg a) : FnOk P w K mg base CX0 1 a.f_w_slack a.d_w_slack ["_law_passed", "_law_off_here"] (spSlack) := by
  refine T.w_slack.F.ok sc_w_slack (fun vs H Q E h => ?_) (fun cdv A outer s H vs Q E hr h => ?_)
  · obtain ⟨p, o, rfl, o0, o1, q⟩ := h
    rfl
  · obtain ⟨p, o, rfl, o0, o1, q⟩ := h
    have hu := hu_of hr
    refine ⟨_, (pss_cons (ps_set (i := 2) sc_w_slack.nd rfl (Or.inl rfl) (pe_op (op_divc (c := 1000) (by decide) (by decide)) (pe_op op_mul (pv 0) (pv 1)) pe_int))
      (pss_cons (ps_if (pt_cmpR op_lt (pe_op (op_mulc (c := 1000) (by decide)) (pv 2) pe_int) (pe_op op_mul (pv 0) (pv 1)) (nomark _)) (pss_one (ps_set (i := 2) sc_w_slack.nd rfl (Or.inl rfl) (pe_op op_add (pv 2) pe_int))) pss_nil)
      (pss_one (ps_ret (pv 2))))), ?_⟩
    refine ⟨_, rfl, _, rfl, _, _, rfl, rfl, .inr ⟨by omega, by omega⟩, _, rfl, rfl, ?_⟩
    refine ⟨_, rfl, _, rfl, rfl, _, rfl, _, rfl, _, _, rfl, rfl, .inr ⟨by omega, by omega⟩, _, _, rfl, rfl, _, rfl, ?_⟩
    have e : slk p o = (p * o + 999) / 1000 := rfl
    refine ite2 (fun z => ?_) (fun z => ?_)
    · have z' := of_decide_eq_true z
      refine ⟨_, rfl, _, _, rfl, rfl, _, rfl, ?_⟩
      have e2 : p * o / 1000 + 1 = slk p o := by omega
      rw [← e2] at q
      exact q
    · have z' : ¬ (p * o / 1000 * 1000 < p * o) := fun y => z (decide_eq_true y)
      refine ⟨_, rfl, ?_⟩
      have e2 : p * o / 1000 = slk p o := by omega
      rw [← e2] at q
      exact q
/-! ### _law_brought -/
abbrev n_w_brought : List Str := ["_law_letter_here", "_law_now_here", "_law_off_here", "_law_name", "_law_sent", "_law_back", "_law_low", "_law_high"]
theorem sc_w_brought : FnScope ["_law_letter_here", "_law_now_here", "_law_off_here", "_law_name", "_law_sent", "_law_back", "_law_low", "_law_high"] ["_law_letter_here", "_law_now_here", "_law_off_here"] (defScope s_w_brought) := ⟨rfl, rfl, rfl, by decide +kernel, rfl, by decide +kernel, by decide +kernel⟩
theorem ok_w_brought (T : Txt K mg a) : FnOk P w K mg base CX0 2 a.f_w_brought a.d_w_brought ["_law_letter_here", "_law_now_here", "_law_off_here"] (spLawBrought K) := by
  refine T.w_brought.F.ok sc_w_brought (fun vs H Q E h => ?_) (fun cdv A outer s H vs Q E hr h => ?_)
  · obtain ⟨t, nm, s', b, lo, hi, now, o, rfl, hT, ok, q⟩ := h
    rfl
  · obtain ⟨t, nm, s', b, lo, hi, now, o, rfl, hT, ok, q⟩ := h
    have hu := hu_of hr
    refine ⟨_, (pss_cons (ps_asg (pv 0) (pg_tup (by rfl) (pgs_cons (pg_name (i := 3) sc_w_brought.nd rfl (Or.inl rfl)) (pgs_cons (pg_name (i := 4) sc_w_brought.nd rfl (Or.inl rfl)) (pgs_cons (pg_name (i := 5) sc_w_brought.nd rfl (Or.inl rfl)) (pgs_cons (pg_name (i := 6) sc_w_brought.nd rfl (Or.inl rfl)) (pgs_cons (pg_name (i := 7) sc_w_brought.nd rfl (Or.inl rfl)) pgs_nil)))))))
      (pss_one (ps_ret (pe_tup (pa_cons (pe_op op_sub (pe_op op_sub (pe_op op_add (pv 6) (pv 1)) (pv 5)) (pe_cl (ok_w_slack T) T.w_slack (hr.mono (by decide)) (pa_cons (pe_op op_sub (pv 1) (pv 5)) (pa_cons (pv 2) pa_nil)))) (pa_cons (pe_op op_add (pe_op op_sub (pe_op op_add (pv 7) (pv 1)) (pv 4)) (pe_cl (ok_w_slack T) T.w_slack (hr.mono (by decide)) (pa_cons (pe_op op_sub (pv 1) (pv 4)) (pa_cons (pv 2) pa_nil)))) pa_nil)))))), ?_⟩
    obtain ⟨o0, o1⟩ := id ok
    refine ⟨_, rfl, t, _, rfl, hT, rfl, _, _, rfl, _, _, rfl, _, _, rfl, _, _, rfl, _, _, rfl, rfl, ?_⟩
    refine ⟨_, rfl, _, rfl, _, _, rfl, rfl, _, rfl, _, _, rfl, rfl, _, rfl, _, rfl, _, _, rfl, rfl, _, rfl, _, _, rfl, by omega, by omega, _, _, rfl, rfl, ?_⟩
    refine ⟨_, rfl, _, rfl, _, _, rfl, rfl, _, rfl, _, _, rfl, rfl, _, rfl, _, rfl, _, _, rfl, rfl, _, rfl, _, _, rfl, by omega, by omega, _, _, rfl, rfl, (by show 2 ≤ sizeLine; decide), fun u nu => ?_⟩
    have e1 : brLo b lo now o = lo + now - b - slk (now - b) o := by unfold brLo; omega
    have e2 : brHi s' hi now o = hi + now - s' + slk (now - s') o := by unfold brHi; omega
    rw [e1, e2] at q
    exact q u nu
/-! ### _law_kind -/
abbrev n_kind : List Str := ["_law_e", "_law_kinds", "_law_words"]
theorem sc_kind : FnScope ["_law_e", "_law_kinds", "_law_words"] ["_law_e"] (defScope s_kind) := ⟨rfl, rfl, rfl, by decide +kernel, rfl, by decide +kernel, by decide +kernel⟩
--own
theorem ok_kind (T : Txt K mg a) : FnE P w K mg base 1 a.f_kind a.d_kind ["_law_e"] (spKind K a.cs a.c_StretchError) := by
  refine fnE_of T.kind.F sc_kind (fun a c vs H Q E h => ?_) (fun cdv A outer s H vs Q E p c hz hf hr h => ?_)
  · obtain ⟨D, j, _, rfl, _⟩ := h
    rfl
  · obtain ⟨D, j, rfl, rfl, C, q⟩ := h
    refine ⟨_, (pss_cons (ps_set (i := 1) sc_kind.nd rfl (Or.inl rfl) (pe_lst (pa_cons (pe_callB (call_isP C.ex List.mem_cons_self hz hf) (by rfl) T.b_isinstance (by decide +kernel) (pa_cons (pv 0) (pa_cons (pe_gref T.BadName.g) pa_nil))) (pa_cons (pe_callB (call_isP C.ex List.mem_cons_self hz hf) (by rfl) T.b_isinstance (by decide +kernel) (pa_cons (pv 0) (pa_cons (pe_gref T.BadLetter.g) pa_nil))) (pa_cons (pe_callB (call_isP C.ex List.mem_cons_self hz hf) (by rfl) T.b_isinstance (by decide +kernel) (pa_cons (pv 0) (pa_cons (pe_gref T.BadOff.g) pa_nil))) (pa_cons (pe_callB (call_isP C.ex List.mem_cons_self hz hf) (by rfl) T.b_isinstance (by decide +kernel) (pa_cons (pv 0) (pa_cons (pe_gref T.TooEarly.g) pa_nil))) pa_nil))))))
      (pss_cons (ps_set (i := 1) sc_kind.nd rfl (Or.inl rfl) (pe_op op_cat (pv 1) (pe_lst (pa_cons (pe_callB (call_isP C.ex List.mem_cons_self hz hf) (by rfl) T.b_isinstance (by decide +kernel) (pa_cons (pv 0) (pa_cons (pe_gref T.BadCount.g) pa_nil))) (pa_cons (pe_callB (call_isP C.ex List.mem_cons_self hz hf) (by rfl) T.b_isinstance (by decide +kernel) (pa_cons (pv 0) (pa_cons (pe_gref T.NoAgreement.g) pa_nil))) (pa_cons (pe_callB (call_isP C.ex List.mem_cons_self hz hf) (by rfl) T.b_isinstance (by decide +kernel) (pa_cons (pv 0) (pa_cons (pe_gref T.TooWide.g) pa_nil))) pa_nil))))))
      (pss_cons (ps_set (i := 1) sc_kind.nd rfl (Or.inl rfl) (pe_op op_cat (pv 1) (pe_lst (pa_cons (pe_callB (call_isP C.ex List.mem_cons_self hz hf) (by rfl) T.b_isinstance (by decide +kernel) (pa_cons (pv 0) (pa_cons (pe_gref T.TooMany.g) pa_nil))) (pa_cons (pe_callB (call_isP C.ex List.mem_cons_self hz hf) (by rfl) T.b_isinstance (by decide +kernel) (pa_cons (pv 0) (pa_cons (pe_gref T.NoClock.g) pa_nil))) (pa_cons (pe_callB (call_isP C.ex List.mem_cons_self hz hf) (by rfl) T.b_isinstance (by decide +kernel) (pa_cons (pv 0) (pa_cons (pe_gref T.NoText.g) pa_nil))) pa_nil))))))
      (pss_cons (ps_if (PW.pt (pw_or (pt_cmpR op_ne (pe_bm PySem.F.plainAttrs_list PySem.F.slot_list_count PySem.F.type_list_count mt_count (pv 1) (pa_cons pe_bl pa_nil)) pe_int (nomark _)) (pw_or1 (pt_not (pt_val (pe_callB (call_isP C.ex List.mem_cons_self hz hf) (by rfl) T.b_isinstance (by decide +kernel) (pa_cons (pv 0) (pa_cons (pe_bty (n := "ValueError") T.b_ValueError (by decide +kernel)) pa_nil)))))))) (pss_one (ps_ret pe_str)) pss_nil)
      (pss_cons (ps_set (i := 2) sc_kind.nd rfl (Or.inl rfl) (pe_lst (pa_cons pe_str (pa_cons pe_str (pa_cons pe_str (pa_cons pe_str (pa_cons pe_str (pa_cons pe_str (pa_cons pe_str (pa_cons pe_str (pa_cons pe_str (pa_cons pe_str pa_nil))))))))))))
      (pss_one (ps_ret (pe_ix (ixL K) (pv 2) (pe_bm PySem.F.plainAttrs_list PySem.F.slot_list_index PySem.F.type_list_index mt_index (pv 1) (pa_cons pe_bl pa_nil)) (fun _ _ => rfl))))))))), ?_⟩
    refine ⟨_, rfl, _, _, _, rfl, (fun _ z => z), C.bit 0 _ rfl, _, rfl, _, _, _, rfl, (fun _ z => z), C.bit 1 _ rfl, _, rfl, _, _, _, rfl, (fun _ z => z), C.bit 2 _ rfl, _, rfl, _, _, _, rfl, (fun _ z => z), C.bit 3 _ rfl, (by show 4 ≤ sizeLine; decide), fun p1 n1 => ?_⟩
    refine ⟨_, rfl, _, rfl, _, _, _, rfl, (fun _ z => z), C.bit 4 _ rfl, _, rfl, _, _, _, rfl, (fun _ z => z), C.bit 5 _ rfl, _, rfl, _, _, _, rfl, (fun _ z => z), C.bit 6 _ rfl, (by show 3 ≤ sizeLine; decide), fun p2 n2 => ?_⟩
    refine ⟨_, _, _, _, rfl, rfl, (upd_ne (ne_of_none upd_same n2)).trans upd_same, upd_same, (by show 7 ≤ sizeLine; decide), fun p3 n3 => ?_⟩
    refine ⟨_, rfl, _, rfl, _, _, _, rfl, (fun _ z => z), C.bit 7 _ rfl, _, rfl, _, _, _, rfl, (fun _ z => z), C.bit 8 _ rfl, _, rfl, _, _, _, rfl, (fun _ z => z), C.bit 9 _ rfl, (by show 3 ≤ sizeLine; decide), fun p4 n4 => ?_⟩
    refine ⟨_, _, _, _, rfl, rfl, (upd_ne (ne_of_none upd_same n4)).trans upd_same, upd_same, (by show 10 ≤ sizeLine; decide), fun p5 n5 => ?_⟩
    refine ⟨_, rfl, .inl ⟨rfl, _, SqL.here⟩, _, kbits j, _, rfl, rfl, SqL.here, rfl, kbits_flat j, rfl, _, rfl, ?_⟩
    refine iteNS (by rw [kbits_count C.lt]; rfl) ?_
    refine ⟨_, rfl, _, _, _, rfl, (fun _ z => z), C.ve, _, rfl, ?_⟩
    refine iteF ?_
    refine ⟨(by show 10 ≤ sizeLine; decide), fun p6 n6 => ?_⟩
    refine ⟨_, rfl, _, rfl, ?_⟩
    have ne56 : p5 ≠ p6 := ne_of_none upd_same n6
    refine ⟨.inl ⟨rfl, _, SqL.of ((upd_ne ne56).trans upd_same)⟩, _, kbits j, _, j, _, rfl, rfl, SqL.of ((upd_ne ne56).trans upd_same), rfl, kbits_flat j, kbits_at C.lt, rfl, kbits_no C.lt, ?_⟩
    refine ⟨_, kwords.map V.str, _, _, rfl, rfl, SqL.here, kword_at C.lt, ?_⟩
    refine q _ ?_
    exact ((((((same_new n1).trans (same_new n2)).trans (same_new n3)).trans (same_new n4)).trans (same_new n5)).trans (same_new n6))

/-! ### _law_word -/
abbrev n_word : List Str := ["_law_cell", "_law_size", "_law_word_here", "_law_k"]
theorem sc_word : FnScope ["_law_cell", "_law_size", "_law_word_here", "_law_k"] ["_law_cell", "_law_size"] (defScope s_word) := ⟨rfl, rfl, rfl, by decide +kernel, rfl, by decide +kernel, by decide +kernel⟩
theorem ok_word (T : Txt K mg a) : FnOk P w K mg base CX0 2 a.f_word a.d_word ["_law_cell", "_law_size"] (spWord) := by
  refine T.word.F.ok sc_word (fun vs H Q E h => ?_) (fun cdv A outer s H vs Q E hr h => ?_)
  · obtain ⟨c, n, rfl, n0, n1, q⟩ := h
    rfl
  · obtain ⟨c, n, rfl, n0, n1, q⟩ := h
    have hu := hu_of hr
    refine ⟨_, (pss_cons (ps_set (i := 2) sc_word.nd rfl (Or.inl rfl) (pe_strC (l := []) (by decide +kernel)))
      (pss_cons (ps_for PassesOwn.never rfl (pi_range1 rfl T.b_range (pa_cons (pv 1) pa_nil)) (pg_name (i := 3) sc_word.nd rfl (Or.inl rfl)) (pss_one (ps_set (i := 2) sc_word.nd rfl (Or.inl rfl) (pe_op op_addC (pv 2) (pe_ix ix_C (pe_strC (l := [97, 98, 99, 100, 101, 102, 103, 104, 105, 106, 107, 108, 109, 110, 111, 112, 113, 114, 115, 116, 117, 118, 119, 120, 121, 122]) (by decide +kernel)) (pe_op (op_modc (c := 26) (by decide)) (pe_cl (ok_mix T) T.mix (hr.mono (by decide)) (pa_cons (pv 0) (pa_cons (pe_op op_add (pv 3) pe_int) pa_nil))) pe_int) (fun _ _ => rfl))))))
      (pss_one (ps_ret (pv 2))))), ?_⟩
    refine ⟨_, rfl, n, rfl, by omega, by omega, for_range (lo := 0) (n := n.toNat) (fun i σ H' => H = H' ∧ ∃ (z : List Nat) (v : Option V), σ = [some (.int c), some (.int n), some (.str (mkS z)), v] ∧ z.length = i ∧ low z)
      ⟨rfl, [], none, rfl, rfl, fun _ h => nomatch h⟩ ?_ ?_⟩
    · rintro i σ H' hi ⟨rfl, z, v, rfl, hz, lz⟩
      refine ⟨_, rfl, _, rfl, _, rfl, _, _, rfl, rfl, _, _, rfl, fun m m0 m1 => ?_⟩
      obtain ⟨j, hj⟩ := Int.eq_ofNat_of_zero_le (Int.emod_nonneg m (by decide : (26 : Int) ≠ 0))
      have hj26 : j < 26 := by omega
      refine ⟨_, rfl, rfl, _, j, 97 + j, rfl, by dsimp only; rw [hj], by decide, alphaL hj26, ?_⟩
      refine ⟨_, _, rfl, rfl, by rw [hz]; show i + 1 ≤ 1000000; omega, ?_⟩
      refine ⟨rfl, z ++ [97 + j], some (.int (0 + (i : Int))), rfl, by rw [List.length_append, hz]; rfl, fun ch hc => ?_⟩
      rcases List.mem_append.mp hc with h | h
      · exact lz ch h
      · rw [List.mem_singleton] at h
        omega
    · rintro σ H' ⟨rfl, z, v, rfl, hz, lz⟩
      exact ⟨_, rfl, q z (by omega) lz⟩
/-! ### _law_names -/
abbrev n_names : List Str := ["_law_cell", "_law_base", "_law_at", "_law_signs", "_law_k"]
theorem sc_names : FnScope ["_law_cell", "_law_base", "_law_at", "_law_signs", "_law_k"] ["_law_cell"] (defScope s_names) := ⟨rfl, rfl, rfl, by decide +kernel, rfl, by decide +kernel, by decide +kernel⟩
theorem ok_names (T : Txt K mg a) : FnOk P w K mg base CX0 3 a.f_names a.d_names ["_law_cell"] (spNames) := by
  refine T.names.F.ok sc_names (fun vs H Q E h => ?_) (fun cdv A outer s H vs Q E hr h => ?_)
  · obtain ⟨c, rfl, q⟩ := h
    rfl
  · obtain ⟨c, rfl, q⟩ := h
    have hu := hu_of hr
    refine ⟨_, (pss_cons (ps_set (i := 1) sc_names.nd rfl (Or.inr rfl) (pe_cl (ok_word T) T.word (hr.mono (by decide)) (pa_cons (pv 0) (pa_cons (pe_op (op_modc (c := 11) (by decide)) (pv 0) pe_int) pa_nil))))
      (pss_cons (ps_set (i := 2) sc_names.nd rfl (Or.inr rfl) (pe_op (op_modc (c := 11) (by decide)) (pe_cl (ok_mix T) T.mix (hr.mono (by decide)) (pa_cons (pv 0) (pa_cons pe_int pa_nil))) pe_int))
      (pss_cons (ps_set (i := 3) sc_names.nd rfl (Or.inr rfl) (pe_strC (l := [97, 98, 99, 100, 101, 102, 103, 104, 105, 106, 107, 108, 109, 110, 111, 112, 113, 114, 115, 116, 117, 118, 119, 120, 121, 122]) (by decide +kernel)))
      (pss_one (ps_ret (pe_lc (own := [("_law_k", 4)]) (g := gName 4) (tt := tYes) rfl sc_names.nd (pi_range1 rfl T.b_range (pa_cons pe_int pa_nil)) (blkOk_by (N := n_names) (sc := defScope s_names) (by decide +kernel)) (fun _ _ _ _ _ => pg_name (i := 4) sc_names.nd rfl (Or.inl rfl)) (fun _ _ _ _ _ => pts_nil) (fun _ _ _ _ _ => (pe_op op_addC (pe_op op_addC (pe_op op_addC (pe_slice sl_to (pv 1) po_none (po_some (pv 2))) (pe_ix ix_C (pv 3) (pe_op (op_modc (c := 26) (by decide)) (pv 4) pe_int) (fun _ _ => rfl))) (pe_ix (ixL K) (pe_lst (pa_cons (pe_strC (l := []) (by decide +kernel)) (pa_cons (pe_strC (l := [122]) (by decide +kernel)) pa_nil))) (pe_op (op_divc (c := 26) (by decide) (by decide)) (pv 4) pe_int) (fun _ _ => rfl))) (pe_slice sl_from (pv 1) (po_some (pv 2)) po_none))))))))), ?_⟩
    refine ⟨_, rfl, _, rfl, _, rfl, rfl, _, _, rfl, Int.emod_nonneg _ (by decide), by omega, fun b hb lb => ?_⟩
    refine ⟨_, rfl, _, _, rfl, fun m m0 m1 => ?_⟩
    refine ⟨_, rfl, rfl, ?_⟩
    have hb10 : b.length ≤ 10 := by omega
    obtain ⟨j, hj⟩ := Int.eq_ofNat_of_zero_le (Int.emod_nonneg m (by decide : (11 : Int) ≠ 0))
    dsimp only [gName]
    rw [hj]
    have hj10 : j ≤ 10 := by omega
    refine ⟨42, rfl, by decide, by decide, fun D nD => lc_range (lo := 0) (n := 42) (fun i H' => Same H H' ∧ H' D = some (.lst (txs ((List.range i).map (nmL b j))))) ⟨same_new nD, upd_same⟩ ?_ ?_⟩
    · rintro i H' hi ⟨s1, eD⟩
      refine ⟨rfl, ?_⟩
      refine ⟨_, rfl, _, rfl, _, rfl, b, j, rfl, rfl, rfl, by omega, ?_⟩
      have e1 : (0 + (i : Int)) % 26 = ((i % 26 : Nat) : Int) := by omega
      refine ⟨_, rfl, _, rfl, _, rfl, rfl, _, i % 26, 97 + i % 26, rfl, by dsimp only; rw [e1], by decide, alphaL (Nat.mod_lt _ (by decide)), ?_⟩
      refine ⟨_, _, rfl, rfl, by rw [List.length_take]; show min j b.length + 1 ≤ 1000000; omega, ?_⟩
      refine ⟨(by show 2 ≤ sizeLine; decide), fun p np => ?_⟩
      refine ⟨_, rfl, _, rfl, rfl, ?_⟩
      have nDp : D ≠ p := ne_of_none eD np
      have e2 : atI [V.str (mkS []), V.str (mkS [122])] ((0 + (i : Int)) / 26) = some (.str (mkS (if i < 26 then [] else [122]))) := by
        by_cases h : i < 26
        · have e3 : (0 + (i : Int)) / 26 = ((0 : Nat) : Int) := by omega
          rw [e3, if_pos h]
          exact atI_nat (j := 0) rfl
        · have e3 : (0 + (i : Int)) / 26 = ((1 : Nat) : Int) := by omega
          rw [e3, if_neg h]
          exact atI_nat (j := 1) rfl
      refine ⟨p, _, _, _, rfl, rfl, SqL.here, e2, ?_⟩
      refine ⟨_, _, rfl, rfl, by rw [List.length_append, List.length_take]; split <;> simp <;> omega, ?_⟩
      refine ⟨_, rfl, _, rfl, _, rfl, b, j, rfl, rfl, rfl, by omega, ?_⟩
      refine ⟨_, _, rfl, rfl, by rw [List.length_append, List.length_append, List.length_take, List.length_drop]; split <;> simp <;> omega, ?_⟩
      refine ⟨_, (upd_ne nDp).trans eD, by unfold txs; rw [List.length_map, List.length_map, List.length_range]; exact Nat.lt_trans hi (by decide), Same.mut (s1.trans (same_new np)) nD, upd_same.trans ?_⟩
      rw [List.range_succ, List.map_append]
      unfold txs
      rw [List.map_append]
      rfl
    · rintro H' ⟨s1, eD⟩
      refine q D _ H' ?_ (nmList_nodup b j) (fun z hz => ?_) s1 eD
      · unfold nmList; rw [List.length_map, List.length_range]
      · obtain ⟨k, hk, rfl⟩ := List.mem_map.mp hz
        exact nmL_ok hb10 lb (List.mem_range.mp hk)
/-! ### _law_letter -/
abbrev n_letter : List Str := ["_law_cell", "_law_names_here", "_law_many", "_law_place", "_law_sent", "_law_back", "_law_near", "_law_low", "_law_high"]
theorem sc_letter : FnScope ["_law_cell", "_law_names_here", "_law_many", "_law_place", "_law_sent", "_law_back", "_law_near", "_law_low", "_law_high"] ["_law_cell", "_law_names_here", "_law_many"] (defScope s_letter) := ⟨rfl, rfl, rfl, by decide +kernel, rfl, by decide +kernel, by decide +kernel⟩
theorem ok_letter (T : Txt K mg a) : FnOk P w K mg base CX0 3 a.f_letter a.d_letter ["_law_cell", "_law_names_here", "_law_many"] (spLetter K) := by
  refine T.letter.F.ok sc_letter (fun vs H Q E h => ?_) (fun cdv A outer s H vs Q E hr h => ?_)
  · obtain ⟨c, m, np', xs, rfl, hN, hl, hok, m0, m1, q⟩ := h
    rfl
  · obtain ⟨c, m, np', xs, rfl, hN, hl, hok, m0, m1, q⟩ := h
    have hu := hu_of hr
    refine ⟨_, (pss_cons (ps_set (i := 3) sc_letter.nd rfl (Or.inl rfl) (pe_op op_mod (pe_cl (ok_mix T) T.mix (hr.mono (by decide)) (pa_cons (pv 0) (pa_cons pe_int pa_nil))) (pv 2)))
      (pss_cons (ps_set (i := 4) sc_letter.nd rfl (Or.inl rfl) (pe_op (op_modc (c := 1000) (by decide)) (pe_cl (ok_mix T) T.mix (hr.mono (by decide)) (pa_cons (pv 0) (pa_cons pe_int pa_nil))) pe_int))
      (pss_cons (ps_set (i := 5) sc_letter.nd rfl (Or.inl rfl) (pe_op op_add (pv 4) (pe_op op_mod (pe_cl (ok_mix T) T.mix (hr.mono (by decide)) (pa_cons (pv 0) (pa_cons pe_int pa_nil))) (pe_ix (ixL K) (pe_lst (pa_cons pe_int (pa_cons pe_int (pa_cons pe_int pa_nil)))) (pe_op (op_modc (c := 3) (by decide)) (pe_cl (ok_mix T) T.mix (hr.mono (by decide)) (pa_cons (pv 0) (pa_cons pe_int pa_nil))) pe_int) (fun _ _ => rfl)))))
      (pss_cons (ps_set (i := 6) sc_letter.nd rfl (Or.inl rfl) (pe_op op_add (pe_op op_add pe_int (pv 4)) (pe_ix (ixL K) (pe_lst (pa_cons pe_int (pa_cons pe_int (pa_cons pe_int (pa_cons pe_int (pa_cons pe_int (pa_cons pe_int (pa_cons pe_int pa_nil)))))))) (pe_op (op_modc (c := 7) (by decide)) (pv 3) pe_int) (fun _ _ => rfl))))
      (pss_cons (ps_set (i := 7) sc_letter.nd rfl (Or.inl rfl) (pe_op op_sub (pe_op op_add (pv 6) (pe_op (op_modc (c := 80) (by decide)) (pe_cl (ok_mix T) T.mix (hr.mono (by decide)) (pa_cons (pv 0) (pa_cons pe_int pa_nil))) pe_int)) pe_int))
      (pss_cons (ps_set (i := 8) sc_letter.nd rfl (Or.inl rfl) (pe_op op_add (pv 6) (pe_op (op_modc (c := 100) (by decide)) (pe_cl (ok_mix T) T.mix (hr.mono (by decide)) (pa_cons (pv 0) (pa_cons pe_int pa_nil))) pe_int)))
      (pss_cons (ps_if (pt_cmpR op_eq (pe_op (op_modc (c := 2) (by decide)) (pe_cl (ok_mix T) T.mix (hr.mono (by decide)) (pa_cons (pv 0) (pa_cons pe_int pa_nil))) pe_int) pe_int (nomark _)) (pss_cons (ps_set (i := 5) sc_letter.nd rfl (Or.inl rfl) (pv 4))
      (pss_cons (ps_set (i := 7) sc_letter.nd rfl (Or.inl rfl) (pe_op op_add (pv 6) (pe_op (op_mulc (c := 10) (by decide)) (pe_op (op_modc (c := 6) (by decide)) (pe_cl (ok_mix T) T.mix (hr.mono (by decide)) (pa_cons (pv 0) (pa_cons pe_int pa_nil))) pe_int) pe_int)))
      (pss_one (ps_set (i := 8) sc_letter.nd rfl (Or.inl rfl) (pe_op op_add (pv 7) (pe_op (op_mulc (c := 10) (by decide)) (pe_op (op_modc (c := 4) (by decide)) (pe_cl (ok_mix T) T.mix (hr.mono (by decide)) (pa_cons (pv 0) (pa_cons pe_int pa_nil))) pe_int) pe_int)))))) pss_nil)
      (pss_cons (ps_asg (pe_callB (sortK K) (by rfl) T.b_sorted (by decide +kernel) (pa_cons (pe_lst (pa_cons (pv 7) (pa_cons (pv 8) pa_nil))) pa_nil)) (pg_unl (by rfl) (pgs_cons (pg_name (i := 7) sc_letter.nd rfl (Or.inl rfl)) (pgs_cons (pg_name (i := 8) sc_letter.nd rfl (Or.inl rfl)) pgs_nil))))
      (pss_cons (ps_if (pt_cmpR op_eq (pe_op (op_modc (c := 9) (by decide)) (pe_cl (ok_mix T) T.mix (hr.mono (by decide)) (pa_cons (pv 0) (pa_cons pe_int pa_nil))) pe_int) pe_int (nomark _)) (pss_one (ps_asg (pe_callB (sortK K) (by rfl) T.b_sorted (by decide +kernel) (pa_cons (pe_lst (pa_cons (pe_cl (ok_big T) T.big (hr.mono (by decide)) (pa_cons (pv 0) (pa_cons pe_int pa_nil))) (pa_cons (pe_cl (ok_big T) T.big (hr.mono (by decide)) (pa_cons (pv 0) (pa_cons pe_int pa_nil))) pa_nil))) pa_nil)) (pg_unl (by rfl) (pgs_cons (pg_name (i := 7) sc_letter.nd rfl (Or.inl rfl)) (pgs_cons (pg_name (i := 8) sc_letter.nd rfl (Or.inl rfl)) pgs_nil))))) pss_nil)
      (pss_cons (ps_if (pt_cmpR op_eq (pe_op (op_modc (c := 9) (by decide)) (pe_cl (ok_mix T) T.mix (hr.mono (by decide)) (pa_cons (pv 0) (pa_cons pe_int pa_nil))) pe_int) pe_int (nomark _)) (pss_one (ps_asg (pe_callB (sortK K) (by rfl) T.b_sorted (by decide +kernel) (pa_cons (pe_lst (pa_cons (pe_cl (ok_big T) T.big (hr.mono (by decide)) (pa_cons (pv 0) (pa_cons pe_int pa_nil))) (pa_cons (pe_cl (ok_big T) T.big (hr.mono (by decide)) (pa_cons (pv 0) (pa_cons pe_int pa_nil))) pa_nil))) pa_nil)) (pg_unl (by rfl) (pgs_cons (pg_name (i := 4) sc_letter.nd rfl (Or.inl rfl)) (pgs_cons (pg_name (i := 5) sc_letter.nd rfl (Or.inl rfl)) pgs_nil))))) pss_nil)
      (pss_one (ps_ret (pe_tup (pa_cons (pe_ix (ixL K) (pv 1) (pv 3) (fun _ _ => rfl)) (pa_cons (pv 4) (pa_cons (pv 5) (pa_cons (pv 7) (pa_cons (pv 8) pa_nil)))))))))))))))))), ?_⟩
    refine ⟨_, rfl, _, _, rfl, fun a a0 a1 => ?_⟩
    refine ⟨_, rfl, _, _, rfl, rfl, (by show 0 < m; omega), ?_⟩
    have pl0 := Int.emod_nonneg a (show m ≠ 0 by omega)
    have pl1 := Int.emod_lt_of_pos a (show 0 < m by omega)
    dsimp only [gName]
    generalize a % m = pl at pl0 pl1 ⊢
    refine ⟨_, rfl, _, _, rfl, fun b b0 b1 => ?_⟩
    refine ⟨_, rfl, rfl, ?_⟩
    dsimp only [gName]
    have sn0 : 0 ≤ b % 1000 := by omega
    have sn1 : b % 1000 < 1000 := by omega
    generalize b % 1000 = sn at sn0 sn1 ⊢
    -- back
    refine ⟨_, rfl, _, rfl, _, _, rfl, fun d d0 d1 => ?_⟩
    refine ⟨(by show 3 ≤ sizeLine; decide), fun p1 n1 => ?_⟩
    refine ⟨_, rfl, _, _, rfl, fun e e0 e1 => ?_⟩
    refine ⟨_, rfl, rfl, ?_⟩
    refine ix_int (fun j => 1 ≤ j ∧ j ≤ 60) SqL.here (Int.emod_nonneg _ (by decide)) (Int.emod_lt_of_pos _ (by decide)) (allc ⟨_, rfl, by decide⟩ (allc ⟨_, rfl, by decide⟩ (all1 ⟨_, rfl, by decide⟩))) fun w hw => ?_
    refine ⟨_, _, rfl, rfl, (by show 0 < w; omega), ?_⟩
    have dw0 := Int.emod_nonneg d (show w ≠ 0 by omega)
    have dw1 := Int.emod_lt_of_pos d (show 0 < w by omega)
    refine ⟨_, _, rfl, rfl, ?_⟩
    dsimp only [gName]
    generalize d % w = dw at dw0 dw1 ⊢
    -- near
    refine ⟨_, rfl, _, _, rfl, rfl, (by show 7 ≤ sizeLine; decide), fun p2 n2 => ?_⟩
    refine ⟨_, rfl, _, rfl, rfl, ?_⟩
    refine ix_int (fun j => 0 ≤ j ∧ j ≤ 600) SqL.here (Int.emod_nonneg _ (by decide)) (Int.emod_lt_of_pos _ (by decide)) (allc ⟨_, rfl, by decide⟩ (allc ⟨_, rfl, by decide⟩ (allc ⟨_, rfl, by decide⟩ (allc ⟨_, rfl, by decide⟩ (allc ⟨_, rfl, by decide⟩ (allc ⟨_, rfl, by decide⟩ (all1 ⟨_, rfl, by decide⟩))))))) fun nr hnr => ?_
    refine ⟨_, _, rfl, rfl, ?_⟩
    dsimp only [gName]
    have nb0 : 500000 ≤ 500000 + sn + nr := by omega
    have nb1 : 500000 + sn + nr ≤ 502000 := by omega
    generalize 500000 + sn + nr = near at nb0 nb1 ⊢
    generalize hHb : upd _ p2 _ = Hb
    obtain ⟨sb', _⟩ := gen_new hHb n2
    clear hHb
    have sHb : Same H Hb := (same_new n1).trans sb'
    -- low, high
    refine ⟨_, rfl, _, rfl, _, _, rfl, fun f f0 f1 => ?_⟩
    refine ⟨_, rfl, rfl, _, _, rfl, rfl, _, _, rfl, rfl, ?_⟩
    refine ⟨_, rfl, _, rfl, _, _, rfl, fun g g0 g1 => ?_⟩
    refine ⟨_, rfl, rfl, _, _, rfl, rfl, ?_⟩
    dsimp only [gName]
    have lw0 : 0 ≤ near + f % 80 - 40 ∧ near + f % 80 - 40 ≤ 1000000 := by omega
    have hw0 : 0 ≤ near + g % 100 ∧ near + g % 100 ≤ 1000000 := by omega
    generalize near + f % 80 - 40 = lw at lw0 ⊢
    generalize near + g % 100 = hw at hw0 ⊢
    -- sworn at once
    refine seq_cut (fun σ' H' => ∃ (bk lo hi : Int), sn ≤ bk ∧ bk ≤ 1100 ∧ 0 ≤ lo ∧ lo ≤ 1000000 ∧ 0 ≤ hi ∧ hi ≤ 1000000 ∧ Hb = H' ∧ σ' = [some (.int c), some (.ref np'), some (.int m), some (.int pl), some (.int sn), some (.int bk), some (.int near), some (.int lo), some (.int hi)]) (fun N hN => ?_) ?_
    · refine ⟨_, rfl, _, _, rfl, fun h h0 h1 => ?_⟩
      refine ⟨_, rfl, rfl, rfl, _, rfl, ?_⟩
      refine ite_eq (fun z => ?_) (fun z => ?_)
      · refine ⟨_, rfl, ?_⟩
        refine ⟨_, rfl, _, rfl, _, _, rfl, fun i i0 i1 => ?_⟩
        refine ⟨_, rfl, rfl, _, rfl, rfl, _, _, rfl, rfl, ?_⟩
        refine ⟨_, rfl, _, rfl, _, _, rfl, fun j j0 j1 => ?_⟩
        refine ⟨_, rfl, rfl, _, rfl, rfl, _, _, rfl, rfl, ?_⟩
        exact hN _ _ ⟨sn, near + i % 6 * 10, near + i % 6 * 10 + j % 4 * 10, by omega, by omega, by omega, by omega, by omega, by omega, rfl, rfl⟩
      · exact hN _ _ ⟨sn + dw, lw, hw, by omega, by omega, by omega, by omega, by omega, by omega, rfl, rfl⟩
    rintro σ' H1 ⟨bk, lo0, hi0, hb0, hb1, l0, l1, h0, h1, rfl, rfl⟩
    refine ⟨_, rfl, _, rfl, (by show 2 ≤ sizeLine; decide), fun p3 n3 => ?_⟩
    refine ⟨_, [lo0, hi0], rfl, SqL.here, (by show 2 < 64; decide), fun ns1 p4 hp1 hs1 n4 => ?_⟩
    obtain ⟨lo1, hi1, rfl, lh, lhx⟩ := perm2 hp1 hs1
    refine ⟨p4, _, rfl, SqL.here, rfl, _, _, rfl, _, _, rfl, rfl, ?_⟩
    dsimp only [gName]
    generalize hHc : upd _ p4 _ = Hc
    obtain ⟨sc', _⟩ := gen_new hHc n4
    clear hHc
    have sHc : Same H Hc := (sHb.trans (same_new n3)).trans sc'
    -- far times
    refine seq_cut (fun σ' H' => ∃ (lo hi : Int), 0 ≤ lo ∧ lo ≤ hi ∧ hi ≤ 1000000000000 ∧ Same Hc H' ∧ σ' = [some (.int c), some (.ref np'), some (.int m), some (.int pl), some (.int sn), some (.int bk), some (.int near), some (.int lo), some (.int hi)]) (fun N hN => ?_) ?_
    · refine ⟨_, rfl, _, _, rfl, fun h h0 h1 => ?_⟩
      refine ⟨_, rfl, rfl, rfl, _, rfl, ?_⟩
      refine ite_eq (fun z => ?_) (fun z => ?_)
      · refine ⟨_, rfl, _, _, rfl, fun i Hd i0 i1 sd => ?_⟩
        refine ⟨_, rfl, _, _, rfl, fun j He j0 j1 se => ?_⟩
        refine ⟨(by show 2 ≤ sizeLine; decide), fun p5 n5 => ?_⟩
        refine ⟨_, [i, j], rfl, SqL.here, (by show 2 < 64; decide), fun ns2 p6 hp2 hs2 n6 => ?_⟩
        obtain ⟨lo2, hi2, rfl, lh2, lhx2⟩ := perm2 hp2 hs2
        refine ⟨p6, _, rfl, SqL.here, rfl, _, _, rfl, _, _, rfl, rfl, ?_⟩
        exact hN _ _ ⟨lo2, hi2, by omega, by omega, by omega, ((sd.trans se).trans (same_new n5)).trans (same_new n6), rfl⟩
      · exact hN _ _ ⟨lo1, hi1, by omega, by omega, by omega, Same.refl _, rfl⟩
    rintro σ' H2 ⟨lo, hi, l2, l3, l4, s2, rfl⟩
    -- far counts
    refine seq_cut (fun σ' H' => ∃ (s' b' : Int), 0 ≤ s' ∧ s' ≤ b' ∧ b' ≤ 1000000000000 ∧ Same H2 H' ∧ σ' = [some (.int c), some (.ref np'), some (.int m), some (.int pl), some (.int s'), some (.int b'), some (.int near), some (.int lo), some (.int hi)]) (fun N hN => ?_) ?_
    · refine ⟨_, rfl, _, _, rfl, fun h h0 h1 => ?_⟩
      refine ⟨_, rfl, rfl, rfl, _, rfl, ?_⟩
      refine ite_eq (fun z => ?_) (fun z => ?_)
      · refine ⟨_, rfl, _, _, rfl, fun i Hd i0 i1 sd => ?_⟩
        refine ⟨_, rfl, _, _, rfl, fun j He j0 j1 se => ?_⟩
        refine ⟨(by show 2 ≤ sizeLine; decide), fun p5 n5 => ?_⟩
        refine ⟨_, [i, j], rfl, SqL.here, (by show 2 < 64; decide), fun ns2 p6 hp2 hs2 n6 => ?_⟩
        obtain ⟨lo2, hi2, rfl, lh2, lhx2⟩ := perm2 hp2 hs2
        refine ⟨p6, _, rfl, SqL.here, rfl, _, _, rfl, _, _, rfl, rfl, ?_⟩
        exact hN _ _ ⟨lo2, hi2, by omega, by omega, by omega, ((sd.trans se).trans (same_new n5)).trans (same_new n6), rfl⟩
      · exact hN _ _ ⟨sn, bk, by omega, by omega, by omega, Same.refl _, rfl⟩
    rintro σ' H3 ⟨sf, bf, s4, s5, s6, s7, rfl⟩
    have sH3 : Same H H3 := (sHc.trans s2).trans s7
    obtain ⟨nm, hnm, hat⟩ := txs_at (ls := xs) pl0 (by rw [hl]; omega)
    refine ⟨_, rfl, _, rfl, _, _, _, _, rfl, rfl, sH3.seq hN, hat, ?_⟩
    refine ⟨_, rfl, _, rfl, _, rfl, _, rfl, (by show 5 ≤ sizeLine; decide), fun t nt => ?_⟩
    exact q ⟨nm, sf, bf, lo, hi⟩ t _ ⟨hok nm hnm, s4, s5, s6, l2, l3, l4⟩ hnm (sH3.trans (same_new nt)) upd_same
/-! ### _law_letters -/
abbrev n_letters : List Str := ["_law_script", "_law_names_here", "_law_many", "_law_first", "_law_k", "_law_cell"]
theorem sc_letters : FnScope ["_law_script", "_law_names_here", "_law_many", "_law_first", "_law_k", "_law_cell"] ["_law_script", "_law_names_here"] (defScope s_letters) := ⟨rfl, rfl, rfl, by decide +kernel, rfl, by decide +kernel, by decide +kernel⟩
theorem ok_letters (T : Txt K mg a) : FnOk P w K mg base CX0 4 a.f_letters a.d_letters ["_law_script", "_law_names_here"] (spLetters K) := by
  refine T.letters.F.ok sc_letters (fun vs H Q E h => ?_) (fun cdv A outer s H vs Q E hr h => ?_)
  · obtain ⟨l, p, ns, xs, rfl, hS, hlen, hN, hl, hok, q⟩ := h
    rfl
  · obtain ⟨l, p, ns, xs, rfl, hS, hlen, hN, hl, hok, q⟩ := h
    have hu := hu_of hr
    refine ⟨_, (pss_cons (ps_set (i := 2) sc_letters.nd rfl (Or.inr rfl) (pe_ix (ixL K) (pe_lst (pa_cons (pe_op op_add pe_int (pe_op (op_modc (c := 7) (by decide)) (pe_cl (ok_cell_at T) T.cell_at (hr.mono (by decide)) (pa_cons (pv 0) (pa_cons pe_int pa_nil))) pe_int)) (pa_cons (pe_op op_add pe_int (pe_op (op_modc (c := 40) (by decide)) (pe_cl (ok_cell_at T) T.cell_at (hr.mono (by decide)) (pa_cons (pv 0) (pa_cons pe_int pa_nil))) pe_int)) pa_nil))) (pe_op (op_modc (c := 2) (by decide)) (pe_op (op_divc (c := 40) (by decide) (by decide)) (pe_cl (ok_cell_at T) T.cell_at (hr.mono (by decide)) (pa_cons (pv 0) (pa_cons pe_int pa_nil))) pe_int) pe_int) (fun _ _ => rfl)))
      (pss_cons (ps_if (pt_cmpR op_eq (pe_op (op_modc (c := 10) (by decide)) (pe_cl (ok_mix T) T.mix (hr.mono (by decide)) (pa_cons (pe_cl (ok_cell_at T) T.cell_at (hr.mono (by decide)) (pa_cons (pv 0) (pa_cons pe_int pa_nil))) (pa_cons pe_int pa_nil))) pe_int) pe_int (nomark _)) (pss_cons (ps_set (i := 3) sc_letters.nd rfl (Or.inr rfl) (pe_cl (ok_cell_at T) T.cell_at (hr.mono (by decide)) (pa_cons (pv 0) (pa_cons pe_int pa_nil))))
      (pss_one (ps_ret (pe_lc (own := [("_law_k", 4)]) (g := gName 4) (tt := tYes) rfl sc_letters.nd (pi_range1 rfl T.b_range (pa_cons (pe_op op_add pe_int (pe_op (op_modc (c := 160) (by decide)) (pe_cl (ok_mix T) T.mix (hr.mono (by decide)) (pa_cons (pv 3) (pa_cons pe_int pa_nil))) pe_int)) pa_nil)) (blkOk_by (N := n_letters) (sc := defScope s_letters) (by decide +kernel)) (fun _ _ _ _ _ => pg_name (i := 4) sc_letters.nd rfl (Or.inl rfl)) (fun _ _ _ _ _ => pts_nil) (fun _ _ _ _ _ => (pe_cl (ok_letter T) T.letter (hr.mono (by decide)) (pa_cons (pe_op op_add (pv 3) (pe_op (op_cmul (c := 31) (by decide)) pe_int (pv 4))) (pa_cons (pv 1) (pa_cons (pv 2) pa_nil))))))))) pss_nil)
      (pss_one (ps_ret (pe_lc (own := [("_law_cell", 5)]) (g := gName 5) (tt := tYes) rfl sc_letters.nd (piL K (pe_slice (slL K) (pv 0) (po_some pe_int) (po_some pe_int))) (blkOk_by (N := n_letters) (sc := defScope s_letters) (by decide +kernel)) (fun _ _ _ _ _ => pg_name (i := 5) sc_letters.nd rfl (Or.inl rfl)) (fun _ _ _ _ _ => pts_nil) (fun _ _ _ _ _ => (pe_cl (ok_letter T) T.letter (hr.mono (by decide)) (pa_cons (pv 5) (pa_cons (pv 1) (pa_cons (pv 2) pa_nil)))))))))), ?_⟩
    refine ⟨_, rfl, _, _, 1, rfl, hS, _, rfl, rfl, _, _, rfl, rfl, ?_⟩
    refine ⟨_, rfl, _, _, 1, rfl, hS, _, rfl, rfl, _, _, rfl, rfl, (by show 2 ≤ sizeLine; decide), fun p1 n1 => ?_⟩
    refine ⟨_, rfl, _, _, 1, rfl, (same_new n1).seq hS, _, rfl, rfl, _, rfl, rfl, ?_⟩
    refine ix_int (fun j => 1 ≤ j ∧ j ≤ 40) SqL.here (Int.emod_nonneg _ (by decide)) (Int.emod_lt_of_pos _ (by decide)) (allc ⟨_, rfl, by omega⟩ (all1 ⟨_, rfl, by omega⟩)) fun m hm => ?_
    dsimp only [gName]
    generalize hH1 : upd _ p1 _ = H1
    obtain ⟨s1, _⟩ := gen_new hH1 n1
    clear hH1
    refine ⟨_, rfl, _, _, 1, rfl, s1.seq hS, _, _, rfl, fun k k0 k1 => ?_⟩
    refine ⟨_, rfl, rfl, rfl, _, rfl, ?_⟩
    refine ite_eq (fun z => ?_) (fun z => ?_)
    · refine ⟨_, rfl, _, _, 1, rfl, s1.seq hS, ?_⟩
      refine ⟨_, rfl, _, _, rfl, fun k2 k20 k21 => ?_⟩
      refine ⟨_, rfl, rfl, _, _, rfl, rfl, ?_⟩
      have kn : 41 + k2 % 160 ≤ 200 := by omega
      have kn0 : 0 ≤ 41 + k2 % 160 := by omega
      dsimp only
      generalize 41 + k2 % 160 = n at kn kn0 ⊢
      refine ⟨n, rfl, by omega, by omega, fun D nD => lc_range (lo := 0) (n := n.toNat) (fun i H' => Same H1 H' ∧ ∃ (as : List Addr) (ls : List Let), ls.length = i ∧ LetsAt K H' as ls ∧ (∀ x ∈ ls, x.Ok) ∧ H' D = some (.lst (as.map V.ref)))
        ⟨same_new nD, [], [], rfl, LetsAt.nil, fun _ h => (nomatch h), upd_same⟩ ?_ ?_⟩
      · rintro i H' hi ⟨s2, as, ls, hli, hA, hO, eD⟩
        refine ⟨rfl, ?_⟩
        refine ⟨_, rfl, _, rfl, _, rfl, rfl, _, _, rfl, rfl, _, rfl, _, rfl, _, _, _, xs, rfl, (s1.trans s2).seq hN, hl, hok, by omega, by omega, fun x t H2 xo xn s3 eT => ?_⟩
        have eD2 := s3 _ _ eD
        refine ⟨_, eD2, by rw [List.length_map, hA.1, hli]; exact Nat.lt_of_lt_of_le (show i < 201 by omega) (by decide), Same.mut (s2.trans s3) nD, as ++ [t], ls ++ [x], by rw [List.length_append, hli]; rfl, ?_, ?_, ?_⟩
        · exact ((hA.same s3).snoc (SqT.of eT)).grow eD2
        · intro y hy
          rcases List.mem_append.mp hy with h | h
          · exact hO y h
          · rw [List.mem_singleton] at h
            exact h ▸ xo
        · rw [upd_same, List.map_append]
          rfl
      · rintro H' ⟨s2, as, ls, hli, hA, hO, eD⟩
        exact q as ls D H' (by omega) hO (s1.trans s2) hA eD (s1.free nD)
    · refine ⟨_, rfl, _, rfl, _, rfl, l, _, rfl, s1.seq hS, fun p2 n2 => ?_⟩
      have e0 : cutV (ns.map V.int) (some 3) (some 43) = ((ns.drop 3).take 40).map V.int := by
        rw [show (3 : Int) = ((3 : Nat) : Int) from rfl, show (43 : Int) = ((43 : Nat) : Int) from rfl, cutV_len, ← List.map_drop, ← List.map_take]
      rw [e0]
      generalize hns : (ns.drop 3).take 40 = ms
      have hms : ms.length ≤ 40 := by rw [← hns]; exact List.length_take_le _ _
      generalize hH2 : upd _ p2 _ = H2
      obtain ⟨s2', e2⟩ := gen_new hH2 n2
      clear hH2
      have s2 := s1.trans s2'
      refine ⟨p2, rfl, ⟨_, SqL.of e2⟩, fun D nD => lc_list (K := K) (a := p2) (xs := ms.map V.int) (fun i H' => Same H2 H' ∧ ∃ (as : List Addr) (ls : List Let), ls.length = i ∧ LetsAt K H' as ls ∧ (∀ x ∈ ls, x.Ok) ∧ H' D = some (.lst (as.map V.ref)))
        ⟨same_new nD, [], [], rfl, LetsAt.nil, fun _ h => (nomatch h), upd_same⟩ (fun i H' _ h => SqL.of (h.1 _ _ e2)) ?_ ?_⟩
      · rintro i v H' hi ⟨s3, as, ls, hli, hA, hO, eD⟩
        have hil := (List.getElem?_eq_some_iff.mp hi).1
        rw [List.length_map] at hil
        obtain ⟨z, rfl⟩ : ∃ z, v = V.int z := by
          rw [List.getElem?_map, List.getElem?_eq_getElem hil] at hi
          exact ⟨_, (Option.some.inj hi).symm⟩
        refine ⟨rfl, ?_⟩
        refine ⟨_, rfl, _, rfl, _, rfl, _, _, _, xs, rfl, (s2.trans s3).seq hN, hl, hok, by omega, by omega, fun x t H3 xo xn s4 eT => ?_⟩
        have eD2 := s4 _ _ eD
        refine ⟨_, eD2, by rw [List.length_map, hA.1, hli]; exact Nat.lt_of_lt_of_le (show i < 201 by omega) (by decide), Same.mut (s3.trans s4) nD, as ++ [t], ls ++ [x], by rw [List.length_append, hli]; rfl, ?_, ?_, ?_⟩
        · exact ((hA.same s4).snoc (SqT.of eT)).grow eD2
        · intro y hy
          rcases List.mem_append.mp hy with h | h
          · exact hO y h
          · rw [List.mem_singleton] at h
            exact h ▸ xo
        · rw [upd_same, List.map_append]
          rfl
      · rintro H' ⟨s3, as, ls, hli, hA, hO, eD⟩
        exact q as ls D H' (by rw [hli, List.length_map]; omega) hO (s2.trans s3) hA eD (s2.free nD)
/-! ### _law_now -/
abbrev n_now : List Str := ["_law_script", "_law_letters_here", "_law_now_here", "_law_letter_here"]
theorem sc_now : FnScope ["_law_script", "_law_letters_here", "_law_now_here", "_law_letter_here"] ["_law_script", "_law_letters_here"] (defScope s_now) := ⟨rfl, rfl, rfl, by decide +kernel, rfl, by decide +kernel, by decide +kernel⟩
theorem ok_now (T : Txt K mg a) : FnOk P w K mg base CX0 2 a.f_now a.d_now ["_law_script", "_law_letters_here"] (spNow K) := by
  refine T.now.F.ok sc_now (fun vs H Q E h => ?_) (fun cdv A outer s H vs Q E hr h => ?_)
  · obtain ⟨l, p, ns, as, ls, rfl, hS, hL, hA, hok, q⟩ := h
    rfl
  · obtain ⟨l, p, ns, as, ls, rfl, hS, hL, hA, hok, q⟩ := h
    have hu := hu_of hr
    refine ⟨_, (pss_cons (ps_set (i := 2) sc_now.nd rfl (Or.inl rfl) (pe_op (op_modc (c := 500) (by decide)) (pe_cl (ok_mix T) T.mix (hr.mono (by decide)) (pa_cons (pe_cl (ok_cell_at T) T.cell_at (hr.mono (by decide)) (pa_cons (pv 0) (pa_cons pe_int pa_nil))) (pa_cons pe_int pa_nil))) pe_int))
      (pss_cons (ps_for PassesOwn.never rfl (piL K (pv 1)) (pg_name (i := 3) sc_now.nd rfl (Or.inl rfl)) (pss_one (ps_set (i := 2) sc_now.nd rfl (Or.inl rfl) (pe_callB (call_max2 rfl) (by rfl) T.b_max (by decide +kernel) (pa_cons (pv 2) (pa_cons (pe_ix (ixT K) (pv 3) pe_int (fun _ _ => rfl)) pa_nil))))))
      (pss_one (ps_ret (pe_op op_add (pv 2) (pe_ix (ixL K) (pe_lst (pa_cons pe_int (pa_cons (pe_op (op_modc (c := 3000) (by decide)) (pe_cl (ok_mix T) T.mix (hr.mono (by decide)) (pa_cons (pe_cl (ok_cell_at T) T.cell_at (hr.mono (by decide)) (pa_cons (pv 0) (pa_cons pe_int pa_nil))) (pa_cons pe_int pa_nil))) pe_int) pa_nil))) (pe_op (op_modc (c := 2) (by decide)) (pe_cl (ok_cell_at T) T.cell_at (hr.mono (by decide)) (pa_cons (pv 0) (pa_cons pe_int pa_nil))) pe_int) (fun _ _ => rfl))))))), ?_⟩
    refine ⟨_, rfl, _, _, 2, rfl, hS, _, _, rfl, fun m m0 m1 => ?_⟩
    refine ⟨_, rfl, rfl, ?_⟩
    dsimp only [gName]
    refine ⟨_, rfl, p, rfl, ⟨_, hL⟩, for_list (K := K) (a := p) (xs := as.map V.ref) (fun i σ H' => H = H' ∧ ∃ (now : Int) (v : Option V), σ = [some (.ref l), some (.ref p), some (.int now), v] ∧ 0 ≤ now ∧ now ≤ 1000000000000 ∧ ∀ (j : Nat) (x : Let), j < i → ls[j]? = some x → x.b ≤ now)
      ⟨rfl, m % 500, none, rfl, by omega, by omega, fun j x h => absurd h (Nat.not_lt_zero _)⟩ (fun i σ H' _ h => h.1 ▸ hL) ?_ ?_⟩
    · rintro i v σ H' hi ⟨rfl, now, u, rfl, hn0, hn1, hj⟩
      obtain ⟨t, x, rfl, ha, hx, hT⟩ := hA.get hi
      have xo := hok x (List.mem_of_getElem? hx)
      refine ⟨_, rfl, _, rfl, _, _, _, _, rfl, rfl, hT, atI_nat (j := 2) rfl, _, _, rfl, ?_⟩
      refine ⟨rfl, (if x.b > now then x.b else now), some (.ref t), rfl, by split <;> omega, by have := xo.b1; split <;> omega, fun j y hji hy => ?_⟩
      by_cases e : j = i
      · subst e
        rw [hx] at hy
        cases hy
        split <;> omega
      · have := hj j y (by omega) hy
        split <;> omega
    · rintro σ H' ⟨rfl, now, u, rfl, hn0, hn1, hj⟩
      refine ⟨_, rfl, _, rfl, _, _, 2, rfl, hS, _, _, rfl, fun w w0 w1 => ?_⟩
      refine ⟨_, rfl, rfl, (by show 2 ≤ sizeLine; decide), fun p1 n1 => ?_⟩
      refine ⟨_, rfl, _, _, 2, rfl, (same_new n1).seq hS, _, rfl, rfl, ?_⟩
      refine ix_int (fun j => 0 ≤ j ∧ j ≤ 3000) SqL.here (Int.emod_nonneg _ (by decide)) (Int.emod_lt_of_pos _ (by decide)) (allc ⟨_, rfl, by decide⟩ (all1 ⟨_, rfl, by omega⟩)) fun k hk => ?_
      refine ⟨_, _, rfl, rfl, ?_⟩
      refine q (now + k) _ (by omega) (by omega) (fun x hx => ?_) (same_new n1)
      obtain ⟨j, hjx⟩ := List.getElem?_of_mem hx
      have hjl : j < (as.map V.ref).length := by rw [List.length_map, hA.1]; exact (List.getElem?_eq_some_iff.mp hjx).1
      have := hj j x hjl hjx
      omega
/-! ### _law_gathered -/
abbrev n_w_gathered : List Str := ["_law_letters_here", "_law_now_here", "_law_off_here", "_law_made", "_law_name", "_law_some", "_law_low", "_law_high", "_law_letter_here", "_law_one"]
theorem sc_w_gathered : FnScope ["_law_letters_here", "_law_now_here", "_law_off_here", "_law_made", "_law_name", "_law_some", "_law_low", "_law_high", "_law_letter_here", "_law_one"] ["_law_letters_here", "_law_now_here", "_law_off_here"] (defScope s_w_gathered) := ⟨rfl, rfl, rfl, by decide +kernel, rfl, by decide +kernel, by decide +kernel⟩
theorem ok_w_gathered (T : Txt K mg a) : FnOk P w K mg base CX0 3 a.f_w_gathered a.d_w_gathered ["_law_letters_here", "_law_now_here", "_law_off_here"] (spLawGathered K) := by
  refine T.w_gathered.F.ok sc_w_gathered (fun vs H Q E h => ?_) (fun cdv A outer s H vs Q E hr h => ?_)
  · obtain ⟨p, as, ls, now, o, rfl, hL, hA, hok, hl, ok, q⟩ := h
    rfl
  · obtain ⟨p, as, ls, now, o, rfl, hL, hA, hok, hl, ok, q⟩ := h
    have hu := hu_of hr
    refine ⟨_, (pss_cons (ps_set (i := 3) sc_w_gathered.nd rfl (Or.inl rfl) (pe_lst pa_nil))
      (pss_cons (ps_for PassesOwn.never rfl (piL K (pe_lc (own := [("_law_letter_here", 8)]) (g := gName 8) (tt := tYes) rfl sc_w_gathered.nd (piL K (pv 0)) (blkOk_by (N := n_w_gathered) (sc := defScope s_w_gathered) (by decide +kernel)) (fun _ _ _ _ _ => pg_name (i := 8) sc_w_gathered.nd rfl (Or.inl rfl)) (fun _ _ _ _ _ => pts_nil) (fun _ _ _ _ _ => (pe_ix (ixT K) (pv 8) pe_int (fun _ _ => rfl))))) (pg_name (i := 4) sc_w_gathered.nd rfl (Or.inr rfl)) (pss_one (ps_if (pt_cmpR (niK K) (pv 4) (pe_lc (own := [("_law_one", 9)]) (g := gName 9) (tt := tYes) rfl sc_w_gathered.nd (piL K (pv 3)) (blkOk_by (N := n_w_gathered) (sc := defScope s_w_gathered) (by decide +kernel)) (fun _ _ _ _ _ => pg_name (i := 9) sc_w_gathered.nd rfl (Or.inl rfl)) (fun _ _ _ _ _ => pts_nil) (fun _ _ _ _ _ => (pe_ix (ixT K) (pv 9) pe_int (fun _ _ => rfl)))) rfl) (pss_cons (ps_setLc (i := 5) (own := [("_law_letter_here", 8)]) (g := gName 8) rfl sc_w_gathered.nd rfl rfl (sw_true rfl rfl rfl (by decide +kernel)) (piL K (pv 0)) (blkOk_by (N := n_w_gathered) (sc := defScope s_w_gathered) (by decide +kernel)) (fun _ _ _ _ _ => pg_name (i := 8) sc_w_gathered.nd rfl (Or.inl rfl)) (fun _ _ _ _ _ => pts_one (pt_cmpR op_eq (pe_ix (ixT K) (pv 8) pe_int (fun _ _ => rfl)) (pv 4) (nomark _))) (fun _ _ _ _ _ => (pe_cl (ok_w_brought T) T.w_brought (hr.mono (by decide)) (pa_cons (pv 8) (pa_cons (pv 1) (pa_cons (pv 2) pa_nil))))))
      (pss_cons (ps_set (i := 6) sc_w_gathered.nd rfl (Or.inl rfl) (pe_callB (maxK K rfl) (by rfl) T.b_max (by decide +kernel) (pa_cons (pe_lc (own := [("_law_one", 9)]) (g := gName 9) (tt := tYes) rfl sc_w_gathered.nd (piL K (pv 5)) (blkOk_by (N := n_w_gathered) (sc := defScope s_w_gathered) (by decide +kernel)) (fun _ _ _ _ _ => pg_name (i := 9) sc_w_gathered.nd rfl (Or.inl rfl)) (fun _ _ _ _ _ => pts_nil) (fun _ _ _ _ _ => (pe_ix (ixT K) (pv 9) pe_int (fun _ _ => rfl)))) pa_nil)))
      (pss_cons (ps_set (i := 7) sc_w_gathered.nd rfl (Or.inl rfl) (pe_callB (minK K rfl) (by rfl) T.b_min (by decide +kernel) (pa_cons (pe_lc (own := [("_law_one", 9)]) (g := gName 9) (tt := tYes) rfl sc_w_gathered.nd (piL K (pv 5)) (blkOk_by (N := n_w_gathered) (sc := defScope s_w_gathered) (by decide +kernel)) (fun _ _ _ _ _ => pg_name (i := 9) sc_w_gathered.nd rfl (Or.inl rfl)) (fun _ _ _ _ _ => pts_nil) (fun _ _ _ _ _ => (pe_ix (ixT K) (pv 9) pe_int (fun _ _ => rfl)))) pa_nil)))
      (pss_one (ps_expr (pe_bm PySem.F.plainAttrs_list PySem.F.slot_list_append PySem.F.type_list_append mt_append (pv 3) (pa_cons (pe_tup (pa_cons (pv 4) (pa_cons (pe_ifExp (pt_cmpR op_le (pv 6) (pv 7) (nomark _)) (pe_tup (pa_cons (pv 6) (pa_cons (pv 7) pa_nil))) pe_non) pa_nil))) pa_nil))))))) pss_nil)))
      (pss_one (ps_ret (pv 3))))), ?_⟩
    refine ⟨(by show 0 ≤ sizeLine; decide), fun pm nm => ?_⟩
    dsimp only [gName]
    generalize hH1 : upd _ pm _ = H1
    obtain ⟨s1, e1⟩ := gen_new hH1 nm
    clear hH1
    have lin : ∀ {i : Nat}, i < (as.map V.ref).length → i < ls.length := fun h => by rwa [List.length_map, hA.1] at h
    -- the names
    refine ⟨_, rfl, p, rfl, ⟨_, s1.seq hL⟩, fun D nD => lc_list (K := K) (a := p) (xs := as.map V.ref) (fun i H' => Same H1 H' ∧ H' D = some (.lst (txs ((ls.take i).map (·.nm))))) ⟨same_new nD, upd_same⟩ (fun i H' _ h => (s1.trans h.1).seq hL) ?_ ?_⟩
    · rintro i v H' hi ⟨s2, eD⟩
      obtain ⟨t, x, rfl, ha, hx, hT⟩ := hA.get hi
      refine ⟨rfl, ?_⟩
      refine ⟨_, rfl, _, _, _, _, rfl, rfl, Ts.Same.seqT (s1.trans s2) hT, atI_nat (j := 0) rfl, ?_⟩
      refine ⟨_, eD, ?_, Same.mut s2 nD, ?_⟩
      · unfold txs
        rw [List.length_map, List.length_map, List.length_take]
        exact Nat.lt_of_lt_of_le (show min i ls.length < 1001 by omega) (by decide)
      · rw [upd_same, take_snoc hx, List.map_append]
        unfold txs
        rw [List.map_append]
        rfl
    rintro H2 ⟨s2, eD⟩
    rw [List.length_map, hA.1, List.take_length] at eD
    have nDm : D ≠ pm := fun z => by rw [z, e1] at nD; cases nD
    refine ⟨D, rfl, ⟨_, SqL.of eD⟩, for_list (K := K) (a := D) (xs := txs (ls.map (·.nm))) (fun i σ H' => Same H H' ∧ H' D = some (.lst (txs (ls.map (·.nm)))) ∧ ∃ (xs : List V) (v4 v5 v6 v7 : Option V),
        σ = [some (.ref p), some (.int now), some (.int o), some (.ref pm), v4, v5, v6, v7, none, none] ∧ H' pm = some (.lst xs) ∧ ClksAt K H' xs (gathTo now o ls i))
      ⟨s1.trans s2, eD, [], none, none, none, none, rfl, s2 _ _ e1, ClksAt.nil⟩ (fun i σ H' _ h => SqL.of h.2.1) ?_ ?_⟩
    · rintro i v σ H3 hi ⟨s3, eD3, xs, v4, v5, v6, v7, rfl, em, hX⟩
      have hil : i < ls.length := by
        have := (List.getElem?_eq_some_iff.mp hi).1
        unfold txs at this
        rwa [List.length_map, List.length_map] at this
      have hx : ls[i]? = some ls[i] := List.getElem?_eq_getElem hil
      generalize ls[i] = x at hx
      have ev : v = .str (mkS x.nm) := by
        unfold txs at hi
        rw [List.getElem?_map, List.getElem?_map, hx] at hi
        exact (Option.some.inj hi).symm
      subst ev
      have hxl : xs.length ≤ 1000 := by
        rw [hX.1]
        unfold gathTo
        rw [List.length_map]
        have := namesOf_len (ls.take i)
        rw [List.length_take] at this
        omega
      have hnm : ∀ {j : Nat} {c : Clk}, (gathTo now o ls i)[j]? = some c → (namesOf (ls.take i))[j]? = some c.1 := fun {j c} h => by
        unfold gathTo at h
        rw [List.getElem?_map] at h
        cases e : (namesOf (ls.take i))[j]? with
        | none => rw [e] at h; cases h
        | some n => rw [e] at h; cases h; rfl
      -- name not in those made
      refine ⟨_, rfl, ?_⟩
      refine ⟨_, rfl, pm, rfl, ⟨_, SqL.of em⟩, fun D2 nD2 => lc_list (K := K) (a := pm) (xs := xs) (fun j H' => Same H3 H' ∧ H' D2 = some (.lst (txs ((namesOf (ls.take i)).take j)))) ⟨same_new nD2, upd_same⟩ (fun j H' _ h => SqL.of (h.1 _ _ em)) ?_ ?_⟩
      · rintro j w H' hj ⟨s4, e2⟩
        obtain ⟨c, hc, t, u, rfl, hT, _⟩ := (hX.same s4).get hj
        refine ⟨rfl, ?_⟩
        refine ⟨_, rfl, _, _, _, _, rfl, rfl, hT, atI_nat (j := 0) rfl, ?_⟩
        refine ⟨_, e2, ?_, Same.mut s4 nD2, ?_⟩
        · unfold txs
          rw [List.length_map, List.length_take]
          have := (List.getElem?_eq_some_iff.mp hj).1
          exact Nat.lt_of_lt_of_le (show min j (namesOf (ls.take i)).length < 1001 by omega) (by decide)
        · rw [upd_same, take_snoc (hnm hc)]
          unfold txs
          rw [List.map_append]
          rfl
      rintro H4 ⟨s4, e2⟩
      have e2' : H4 D2 = some (.lst (txs (namesOf (ls.take i)))) := by
        rw [e2, hX.1]
        unfold gathTo
        rw [List.length_map, List.take_length]
      refine ⟨D2, _, rfl, .inl (SqL.of e2'), rfl, txs_flat _, _, rfl, ?_⟩
      have em4 := s4 _ _ em
      have eD4 := s4 _ _ eD3
      have hX4 := hX.same s4
      rw [if_pos rfl, inV_txs]
      by_cases hm : x.nm ∈ namesOf (ls.take i)
      · rw [decide_eq_true hm]
        refine iteF ?_
        refine ⟨s3.trans s4, eD4, xs, some (.str (mkS x.nm)), v5, v6, v7, rfl, em4, ?_⟩
        have e : gathTo now o ls (i + 1) = gathTo now o ls i := by
          unfold gathTo
          rw [take_snoc hx, namesOf_snoc]
          unfold addN
          rw [if_pos hm]
        rw [e]
        exact hX4
      rw [decide_eq_false hm]
      refine iteT ?_
      have hxi : x ∈ ls := List.mem_of_getElem? hx
      -- its stretches
      refine ⟨_, rfl, p, rfl, ⟨_, (s3.trans s4).seq hL⟩, fun D3 nD3 => lc_list (K := K) (a := p) (xs := as.map V.ref) (fun j H' => Same H4 H' ∧ ∃ bs : List Addr, StsAt K H' bs (stsOf now o x.nm (ls.take j)) ∧ H' D3 = some (.lst (bs.map V.ref)))
        ⟨same_new nD3, [], StsAt.nil, upd_same⟩ (fun j H' _ h => ((s3.trans s4).trans h.1).seq hL) ?_ ?_⟩
      · rintro j w H' hj ⟨s5, bs, hB, e3⟩
        obtain ⟨t, y, rfl, ha, hy, hT⟩ := hA.get hj
        have hT5 := Ts.Same.seqT ((s3.trans s4).trans s5) hT
        refine ⟨rfl, ?_⟩
        refine ⟨_, rfl, _, _, _, _, rfl, rfl, hT5, atI_nat (j := 0) rfl, _, rfl, rfl, _, rfl, ?_⟩
        rw [eq_str, stsOf_take hy]
        by_cases hn : y.nm = x.nm
        · rw [decide_eq_true hn, if_pos hn]
          refine iteT ?_
          refine ⟨_, rfl, _, rfl, _, rfl, t, .str (mkS y.nm), y.s, y.b, y.lo, y.hi, now, o, rfl, hT5, ok, fun u nu => ?_⟩
          have e3' := (upd_ne (ne_of_none e3 nu) (o := .tup [.int (brLo y.b y.lo now o), .int (brHi y.s y.hi now o)])).trans e3
          refine ⟨_, e3', ?_, Same.mut (s5.trans (same_new nu)) nD3, bs ++ [u], ?_, ?_⟩
          · rw [List.length_map, hB.1]
            have h1 : (stsOf now o x.nm (ls.take j)).length ≤ (ls.take j).length := by unfold stsOf; rw [List.length_map]; exact List.length_filter_le _ _
            rw [List.length_take] at h1
            exact Nat.lt_of_lt_of_le (show _ < 1001 by omega) (by decide)
          · exact ((hB.same (same_new nu)).snoc (t := brSt now o y) (SqT.of upd_same)).off e3' (fun _ z => nomatch z) (fun _ _ z => nomatch z)
          · rw [upd_same, List.map_append]
            rfl
        · rw [decide_eq_false hn, if_neg hn]
          refine iteF ?_
          exact ⟨s5, bs, hB, e3⟩
      rintro H5 ⟨s5, bs, hB, e3⟩
      rw [List.length_map, hA.1, List.take_length] at hB
      have hne : stsOf now o x.nm ls ≠ [] := stsOf_some now o (namesOf_mem.mpr ⟨x, hxi, rfl⟩)
      have hbl : bs.length ≤ 1000 := by
        rw [hB.1]
        unfold stsOf
        rw [List.length_map]
        exact Nat.le_trans (List.length_filter_le _ _) hl
      have em5 := s5 _ _ em4
      -- the greatest low
      refine ⟨_, rfl, D3, rfl, ⟨_, SqL.of e3⟩, fun D4 nD4 => lc_list (K := K) (a := D3) (xs := bs.map V.ref) (fun j H' => Same H5 H' ∧ H' D4 = some (.lst ((((stsOf now o x.nm ls).take j).map (·.1)).map V.int))) ⟨same_new nD4, upd_same⟩ (fun j H' _ h => SqL.of (h.1 _ _ e3)) ?_ ?_⟩
      · rintro j w H' hj ⟨s6, e4⟩
        obtain ⟨b, t, rfl, ht, hT⟩ := (hB.same s6).get hj
        refine ⟨rfl, ?_⟩
        refine ⟨_, rfl, _, _, _, _, rfl, rfl, hT, atI_nat (j := 0) rfl, ?_⟩
        refine ⟨_, e4, ?_, Same.mut s6 nD4, ?_⟩
        · rw [List.length_map, List.length_map, List.length_take]
          have := hB.1
          exact Nat.lt_of_lt_of_le (show _ < 1001 by omega) (by decide)
        · rw [upd_same, take_snoc ht, List.map_append, List.map_append]
          rfl
      rintro H6 ⟨s6, e4⟩
      rw [List.length_map, hB.1, List.take_length] at e4
      refine ⟨D4, _, rfl, SqL.of e4, ?_, fun m hm1 hm2 => ?_⟩
      · rw [List.length_map]
        exact List.length_pos_iff.mpr hne
      have eLo := loOf_is hm1 hm2
      subst eLo
      dsimp only [gName]
      have e36 := s6 _ _ e3
      have hB6 := hB.same s6
      -- the least high
      refine ⟨_, rfl, D3, rfl, ⟨_, SqL.of e36⟩, fun D5 nD5 => lc_list (K := K) (a := D3) (xs := bs.map V.ref) (fun j H' => Same H6 H' ∧ H' D5 = some (.lst ((((stsOf now o x.nm ls).take j).map (·.2)).map V.int))) ⟨same_new nD5, upd_same⟩ (fun j H' _ h => SqL.of (h.1 _ _ e36)) ?_ ?_⟩
      · rintro j w H' hj ⟨s7, e5⟩
        obtain ⟨b, t, rfl, ht, hT⟩ := (hB6.same s7).get hj
        refine ⟨rfl, ?_⟩
        refine ⟨_, rfl, _, _, _, _, rfl, rfl, hT, atI_nat (j := 1) rfl, ?_⟩
        refine ⟨_, e5, ?_, Same.mut s7 nD5, ?_⟩
        · rw [List.length_map, List.length_map, List.length_take]
          have := hB.1
          exact Nat.lt_of_lt_of_le (show _ < 1001 by omega) (by decide)
        · rw [upd_same, take_snoc ht, List.map_append, List.map_append]
          rfl
      rintro H7 ⟨s7, e5⟩
      rw [List.length_map, hB.1, List.take_length] at e5
      refine ⟨D5, _, rfl, SqL.of e5, ?_, fun m2 hm3 hm4 => ?_⟩
      · rw [List.length_map]
        exact List.length_pos_iff.mpr hne
      have eHi := hiOf_is hm3 hm4
      subst eHi
      dsimp only [gName]
      have s67 := (s5.trans s6).trans s7
      have em7 := s67 _ _ em4
      have eD7 := s67 _ _ eD4
      have hX7 := hX4.same s67
      have s07 := (s3.trans s4).trans s67
      have eg : gathTo now o ls (i + 1) = gathTo now o ls i ++ [(x.nm, clkOf now o ls x.nm)] := by
        unfold gathTo
        rw [take_snoc hx, namesOf_snoc]
        unfold addN
        rw [if_neg hm, List.map_append]
        rfl
      have fin : ∀ (u : V) (H8 : Hp) (t : Addr), Same H7 H8 → ClV K H8 u (clkOf now o ls x.nm) → H8 t = none →
          (Same H (upd (upd H8 t (.tup [.str (mkS x.nm), u])) pm (.lst (xs ++ [.ref t]))) ∧ (upd (upd H8 t (.tup [.str (mkS x.nm), u])) pm (.lst (xs ++ [.ref t]))) D = some (.lst (txs (ls.map (·.nm)))) ∧
            (upd (upd H8 t (.tup [.str (mkS x.nm), u])) pm (.lst (xs ++ [.ref t]))) pm = some (.lst (xs ++ [.ref t])) ∧ ClksAt K (upd (upd H8 t (.tup [.str (mkS x.nm), u])) pm (.lst (xs ++ [.ref t]))) (xs ++ [.ref t]) (gathTo now o ls (i + 1))) := by
        intro u H8 t s8 cv nt
        have em8 := s8 _ _ em7
        have npt : pm ≠ t := ne_of_none em8 nt
        have em9 := (upd_ne npt (o := .tup [.str (mkS x.nm), u])).trans em8
        have sx : Same H8 (upd H8 t (.tup [.str (mkS x.nm), u])) := same_new nt
        refine ⟨Same.mut ((s07.trans s8).trans sx) nm, (upd_ne nDm).trans (sx _ _ (s8 _ _ eD7)), upd_same, ?_⟩
        rw [eg]
        refine (((hX7.same (s8.trans sx)).snoc ⟨t, u, rfl, SqT.of upd_same, cv.same sx⟩)).off em9 (fun _ z => nomatch z) (fun _ _ z => nomatch z)
      have ec : clkOf now o ls x.nm = if loOf (stsOf now o x.nm ls) ≤ hiOf (stsOf now o x.nm ls) then some (loOf (stsOf now o x.nm ls), hiOf (stsOf now o x.nm ls)) else none := rfl
      have hsz : xs.length < sizeLine := Nat.lt_of_le_of_lt hxl (by decide)
      refine ⟨_, rfl, .inl ⟨rfl, _, SqL.of em7⟩, _, rfl, ?_⟩
      refine ⟨_, rfl, _, rfl, _, _, rfl, rfl, _, rfl, ?_⟩
      refine ite_dec (fun z => ?_) (fun z => ?_)
      · refine ⟨_, rfl, _, rfl, (by show 2 ≤ sizeLine; decide), fun u nu => ?_⟩
        refine ⟨(by show 2 ≤ sizeLine; decide), fun t nt => ?_⟩
        rw [if_pos z] at ec
        have f := fin (.ref u) _ t (same_new nu) (by rw [ec]; exact ⟨u, rfl, SqT.of upd_same⟩) nt
        refine ⟨pm, xs, _, rfl, rfl, (upd_ne (ne_of_none (same_new nu _ _ em7) nt)).trans (same_new nu _ _ em7), hsz, ?_⟩
        exact ⟨f.1, f.2.1, xs ++ [.ref t], some (.str (mkS x.nm)), _, _, _, rfl, f.2.2.1, f.2.2.2⟩
      · refine ⟨(by show 2 ≤ sizeLine; decide), fun t nt => ?_⟩
        rw [if_neg z] at ec
        have f := fin .non _ t (Same.refl _) (by rw [ec]; rfl) nt
        refine ⟨pm, xs, _, rfl, rfl, (upd_ne (ne_of_none em7 nt)).trans em7, hsz, ?_⟩
        exact ⟨f.1, f.2.1, xs ++ [.ref t], some (.str (mkS x.nm)), _, _, _, rfl, f.2.2.1, f.2.2.2⟩
    · rintro σ H3 ⟨s3, eD3, xs, v4, v5, v6, v7, rfl, em, hX⟩
      have e : gathTo now o ls (txs (ls.map (·.nm))).length = gath now o ls := by
        unfold gathTo txs
        rw [List.length_map, List.length_map, List.take_length]
        rfl
      rw [e] at hX
      exact ⟨_, rfl, q pm xs H3 s3 hX em nm⟩
/-! ### _law_pairs -/
abbrev n_pairs : List Str := ["_law_found", "_law_due", "_law_k", "_law_one"]
theorem sc_pairs : FnScope ["_law_found", "_law_due", "_law_k", "_law_one"] ["_law_found", "_law_due"] (defScope s_pairs) := ⟨rfl, rfl, rfl, by decide +kernel, rfl, by decide +kernel, by decide +kernel⟩
theorem ok_pairs (T : Txt K mg a) : FnOk P w K mg base CX0 2 a.f_pairs a.d_pairs ["_law_found", "_law_due"] (spPairs K) := by
  refine T.pairs.F.ok sc_pairs (fun vs H Q E h => ?_) (fun cdv A outer s H vs Q E hr h => ?_)
  · obtain ⟨qq, p, xs, ys, cs, rfl, eq, hP, hX, hY, hlow, hcs, q⟩ := h
    rfl
  · obtain ⟨qq, p, xs, ys, cs, rfl, eq, hP, hX, hY, hlow, hcs, q⟩ := h
    have hu := hu_of hr
    refine ⟨_, (pss_cons (ps_if (PW.pt (pw_or (pt_not (pt_val (pe_callB (isiK K) (by rfl) T.b_isinstance (by decide +kernel) (pa_cons (pv 0) (pa_cons (pe_bty (n := "list") T.b_list (by decide +kernel)) pa_nil))))) (pw_or1 (pt_cmpR op_ne (pe_callB (lenK K) (by rfl) T.b_len boot_len (pa_cons (pv 0) pa_nil)) (pe_callB (lenK K) (by rfl) T.b_len boot_len (pa_cons (pv 1) pa_nil)) (nomark _))))) (pss_one (ps_ret pe_bl)) pss_nil)
      (pss_cons (ps_for PassesOwn.never rfl (pi_range1 rfl T.b_range (pa_cons (pe_callB (lenK K) (by rfl) T.b_len boot_len (pa_cons (pv 1) pa_nil)) pa_nil)) (pg_name (i := 2) sc_pairs.nd rfl (Or.inl rfl)) (pss_cons (ps_if (PW.pt (pw_or (pt_not (pt_val (pe_callB (isiK K) (by rfl) T.b_isinstance (by decide +kernel) (pa_cons (pe_ix (ixL K) (pv 0) (pv 2) (fun _ _ => rfl)) (pa_cons (pe_bty (n := "tuple") T.b_tuple (by decide +kernel)) pa_nil))))) (pw_or (pt_cmpR op_ne (pe_callB (lenK K) (by rfl) T.b_len boot_len (pa_cons (pe_ix (ixL K) (pv 0) (pv 2) (fun _ _ => rfl)) pa_nil)) pe_int (nomark _)) (pw_or1 (pt_not (pt_val (pe_callB (isiK K) (by rfl) T.b_isinstance (by decide +kernel) (pa_cons (pe_ix (ixT K) (pe_ix (ixL K) (pv 0) (pv 2) (fun _ _ => rfl)) pe_int (fun _ _ => rfl)) (pa_cons (pe_bty (n := "str") T.b_str (by decide +kernel)) pa_nil))))))))) (pss_one (ps_ret pe_bl)) pss_nil)
      (pss_one (ps_if (pt_cmpR op_notN (pe_ix (ixT K) (pe_ix (ixL K) (pv 0) (pv 2) (fun _ _ => rfl)) pe_int (fun _ _ => rfl)) pe_non (nomark _)) (pss_one (ps_if (PW.pt (pw_or (pt_not (pt_val (pe_callB (isiK K) (by rfl) T.b_isinstance (by decide +kernel) (pa_cons (pe_ix (ixT K) (pe_ix (ixL K) (pv 0) (pv 2) (fun _ _ => rfl)) pe_int (fun _ _ => rfl)) (pa_cons (pe_bty (n := "tuple") T.b_tuple (by decide +kernel)) pa_nil))))) (pw_or1 (pt_cmpR (neDK K hr.units) (pe_lc (own := [("_law_one", 3)]) (g := gName 3) rfl sc_pairs.nd (piT K (pe_ix (ixT K) (pe_ix (ixL K) (pv 0) (pv 2) (fun _ _ => rfl)) pe_int (fun _ _ => rfl))) (blkOk_by (N := n_pairs) (sc := defScope s_pairs) (by decide +kernel)) (fun _ _ _ _ _ => pg_name (i := 3) sc_pairs.nd rfl (Or.inl rfl)) (fun _ _ _ _ _ => pts_one (pt_not (pt_val (pe_cl (ok_whole T) T.whole (hr.mono (by decide)) (pa_cons (pv 3) pa_nil))))) (fun _ _ _ _ _ => (pv 3))) (pe_lst pa_nil) (nomark _))))) (pss_one (ps_ret pe_bl)) pss_nil)) pss_nil))))
      (pss_one (ps_ret (pe_cmpR (eqDK K hr.units) (pv 0) (pv 1) (nomark _)))))), ?_⟩
    refine ⟨_, rfl, _, _, _, _, true, rfl, .ty _, .base (.lst eq), kit_ty (by decide +kernel), _, rfl, ?_⟩
    refine iteF ?_
    refine ⟨_, rfl, _, _, rfl, .inl (SqL.of eq), _, rfl, _, _, rfl, .inl hP, rfl, _, rfl, ?_⟩
    refine iteNS (by rw [hX.1, hY.1]) ?_
    have hyl : ys.length ≤ 1000 := by rw [hY.1]; exact hcs
    refine ⟨_, rfl, _, _, rfl, .inl hP, _, rfl, by omega, by omega, for_range (lo := 0) (n := ys.length) (fun i σ H' => Same H H' ∧ ∃ v : Option V, σ = [some (.ref qq), some (.ref p), v, none]) ⟨Same.refl H, none, rfl⟩ ?_ ?_⟩
    · rintro i σ H2 hi ⟨s2, v, rfl⟩
      have eq2 := s2 _ _ eq
      have hX2 := hX.same s2
      have hil : i < xs.length := by rw [hX.1, ← hY.1]; exact hi
      have hxi : xs[i]? = some xs[i] := List.getElem?_eq_getElem hil
      generalize xs[i] = w at hxi
      obtain ⟨c, hc, t, u, rfl, hT, hU⟩ := hX2.get hxi
      have hat : atI xs (0 + (i : Int)) = some (.ref t) := at_of (j := i) (by omega) hxi
      refine ⟨_, rfl, _, rfl, _, _, _, _, rfl, rfl, SqL.of eq2, hat, _, _, _, _, true, rfl, .ty _, tyT hT, kit_ty (by decide +kernel), _, rfl, ?_⟩
      refine iteF ?_
      refine ⟨_, rfl, _, rfl, _, _, _, _, rfl, rfl, SqL.of eq2, hat, _, _, rfl, .inr hT, rfl, _, rfl, ?_⟩
      refine iteNS rfl ?_
      refine ⟨_, rfl, _, rfl, _, _, _, _, rfl, rfl, SqL.of eq2, hat, _, _, _, _, rfl, rfl, hT, atI_nat (j := 0) rfl, _, _, _, _, true, rfl, .ty _, .base (.str _), kit_ty (by decide +kernel), _, rfl, ?_⟩
      refine iteF ?_
      refine ⟨_, rfl, _, rfl, _, _, _, _, rfl, rfl, SqL.of eq2, hat, _, _, _, _, rfl, rfl, hT, atI_nat (j := 1) rfl, rfl, _, rfl, ?_⟩
      obtain ⟨cn, co⟩ := c
      cases co with
      | none =>
        cases (show u = .non from hU)
        refine ite_no rfl ?_
        exact ⟨s2, some (.int (0 + (i : Int))), rfl⟩
      | some st =>
        obtain ⟨b, rfl, hB⟩ := hU
        refine ite_yes rfl ?_
        refine ⟨_, rfl, _, rfl, _, _, _, _, rfl, rfl, SqL.of eq2, hat, _, _, _, _, rfl, rfl, hT, atI_nat (j := 1) rfl, _, _, _, _, true, rfl, .ty _, tyT hB, kit_ty (by decide +kernel), _, rfl, ?_⟩
        refine iteF ?_
        refine ⟨_, rfl, _, rfl, _, _, _, _, rfl, rfl, SqL.of eq2, hat, _, _, _, _, rfl, rfl, hT, atI_nat (j := 1) rfl, b, rfl, ⟨_, hB⟩, fun D nD => lc_tup (K := K) (a := b) (xs := [.int st.1, .int st.2]) (fun j H' => Same H2 H' ∧ H' D = some (.lst [])) ⟨same_new nD, upd_same⟩ (fun j H' _ h => Ts.Same.seqT h.1 hB) ?_ ?_⟩
        · rintro j x H' hj ⟨s3, eD⟩
          have hx : ∃ z, x = V.int z := by
            have := List.mem_of_getElem? hj
            simp only [List.mem_cons, List.not_mem_nil, or_false] at this
            rcases this with rfl | rfl
            · exact ⟨_, rfl⟩
            · exact ⟨_, rfl⟩
          obtain ⟨z, rfl⟩ := hx
          refine ⟨rfl, ?_⟩
          refine ⟨_, rfl, _, rfl, _, rfl, ?_⟩
          refine iteF ?_
          exact ⟨s3, eD⟩
        · rintro H' ⟨s3, eD⟩
          refine ⟨(by show 0 ≤ sizeLine; decide), fun p2 n2 => ?_⟩
          refine ⟨.list [], .list [], .lst (SqL.of ((upd_ne (ne_of_none eD n2)).trans eD)) .nil, .lst SqL.here .nil, rfl, rfl, _, rfl, ?_⟩
          refine ite_no rfl ?_
          exact ⟨(s2.trans s3).trans (same_new n2), some (.int (0 + (i : Int))), rfl⟩
    · rintro σ H2 ⟨s2, v, rfl⟩
      refine ⟨_, rfl, _, rfl, clksD cs, clksD cs, (hX.same s2).dp (SqL.of (s2 _ _ eq)), (hY.same s2).dp (s2.seq hP), shp_clks hlow, shp_clks hlow, ?_⟩
      rw [eqv_self (shp_clks hlow)]
      exact q H2 s2
/-! ### _law_told -/
abbrev n_told : List Str := ["_law_letters_here", "_law_now_here", "_law_off_here", "_law_e"]
theorem sc_told : FnScope ["_law_letters_here", "_law_now_here", "_law_off_here", "_law_e"] ["_law_letters_here", "_law_now_here", "_law_off_here"] (defScope s_told) := ⟨rfl, rfl, rfl, by decide +kernel, rfl, by decide +kernel, by decide +kernel⟩
theorem ok_told (T : Txt K mg a) : FnOk P w K mg base CX0 4 a.f_told a.d_told ["_law_letters_here", "_law_now_here", "_law_off_here"] (spTold K) := by
  refine T.told.F.ok sc_told (fun vs H Q E h => ?_) (fun cdv A outer s H vs Q E hr h => ?_)
  · obtain ⟨p, as, ls, now, o, rfl, hL, hA, hok, hl, qO, qE, q⟩ := h
    rfl
  · obtain ⟨p, as, ls, now, o, rfl, hL, hA, hok, hl, qO, qE, q⟩ := h
    have hu := hu_of hr
    refine ⟨_, (pss_one (ps_try_as (ts := fun x cls d => tRet (tCallE (spKind K a.cs a.c_StretchError) x cls d (tCons (tVar 3) tNil))) (i := 3) rfl rfl sc_told.nd rfl rfl ⟨rfl, by decide, .inl T.StretchError.g⟩ takes0 (fun W pn xe tk _ => (pss_one (ps_ret (pe_clT (ok_gathered T) T.gathered (hr.mono (by decide)) tk (pa_cons (pv 0) (pa_cons (pv 1) (pa_cons (pv 2) pa_nil))))))) (fun a oe cls d pn hz hf => (pss_one (ps_ret (pe_callE (p := (a, oe)) (ok_kind T) (rm_suite hr (by decide)) List.mem_cons_self hz hf T.kind.g T.kind.F.kp T.kind.b (pa_cons (pv 3) pa_nil))))))), ?_⟩
    refine ⟨_, rfl, _, rfl, _, rfl, p, as, ls, now, o, rfl, hL, hA, hok, hl, fun bad H1 s1 => ?_, fun ok early H1 s1 => ?_, fun ok le u xs H' s' hX eu nu => ?_⟩
    · refine ⟨true, T.kd_BadOff.em, fun _ x nx => ?_, fun z => nomatch z⟩
      refine ⟨_, rfl, rfl, _, 2, rfl, rfl, T.kd_BadOff, fun H' s' => ?_⟩
      exact qO bad H' (s1.trans s')
    · refine ⟨true, T.kd_TooEarly.em, fun _ x nx => ?_, fun z => nomatch z⟩
      refine ⟨_, rfl, rfl, _, 3, rfl, rfl, T.kd_TooEarly, fun H' s' => ?_⟩
      exact qE ok early H' (s1.trans s')
    · exact q ok le u xs H' s' hX eu nu
/-! ### law -/
abbrev n_law : List Str := ["_law_script", "_law_letters_here", "_law_now_here", "_law_off_here", "_law_way", "_law_handed", "_law_found", "_law_due"]
theorem sc_law : FnScope ["_law_script", "_law_letters_here", "_law_now_here", "_law_off_here", "_law_way", "_law_handed", "_law_found", "_law_due"] ["_law_script"] (defScope s_law) := ⟨rfl, rfl, rfl, by decide +kernel, rfl, by decide +kernel, by decide +kernel⟩
theorem ok_law (T : Txt K mg a) : FnOk P w K mg base CX0 5 a.f_law a.d_law ["_law_script"] (spLaw K) := by
  refine T.law.F.ok sc_law (fun vs H Q E h => ?_) (fun cdv A outer s H vs Q E hr h => ?_)
  · obtain ⟨l, ns, rfl, hS, hlen, k⟩ := h
    rfl
  · obtain ⟨l, ns, rfl, hS, hlen, k⟩ := h
    have hu := hu_of hr
    refine ⟨_, (pss_cons (ps_set (i := 1) sc_law.nd rfl (Or.inl rfl) (pe_cl (ok_letters T) T.letters (hr.mono (by decide)) (pa_cons (pv 0) (pa_cons (pe_cl (ok_names T) T.names (hr.mono (by decide)) (pa_cons (pe_cl (ok_cell_at T) T.cell_at (hr.mono (by decide)) (pa_cons (pv 0) (pa_cons pe_int pa_nil))) pa_nil)) pa_nil))))
      (pss_cons (ps_set (i := 2) sc_law.nd rfl (Or.inl rfl) (pe_cl (ok_now T) T.now (hr.mono (by decide)) (pa_cons (pv 0) (pa_cons (pv 1) pa_nil))))
      (pss_cons (ps_set (i := 3) sc_law.nd rfl (Or.inl rfl) (pe_cl (ok_off T) T.off (hr.mono (by decide)) (pa_cons (pe_op (op_divc (c := 11) (by decide) (by decide)) (pe_cl (ok_cell_at T) T.cell_at (hr.mono (by decide)) (pa_cons (pv 0) (pa_cons pe_int pa_nil))) pe_int) pa_nil)))
      (pss_cons (ps_set (i := 4) sc_law.nd rfl (Or.inl rfl) (pe_op (op_modc (c := 10) (by decide)) (pe_op (op_divc (c := 2) (by decide) (by decide)) (pe_cl (ok_cell_at T) T.cell_at (hr.mono (by decide)) (pa_cons (pv 0) (pa_cons pe_int pa_nil))) pe_int) pe_int))
      (pss_cons (ps_if (PW.pt (pw_or (pt_cmpR op_eq (pv 4) pe_int (nomark _)) (pw_or1 (pt_cmpR op_eq (pv 4) pe_int (nomark _))))) (pss_one (ps_set (i := 3) sc_law.nd rfl (Or.inl rfl) (pe_ix (ixL K) (pe_lst (pa_cons pe_negc (pa_cons pe_int (pa_cons (pe_op op_add pe_int (pe_cl (ok_big T) T.big (hr.mono (by decide)) (pa_cons (pe_cl (ok_cell_at T) T.cell_at (hr.mono (by decide)) (pa_cons (pv 0) (pa_cons pe_int pa_nil))) (pa_cons pe_int pa_nil)))) pa_nil)))) (pe_op (op_modc (c := 3) (by decide)) (pe_cl (ok_cell_at T) T.cell_at (hr.mono (by decide)) (pa_cons (pv 0) (pa_cons pe_int pa_nil))) pe_int) (fun _ _ => rfl)))) pss_nil)
      (pss_cons (ps_if (PW.pt (pw_and (PW.pt (pw_or (pt_cmpR op_eq (pv 4) pe_int (nomark _)) (pw_or1 (pt_cmpR op_eq (pv 4) pe_int (nomark _))))) (pw_and1 (pt_cmpR (neDK K hr.units) (pv 1) (pe_lst pa_nil) (nomark _))))) (pss_one (ps_set (i := 2) sc_law.nd rfl (Or.inl rfl) (pe_op op_sub (pe_ix (ixT K) (pe_ix (ixL K) (pv 1) (pe_op op_mod (pe_cl (ok_mix T) T.mix (hr.mono (by decide)) (pa_cons (pe_cl (ok_cell_at T) T.cell_at (hr.mono (by decide)) (pa_cons (pv 0) (pa_cons pe_int pa_nil))) (pa_cons pe_int pa_nil))) (pe_callB (lenK K) (by rfl) T.b_len boot_len (pa_cons (pv 1) pa_nil))) (fun _ _ => rfl)) pe_int (fun _ _ => rfl)) pe_int))) pss_nil)
      (pss_cons (ps_set (i := 5) sc_law.nd rfl (Or.inl rfl) (pe_callTy (listK K) (by rfl) T.b_list (by decide +kernel) (pa_cons (pv 1) pa_nil)))
      (pss_cons (ps_set (i := 6) sc_law.nd rfl (Or.inl rfl) (pe_cl (ok_told T) T.told (hr.mono (by decide)) (pa_cons (pv 5) (pa_cons (pv 2) (pa_cons (pv 3) pa_nil)))))
      (pss_cons (ps_if (pt_cmpR (neDK K hr.units) (pv 5) (pv 1) (nomark _)) (pss_one (ps_ret pe_bl)) pss_nil)
      (pss_cons (ps_if (PW.pt (pw_or (pt_cmpR op_eq (pv 4) pe_int (nomark _)) (pw_or1 (pt_cmpR op_eq (pv 4) pe_int (nomark _))))) (pss_one (ps_ret (pe_cmpR op_eq (pv 6) pe_str (nomark _)))) pss_nil)
      (pss_cons (ps_if (PW.pt (pw_and (pt_cmpR op_eq (pv 4) pe_int (nomark _)) (pw_and1 (pt_cmpR (neDK K hr.units) (pv 1) (pe_lst pa_nil) (nomark _))))) (pss_one (ps_ret (pe_cmpR op_eq (pv 6) pe_str (nomark _)))) pss_nil)
      (pss_cons (ps_set (i := 7) sc_law.nd rfl (Or.inl rfl) (pe_cl (ok_w_gathered T) T.w_gathered (hr.mono (by decide)) (pa_cons (pv 1) (pa_cons (pv 2) (pa_cons (pv 3) pa_nil)))))
      (pss_cons (ps_if (pt_not (pt_val (pe_cl (ok_pairs T) T.pairs (hr.mono (by decide)) (pa_cons (pv 6) (pa_cons (pv 7) pa_nil))))) (pss_one (ps_ret pe_bl)) pss_nil)
      (pss_cons (ps_expr (pe_bm0 PySem.F.plainAttrs_list PySem.F.slot_list_clear PySem.F.type_list_clear mt_clear (pv 6)))
      (pss_one (ps_ret (pe_cmpR (eqDK K hr.units) (pe_cl0 (ok_gathered T) T.gathered (hr.mono (by decide)) (pa_cons (pv 5) (pa_cons (pv 2) (pa_cons (pv 3) pa_nil)))) (pv 7) (nomark _)))))))))))))))))), ?_⟩
    refine ⟨_, rfl, _, rfl, _, _, 0, rfl, hS, _, rfl, fun pn xs H1 hxl _ hxo s1 eN => ?_⟩
    refine ⟨l, pn, ns, xs, rfl, s1.seq hS, hlen, SqL.of eN, hxl, hxo, fun as ls pl H2 l200 lok s2 hA eL nL => ?_⟩
    dsimp only [gName]
    have s02 := s1.trans s2
    refine ⟨_, rfl, _, rfl, l, pl, ns, as, ls, rfl, s02.seq hS, SqL.of eL, hA, lok, fun n0 H3 n00 n01 nb s3 => ?_⟩
    have s03 := s02.trans s3
    refine ⟨_, rfl, _, _, 0, rfl, s03.seq hS, _, rfl, rfl, _, rfl, fun of H4 o0 o1 s4 => ?_⟩
    have s04 := s03.trans s4
    refine ⟨_, rfl, _, _, 2, rfl, s04.seq hS, _, rfl, rfl, _, rfl, rfl, ?_⟩
    dsimp only [gName]
    generalize ns.getD 2 0 / 2 % 10 = wy
    have eL4 := s4 _ _ (s3 _ _ eL)
    have hA4 := (hA.same s3).same s4
    have lowL : ∀ x ∈ ls, low x.nm := fun x hx => (lok x hx).nm.2.2
    have shL := shp_lets lowL
    have hdp : ∀ {H' : Hp}, Same H4 H' → Dp K H' (.ref pl) (.list (ls.map letD)) := fun s => (hA4.same s).dp (SqL.of (s _ _ eL4))
    -- other thousandths
    refine seq_cut (fun σ' H' => ∃ o : Int, ((wy = 1 ∨ wy = 2) → ¬ okOff o) ∧ (¬ (wy = 1 ∨ wy = 2) → okOff o) ∧ Same H4 H' ∧
      σ' = [some (.ref l), some (.ref pl), some (.int n0), some (.int o), some (.int wy), none, none, none]) (fun N hN => ?_) ?_
    · refine ⟨_, rfl, rfl, _, rfl, ?_⟩
      refine ite_eq (fun z => iteT ?_) (fun z => ⟨_, rfl, rfl, _, rfl, ite_eq (fun y => ?_) (fun y => ?_)⟩)
      case refine_3 => exact hN _ _ ⟨of, fun x => by omega, fun x => ⟨o0, o1⟩, Same.refl _, rfl⟩
      all_goals
        refine ⟨_, rfl, _, _, 0, rfl, s04.seq hS, _, _, rfl, fun u1 H5 u10 u11 s5 => ?_⟩
        refine ⟨_, _, rfl, rfl, (by show 3 ≤ sizeLine; decide), fun p8 n8 => ?_⟩
        refine ⟨_, rfl, _, _, 0, rfl, ((s04.trans s5).trans (same_new n8)).seq hS, _, rfl, rfl, ?_⟩
        refine ix_int (fun j => ¬ okOff j) SqL.here (Int.emod_nonneg _ (by decide)) (Int.emod_lt_of_pos _ (by decide)) (allc ⟨_, rfl, fun h => by have := h.1; omega⟩ (allc ⟨_, rfl, fun h => by have := h.2; omega⟩ (all1 ⟨_, rfl, fun h => by have := h.2; omega⟩))) fun j hj => ?_
        exact hN _ _ ⟨j, fun _ => hj, fun x => absurd (by omega) x, s5.trans (same_new n8), rfl⟩
    rintro σ' H5 ⟨o, ob, oo, s5, rfl⟩
    -- ahead of one's back
    refine seq_cut (fun σ' H' => ∃ n : Int, ((wy = 2 ∨ wy = 3) ∧ ls ≠ [] → ∃ x ∈ ls, n < x.b) ∧ (¬ ((wy = 2 ∨ wy = 3) ∧ ls ≠ []) → ∀ x ∈ ls, x.b ≤ n) ∧ Same H5 H' ∧
      σ' = [some (.ref l), some (.ref pl), some (.int n), some (.int o), some (.int wy), none, none, none]) (fun N hN => ?_) ?_
    · have keep : ∀ H', Same H5 H' → ¬ ((wy = 2 ∨ wy = 3) ∧ ls ≠ []) → N [some (.ref l), some (.ref pl), some (.int n0), some (.int o), some (.int wy), none, none, none] H' := fun H' s h => hN _ _ ⟨n0, fun x => absurd x h, fun _ => nb, s, rfl⟩
      refine ⟨_, rfl, rfl, _, rfl, ?_⟩
      refine ite_eq (fun z => iteT ?_) (fun z => ⟨_, rfl, rfl, _, rfl, ite_eq (fun y => ?_) (fun y => ?_)⟩)
      case refine_3 => exact keep _ (Same.refl _) (fun h => by omega)
      all_goals
        refine ⟨_, rfl, (by show 0 ≤ sizeLine; decide), fun p8 n8 => ?_⟩
        refine ⟨_, _, hdp (s5.trans (same_new n8)), .lst SqL.here .nil, shL, rfl, _, rfl, ?_⟩
        rw [lets_nil]
        by_cases hn : ls = []
        · rw [decide_eq_true hn]
          refine iteF ?_
          exact keep _ (same_new n8) (fun h => h.2 hn)
        · rw [decide_eq_false hn]
          refine iteT ?_
          have s6 := s5.trans (same_new n8 (o := .lst []))
          have eL6 := s6 _ _ eL4
          have hpos : 0 < ls.length := List.length_pos_iff.mpr hn
          refine ⟨_, rfl, _, rfl, _, _, 0, rfl, (s04.trans s6).seq hS, _, _, rfl, fun m m0 m1 => ?_⟩
          refine ⟨_, rfl, _, _, rfl, .inl (SqL.of eL6), _, _, rfl, rfl, ?_, ?_⟩
          · show (0 : Int) < ((as.map V.ref).length : Int)
            rw [List.length_map, hA.1]
            omega
          have el : (as.map V.ref).length = ls.length := by rw [List.length_map, hA.1]
          have m2 := Int.emod_nonneg m (show ((as.map V.ref).length : Int) ≠ 0 by omega)
          have m3 := Int.emod_lt_of_pos m (show (0 : Int) < ((as.map V.ref).length : Int) by omega)
          obtain ⟨v, hv, hv2, hv3⟩ := at_in (xs := as.map V.ref) m2 m3
          obtain ⟨t, x, rfl, ht, hx, hT⟩ := (hA4.same s6).get hv2
          refine ⟨pl, _, _, _, rfl, rfl, SqL.of eL6, hv3, _, _, _, _, rfl, rfl, hT, atI_nat (j := 2) rfl, _, _, rfl, rfl, ?_⟩
          exact hN _ _ ⟨x.b - 1, fun _ => ⟨x, List.mem_of_getElem? hx, by omega⟩, fun h => absurd ⟨by omega, hn⟩ h, same_new n8, rfl⟩
    rintro σ' H6 ⟨n, nE, nL', s6, rfl⟩
    have s46 := s5.trans s6
    have eL6 := s46 _ _ eL4
    have hA6 := hA4.same s46
    refine ⟨_, rfl, _, _, rfl, .inl (SqL.of eL6), fun ph nh => ?_⟩
    dsimp only [gName]
    generalize hH7 : upd _ ph _ = H7
    obtain ⟨s7, eH⟩ := gen_new hH7 nh
    clear hH7
    have s47 := s46.trans s7
    have hA7 := hA6.same s7
    have same8 : ∀ {H' : Hp}, Same H7 H' → Dp K H' (.ref ph) (.list (ls.map letD)) := fun s => (hA7.same s).dp (SqL.of (s _ _ eH))
    refine ⟨_, rfl, _, rfl, _, rfl, ph, as, ls, n, o, rfl, SqL.of eH, hA7, lok, by omega, fun bad H8 s8 => ?_, fun ok early H8 s8 => ?_, fun ok le q xs H8 s8 hX eq nq => ?_⟩
    · have w12 : wy = 1 ∨ wy = 2 := by
        by_cases h : wy = 1 ∨ wy = 2
        · exact h
        · exact absurd (oo h) bad
      refine ⟨_, rfl, _, rfl, _, _, same8 s8, hdp (s47.trans s8), shL, shL, _, rfl, ?_⟩
      refine ite_no (by rw [eqv_self shL]; rfl) ?_
      refine ⟨_, rfl, rfl, _, rfl, ?_⟩
      refine ite_eq (fun z => iteT ?_) (fun z => ⟨_, rfl, rfl, _, rfl, ite_eq (fun y => ?_) (fun y => by omega)⟩)
      all_goals exact ⟨_, rfl, rfl, bl_true (decide_eq_true rfl) (k _)⟩
    · have nw : ¬ (wy = 1 ∨ wy = 2) := fun h => ob h ok
      obtain ⟨x, hx, hxb⟩ := early
      have w3 : (wy = 2 ∨ wy = 3) ∧ ls ≠ [] := by
        by_cases h : (wy = 2 ∨ wy = 3) ∧ ls ≠ []
        · exact h
        · have := nL' h x hx
          omega
      refine ⟨_, rfl, _, rfl, _, _, same8 s8, hdp (s47.trans s8), shL, shL, _, rfl, ?_⟩
      refine ite_no (by rw [eqv_self shL]; rfl) ?_
      refine ⟨_, rfl, rfl, _, rfl, ?_⟩
      refine ite_eq (fun z => absurd (.inl z) nw) (fun z => ⟨_, rfl, rfl, _, rfl, ite_eq (fun y => absurd (.inr y) nw) (fun y => ?_)⟩)
      refine ⟨_, rfl, rfl, _, rfl, ?_⟩
      refine ite_eq (fun x3 => ?_) (fun x3 => by omega)
      refine ⟨_, rfl, (by show 0 ≤ sizeLine; decide), fun p8 n8 => ?_⟩
      refine ⟨_, _, hdp ((s47.trans s8).trans (same_new n8)), .lst SqL.here .nil, shL, rfl, _, rfl, ?_⟩
      rw [lets_nil, decide_eq_false w3.2]
      refine iteT ?_
      exact ⟨_, rfl, rfl, bl_true (decide_eq_true rfl) (k _)⟩
    · have nw : ¬ (wy = 1 ∨ wy = 2) := fun h => ob h ok
      have nw3 : wy = 3 → ls = [] := fun h3 => by
        by_cases hn : ls = []
        · exact hn
        · obtain ⟨x, hx, hxb⟩ := nE ⟨.inr h3, hn⟩
          have := le x hx
          omega
      refine ⟨_, rfl, _, rfl, _, _, same8 s8, hdp (s47.trans s8), shL, shL, _, rfl, ?_⟩
      refine ite_no (by rw [eqv_self shL]; rfl) ?_
      refine ⟨_, rfl, rfl, _, rfl, ?_⟩
      refine ite_eq (fun z => absurd (.inl z) nw) (fun z => ⟨_, rfl, rfl, _, rfl, ite_eq (fun y => absurd (.inr y) nw) (fun y => ?_)⟩)
      dsimp only [tNext]
      refine seq_cut (fun σ' H' => Same H8 H' ∧ σ' = [some (.ref l), some (.ref pl), some (.int n), some (.int o), some (.int wy), some (.ref ph), some (.ref q), none]) (fun N hN => ?_) ?_
      · refine ⟨_, rfl, rfl, _, rfl, ?_⟩
        refine ite_eq (fun x3 => ?_) (fun x3 => hN _ _ ⟨Same.refl _, rfl⟩)
        refine ⟨_, rfl, (by show 0 ≤ sizeLine; decide), fun p8 n8 => ?_⟩
        refine ⟨_, _, hdp ((s47.trans s8).trans (same_new n8)), .lst SqL.here .nil, shL, rfl, _, rfl, ?_⟩
        rw [lets_nil, decide_eq_true (nw3 x3)]
        refine iteF ?_
        exact hN _ _ ⟨same_new n8, rfl⟩
      rintro σ' H9 ⟨s9, rfl⟩
      have s49 := (s47.trans s8).trans s9
      have lowG : ∀ c ∈ gath n o ls, low c.1 := gath_low lok
      have glen : (gath n o ls).length ≤ 1000 := Nat.le_trans (gath_len n o ls) (by omega)
      refine ⟨_, rfl, _, rfl, _, rfl, pl, as, ls, n, o, rfl, SqL.of (s49 _ _ eL4), hA4.same s49, lok, by omega, ok, fun d ys H10 s10 hY ed nd => ?_⟩
      have eq10 := s10 _ _ (s9 _ _ eq)
      have hX10 := (hX.same s9).same s10
      refine ⟨_, rfl, _, rfl, q, d, xs, ys, gath n o ls, rfl, eq10, SqL.of ed, hX10, hY, lowG, glen, fun H11 s11 => ?_⟩
      refine ⟨_, rfl, ?_⟩
      refine iteF ?_
      have eq11 := s11 _ _ eq10
      have ed11 := s11 _ _ ed
      have qd : d ≠ q := fun z => by
        have := s9 _ _ eq
        rw [← z, nd] at this
        cases this
      refine ⟨_, rfl, .inl ⟨rfl, _, SqL.of eq11⟩, q, xs, rfl, rfl, eq11, ?_⟩
      have s7n : Same H7 (upd H11 q (.lst [])) := Same.mut (((s8.trans s9).trans s10).trans s11) nq
      have hY12 : ClksAt K (upd H11 q (.lst [])) ys (gath n o ls) := (hY.same s11).off eq11 (fun _ z => nomatch z) (fun _ _ z => nomatch z)
      have ed12 : (upd H11 q (.lst [])) d = some (.lst ys) := (upd_ne qd).trans ed11
      refine ⟨_, rfl, _, rfl, _, rfl, ph, as, ls, n, o, rfl, s7n.seq (SqL.of eH), hA7.same s7n, lok, by omega, fun bad => absurd ok bad, fun _ early => ?_, fun _ _ q2 zs H13 s13 hZ ez nz => ?_⟩
      · obtain ⟨x, hx, hxb⟩ := early
        have := le x hx
        omega
      · refine ⟨_, rfl, _, _, hZ.dp (SqL.of ez), (hY12.same s13).dp (SqL.of (s13 _ _ ed12)), shp_clks lowG, shp_clks lowG, ?_⟩
        rw [eqv_self (shp_clks lowG)]
        exact k _
end
end Ts.k04
end
namespace Ts.k04
open PySem PySem.Spec PyProof.Rows L2 Ts
/-! ### the end -/
theorem fl_mk {K : PySem.W.Frag} {h : Heap} {mg : Str → Option Value} {x : Str} {st : Stmt} {ps : List Str} {f : Addr} {oc kV doc pm cdv ct : Value} {od an : Option Addr} {osl : Array (Option Value)} (X : K.In h) (G : h.Ns mainGlobals mg)
    (n : PySem.W.nsIn K mainGlobals x = some (some (.ref f))) (l : K.lookup f = some ⟨oc, od, .func (PySem.W.fnOf x x (defArgs st) (defBody st) (defScope st) .none kV doc pm an cdv ct), osl⟩) (c : PySem.W.codeIn K cdv x = true) (k : PySem.W.keepIn K (.ref f) = true)
    (b : ∀ us : List Value, us.length = ps.length → bindArgs (PySem.W.fnOf x x (defArgs st) (defBody st) (defScope st) .none kV doc pm an cdv ct) ⟨us, []⟩ = pure (ps.zip us)) :
    Dfn K mg x st ps f (PySem.W.fnOf x x (defArgs st) (defBody st) (defScope st) .none kV doc pm an cdv ct) :=
  ⟨fun_mk l c k, PySem.W.mg_of X G n, .all b⟩
theorem all_mk {l : PySem.W.OpenLaw} {w : World} {K : PySem.W.Frag} {h : Heap} {mg : Str → Option Value} {fa f_check_off f_slack f_brought f_gathered f_common f_whole f_cell_at f_mix f_big f_off f_w_slack f_w_brought f_kind f_word f_names f_letter f_letters f_now f_w_gathered f_pairs f_told f_law c_StretchError c_BadName c_BadLetter c_BadOff c_TooEarly c_BadCount c_NoAgreement c_TooWide c_TooMany c_NoClock c_NoText : Addr} (X : K.In h) (G : h.Ns mainGlobals mg) (hfa : mg "law" = some (.ref fa))
    {od_check_off an_check_off od_slack an_slack od_brought an_brought od_gathered an_gathered od_common an_common od_whole an_whole od_cell_at an_cell_at od_mix an_mix od_big an_big od_off an_off od_w_slack an_w_slack od_w_brought an_w_brought od_kind an_kind od_word an_word od_names an_names od_letter an_letter od_letters an_letters od_now an_now od_w_gathered an_w_gathered od_pairs an_pairs od_told an_told od_law an_law : Option Addr} {sl_check_off sl_slack sl_brought sl_gathered sl_common sl_whole sl_cell_at sl_mix sl_big sl_off sl_w_slack sl_w_brought sl_kind sl_word sl_names sl_letter sl_letters sl_now sl_w_gathered sl_pairs sl_told sl_law : Array (Option Value)} {oc_check_off kV_check_off dc_check_off pm_check_off cd_check_off ct_check_off oc_slack kV_slack dc_slack pm_slack cd_slack ct_slack oc_brought kV_brought dc_brought pm_brought cd_brought ct_brought oc_gathered kV_gathered dc_gathered pm_gathered cd_gathered ct_gathered oc_common kV_common dc_common pm_common cd_common ct_common oc_whole kV_whole dc_whole pm_whole cd_whole ct_whole oc_cell_at kV_cell_at dc_cell_at pm_cell_at cd_cell_at ct_cell_at oc_mix kV_mix dc_mix pm_mix cd_mix ct_mix oc_big kV_big dc_big pm_big cd_big ct_big oc_off kV_off dc_off pm_off cd_off ct_off oc_w_slack kV_w_slack dc_w_slack pm_w_slack cd_w_slack ct_w_slack oc_w_brought kV_w_brought dc_w_brought pm_w_brought cd_w_brought ct_w_brought oc_kind kV_kind dc_kind pm_kind cd_kind ct_kind oc_word kV_word dc_word pm_word cd_word ct_word oc_names kV_names dc_names pm_names cd_names ct_names oc_letter kV_letter dc_letter pm_letter cd_letter ct_letter oc_letters kV_letters dc_letters pm_letters cd_letters ct_letters oc_now kV_now dc_now pm_now cd_now ct_now oc_w_gathered kV_w_gathered dc_w_gathered pm_w_gathered cd_w_gathered ct_w_gathered oc_pairs kV_pairs dc_pairs pm_pairs cd_pairs ct_pairs oc_told kV_told dc_told pm_told cd_told ct_told oc_law kV_law dc_law pm_law cd_law ct_law : Value}
    {t_GREATEST_OFF : Tok}
    (a_check_off : PySem.W.nsIn K mainGlobals "check_off" = some (some (.ref f_check_off))) (l_check_off : K.lookup f_check_off = some ⟨oc_check_off, od_check_off, .func (PySem.W.fnOf "check_off" "check_off" (defArgs s_check_off) (defBody s_check_off) (defScope s_check_off) .none kV_check_off dc_check_off pm_check_off an_check_off cd_check_off ct_check_off), sl_check_off⟩) (k_check_off : PySem.W.codeIn K cd_check_off "check_off" = true) (e_check_off : PySem.W.keepIn K (.ref f_check_off) = true)
    (a_slack : PySem.W.nsIn K mainGlobals "slack" = some (some (.ref f_slack))) (l_slack : K.lookup f_slack = some ⟨oc_slack, od_slack, .func (PySem.W.fnOf "slack" "slack" (defArgs s_slack) (defBody s_slack) (defScope s_slack) .none kV_slack dc_slack pm_slack an_slack cd_slack ct_slack), sl_slack⟩) (k_slack : PySem.W.codeIn K cd_slack "slack" = true) (e_slack : PySem.W.keepIn K (.ref f_slack) = true)
    (a_brought : PySem.W.nsIn K mainGlobals "brought" = some (some (.ref f_brought))) (l_brought : K.lookup f_brought = some ⟨oc_brought, od_brought, .func (PySem.W.fnOf "brought" "brought" (defArgs s_brought) (defBody s_brought) (defScope s_brought) .none kV_brought dc_brought pm_brought an_brought cd_brought ct_brought), sl_brought⟩) (k_brought : PySem.W.codeIn K cd_brought "brought" = true) (e_brought : PySem.W.keepIn K (.ref f_brought) = true)
    (a_gathered : PySem.W.nsIn K mainGlobals "gathered" = some (some (.ref f_gathered))) (l_gathered : K.lookup f_gathered = some ⟨oc_gathered, od_gathered, .func (PySem.W.fnOf "gathered" "gathered" (defArgs s_gathered) (defBody s_gathered) (defScope s_gathered) .none kV_gathered dc_gathered pm_gathered an_gathered cd_gathered ct_gathered), sl_gathered⟩) (k_gathered : PySem.W.codeIn K cd_gathered "gathered" = true) (e_gathered : PySem.W.keepIn K (.ref f_gathered) = true)
    (a_common : PySem.W.nsIn K mainGlobals "common" = some (some (.ref f_common))) (l_common : K.lookup f_common = some ⟨oc_common, od_common, .func (PySem.W.fnOf "common" "common" (defArgs s_common) (defBody s_common) (defScope s_common) .none kV_common dc_common pm_common an_common cd_common ct_common), sl_common⟩) (k_common : PySem.W.codeIn K cd_common "common" = true) (e_common : PySem.W.keepIn K (.ref f_common) = true)
    (a_whole : PySem.W.nsIn K mainGlobals "_law_whole" = some (some (.ref f_whole))) (l_whole : K.lookup f_whole = some ⟨oc_whole, od_whole, .func (PySem.W.fnOf "_law_whole" "_law_whole" (defArgs s_whole) (defBody s_whole) (defScope s_whole) .none kV_whole dc_whole pm_whole an_whole cd_whole ct_whole), sl_whole⟩) (k_whole : PySem.W.codeIn K cd_whole "_law_whole" = true) (e_whole : PySem.W.keepIn K (.ref f_whole) = true)
    (a_cell_at : PySem.W.nsIn K mainGlobals "_law_cell_at" = some (some (.ref f_cell_at))) (l_cell_at : K.lookup f_cell_at = some ⟨oc_cell_at, od_cell_at, .func (PySem.W.fnOf "_law_cell_at" "_law_cell_at" (defArgs s_cell_at) (defBody s_cell_at) (defScope s_cell_at) .none kV_cell_at dc_cell_at pm_cell_at an_cell_at cd_cell_at ct_cell_at), sl_cell_at⟩) (k_cell_at : PySem.W.codeIn K cd_cell_at "_law_cell_at" = true) (e_cell_at : PySem.W.keepIn K (.ref f_cell_at) = true)
    (a_mix : PySem.W.nsIn K mainGlobals "_law_mix" = some (some (.ref f_mix))) (l_mix : K.lookup f_mix = some ⟨oc_mix, od_mix, .func (PySem.W.fnOf "_law_mix" "_law_mix" (defArgs s_mix) (defBody s_mix) (defScope s_mix) .none kV_mix dc_mix pm_mix an_mix cd_mix ct_mix), sl_mix⟩) (k_mix : PySem.W.codeIn K cd_mix "_law_mix" = true) (e_mix : PySem.W.keepIn K (.ref f_mix) = true)
    (a_big : PySem.W.nsIn K mainGlobals "_law_big" = some (some (.ref f_big))) (l_big : K.lookup f_big = some ⟨oc_big, od_big, .func (PySem.W.fnOf "_law_big" "_law_big" (defArgs s_big) (defBody s_big) (defScope s_big) .none kV_big dc_big pm_big an_big cd_big ct_big), sl_big⟩) (k_big : PySem.W.codeIn K cd_big "_law_big" = true) (e_big : PySem.W.keepIn K (.ref f_big) = true)
    (a_off : PySem.W.nsIn K mainGlobals "_law_off" = some (some (.ref f_off))) (l_off : K.lookup f_off = some ⟨oc_off, od_off, .func (PySem.W.fnOf "_law_off" "_law_off" (defArgs s_off) (defBody s_off) (defScope s_off) .none kV_off dc_off pm_off an_off cd_off ct_off), sl_off⟩) (k_off : PySem.W.codeIn K cd_off "_law_off" = true) (e_off : PySem.W.keepIn K (.ref f_off) = true)
    (a_w_slack : PySem.W.nsIn K mainGlobals "_law_slack" = some (some (.ref f_w_slack))) (l_w_slack : K.lookup f_w_slack = some ⟨oc_w_slack, od_w_slack, .func (PySem.W.fnOf "_law_slack" "_law_slack" (defArgs s_w_slack) (defBody s_w_slack) (defScope s_w_slack) .none kV_w_slack dc_w_slack pm_w_slack an_w_slack cd_w_slack ct_w_slack), sl_w_slack⟩) (k_w_slack : PySem.W.codeIn K cd_w_slack "_law_slack" = true) (e_w_slack : PySem.W.keepIn K (.ref f_w_slack) = true)
    (a_w_brought : PySem.W.nsIn K mainGlobals "_law_brought" = some (some (.ref f_w_brought))) (l_w_brought : K.lookup f_w_brought = some ⟨oc_w_brought, od_w_brought, .func (PySem.W.fnOf "_law_brought" "_law_brought" (defArgs s_w_brought) (defBody s_w_brought) (defScope s_w_brought) .none kV_w_brought dc_w_brought pm_w_brought an_w_brought cd_w_brought ct_w_brought), sl_w_brought⟩) (k_w_brought : PySem.W.codeIn K cd_w_brought "_law_brought" = true) (e_w_brought : PySem.W.keepIn K (.ref f_w_brought) = true)
    (a_kind : PySem.W.nsIn K mainGlobals "_law_kind" = some (some (.ref f_kind))) (l_kind : K.lookup f_kind = some ⟨oc_kind, od_kind, .func (PySem.W.fnOf "_law_kind" "_law_kind" (defArgs s_kind) (defBody s_kind) (defScope s_kind) .none kV_kind dc_kind pm_kind an_kind cd_kind ct_kind), sl_kind⟩) (k_kind : PySem.W.codeIn K cd_kind "_law_kind" = true) (e_kind : PySem.W.keepIn K (.ref f_kind) = true)
    (a_word : PySem.W.nsIn K mainGlobals "_law_word" = some (some (.ref f_word))) (l_word : K.lookup f_word = some ⟨oc_word, od_word, .func (PySem.W.fnOf "_law_word" "_law_word" (defArgs s_word) (defBody s_word) (defScope s_word) .none kV_word dc_word pm_word an_word cd_word ct_word), sl_word⟩) (k_word : PySem.W.codeIn K cd_word "_law_word" = true) (e_word : PySem.W.keepIn K (.ref f_word) = true)
    (a_names : PySem.W.nsIn K mainGlobals "_law_names" = some (some (.ref f_names))) (l_names : K.lookup f_names = some ⟨oc_names, od_names, .func (PySem.W.fnOf "_law_names" "_law_names" (defArgs s_names) (defBody s_names) (defScope s_names) .none kV_names dc_names pm_names an_names cd_names ct_names), sl_names⟩) (k_names : PySem.W.codeIn K cd_names "_law_names" = true) (e_names : PySem.W.keepIn K (.ref f_names) = true)
    (a_letter : PySem.W.nsIn K mainGlobals "_law_letter" = some (some (.ref f_letter))) (l_letter : K.lookup f_letter = some ⟨oc_letter, od_letter, .func (PySem.W.fnOf "_law_letter" "_law_letter" (defArgs s_letter) (defBody s_letter) (defScope s_letter) .none kV_letter dc_letter pm_letter an_letter cd_letter ct_letter), sl_letter⟩) (k_letter : PySem.W.codeIn K cd_letter "_law_letter" = true) (e_letter : PySem.W.keepIn K (.ref f_letter) = true)
    (a_letters : PySem.W.nsIn K mainGlobals "_law_letters" = some (some (.ref f_letters))) (l_letters : K.lookup f_letters = some ⟨oc_letters, od_letters, .func (PySem.W.fnOf "_law_letters" "_law_letters" (defArgs s_letters) (defBody s_letters) (defScope s_letters) .none kV_letters dc_letters pm_letters an_letters cd_letters ct_letters), sl_letters⟩) (k_letters : PySem.W.codeIn K cd_letters "_law_letters" = true) (e_letters : PySem.W.keepIn K (.ref f_letters) = true)
    (a_now : PySem.W.nsIn K mainGlobals "_law_now" = some (some (.ref f_now))) (l_now : K.lookup f_now = some ⟨oc_now, od_now, .func (PySem.W.fnOf "_law_now" "_law_now" (defArgs s_now) (defBody s_now) (defScope s_now) .none kV_now dc_now pm_now an_now cd_now ct_now), sl_now⟩) (k_now : PySem.W.codeIn K cd_now "_law_now" = true) (e_now : PySem.W.keepIn K (.ref f_now) = true)
    (a_w_gathered : PySem.W.nsIn K mainGlobals "_law_gathered" = some (some (.ref f_w_gathered))) (l_w_gathered : K.lookup f_w_gathered = some ⟨oc_w_gathered, od_w_gathered, .func (PySem.W.fnOf "_law_gathered" "_law_gathered" (defArgs s_w_gathered) (defBody s_w_gathered) (defScope s_w_gathered) .none kV_w_gathered dc_w_gathered pm_w_gathered an_w_gathered cd_w_gathered ct_w_gathered), sl_w_gathered⟩) (k_w_gathered : PySem.W.codeIn K cd_w_gathered "_law_gathered" = true) (e_w_gathered : PySem.W.keepIn K (.ref f_w_gathered) = true)
    (a_pairs : PySem.W.nsIn K mainGlobals "_law_pairs" = some (some (.ref f_pairs))) (l_pairs : K.lookup f_pairs = some ⟨oc_pairs, od_pairs, .func (PySem.W.fnOf "_law_pairs" "_law_pairs" (defArgs s_pairs) (defBody s_pairs) (defScope s_pairs) .none kV_pairs dc_pairs pm_pairs an_pairs cd_pairs ct_pairs), sl_pairs⟩) (k_pairs : PySem.W.codeIn K cd_pairs "_law_pairs" = true) (e_pairs : PySem.W.keepIn K (.ref f_pairs) = true)
    (a_told : PySem.W.nsIn K mainGlobals "_law_told" = some (some (.ref f_told))) (l_told : K.lookup f_told = some ⟨oc_told, od_told, .func (PySem.W.fnOf "_law_told" "_law_told" (defArgs s_told) (defBody s_told) (defScope s_told) .none kV_told dc_told pm_told an_told cd_told ct_told), sl_told⟩) (k_told : PySem.W.codeIn K cd_told "_law_told" = true) (e_told : PySem.W.keepIn K (.ref f_told) = true)
    (a_law : PySem.W.nsIn K mainGlobals "law" = some (some (.ref f_law))) (l_law : K.lookup f_law = some ⟨oc_law, od_law, .func (PySem.W.fnOf "law" "law" (defArgs s_law) (defBody s_law) (defScope s_law) .none kV_law dc_law pm_law an_law cd_law ct_law), sl_law⟩) (k_law : PySem.W.codeIn K cd_law "law" = true) (e_law : PySem.W.keepIn K (.ref f_law) = true)
    (n_StretchError : PySem.W.nsIn K mainGlobals "StretchError" = some (some (.ref c_StretchError))) (x_StretchError : PySem.W.excIn K c_StretchError [.type "ValueError", .type "Exception", .type "BaseException", .type "object"] "ValueError.__new__" = true) (h_StretchError : PySem.W.keepIn K (.ref c_StretchError) = true) (s_StretchError : PySem.W.subIn K (.ref c_StretchError) (.type "BaseException") = some true) (t_StretchError : PySem.W.typeIn K (.ref c_StretchError) = some (.type "type"))
    (n_BadName : PySem.W.nsIn K mainGlobals "BadName" = some (some (.ref c_BadName))) (x_BadName : PySem.W.excIn K c_BadName [.type "ValueError", .type "Exception", .type "BaseException", .type "object"] "ValueError.__new__" = true) (h_BadName : PySem.W.keepIn K (.ref c_BadName) = true) (s_BadName : PySem.W.subIn K (.ref c_BadName) (.type "BaseException") = some true) (t_BadName : PySem.W.typeIn K (.ref c_BadName) = some (.type "type"))
    (n_BadLetter : PySem.W.nsIn K mainGlobals "BadLetter" = some (some (.ref c_BadLetter))) (x_BadLetter : PySem.W.excIn K c_BadLetter [.type "ValueError", .type "Exception", .type "BaseException", .type "object"] "ValueError.__new__" = true) (h_BadLetter : PySem.W.keepIn K (.ref c_BadLetter) = true) (s_BadLetter : PySem.W.subIn K (.ref c_BadLetter) (.type "BaseException") = some true) (t_BadLetter : PySem.W.typeIn K (.ref c_BadLetter) = some (.type "type"))
    (n_BadOff : PySem.W.nsIn K mainGlobals "BadOff" = some (some (.ref c_BadOff))) (x_BadOff : PySem.W.excIn K c_BadOff [.type "ValueError", .type "Exception", .type "BaseException", .type "object"] "ValueError.__new__" = true) (h_BadOff : PySem.W.keepIn K (.ref c_BadOff) = true) (s_BadOff : PySem.W.subIn K (.ref c_BadOff) (.type "BaseException") = some true) (t_BadOff : PySem.W.typeIn K (.ref c_BadOff) = some (.type "type"))
    (n_TooEarly : PySem.W.nsIn K mainGlobals "TooEarly" = some (some (.ref c_TooEarly))) (x_TooEarly : PySem.W.excIn K c_TooEarly [.type "ValueError", .type "Exception", .type "BaseException", .type "object"] "ValueError.__new__" = true) (h_TooEarly : PySem.W.keepIn K (.ref c_TooEarly) = true) (s_TooEarly : PySem.W.subIn K (.ref c_TooEarly) (.type "BaseException") = some true) (t_TooEarly : PySem.W.typeIn K (.ref c_TooEarly) = some (.type "type"))
    (n_BadCount : PySem.W.nsIn K mainGlobals "BadCount" = some (some (.ref c_BadCount))) (x_BadCount : PySem.W.excIn K c_BadCount [.type "ValueError", .type "Exception", .type "BaseException", .type "object"] "ValueError.__new__" = true) (h_BadCount : PySem.W.keepIn K (.ref c_BadCount) = true) (s_BadCount : PySem.W.subIn K (.ref c_BadCount) (.type "BaseException") = some true) (t_BadCount : PySem.W.typeIn K (.ref c_BadCount) = some (.type "type"))
    (n_NoAgreement : PySem.W.nsIn K mainGlobals "NoAgreement" = some (some (.ref c_NoAgreement))) (x_NoAgreement : PySem.W.excIn K c_NoAgreement [.type "ValueError", .type "Exception", .type "BaseException", .type "object"] "ValueError.__new__" = true) (h_NoAgreement : PySem.W.keepIn K (.ref c_NoAgreement) = true) (s_NoAgreement : PySem.W.subIn K (.ref c_NoAgreement) (.type "BaseException") = some true) (t_NoAgreement : PySem.W.typeIn K (.ref c_NoAgreement) = some (.type "type"))
    (n_TooWide : PySem.W.nsIn K mainGlobals "TooWide" = some (some (.ref c_TooWide))) (x_TooWide : PySem.W.excIn K c_TooWide [.type "ValueError", .type "Exception", .type "BaseException", .type "object"] "ValueError.__new__" = true) (h_TooWide : PySem.W.keepIn K (.ref c_TooWide) = true) (s_TooWide : PySem.W.subIn K (.ref c_TooWide) (.type "BaseException") = some true) (t_TooWide : PySem.W.typeIn K (.ref c_TooWide) = some (.type "type"))
    (n_TooMany : PySem.W.nsIn K mainGlobals "TooMany" = some (some (.ref c_TooMany))) (x_TooMany : PySem.W.excIn K c_TooMany [.type "ValueError", .type "Exception", .type "BaseException", .type "object"] "ValueError.__new__" = true) (h_TooMany : PySem.W.keepIn K (.ref c_TooMany) = true) (s_TooMany : PySem.W.subIn K (.ref c_TooMany) (.type "BaseException") = some true) (t_TooMany : PySem.W.typeIn K (.ref c_TooMany) = some (.type "type"))
    (n_NoClock : PySem.W.nsIn K mainGlobals "NoClock" = some (some (.ref c_NoClock))) (x_NoClock : PySem.W.excIn K c_NoClock [.type "ValueError", .type "Exception", .type "BaseException", .type "object"] "ValueError.__new__" = true) (h_NoClock : PySem.W.keepIn K (.ref c_NoClock) = true) (s_NoClock : PySem.W.subIn K (.ref c_NoClock) (.type "BaseException") = some true) (t_NoClock : PySem.W.typeIn K (.ref c_NoClock) = some (.type "type"))
    (n_NoText : PySem.W.nsIn K mainGlobals "NoText" = some (some (.ref c_NoText))) (x_NoText : PySem.W.excIn K c_NoText [.type "ValueError", .type "Exception", .type "BaseException", .type "object"] "ValueError.__new__" = true) (h_NoText : PySem.W.keepIn K (.ref c_NoText) = true) (s_NoText : PySem.W.subIn K (.ref c_NoText) (.type "BaseException") = some true) (t_NoText : PySem.W.typeIn K (.ref c_NoText) = some (.type "type"))
    (u_BadOff : ExcC K c_BadOff) (w_BadOff : PySem.W.subIn K (.ref c_BadOff) (.ref c_StretchError) = some true) (v_BadOff : PySem.W.kitOne K (.ref c_BadOff) (.type "ValueError") = some true)
    (q_BadOff_0 : PySem.W.kitOne K (.ref c_BadOff) (.ref c_BadName) = some false)
    (q_BadOff_1 : PySem.W.kitOne K (.ref c_BadOff) (.ref c_BadLetter) = some false)
    (q_BadOff_2 : PySem.W.kitOne K (.ref c_BadOff) (.ref c_BadOff) = some true)
    (q_BadOff_3 : PySem.W.kitOne K (.ref c_BadOff) (.ref c_TooEarly) = some false)
    (q_BadOff_4 : PySem.W.kitOne K (.ref c_BadOff) (.ref c_BadCount) = some false)
    (q_BadOff_5 : PySem.W.kitOne K (.ref c_BadOff) (.ref c_NoAgreement) = some false)
    (q_BadOff_6 : PySem.W.kitOne K (.ref c_BadOff) (.ref c_TooWide) = some false)
    (q_BadOff_7 : PySem.W.kitOne K (.ref c_BadOff) (.ref c_TooMany) = some false)
    (q_BadOff_8 : PySem.W.kitOne K (.ref c_BadOff) (.ref c_NoClock) = some false)
    (q_BadOff_9 : PySem.W.kitOne K (.ref c_BadOff) (.ref c_NoText) = some false)
    (u_TooEarly : ExcC K c_TooEarly) (w_TooEarly : PySem.W.subIn K (.ref c_TooEarly) (.ref c_StretchError) = some true) (v_TooEarly : PySem.W.kitOne K (.ref c_TooEarly) (.type "ValueError") = some true)
    (q_TooEarly_0 : PySem.W.kitOne K (.ref c_TooEarly) (.ref c_BadName) = some false)
    (q_TooEarly_1 : PySem.W.kitOne K (.ref c_TooEarly) (.ref c_BadLetter) = some false)
    (q_TooEarly_2 : PySem.W.kitOne K (.ref c_TooEarly) (.ref c_BadOff) = some false)
    (q_TooEarly_3 : PySem.W.kitOne K (.ref c_TooEarly) (.ref c_TooEarly) = some true)
    (q_TooEarly_4 : PySem.W.kitOne K (.ref c_TooEarly) (.ref c_BadCount) = some false)
    (q_TooEarly_5 : PySem.W.kitOne K (.ref c_TooEarly) (.ref c_NoAgreement) = some false)
    (q_TooEarly_6 : PySem.W.kitOne K (.ref c_TooEarly) (.ref c_TooWide) = some false)
    (q_TooEarly_7 : PySem.W.kitOne K (.ref c_TooEarly) (.ref c_TooMany) = some false)
    (q_TooEarly_8 : PySem.W.kitOne K (.ref c_TooEarly) (.ref c_NoClock) = some false)
    (q_TooEarly_9 : PySem.W.kitOne K (.ref c_TooEarly) (.ref c_NoText) = some false)
    (d_S : PySem.W.hasDictIn K c_StretchError = true)
    (b_max : PySem.W.nsIn K mainGlobals "max" = some none)
    (b_min : PySem.W.nsIn K mainGlobals "min" = some none)
    (b_list : PySem.W.nsIn K mainGlobals "list" = some none)
    (b_isinstance : PySem.W.nsIn K mainGlobals "isinstance" = some none)
    (b_bool : PySem.W.nsIn K mainGlobals "bool" = some none)
    (b_int : PySem.W.nsIn K mainGlobals "int" = some none)
    (b_len : PySem.W.nsIn K mainGlobals "len" = some none)
    (b_ValueError : PySem.W.nsIn K mainGlobals "ValueError" = some none)
    (b_range : PySem.W.nsIn K mainGlobals "range" = some none)
    (b_sorted : PySem.W.nsIn K mainGlobals "sorted" = some none)
    (b_str : PySem.W.nsIn K mainGlobals "str" = some none)
    (b_tuple : PySem.W.nsIn K mainGlobals "tuple" = some none)
    (m_GREATEST_OFF : PySem.W.nsIn K mainGlobals "GREATEST_OFF" = some (some (.int 999 t_GREATEST_OFF)))
    : ∃ fd : FuncData, (∀ (s : Shared) (v : Value), BindsTo s fd ⟨[v], []⟩ [("_law_script", v)]) ∧ ∀ base : Heap, K.In base → base.Ns mainGlobals mg → FnOk l.prog w K mg base CX0 5 fa fd ["_law_script"] (spLaw K) := by
  have e := hfa.symm.trans (PySem.W.mg_of X G a_law)
  cases e
  have T : Txt K mg (Ad.mk f_check_off (PySem.W.fnOf "check_off" "check_off" (defArgs s_check_off) (defBody s_check_off) (defScope s_check_off) .none kV_check_off dc_check_off pm_check_off an_check_off cd_check_off ct_check_off) f_slack (PySem.W.fnOf "slack" "slack" (defArgs s_slack) (defBody s_slack) (defScope s_slack) .none kV_slack dc_slack pm_slack an_slack cd_slack ct_slack) f_brought (PySem.W.fnOf "brought" "brought" (defArgs s_brought) (defBody s_brought) (defScope s_brought) .none kV_brought dc_brought pm_brought an_brought cd_brought ct_brought) f_gathered (PySem.W.fnOf "gathered" "gathered" (defArgs s_gathered) (defBody s_gathered) (defScope s_gathered) .none kV_gathered dc_gathered pm_gathered an_gathered cd_gathered ct_gathered) f_common (PySem.W.fnOf "common" "common" (defArgs s_common) (defBody s_common) (defScope s_common) .none kV_common dc_common pm_common an_common cd_common ct_common) f_whole (PySem.W.fnOf "_law_whole" "_law_whole" (defArgs s_whole) (defBody s_whole) (defScope s_whole) .none kV_whole dc_whole pm_whole an_whole cd_whole ct_whole) f_cell_at (PySem.W.fnOf "_law_cell_at" "_law_cell_at" (defArgs s_cell_at) (defBody s_cell_at) (defScope s_cell_at) .none kV_cell_at dc_cell_at pm_cell_at an_cell_at cd_cell_at ct_cell_at) f_mix (PySem.W.fnOf "_law_mix" "_law_mix" (defArgs s_mix) (defBody s_mix) (defScope s_mix) .none kV_mix dc_mix pm_mix an_mix cd_mix ct_mix) f_big (PySem.W.fnOf "_law_big" "_law_big" (defArgs s_big) (defBody s_big) (defScope s_big) .none kV_big dc_big pm_big an_big cd_big ct_big) f_off (PySem.W.fnOf "_law_off" "_law_off" (defArgs s_off) (defBody s_off) (defScope s_off) .none kV_off dc_off pm_off an_off cd_off ct_off) f_w_slack (PySem.W.fnOf "_law_slack" "_law_slack" (defArgs s_w_slack) (defBody s_w_slack) (defScope s_w_slack) .none kV_w_slack dc_w_slack pm_w_slack an_w_slack cd_w_slack ct_w_slack) f_w_brought (PySem.W.fnOf "_law_brought" "_law_brought" (defArgs s_w_brought) (defBody s_w_brought) (defScope s_w_brought) .none kV_w_brought dc_w_brought pm_w_brought an_w_brought cd_w_brought ct_w_brought) f_kind (PySem.W.fnOf "_law_kind" "_law_kind" (defArgs s_kind) (defBody s_kind) (defScope s_kind) .none kV_kind dc_kind pm_kind an_kind cd_kind ct_kind) f_word (PySem.W.fnOf "_law_word" "_law_word" (defArgs s_word) (defBody s_word) (defScope s_word) .none kV_word dc_word pm_word an_word cd_word ct_word) f_names (PySem.W.fnOf "_law_names" "_law_names" (defArgs s_names) (defBody s_names) (defScope s_names) .none kV_names dc_names pm_names an_names cd_names ct_names) f_letter (PySem.W.fnOf "_law_letter" "_law_letter" (defArgs s_letter) (defBody s_letter) (defScope s_letter) .none kV_letter dc_letter pm_letter an_letter cd_letter ct_letter) f_letters (PySem.W.fnOf "_law_letters" "_law_letters" (defArgs s_letters) (defBody s_letters) (defScope s_letters) .none kV_letters dc_letters pm_letters an_letters cd_letters ct_letters) f_now (PySem.W.fnOf "_law_now" "_law_now" (defArgs s_now) (defBody s_now) (defScope s_now) .none kV_now dc_now pm_now an_now cd_now ct_now) f_w_gathered (PySem.W.fnOf "_law_gathered" "_law_gathered" (defArgs s_w_gathered) (defBody s_w_gathered) (defScope s_w_gathered) .none kV_w_gathered dc_w_gathered pm_w_gathered an_w_gathered cd_w_gathered ct_w_gathered) f_pairs (PySem.W.fnOf "_law_pairs" "_law_pairs" (defArgs s_pairs) (defBody s_pairs) (defScope s_pairs) .none kV_pairs dc_pairs pm_pairs an_pairs cd_pairs ct_pairs) f_told (PySem.W.fnOf "_law_told" "_law_told" (defArgs s_told) (defBody s_told) (defScope s_told) .none kV_told dc_told pm_told an_told cd_told ct_told) fa (PySem.W.fnOf "law" "law" (defArgs s_law) (defBody s_law) (defScope s_law) .none kV_law dc_law pm_law an_law cd_law ct_law) c_StretchError c_BadName c_BadLetter c_BadOff c_TooEarly c_BadCount c_NoAgreement c_TooWide c_TooMany c_NoClock c_NoText) := {
    check_off := fl_mk X G a_check_off l_check_off k_check_off e_check_off (fun us hl => match us, hl with | [_], _ => rfl)
    slack := fl_mk X G a_slack l_slack k_slack e_slack (fun us hl => match us, hl with | [_, _], _ => rfl)
    brought := fl_mk X G a_brought l_brought k_brought e_brought (fun us hl => match us, hl with | [_, _, _], _ => rfl)
    gathered := fl_mk X G a_gathered l_gathered k_gathered e_gathered (fun us hl => match us, hl with | [_, _, _], _ => rfl)
    common := fl_mk X G a_common l_common k_common e_common (fun us hl => match us, hl with | [_, _], _ => rfl)
    whole := fl_mk X G a_whole l_whole k_whole e_whole (fun us hl => match us, hl with | [_], _ => rfl)
    cell_at := fl_mk X G a_cell_at l_cell_at k_cell_at e_cell_at (fun us hl => match us, hl with | [_, _], _ => rfl)
    mix := fl_mk X G a_mix l_mix k_mix e_mix (fun us hl => match us, hl with | [_, _], _ => rfl)
    big := fl_mk X G a_big l_big k_big e_big (fun us hl => match us, hl with | [_, _], _ => rfl)
    off := fl_mk X G a_off l_off k_off e_off (fun us hl => match us, hl with | [_], _ => rfl)
    w_slack := fl_mk X G a_w_slack l_w_slack k_w_slack e_w_slack (fun us hl => match us, hl with | [_, _], _ => rfl)
    w_brought := fl_mk X G a_w_brought l_w_brought k_w_brought e_w_brought (fun us hl => match us, hl with | [_, _, _], _ => rfl)
    kind := fl_mk X G a_kind l_kind k_kind e_kind (fun us hl => match us, hl with | [_], _ => rfl)
    word := fl_mk X G a_word l_word k_word e_word (fun us hl => match us, hl with | [_, _], _ => rfl)
    names := fl_mk X G a_names l_names k_names e_names (fun us hl => match us, hl with | [_], _ => rfl)
    letter := fl_mk X G a_letter l_letter k_letter e_letter (fun us hl => match us, hl with | [_, _, _], _ => rfl)
    letters := fl_mk X G a_letters l_letters k_letters e_letters (fun us hl => match us, hl with | [_, _], _ => rfl)
    now := fl_mk X G a_now l_now k_now e_now (fun us hl => match us, hl with | [_, _], _ => rfl)
    w_gathered := fl_mk X G a_w_gathered l_w_gathered k_w_gathered e_w_gathered (fun us hl => match us, hl with | [_, _, _], _ => rfl)
    pairs := fl_mk X G a_pairs l_pairs k_pairs e_pairs (fun us hl => match us, hl with | [_, _], _ => rfl)
    told := fl_mk X G a_told l_told k_told e_told (fun us hl => match us, hl with | [_, _, _], _ => rfl)
    law := fl_mk X G a_law l_law k_law e_law (fun us hl => match us, hl with | [_], _ => rfl)
    StretchError := ⟨PySem.W.mg_of X G n_StretchError, x_StretchError, h_StretchError, s_StretchError, t_StretchError⟩
    BadName := ⟨PySem.W.mg_of X G n_BadName, x_BadName, h_BadName, s_BadName, t_BadName⟩
    BadLetter := ⟨PySem.W.mg_of X G n_BadLetter, x_BadLetter, h_BadLetter, s_BadLetter, t_BadLetter⟩
    BadOff := ⟨PySem.W.mg_of X G n_BadOff, x_BadOff, h_BadOff, s_BadOff, t_BadOff⟩
    TooEarly := ⟨PySem.W.mg_of X G n_TooEarly, x_TooEarly, h_TooEarly, s_TooEarly, t_TooEarly⟩
    BadCount := ⟨PySem.W.mg_of X G n_BadCount, x_BadCount, h_BadCount, s_BadCount, t_BadCount⟩
    NoAgreement := ⟨PySem.W.mg_of X G n_NoAgreement, x_NoAgreement, h_NoAgreement, s_NoAgreement, t_NoAgreement⟩
    TooWide := ⟨PySem.W.mg_of X G n_TooWide, x_TooWide, h_TooWide, s_TooWide, t_TooWide⟩
    TooMany := ⟨PySem.W.mg_of X G n_TooMany, x_TooMany, h_TooMany, s_TooMany, t_TooMany⟩
    NoClock := ⟨PySem.W.mg_of X G n_NoClock, x_NoClock, h_NoClock, s_NoClock, t_NoClock⟩
    NoText := ⟨PySem.W.mg_of X G n_NoText, x_NoText, h_NoText, s_NoText, t_NoText⟩
    kd_BadOff := kd_mk u_BadOff (exm_sub s_StretchError d_S t_StretchError w_BadOff) v_BadOff q_BadOff_0 q_BadOff_1 q_BadOff_2 q_BadOff_3 q_BadOff_4 q_BadOff_5 q_BadOff_6 q_BadOff_7 q_BadOff_8 q_BadOff_9
    kd_TooEarly := kd_mk u_TooEarly (exm_sub s_StretchError d_S t_StretchError w_TooEarly) v_TooEarly q_TooEarly_0 q_TooEarly_1 q_TooEarly_2 q_TooEarly_3 q_TooEarly_4 q_TooEarly_5 q_TooEarly_6 q_TooEarly_7 q_TooEarly_8 q_TooEarly_9
    b_max := PySem.W.mg_none_of X G b_max
    b_min := PySem.W.mg_none_of X G b_min
    b_list := PySem.W.mg_none_of X G b_list
    b_isinstance := PySem.W.mg_none_of X G b_isinstance
    b_bool := PySem.W.mg_none_of X G b_bool
    b_int := PySem.W.mg_none_of X G b_int
    b_len := PySem.W.mg_none_of X G b_len
    b_ValueError := PySem.W.mg_none_of X G b_ValueError
    b_range := PySem.W.mg_none_of X G b_range
    b_sorted := PySem.W.mg_none_of X G b_sorted
    b_str := PySem.W.mg_none_of X G b_str
    b_tuple := PySem.W.mg_none_of X G b_tuple
    c_GREATEST_OFF := ⟨_, PySem.W.mg_of X G m_GREATEST_OFF⟩ }
  exact ⟨_, fun s v => .of_eq rfl, fun base _ _ => ok_law T⟩
theorem walk {l : PySem.W.OpenLaw} {q : Program} {loose : List Str} {XP : (Str → Option Value) → Heap → Prop} {YP : World → Heap → Prop} {d : DefRec} {K : Params → PySem.W.Frag} (hn : l.most = some 63) (hdf : d.params.defaults = [])
    (hY : ∀ (w : World) (h : Heap), YP w h → (K w.params).In h)
    (F : ∀ (w : World) (mg : Str → Option Value) (fa : Addr) (h : Heap), (K w.params).In h → h.Ns mainGlobals mg → mg d.name = some (.ref fa) →
      ∃ fd : FuncData, (∀ (s : Shared) (u : Value), BindsTo s fd ⟨[u], []⟩ [("_law_script", u)]) ∧ ∀ base : Heap, (K w.params).In base → base.Ns mainGlobals mg → FnOk l.prog w (K w.params) mg base CX0 5 fa fd ["_law_script"] (spLaw (K w.params))) :
    PySem.W.WalkO q loose XP YP l.row.toRowW d [] (fun f vs => PySem.call f vs) :=
  L2.walk_of (n := 63) (k := 5) (x := "_law_script") (CX := fun _ => CX0) (sp := fun w => spLaw (K w.params)) hn (by decide) hdf ⟨rfl, by decide, by decide⟩ hY F (fun _ _ a ns hl _ hS => ⟨a, ns, rfl, hS, hl, fun _ => rfl⟩) fun _ _ _ _ _ z => z
end Ts.k04
open PySem PySem.W PyProof.Rows
set_option maxRecDepth 100000 in
set_option maxHeartbeats 0 in
theorem PySem.Challenge.cw_timestretch_k04_clocks_gathered_holds : PySem.Challenge.rw_timestretch_k04_clocks_gathered.Holds := by
  w_on; o_law; k_head; (case hw => w_witness2)
  k_fill
  refine Ts.k04.walk (l := PySem.Challenge.rw_timestretch_k04_clocks_gathered) rfl rfl (fun w h Y => PySem.W.kIn_of Y) ?F
  case F =>
    intro w mg fa h KX G hmg
    refine' Ts.k04.all_mk KX G hmg ?a_check_off ?l_check_off ?k_check_off ?e_check_off ?a_slack ?l_slack ?k_slack ?e_slack ?a_brought ?l_brought ?k_brought ?e_brought ?a_gathered ?l_gathered ?k_gathered ?e_gathered ?a_common ?l_common ?k_common ?e_common ?a_whole ?l_whole ?k_whole ?e_whole ?a_cell_at ?l_cell_at ?k_cell_at ?e_cell_at ?a_mix ?l_mix ?k_mix ?e_mix ?a_big ?l_big ?k_big ?e_big ?a_off ?l_off ?k_off ?e_off ?a_w_slack ?l_w_slack ?k_w_slack ?e_w_slack ?a_w_brought ?l_w_brought ?k_w_brought ?e_w_brought ?a_kind ?l_kind ?k_kind ?e_kind ?a_word ?l_word ?k_word ?e_word ?a_names ?l_names ?k_names ?e_names ?a_letter ?l_letter ?k_letter ?e_letter ?a_letters ?l_letters ?k_letters ?e_letters ?a_now ?l_now ?k_now ?e_now ?a_w_gathered ?l_w_gathered ?k_w_gathered ?e_w_gathered ?a_pairs ?l_pairs ?k_pairs ?e_pairs ?a_told ?l_told ?k_told ?e_told ?a_law ?l_law ?k_law ?e_law ?n_StretchError ?x_StretchError ?h_StretchError ?s_StretchError ?t_StretchError ?n_BadName ?x_BadName ?h_BadName ?s_BadName ?t_BadName ?n_BadLetter ?x_BadLetter ?h_BadLetter ?s_BadLetter ?t_BadLetter ?n_BadOff ?x_BadOff ?h_BadOff ?s_BadOff ?t_BadOff ?n_TooEarly ?x_TooEarly ?h_TooEarly ?s_TooEarly ?t_TooEarly ?n_BadCount ?x_BadCount ?h_BadCount ?s_BadCount ?t_BadCount ?n_NoAgreement ?x_NoAgreement ?h_NoAgreement ?s_NoAgreement ?t_NoAgreement ?n_TooWide ?x_TooWide ?h_TooWide ?s_TooWide ?t_TooWide ?n_TooMany ?x_TooMany ?h_TooMany ?s_TooMany ?t_TooMany ?n_NoClock ?x_NoClock ?h_NoClock ?s_NoClock ?t_NoClock ?n_NoText ?x_NoText ?h_NoText ?s_NoText ?t_NoText ?u_BadOff ?w_BadOff ?v_BadOff ?q_BadOff_0 ?q_BadOff_1 ?q_BadOff_2 ?q_BadOff_3 ?q_BadOff_4 ?q_BadOff_5 ?q_BadOff_6 ?q_BadOff_7 ?q_BadOff_8 ?q_BadOff_9 ?u_TooEarly ?w_TooEarly ?v_TooEarly ?q_TooEarly_0 ?q_TooEarly_1 ?q_TooEarly_2 ?q_TooEarly_3 ?q_TooEarly_4 ?q_TooEarly_5 ?q_TooEarly_6 ?q_TooEarly_7 ?q_TooEarly_8 ?q_TooEarly_9 ?d_S ?b_max ?b_min ?b_list ?b_isinstance ?b_bool ?b_int ?b_len ?b_ValueError ?b_range ?b_sorted ?b_str ?b_tuple ?m_GREATEST_OFF
    (case a_check_off => k_is)
    (case l_check_off => k_is)
    (case k_check_off => k_is)
    (case e_check_off => k_is)
    (case a_slack => k_is)
    (case l_slack => k_is)
    (case k_slack => k_is)
    (case e_slack => k_is)
    (case a_brought => k_is)
    (case l_brought => k_is)
    (case k_brought => k_is)
    (case e_brought => k_is)
    (case a_gathered => k_is)
    (case l_gathered => k_is)
    (case k_gathered => k_is)
    (case e_gathered => k_is)
    (case a_common => k_is)
    (case l_common => k_is)
    (case k_common => k_is)
    (case e_common => k_is)
    (case a_whole => k_is)
    (case l_whole => k_is)
    (case k_whole => k_is)
    (case e_whole => k_is)
    (case a_cell_at => k_is)
    (case l_cell_at => k_is)
    (case k_cell_at => k_is)
    (case e_cell_at => k_is)
    (case a_mix => k_is)
    (case l_mix => k_is)
    (case k_mix => k_is)
    (case e_mix => k_is)
    (case a_big => k_is)
    (case l_big => k_is)
    (case k_big => k_is)
    (case e_big => k_is)
    (case a_off => k_is)
    (case l_off => k_is)
    (case k_off => k_is)
    (case e_off => k_is)
    (case a_w_slack => k_is)
    (case l_w_slack => k_is)
    (case k_w_slack => k_is)
    (case e_w_slack => k_is)
    (case a_w_brought => k_is)
    (case l_w_brought => k_is)
    (case k_w_brought => k_is)
    (case e_w_brought => k_is)
    (case a_kind => k_is)
    (case l_kind => k_is)
    (case k_kind => k_is)
    (case e_kind => k_is)
    (case a_word => k_is)
    (case l_word => k_is)
    (case k_word => k_is)
    (case e_word => k_is)
    (case a_names => k_is)
    (case l_names => k_is)
    (case k_names => k_is)
    (case e_names => k_is)
    (case a_letter => k_is)
    (case l_letter => k_is)
    (case k_letter => k_is)
    (case e_letter => k_is)
    (case a_letters => k_is)
    (case l_letters => k_is)
    (case k_letters => k_is)
    (case e_letters => k_is)
    (case a_now => k_is)
    (case l_now => k_is)
    (case k_now => k_is)
    (case e_now => k_is)
    (case a_w_gathered => k_is)
    (case l_w_gathered => k_is)
    (case k_w_gathered => k_is)
    (case e_w_gathered => k_is)
    (case a_pairs => k_is)
    (case l_pairs => k_is)
    (case k_pairs => k_is)
    (case e_pairs => k_is)
    (case a_told => k_is)
    (case l_told => k_is)
    (case k_told => k_is)
    (case e_told => k_is)
    (case a_law => k_is)
    (case l_law => k_is)
    (case k_law => k_is)
    (case e_law => k_is)
    (case n_StretchError => k_is)
    (case x_StretchError => k_exc)
    (case h_StretchError => k_is)
    (case s_StretchError => k_is)
    (case t_StretchError => k_is)
    (case n_BadName => k_is)
    (case x_BadName => k_exc)
    (case h_BadName => k_is)
    (case s_BadName => k_is)
    (case t_BadName => k_is)
    (case n_BadLetter => k_is)
    (case x_BadLetter => k_exc)
    (case h_BadLetter => k_is)
    (case s_BadLetter => k_is)
    (case t_BadLetter => k_is)
    (case n_BadOff => k_is)
    (case x_BadOff => k_exc)
    (case h_BadOff => k_is)
    (case s_BadOff => k_is)
    (case t_BadOff => k_is)
    (case n_TooEarly => k_is)
    (case x_TooEarly => k_exc)
    (case h_TooEarly => k_is)
    (case s_TooEarly => k_is)
    (case t_TooEarly => k_is)
    (case n_BadCount => k_is)
    (case x_BadCount => k_exc)
    (case h_BadCount => k_is)
    (case s_BadCount => k_is)
    (case t_BadCount => k_is)
    (case n_NoAgreement => k_is)
    (case x_NoAgreement => k_exc)
    (case h_NoAgreement => k_is)
    (case s_NoAgreement => k_is)
    (case t_NoAgreement => k_is)
    (case n_TooWide => k_is)
    (case x_TooWide => k_exc)
    (case h_TooWide => k_is)
    (case s_TooWide => k_is)
    (case t_TooWide => k_is)
    (case n_TooMany => k_is)
    (case x_TooMany => k_exc)
    (case h_TooMany => k_is)
    (case s_TooMany => k_is)
    (case t_TooMany => k_is)
    (case n_NoClock => k_is)
    (case x_NoClock => k_exc)
    (case h_NoClock => k_is)
    (case s_NoClock => k_is)
    (case t_NoClock => k_is)
    (case n_NoText => k_is)
    (case x_NoText => k_exc)
    (case h_NoText => k_is)
    (case s_NoText => k_is)
    (case t_NoText => k_is)
    (case u_BadOff => constructor <;> k_is)
    (case w_BadOff => k_is)
    (case v_BadOff => kit_is)
    (case q_BadOff_0 => kit_is)
    (case q_BadOff_1 => kit_is)
    (case q_BadOff_2 => kit_is)
    (case q_BadOff_3 => kit_is)
    (case q_BadOff_4 => kit_is)
    (case q_BadOff_5 => kit_is)
    (case q_BadOff_6 => kit_is)
    (case q_BadOff_7 => kit_is)
    (case q_BadOff_8 => kit_is)
    (case q_BadOff_9 => kit_is)
    (case u_TooEarly => constructor <;> k_is)
    (case w_TooEarly => k_is)
    (case v_TooEarly => kit_is)
    (case q_TooEarly_0 => kit_is)
    (case q_TooEarly_1 => kit_is)
    (case q_TooEarly_2 => kit_is)
    (case q_TooEarly_3 => kit_is)
    (case q_TooEarly_4 => kit_is)
    (case q_TooEarly_5 => kit_is)
    (case q_TooEarly_6 => kit_is)
    (case q_TooEarly_7 => kit_is)
    (case q_TooEarly_8 => kit_is)
    (case q_TooEarly_9 => kit_is)
    (case d_S => k_is)
    (case b_max => k_is)
    (case b_min => k_is)
    (case b_list => k_is)
    (case b_isinstance => k_is)
    (case b_bool => k_is)
    (case b_int => k_is)
    (case b_len => k_is)
    (case b_ValueError => k_is)
    (case b_range => k_is)
    (case b_sorted => k_is)
    (case b_str => k_is)
    (case b_tuple => k_is)
    (case m_GREATEST_OFF => k_is)
