import PyProof.Rows.All
import Wide.All
import OpenK.AllK
import Wide.FinOn
import HandS.ForMost
import HandS.IsInst
import HandS.Property
import HandS.TupAny
import HandS.Strs
import HandS.Conv
import HandS.Defaults
import KE.GoesEnum
import HandS.Walk
import PyProof.ReprLen
import PyProof.StrLawsRepr
import PyProof.FitsInt
import KE.KRevSl
import HandS.OwnEq
import HandS.More
import KE.KOpsOwn
import KE.KCallOwn
import PyProof.InstNe
import HandS.WideBits
import HandS.Zip
import HandS.Star
import KE.KStar
import HandS.MethStar
import OpenK.KMeth
import OpenK.KOps
import KE.KFmtOwn
import HandS.FStr
import HandS.ClsMeth
import HandS.MakeKwOnly
import HandS.RaiseMore
import HandS.Exc
import KE.KTryMore
import HandS.ExcInit
import HandS.ExcField
import HandS.ExcIs
import HandS.Lambda
import HandS.HotCalls
import KE.KExcIs
import HandS.Dict
import KE.DataFind
import HandS.ReplaceLit
import HandS.Style
import HandS.EndTab
import KE.KNestM
import HandS.WordsExc
import HandS.ListEq
import KE.KEqSeq
import KE.KExcInit
import HandS.SortOrd
import HandS.SortRule
import KE.KSortTupAny
import HandS.DictComp
import HandS.SortKw
import HandS.TupLe
import HandS.Deep
import PyProof.EnumMake
import HandS.ReplaceList
import HandS.Wide
import OpenK.KDescr
import PyProof.StrBlock2
import HandS.CallLocal
import HandS.HeadHook3
import HandS.TupMul
import HandS.Head0
import HandS.Head1
import HandS.Head2
import PySem.Challenge.RW_menuhouses_k72_two_peoples_judged
set_option Elab.async false
set_option linter.all false
set_option maxRecDepth 100000
set_option maxHeartbeats 4000000
/-! Own rules beside the layer: promises that know that no repr is under way (FnG), repr of data, sorted of a tuple of texts, enumerate of a tuple, o.m(k = v). -/
namespace MH
open PySem PySem.Spec PyProof.Rows L2
/-! ### promises of defs that are called while no repr is under way -/
def FnG (P : Program) (w : World) (K : PySem.W.Frag) (mg : Str → Option Value) (base : Heap) (k : Nat) (f : Addr) (sp : Sp) : Prop :=
  ∀ (A : Around) (fr : List Env) (st : Shared) (H : Hp) (us : List Value) (vs : List V) (Q : VK), A.guards = some [] → Room k A → Env0 P w K mg base A fr st H → Vals vs us →
    sp vs H Q E0 → codeAny (model P w) A (.call (.ref f) ⟨us, []⟩) (CR CX0 fr P w H st Q E0) st
section
variable {P : Program} {w : World} {K : PySem.W.Frag} {mg : Str → Option Value} {base : Heap} {k : Nat} {f : Addr} {sp : Sp}
theorem FnG.mono {j : Nat} (F : FnG P w K mg base j f sp) (h : j ≤ k) : FnG P w K mg base k f sp := fun A fr st H us vs Q hg hr => F A fr st H us vs Q hg (hr.mono h)
theorem fg_of {name qual : Str} {pms : Arguments} {body : List Stmt} {sc : Scope} {dV kV doc pm cdv ct oc : Value} {an od : Option Addr} {osl : Array (Option Value)} {N ps : List Str}
    (lk : K.lookup f = some ⟨oc, od, .func (PySem.W.fnOf name qual pms body sc dV kV doc pm an cdv ct), osl⟩) (hc : PySem.W.codeIn K cdv qual = true) (S : FnScope N ps sc)
    (hB : Binds K (PySem.W.fnOf name qual pms body sc dV kV doc pm an cdv ct) ps []) (hlen : ∀ vs H Q E, sp vs H Q E → vs.length = ps.length)
    (hbd : ∀ (A : Around) (fr : List Env) (st : Shared) (H : Hp) (vs : List V) (Q : VK), A.guards = some [] → Room k (A.deeper (envOfC qual sc st.heap.objs.size f cdv)) → sp vs H Q E0 →
      ∃ t, PSs (cxOf CX0 P w K mg base N qual sc f cdv A fr st H E0).nox body t ∧ t { nx := fun _ H' => Q .non H', rt := Q } (start N vs) H) :
    FnG P w K mg base (k + 1) f sp := by
  intro A fr st H us vs Q hg hr e0 r hs
  have hl := hlen _ _ _ _ hs
  have hul : (us ++ []).length = ps.length := by
    rw [List.append_nil, ← r.length, hl]
  have KX : K.In st.heap := e0.mod.kin.keeps fun b o e => (e0.bs b o e).1
  have nl : st.heap.NoLimit := e0.mod.nolimit.keeps fun b o e => (e0.bs b o e).1
  have hk : ∀ y ∈ ps.zip us, sc.names.lookup y.1 = some .local ∨ (sc.names.lookup y.1 = some .cell ∧ ((cellsFrom (st.heap.objs.size + 1) sc.names []).lookup y.1).isSome = true) := by
    intro y hy
    rcases S.par y.1 (List.of_mem_zip hy).1 with q | q
    · exact .inl q
    · exact .inr ⟨q, PySem.W.cellsFrom_some _ _ _ (.inl q)⟩
  have hb2 := hB st us KX hul
  rw [List.append_nil] at hb2
  refine codeAny_call_function hr.depth (KX _ _ lk) rfl S.co S.gen rfl (PySem.W.codeRec_of KX hc) (hb2 _ _ _ _ ?_)
  refine wpAny_newFunctionEnv_cells S.kind hk fun env he s1 x => ?_
  subst he
  refine ⟨nl.keeps x.toInCall.keep, codeAny_func ?_⟩
  obtain ⟨t, ht, hq⟩ := hbd A fr st H vs Q hg (hr.deeper _) hs
  have J : Inv (cxOf CX0 P w K mg base N qual sc f cdv A fr st H E0) [] (start N vs) H s1 := inv_start S hr.hd e0 hl r x
  refine wpAny_mono (ht.nox.run [] s1 (start N vs) H _ J hq) (fun fl s' hz => ?_) fun e s' hz => hz
  cases fl with
  | ret u =>
    obtain ⟨v, σ', H', J', rv, q⟩ := hz
    exact ⟨v, H', J'.os, J'.bare, J'.base, J'.hok, rv, q⟩
  | next =>
    obtain ⟨σ', H', J', q⟩ := hz
    exact ⟨.non, H', J'.os, J'.bare, J'.base, J'.hok, rfl, q⟩
  | brk => exact (hz.choose_spec.choose_spec.2 : False).elim
  | cont => exact (hz.choose_spec.choose_spec.2 : False).elim
/-- the def's rule, by its text -/
theorem fun_g {x qual : Str} {st : Stmt} {fd : FuncData} {N ps : List Str} (F : Fun K x qual st f fd) (S : FnScope N ps (defScope st)) (hB : Binds K fd ps []) (hlen : ∀ vs H Q E, sp vs H Q E → vs.length = ps.length)
    (hbd : ∀ (cdv : Value) (A : Around) (fr : List Env) (s : Shared) (H : Hp) (vs : List V) (Q : VK), A.guards = some [] → Room k (A.deeper (envOfC qual (defScope st) s.heap.objs.size f cdv)) → sp vs H Q E0 →
      ∃ t, PSs (cxOf CX0 P w K mg base N qual (defScope st) f cdv A fr s H E0).nox (defBody st) t ∧ t { nx := fun _ H' => Q .non H', rt := Q } (start N vs) H) :
    FnG P w K mg base (k + 1) f sp := by
  obtain ⟨oc, od, kV, doc, pm, an, cdv, ct, osl, rfl, lk, hc⟩ := F.ex
  exact fg_of lk hc S hB hlen fun A fr s H vs Q hg hr hs => hbd cdv A fr s H vs Q hg hr hs
end
section
variable {X : Cx} {k : Nat} {f : Addr} {sp : Sp} {x : Str} {p pos : Pos} {e : Expr} {es : List Expr} {t : TA}
/-- f(e, ..) -/
theorem pe_callg (F : FnG X.prog X.w X.K X.mg X.base k f sp) (hg : X.A.guards = some []) (hr : Room k X.A) (gl : Gl X x) (hm : X.mg x = some (.ref f)) (hk : PySem.W.keepIn X.K (.ref f) = true)
    (ha : PA X (e :: es) t) (hdb : (x == ("__debug__" : Str)) = false := by decide) (he : starEach (e :: es) X.env = (false, eval e X.env) :: starEach es X.env := by rfl) (hpl : (backTo pos (starEach es X.env)).any (·.1) = false := by rfl) :
    PE X (.Call (.Name x p) (e :: es) [] pos) (tCall sp [] E0 t) := by
  refine ⟨fun pins s σ H Q I h => ?_⟩
  refine wpAny_Call_Name_kw (ld_glob I gl hm ?_ hdb)
  refine PySem.W.callWith_K (h₀ := X.base) I.ok.mod.kin hk (thn (ha.run pos pins s σ H _ I h) fun us s1 ⟨vs, H1, I1, r, q⟩ => ⟨I1.kIn, ?_⟩) he hpl
  have q1 : sp vs H1 Q E0 := by
    have z : sp (vs ++ []) H1 Q E0 := q
    rw [List.append_nil] at z
    exact z
  refine wpAny_call (codeAny_mono (F X.A X.stack s1 H1 us vs Q hg hr I1.env0 r q1) fun r s' hq => ?_)
  match r, hq with
  | .ok (.ret u), hq => exact I1.after hq
  | .ok .next, hq => exact False.elim hq
  | .ok .brk, hq => exact False.elim hq
  | .ok .cont, hq => exact False.elim hq
  | .error _, hq => exact False.elim hq
end
/-! ### repr of data -/
def rRepr (K : PySem.W.Frag) : List V → Hp → VK → Prop := fun xs H Q => ∃ (a : Addr) (d : PyData), xs = [.ref a] ∧ Dp K H (.ref a) d ∧ d.showable = true ∧ d.hasDict = false ∧ d.depth ≤ 60 ∧ d.shown.length ≤ sizeLine ∧ Q (.str d.shown) H
section
variable {X : Cx}
theorem call_reprD (hg : X.A.guards = some []) (hu : X.A.units + 64 < cLine) : CallR X (.builtin "repr") (rRepr X.K) := by
  intro pins s σ H xs us Q I r h
  obtain ⟨a, d, rfl, hd, h1, h2, h3, h4, q⟩ := h
  obtain ⟨u, rfl, ru⟩ := vals1 r
  obtain ⟨as, rd⟩ := Dp.reads I d _ _ hd ru
  obtain rfl : u = Value.ref a := ru
  exact repr_of_reads' rd h1 (PyData.noDict_hsm h2) hg (by omega) (fun _ _ e => e) (fun h' u tk hk => ⟨.str d.shown, H, I.kept hk, ⟨_, rfl⟩, q⟩) h4
end
/-! ### sorted of a tuple of texts -/
section
variable {prog : Program} {w : World} {A : Around} {E : Value → Shared → Prop} {s : Shared}
theorem collect_tup {t : Addr} {us : List Value} {Q : List Value → Shared → Prop} (ht : s.heap.IsTuple t us.toArray) (hz : us.length ≤ sizeLine)
    (k : Q us { s with heap := (s.heap.push (seqObj "list" #[] 0)).update s.heap.objs.size (Obj.mapSeq (· ++ us.toArray)) }) :
    wpAny (model prog w) A (collect (.ref t)) Q E s := by
  obtain ⟨o, ho, hc, n, hd⟩ := id ht
  have new0 : ∀ x : Addr, x = s.heap.objs.size → (s.heap.push (seqObj "list" #[] 0)).get? x = some (seqObj "list" #[] 0) := fun x e => by
    rw [e]
    exact Heap.get?_push_size _ rfl
  have old : (s.heap.push (seqObj "list" #[] 0)).get? t = some o := Heap.get?_push_of_some _ ho
  unfold collect
  refine wpAny_bind (wpAny_runValue (codeAny_builtin entry_proto_collect' ?_))
  show wpAny _ _ (newList [] >>= fun l => again (.builtin "list.__iadd__" ⟨[l, .ref t], []⟩)) _ _ s
  refine wpAny_bind (wpAny_newList (wpAny_pure ⟨Code.quiet_builtin _ (by decide +kernel), codeAny_builtin entry_list_iadd' ?_⟩))
  refine (show wpAny _ _ (Builtin.List.listExtendWith (.ref s.heap.objs.size) (.ref t) (.ref s.heap.objs.size)) _ _ { s with heap := s.heap.push (seqObj "list" #[] 0) } from ?_)
  unfold Builtin.List.listExtendWith
  refine wpAny_bind (wpAny_typeOf (T := "tuple") ⟨o, old, hc⟩ ?_)
  have b2 : (Value.type "tuple" == Value.type "tuple") = true := by rfl
  rw [if_pos (by rw [b2]; simp)]
  refine wpAny_bind (listItems_at old hd ?_)
  refine wpAny_bind (listItems_at (xs := #[]) (n := 0) (new0 _ rfl) rfl ?_)
  rw [if_neg (by simp)]
  have hz2 : (#[] ++ us.toArray).size ≤ sizeLine + 1 := by
    simp only [Array.size_append, List.size_toArray, List.length_nil]
    omega
  refine wpAny_bind (listUpdate_at (xs := #[]) (n := 0) (new0 _ rfl) rfl ?_ (Nat.zero_le _) hz2)
  refine wpAny_pure ?_
  refine (show wpAny (model prog w) A (load s.heap.objs.size >>= fun o => match o.data with
      | .seq xs _ => pure xs.toList
      | _ => unsupported "internal:collect") Q E { s with heap := (s.heap.push (seqObj "list" #[] 0)).update s.heap.objs.size (Obj.mapSeq (· ++ us.toArray)) } from ?_)
  refine wpAny_bind (wpAny_load (get?_update_seq (new0 _ rfl) _) ?_)
  have e : ((#[] : Array Value) ++ us.toArray).toList = us := by simp
  refine (show wpAny _ _ (pure ((#[] : Array Value) ++ us.toArray).toList) Q E _ from ?_)
  rw [e]
  exact wpAny_pure k
theorem sorted_tup {t : Addr} {us : List Value} {ss : List Str} {Q : Value → Shared → Prop} (ht : s.heap.IsTuple t us.toArray) (hS : StrsAre us ss) (h64 : us.length < 64)
    (k : ∀ (out : Array Value) (ys : List Str), StrsAre out.toList ys → ys.Perm ss → sortedS ys = true → Q (.ref (s.heap.objs.size + 1)) { s with heap := sortedAll s.heap us out }) :
    wpAny (model prog w) A (call (.builtin "sorted") [.ref t]) Q E s := by
  refine Calls.call_function_entry kind_sorted plain_sorted entry_sorted (args_sorted1 _) ?_
  unfold Builtin.«sorted»
  refine wpAny_bind (m := checkCount "sorted" 1 1 _) (wpAny_pure ?_)
  refine wpAny_bind (collect_tup ht (small64 h64) (wpAny_bind (wpAny_newList ?_)))
  have size1 : ((s.heap.push (seqObj "list" #[] 0)).update s.heap.objs.size (Obj.mapSeq (· ++ us.toArray))).objs.size = s.heap.objs.size + 1 := by
    rw [Heap.size_update, size_push']
  have at1 : (((s.heap.push (seqObj "list" #[] 0)).update s.heap.objs.size (Obj.mapSeq (· ++ us.toArray))).push (seqObj "list" us.toArray 0)).get? (s.heap.objs.size + 1) = some (seqObj "list" us.toArray 0) := by
    rw [← size1]
    exact Heap.get?_push_size _ rfl
  refine (show wpAny _ _ _ _ _ { s with heap := ((s.heap.push (seqObj "list" #[] 0)).update s.heap.objs.size (Obj.mapSeq (· ++ us.toArray))).push (seqObj "list" us.toArray 0) } from ?_)
  rw [size1]
  refine wpAny_bind (wpAny_holding (wpAny_call_entry slot_list_sort ⟨_, at1, rfl⟩ entry_list_sort
    (list_sort_treeK strKind_oneLt at1 hS.keysOf (fun v1 v2 rest e => keyKind_strs (by rw [← e]; exact hS)) h64 fun st hp hs => ⟨_, rfl, ?_⟩) (args_list_sort _)))
  obtain ⟨ys, h1, h2, h3⟩ := sorted_out_str hS hp hs
  exact wpAny_pure ⟨_, rfl, k _ ys h1 h2 h3⟩
end
def rSortedU (K : PySem.W.Frag) : List V → Hp → VK → Prop := fun vs H Q => ∃ (a : Addr) (xs : List Str), vs = [V.ref a] ∧ SqT K H a (xs.map V.str) ∧ xs.length < 64 ∧ ∀ (ys : List Str) (p : Addr), ys.Perm xs → sortedS ys = true → H p = none → Q (.ref p) (upd H p (.lst (ys.map V.str)))
section
variable {X : Cx}
theorem cr_sortedU : CallR X (.builtin "sorted") (rSortedU X.K) := by
  intro pins s σ H vs us Q I r h
  obtain ⟨a, xs, rfl, hs, h64, q⟩ := h
  obtain ⟨its, rv, ht, _⟩ := I.tuple hs
  rw [Vals.ref1 r]
  have hl0 : xs.length = its.length := by
    have z := rv.length
    rw [List.length_map] at z
    exact z
  refine sorted_tup (s := s) ht rv.strs (hl0 ▸ h64) fun out ys h1 h2 h3 => ?_
  obtain ⟨ep, he⟩ := sortedAll_at s.heap its out
  have hz : (ys.map V.str).length ≤ sizeLine := by
    rw [List.length_map, h2.length_eq]
    exact small64 h64
  refine ⟨.ref _, upd H (s.heap.objs.size + 1) (.lst (ys.map V.str)), ?_, rfl, q ys _ h2 h3 (I.hok.fresh (Nat.le_succ _))⟩
  exact I.laid (t' := s.toks) (fun _ _ => sortedAll_old) (Nat.le_succ _) ⟨hz, out.toList, ep, vals_of_strs h1, he⟩
end
/-! ### enumerate of a tuple -/
/-! ### o.m(k = v, ..) -/
/-! ### tuples that are known to the object: their methods -/
def TupO (H : Hp) (a : Addr) (xs : List V) : Prop := ∃ o : Obj, H a = some (.frz o (.tup xs)) ∧ o.dict = none
theorem TupO.sqt {K : PySem.W.Frag} {H : Hp} {a : Addr} {xs : List V} (h : TupO H a xs) : SqT K H a xs := .inl (.inr ⟨_, h.choose_spec.1⟩)
theorem TupO.same {H H' : Hp} {a : Addr} {xs : List V} (h : TupO H a xs) (s : ∀ b o, H b = some o → H' b = some o) : TupO H' a xs := ⟨_, s _ _ h.choose_spec.1, h.choose_spec.2⟩
/-- tuple(list): a new one; tuple(tuple): itself -/
def rTupF (K : PySem.W.Frag) : List V → Hp → VK → Prop := fun xs H Q => ∃ p ys, xs = [.ref p] ∧ ((SqL K H p ys ∧ ∀ (l : Addr) (o : Obj), H l = none → o.dict = none → Q (.ref l) (upd H l (.frz o (.tup ys)))) ∨ (SqT K H p ys ∧ Q (.ref p) H))
section
variable {X : Cx} {o e : Expr} {es : List Expr} {to : TE} {t : TA} {name : Str} {apos cpos : Pos} {id : String} {r : V → List V → Hp → VK → Prop}
theorem call_tupF : CallR X (.type "tuple") (rTupF X.K) := by
  intro pins s σ H xs us Q I r h
  obtain ⟨p, ys, rfl, h⟩ := h
  obtain ⟨u, rfl, rx⟩ := vals1 r
  obtain rfl : u = Value.ref p := rx
  rcases h with ⟨hq, q⟩ | ⟨hq, q⟩
  · obtain ⟨its, rv, pl, hz⟩ := I.list hq
    have hl := rv.length
    refine call_tuple_list pl.isList (fun h' kp => ?_) (by simp only [List.size_toArray]; omega)
    have I1 : Inv X pins σ H { s with heap := h' } := I.kept (t' := s.toks) kp
    have at1 := Heap.get?_push_size h' (o := { cls := .type "tuple", data := .seq its.toArray }) rfl
    have I2 : Inv X pins σ (upd H h'.objs.size (.frz { cls := .type "tuple", data := .seq its.toArray } (.tup ys))) { s with heap := h'.push { cls := .type "tuple", data := .seq its.toArray } } :=
      I1.laid (t' := s.toks) (fun b o e => Heap.get?_push_of_some _ e) (Nat.le_refl _) ⟨at1, hz, its, rv, IsTup.new _ _⟩
    exact ⟨.ref h'.objs.size, _, I2, rfl, q _ _ (I1.hok.fresh (Nat.le_refl _)) rfl⟩
  · obtain ⟨its, rv, pl, hz⟩ := I.tuple hq
    exact call_tuple_same pl ⟨.ref p, H, I, rfl, q⟩
end
/-! ### the end of a law whose def is promised while no repr is under way -/
theorem law_callg {P : Program} {w : World} {K : PySem.W.Frag} {mg mb : Str → Option Value} {k : Nat} {fa a : Addr} {sp : Sp} {st : Shared} {us : List Value} {ns : List Int}
    (KX : K.In st.heap) (hn : st.heap.Ns mainGlobals mg) (hb : st.heap.Ns builtinsNs mb) (hbb : ∀ x : Str, x ≠ "__name__" → mb x = bootBuiltins x) (nl : st.heap.NoLimit) (hgens : st.gens = #[])
    (ha : st.heap.get? a = some { cls := .type "list", data := .seq us.toArray }) (hi : IntsAre us ns) (hz : ns.length ≤ sizeLine) (hr : Room k callerA)
    (F : ∀ base : Heap, K.In base → base.Ns mainGlobals mg → FnG P w K mg base k fa sp)
    (hsp : ∀ H : Hp, SqL K H a (ns.map V.int) → sp [.ref a] H (fun v _ => v = .bl true) E0) :
    codeAny (model P w) callerA (.call (.ref fa) ⟨[.ref a], []⟩) (fun r s' => r = .ok (.ret (.bool true)) ∧ OldK st.heap s'.heap ∧ s'.os = st.os ∧ AllBare s'.gens) st := by
  have rv := vals_ints hi
  have hlen := hi.length
  have key : ∀ H : Hp, Only H → SqL K H a (ns.map V.int) → HOk P w H st.heap → (∀ b, H b ≠ none → b = a) → (H a ≠ none → K.lookup a = none) →
      codeAny (model P w) callerA (.call (.ref fa) ⟨[.ref a], []⟩) (fun r s' => r = .ok (.ret (.bool true)) ∧ OldK st.heap s'.heap ∧ s'.os = st.os ∧ AllBare s'.gens) st := by
    intro H hO hS hok hA hK
    have offD : ∀ {b : Addr} {o : Obj} {es : Array DictEntry} {ep : Nat}, st.heap.get? b = some o → o.data = .dict es ep → H b = none := by
      intro b o es ep e d
      cases q : H b with
      | none => rfl
      | some v =>
        obtain rfl : b = a := hA b (by rw [q]; simp)
        rw [ha] at e
        cases e
        exact nomatch d
    have offK : ∀ {b : Addr} {o : Obj}, K.lookup b = some o → H b = none := by
      intro b o e
      cases q : H b with
      | none => rfl
      | some v =>
        obtain rfl : b = a := hA b (by rw [q]; simp)
        rw [hK (by rw [q]; simp)] at e
        cases e
    have toNs : ∀ {b : Addr} {m : Str → Option Value}, st.heap.Ns b m → (hidT st.heap H).Ns b m := fun ⟨o, es, ep, e, d, r⟩ => ⟨o, es, ep, hidT_get e (offD e d), d, r⟩
    have kb : K.In (hidT st.heap H) := fun b o e => hidT_get (KX b o e) (offK e)
    obtain ⟨mc, l1, l2⟩ := nl
    have M : Mod K mg (hidT st.heap H) := ⟨kb, toNs hn, ⟨mb, toNs hb, hbb⟩, ⟨mc, toNs l1, l2⟩⟩
    have e0 : Env0 P w K mg (hidT st.heap H) callerA [] st H :=
      ⟨rfl, M, fun b o e => of_hidT e, Nat.le_of_eq (hidT_size _ _), trivial, fun b hb => absurd (show b ∈ ([] : List Addr) from hb) (by simp), hok, .of_eq hgens⟩
    refine codeAny_mono (F _ kb (toNs hn) callerA [] st H [.ref a] [.ref a] _ rfl hr e0 (.cons rfl .nil) (hsp H hS)) fun r s' h => ?_
    match r, h with
    | .error e, h => exact h.elim
    | .ok .next, h => exact h.elim
    | .ok .brk, h => exact h.elim
    | .ok .cont, h => exact h.elim
    | .ok (.ret u), h =>
      obtain ⟨v, H', os, bare, un, hok', rr, q⟩ := h
      obtain rfl : v = .bl true := q
      obtain rfl : u = Value.bool true := rr
      refine ⟨rfl, OldK.of_keep fun b o e => ?_, os, bare⟩
      cases q : H b with
      | none => exact un.keep b o e q (fun z => absurd (show b ∈ ([] : List Addr) from z) (by simp)) (by simp)
      | some v =>
        rcases hO b with z | ⟨ob, xs, z⟩
        · rw [q] at z
          cases z
        · obtain ⟨g1, _⟩ := hok b _ z
          obtain ⟨g2, _⟩ := hok' b _ (un.frzs b ob _ z)
          rw [e] at g1
          cases g1
          exact g2
  cases hk : K.lookup a with
  | some o =>
    have e := KX a o hk
    rw [ha] at e
    cases e
    refine key (fun _ => none) (fun _ => .inl rfl) (.inr ⟨_, us.toArray, _, hk, rfl, rfl, rfl, ?_, by simpa using rv⟩) (fun b u z => nomatch z) (fun b z => absurd rfl z) fun z => absurd rfl z
    rw [List.size_toArray, hlen]
    exact hz
  | none =>
    let T : HO := .frz { cls := .type "list", data := .seq us.toArray } (.lst (ns.map V.int))
    refine key (fun b => if b = a then some T else none) (fun b => ?_) (.inl (.inr ⟨_, if_pos rfl⟩)) (fun b u z => ?_) (fun b z => ?_) fun _ => hk
    · by_cases hb : b = a
      · exact .inr ⟨_, _, if_pos hb⟩
      · exact .inl (if_neg hb)
    · by_cases hb : b = a
      · subst hb
        have z' := (if_pos rfl).symm.trans z
        cases z'
        exact ⟨ha, by rw [List.length_map]; exact hz, us, _, rv, ha⟩
      · have z' := (if_neg hb).symm.trans z
        cases z'
    · by_cases hb : b = a
      · exact hb
      · exact absurd (if_neg hb) z
theorem walk_g {l : PySem.W.OpenLaw} {n k : Nat} {q : Program} {loose : List Str} {XP : (Str → Option Value) → Heap → Prop} {YP : World → Heap → Prop} {d : DefRec} {K : Params → PySem.W.Frag} {sp : PySem.W.Frag → Sp}
    (hn : l.most = some n) (hn2 : n ≤ sizeLine) (hdf : d.params.defaults = []) (hr : Room k callerA) (hY : ∀ (w : World) (h : Heap), YP w h → (K w.params).In h)
    (F : ∀ (w : World) (mg : Str → Option Value) (fa : Addr) (h : Heap), (K w.params).In h → h.Ns mainGlobals mg → mg d.name = some (.ref fa) →
      ∀ base : Heap, (K w.params).In base → base.Ns mainGlobals mg → FnG l.prog w (K w.params) mg base k fa (sp (K w.params)))
    (hsp : ∀ (K : PySem.W.Frag) (H : Hp) (a : Addr) (ns : List Int), ns.length ≤ n → SqL K H a (ns.map V.int) → sp K [.ref a] H (fun v _ => v = .bl true) E0) :
    PySem.W.WalkO q loose XP YP l.row.toRowW d [] (fun f vs => PySem.call f vs) := by
  refine Att.attach_call hn hdf fun w s₀ s₁ mg mb fa o pm cd doc a vs ns G Y ho hd hcd hmg hobj hints hlen hg => ?_
  have KX := hY w _ Y
  exact law_callg KX G.T.g G.T.b G.T.builtins G.T.nolimit hg hobj hints (Nat.le_trans hlen hn2) hr (F w mg fa _ KX G.T.g hmg) fun H hS => hsp _ H a ns hlen hS
end MH
/-! Comprehensions by what their values are. -/
namespace MH
open PySem PySem.Spec PyProof.Rows L2
/-- all but lists stands -/
def SameO (H H' : Hp) : Prop := ∀ b o, (∀ l, o ≠ .lst l) → H b = some o → H' b = some o
theorem SameO.of {H H' : Hp} (s : Same H H') : SameO H H' := fun b o _ e => s b o e
theorem SameO.refl (H : Hp) : SameO H H := fun _ _ _ e => e
theorem SameO.trans {H H1 H2 : Hp} (a : SameO H H1) (b : SameO H1 H2) : SameO H H2 := fun c o n e => b c o n (a c o n e)
theorem SameO.put {H H1 : Hp} {D : Addr} {l : List V} {o : HO} (s : SameO H H1) (h : H1 D = some (.lst l)) : SameO H (upd H1 D o) := fun b x n e => by
  have e1 := s b x n e
  rw [upd_ne (ne_of e1 h (fun q => n l q))]
  exact e1
theorem SameO.sqt {K : PySem.W.Frag} {H H' : Hp} {a : Addr} {xs : List V} (s : SameO H H') (h : SqT K H a xs) : SqT K H' a xs := by
  rcases h with (h | ⟨o, h⟩) | h
  · exact .inl (.inl (s _ _ (fun l q => by cases q) h))
  · exact .inl (.inr ⟨o, s _ _ (fun l q => by cases q) h⟩)
  · exact .inr h
/-- what a comprehension leaves to be shown -/
abbrev LcQ (J : It) (g : TG) (tt : TT) (te : TE) (vs : List Nat) (σ : L2.St) (H1 : Hp) (D : Addr) (Qd : Hp → Prop) : Prop :=
  ∃ W : Nat → Nat → Hp → Prop, (∃ m, W 0 m (upd H1 D (.lst []))) ∧
    ∀ i m H, W i m H → (J.stop i H ∧ Qd H) ∨ (J.go i H ∧
      ∃ Nx : Hp → Prop, (∀ H', Nx H' → ∃ m', m' < m ∧ W (i + 1) m' H') ∧
        ∀ x H', J.yld i H x H' → g x (wipe σ vs) H' fun σ2 H2 => wipe σ2 vs = wipe σ vs ∧
          tt σ2 H2 fun b H3 => if b = true
            then te σ2 H3 fun y H4 => ∃ acc, H4 D = some (.lst acc) ∧ acc.length < sizeLine ∧ Nx (upd H4 D (.lst (acc ++ [y])))
            else Nx H3)
section
variable {J : It} {n : Nat} {G : Hp → Prop} {Y : Nat → Hp → V → Hp → Prop} {g : TG} {te : TE} {vs : List Nat} {σ : L2.St} {H1 : Hp} {D : Addr} {Qd : Hp → Prop}
/-- the general one: St stands throughout, the i-th value keeps R i -/
theorem lcg (w : Walk J n G Y) (St : Hp → Prop) (R : Nat → V → Hp → Prop) (nD : H1 D = none) (hn : n < 100000) (S0 : St (upd H1 D (.lst []))) (SD : ∀ H l zs, St H → H D = some (.lst l) → St (upd H D (.lst zs)))
    (hG : ∀ H', St H' → G H') (hY : ∀ i H x H', St H → Y i H x H' → Same H H') (hm : ∀ i v H H', R i v H → SameO H H' → R i v H')
    (hs : ∀ i x H H', i < n → St H → Y i H x H' → (∃ l, H' D = some (.lst l)) → ∀ Z : V → Hp → Prop, (∀ v H2, St H2 → SameO H' H2 → H2 D = H' D → R i v H2 → Z v H2) →
      g x (wipe σ vs) H' fun σ2 H2 => wipe σ2 vs = wipe σ vs ∧ te σ2 H2 Z)
    (hd : ∀ H' zs, St H' → H' D = some (.lst zs) → zs.length = n → (∀ i v, zs[i]? = some v → R i v H') → Qd H') : LcQ J g tYes te vs σ H1 D Qd := by
  refine lc_it w (fun i H => St H ∧ ∃ zs, H D = some (.lst zs) ∧ zs.length = i ∧ ∀ i v, zs[i]? = some v → R i v H) ⟨S0, [], upd_same, rfl, fun i v h => nomatch ((List.getElem?_nil (α := V) (i := i)).symm.trans h)⟩ (fun i H _ h => hG H h.1) ?_ ?_
  · rintro i x H H' hi ⟨st, zs, e, le, hz⟩ y
    have s := hY i H x H' st y
    refine hs i x H H' hi st y ⟨zs, s _ _ e⟩ _ fun v H2 st2 so eD hR => ?_
    have e2 : H2 D = some (.lst zs) := eD.trans (s _ _ e)
    have so2 : SameO H2 (upd H2 D (.lst (zs ++ [v]))) := (SameO.refl H2).put e2
    refine ⟨zs, e2, Nat.lt_of_lt_of_le (by omega : zs.length < 100000) (by decide), SD _ _ _ st2 e2, zs ++ [v], upd_same, by rw [List.length_append, le]; rfl, fun j u hj => ?_⟩
    by_cases c : j < zs.length
    · rw [List.getElem?_append_left c] at hj
      exact hm _ _ _ _ (hz j u hj) ((SameO.of s).trans (so.trans so2))
    · rw [List.getElem?_append_right (by omega)] at hj
      have ej : j - zs.length = 0 := by
        cases q : j - zs.length with
        | zero => rfl
        | succ n =>
          rw [q] at hj
          cases hj
      rw [ej] at hj
      obtain rfl : v = u := Option.some.inj hj
      obtain rfl : j = i := by omega
      exact hm _ _ _ _ hR so2
  · rintro H ⟨st, zs, e, le, hz⟩
    exact hd H zs st e le hz
/-- new things are made, nothing else changes -/
theorem lco (w : Walk J n G Y) (R : Nat → V → Hp → Prop) (nD : H1 D = none) (hn : n < 100000) (hG : ∀ H', Same H1 H' → G H') (hY : ∀ i H x H', Same H1 H → Y i H x H' → Same H H') (hm : ∀ i v H H', R i v H → SameO H H' → R i v H')
    (hs : ∀ i x H H', i < n → Same H1 H → Y i H x H' → ∀ Z : V → Hp → Prop, (∀ v H2, Same H' H2 → R i v H2 → Z v H2) →
      g x (wipe σ vs) H' fun σ2 H2 => wipe σ2 vs = wipe σ vs ∧ te σ2 H2 Z)
    (hd : ∀ H' zs, Same H1 H' → H' D = some (.lst zs) → zs.length = n → (∀ i v, zs[i]? = some v → R i v H') → Qd H') : LcQ J g tYes te vs σ H1 D Qd := by
  refine lcg w (fun H => Same H1 H ∧ ∃ l, H D = some (.lst l)) R nD hn ⟨fun b o h => ?_, _, upd_same⟩ (fun H l zs h e => ⟨fun b o hb => ?_, _, upd_same⟩) (fun H' h => hG H' h.1) (fun i H x H' h y => hY i H x H' h.1 y) hm (fun i x H H' hi h y _ Z hZ => ?_) (fun H' zs h e le hz => hd H' zs h.1 e le hz)
  · rw [upd_ne (ne_of_none h nD)]
    exact h
  · rw [upd_ne (ne_of_none hb nD)]
    exact h.1 b o hb
  · obtain ⟨s, l, e⟩ := h
    have s' := hY i H x H' s y
    refine hs i x H H' hi s y Z fun v H2 s2 hR => hZ v H2 ⟨s.trans (s'.trans s2), l, s2 _ _ (s' _ _ e)⟩ (SameO.of s2) ?_ hR
    rw [s2 _ _ (s' _ _ e), s' _ _ e]
/-- the values are known -/
theorem lcv {α : Type} (w : Walk J n G Y) (us : List α) (f : α → V) (hl : us.length = n) (nD : H1 D = none) (hn : n < 100000) (hG : ∀ H', Same H1 H' → G H') (hY : ∀ i H x H', Same H1 H → Y i H x H' → Same H H')
    (hs : ∀ i u x H H', us[i]? = some u → Same H1 H → Y i H x H' → ∀ Z : V → Hp → Prop, (∀ H2, Same H' H2 → Z (f u) H2) →
      g x (wipe σ vs) H' fun σ2 H2 => wipe σ2 vs = wipe σ vs ∧ te σ2 H2 Z)
    (hd : ∀ H', Same H1 H' → H' D = some (.lst (us.map f)) → Qd H') : LcQ J g tYes te vs σ H1 D Qd := by
  refine lco w (fun i v _ => (us.map f)[i]? = some v) nD hn hG hY (fun i v H H' h _ => h) (fun i x H H' hi s y Z hZ => ?_) (fun H' zs s e le hz => hd H' s ?_)
  · have hu : us[i]? = some (us[i]'(by omega)) := List.getElem?_eq_getElem _
    refine hs i _ x H H' hu s y Z fun H2 s2 => hZ _ H2 s2 ?_
    rw [List.getElem?_map, hu]
    rfl
  · have ez : zs = us.map f := by
      refine List.ext_getElem? fun i => ?_
      cases q : zs[i]? with
      | some v => exact (hz i v q).symm
      | none =>
        rw [List.getElem?_eq_none_iff] at q
        exact (List.getElem?_eq_none_iff.mpr (by rw [List.length_map]; omega)).symm
    rw [← ez]
    exact e
/-- those that pass -/
theorem lcf {tt : TT} {α : Type} (w : Walk J n G Y) (us : List α) (f : α → V) (c : α → Bool) (hl : us.length = n) (nD : H1 D = none) (hn : n < 100000) (hG : ∀ H', Same H1 H' → G H') (hY : ∀ i H x H', Same H1 H → Y i H x H' → Same H H')
    (hs : ∀ i u x H H', us[i]? = some u → Same H1 H → Y i H x H' → ∀ (Z : V → Hp → Prop) (N : Hp → Prop), (c u = true → ∀ H2, Same H' H2 → Z (f u) H2) → (c u = false → ∀ H2, Same H' H2 → N H2) →
      g x (wipe σ vs) H' fun σ2 H2 => wipe σ2 vs = wipe σ vs ∧ tt σ2 H2 fun b H3 => if b = true then te σ2 H3 Z else N H3)
    (hd : ∀ H', Same H1 H' → H' D = some (.lst ((us.filter c).map f)) → Qd H') : LcQ J g tt te vs σ H1 D Qd := by
  refine lc_it w (fun i H => Same H1 H ∧ H D = some (.lst (((us.take i).filter c).map f))) ⟨fun b o h => ?_, upd_same⟩ (fun i H _ h => hG H h.1) ?_ ?_
  · rw [upd_ne (ne_of_none h nD)]
    exact h
  · rintro i x H H' hi ⟨s, e⟩ y
    have s' := hY i H x H' s y
    have hu : us[i]? = some (us[i]'(by omega)) := List.getElem?_eq_getElem _
    generalize us[i]'(by omega) = u at hu
    refine hs i u x H H' hu s y _ _ (fun hc H2 s2 => ?_) (fun hc H2 s2 => ⟨s.trans (s'.trans s2), ?_⟩)
    · have e2 := s2 _ _ (s' _ _ e)
      refine ⟨_, e2, Nat.lt_of_lt_of_le (?_ : _ < 100000) (by decide), fun b o h => ?_, ?_⟩
      · rw [List.length_map]
        have := List.length_filter_le c (us.take i)
        rw [List.length_take] at this
        omega
      · rw [upd_ne (ne_of_none h nD)]
        exact s2 _ _ (s' _ _ (s _ _ h))
      · rw [upd_same, List.take_add_one, hu, List.filter_append, List.map_append]
        show _ = some (HO.lst (_ ++ List.map f (List.filter c [u])))
        rw [List.filter_cons, hc]
        rfl
    · have e2 := s2 _ _ (s' _ _ e)
      rw [e2, List.take_add_one, hu, List.filter_append, List.map_append]
      show _ = some (HO.lst (_ ++ List.map f (List.filter c [u])))
      rw [List.filter_cons, hc]
      show _ = some (HO.lst (_ ++ []))
      rw [List.append_nil]
  · rintro H ⟨s, e⟩
    rw [← hl, List.take_length] at e
    exact hd H s e
end
/-- walks of lists, tuples and ranges change nothing -/
theorem yat_same {xs : List V} {i : Nat} {H H' : Hp} {x : V} (h : YAt xs i H x H') : Same H H' := h.1 ▸ Same.refl _
theorem yfn_same {f : Nat → V} {i : Nat} {H H' : Hp} {x : V} (h : YFn f i H x H') : Same H H' := h.1 ▸ Same.refl _
/-- sep.join(xs) within a comprehension -/
def rJoin (K : PySem.W.Frag) : V → List V → Hp → VK → Prop := fun x xs H Q =>
  ∃ (a : Str) (p : Addr) (ys : List Str), x = .str a ∧ xs = [.ref p] ∧
    (SqL K H p (ys.map V.str) ∨ SqT K H p (ys.map V.str)) ∧
    (ys.map (·.length)).sum + ys.length * a.length ≤ 16777216 ∧ Q (.str (Txt.join a ys)) H
theorem pe_joinC {X : Cx} {K : PySem.W.Frag} {o e : Expr} {to te : TE} {apos pos : Pos} (hK : X.K = K) (ho : PE X o to) (he : PE X e te)
    (hs : starEach [e] X.env = [(false, eval e X.env)] := by rfl) (hb : attributeBase o "join" X.env (eval o X.env) = eval o X.env := by rfl)
    (hl : (apos.endLine == pos.line) = true := by rfl) : PE X (.Call (.Attribute o "join" apos) [e] [] pos) (tM1 (rJoin K) to te) := by
  subst hK
  exact pe_join ho he hs hb hl
end MH
/-! The mathematics: texts in order, names, menus. -/
namespace MH
open PySem PySem.Spec PyProof.Rows L2
/-! ### the order of texts -/
def ltS (x y : Str) : Prop := x.cps.toList < y.cps.toList
instance (x y : Str) : Decidable (ltS x y) := inferInstanceAs (Decidable (x.cps.toList < y.cps.toList))
theorem lst_lt_irrefl : ∀ a : List Nat, ¬ a < a := fun a h => List.lt_irrefl a h
theorem ltS_irrefl (x : Str) : ¬ ltS x x := lst_lt_irrefl _
theorem ltS_trans {x y z : Str} (a : ltS x y) (b : ltS y z) : ltS x z := List.lt_trans a b
theorem ltS_tri (x y : Str) : ltS x y ∨ x = y ∨ ltS y x := by
  by_cases h : ltS x y
  · exact .inl h
  · by_cases h2 : ltS y x
    · exact .inr (.inr h2)
    · refine .inr (.inl ?_)
      have e : x.cps.toList = y.cps.toList := List.le_antisymm (List.not_lt.mp h2) (List.not_lt.mp h)
      exact Str.ext' (Array.toList_inj.mp e)
theorem risingS_pw : ∀ (p : Str) (l : List Str), risingS p l = true → l.Pairwise (fun a b => ¬ ltS b a) ∧ ∀ x ∈ l, ¬ ltS x p
  | p, [], _ => ⟨List.Pairwise.nil, fun _ h => nomatch h⟩
  | p, x :: r, h => by
    have h' : (!ltCps x.cps.toList p.cps.toList && risingS x r) = true := h
    rw [Bool.and_eq_true, ltCps_eq] at h'
    obtain ⟨h1, h2⟩ := h'
    obtain ⟨q1, q2⟩ := risingS_pw x r h2
    have n1 : ¬ ltS x p := by
      intro z
      rw [decide_eq_true (show x.cps.toList < p.cps.toList from z)] at h1
      cases h1
    refine ⟨List.Pairwise.cons (fun y hy => q2 y hy) q1, fun y hy => ?_⟩
    rcases List.mem_cons.mp hy with rfl | hy
    · exact n1
    · intro z
      rcases ltS_tri x p with a | a | a
      · exact n1 a
      · subst a
        exact q2 y hy z
      · exact q2 y hy (ltS_trans z a)
theorem sortedS_pw : ∀ {l : List Str}, sortedS l = true → l.Pairwise (fun a b => ¬ ltS b a)
  | [], _ => List.Pairwise.nil
  | x :: r, h => List.Pairwise.cons (risingS_pw x r h).2 (risingS_pw x r h).1
/-- in order and none twice: each before the next -/
theorem sorted_lt {l : List Str} (hn : l.Nodup) (h : sortedS l = true) : l.Pairwise ltS := by
  have a := sortedS_pw h
  have b : l.Pairwise (fun x y => x ≠ y) := hn
  refine (List.pairwise_and_iff.mpr ⟨a, b⟩).imp fun {x y} z => ?_
  rcases ltS_tri x y with q | q | q
  · exact q
  · exact absurd q z.2
  · exact absurd q z.1
/-! ### names -/
def letters : Str := "abcdefghijklmnopqrstuvwxyz"
def digits : Str := "0123456789"
def isL (c : Nat) : Bool := decide (c ∈ letters.cps.toList)
def isD (c : Nat) : Bool := decide (c ∈ digits.cps.toList)
def nameOk (z : Str) : Bool := decide (1 ≤ z.length) && (decide (z.length ≤ 8) && (isL (z.cps.toList.getD 0 0) && z.cps.toList.all fun c => isL c || isD c))
/-! ### menus -/
end MH
/-! Data as repr shows it: its length, and what == and repr ask. -/
namespace MH
open PySem PySem.Spec PyProof.Rows L2
mutual
def okD : PyData → Bool
  | .none => true
  | .bool _ => true
  | .int i => decide (i.natAbs < 10 ^ 100)
  | .str x => PyData.strOk x
  | .list xs => okDs xs
  | .tuple xs => okDs xs
  | .dict _ => false
def okDs : List PyData → Bool
  | [] => true
  | x :: xs => okD x && okDs xs
end
mutual
theorem ok_lay : ∀ d : PyData, okD d = true → d.canLay0 = true
  | .none, _ => by simp only [PyData.canLay0]
  | .bool _, _ => by simp only [PyData.canLay0]
  | .int _, _ => by simp only [PyData.canLay0]
  | .str x, h => by
    rw [PyData.canLay0]
    exact h
  | .list xs, h => by
    rw [PyData.canLay0]
    exact ok_layAll xs h
  | .tuple xs, h => by
    rw [PyData.canLay0]
    exact ok_layAll xs h
  | .dict _, h => nomatch h
theorem ok_layAll : ∀ xs : List PyData, okDs xs = true → PyData.canLayAll0 xs = true
  | [], _ => by simp only [PyData.canLayAll0]
  | x :: xs, h => by
    have h' : (okD x && okDs xs) = true := h
    rw [Bool.and_eq_true] at h'
    rw [PyData.canLayAll0, ok_lay x h'.1, ok_layAll xs h'.2]
    rfl
end
theorem shaped_of {d : PyData} (ok : okD d = true) (h : d.depth ≤ 64) : SeqAt.shaped d = true := by
  unfold SeqAt.shaped
  rw [ok_lay d ok, decide_eq_true h]
  rfl
/-! texts in a row -/
theorem okDs_strs {ss : List Str} (h : ∀ z ∈ ss, PyData.strOk z = true) : okDs (ss.map PyData.str) = true := by
  induction ss with
  | nil => rfl
  | cons z r ih =>
    show (PyData.strOk z && okDs (r.map PyData.str)) = true
    rw [h z List.mem_cons_self, ih fun y hy => h y (List.mem_cons_of_mem _ hy)]
    rfl
theorem depth_strs : ∀ ss : List Str, PyData.depthAll (ss.map PyData.str) = 0
  | [] => by rw [List.map_nil, PyData.depthAll]
  | z :: r => by rw [List.map_cons, PyData.depthAll, depth_strs r, PyData.depth]; rfl
theorem dp_strs {K : PySem.W.Frag} {H : Hp} : ∀ ss : List Str, DpAll K H (ss.map V.str) (ss.map PyData.str)
  | [] => .nil
  | z :: r => .cons (.str z) (dp_strs r)
theorem isL_le {c : Nat} (h : isL c = true) : c < 128 := by
  have q : ∀ c ∈ letters.cps.toList, c < 128 := by decide +kernel
  exact q c (of_decide_eq_true h)
theorem isD_le {c : Nat} (h : isD c = true) : c < 128 := by
  have q : ∀ c ∈ digits.cps.toList, c < 128 := by decide +kernel
  exact q c (of_decide_eq_true h)
theorem nameOk_len {z : Str} (h : nameOk z = true) : z.length ≤ 8 := by
  unfold nameOk at h
  simp only [Bool.and_eq_true, decide_eq_true_eq] at h
  exact h.2.1
theorem nameOk_str {z : Str} (h : nameOk z = true) : PyData.strOk z = true := by
  unfold nameOk at h
  simp only [Bool.and_eq_true, decide_eq_true_eq] at h
  have q := h.2.2.2
  rw [List.all_eq_true] at q
  unfold PyData.strOk
  rw [← Array.all_toList, List.all_eq_true]
  intro c hc
  refine decide_eq_true ?_
  have w := q c hc
  rw [Bool.or_eq_true] at w
  rcases w with w | w
  · have := isL_le w
    omega
  · have := isD_le w
    omega
end MH
/-! A tuple taken from the back: t[::-1]. -/
namespace MH
open PySem PySem.Spec PyProof.Rows L2 PySem.SeqAt HT
section
variable {prog : Program} {w : World} {A : Around} {E : Value → Shared → Prop} {s : Shared}
theorem applied_back {sl : Addr} {vk : Value} {n : Nat} {Q : Int × Int × Nat → Shared → Prop} (hs : s.heap.IsSliceOf sl .none .none vk) (pk : IsPart vk (some (-1)))
    (h : Q ((n : Int) - 1, -1, n) s) : wpAny (model prog w) A (Builtin.Slice.sliceApplied (.ref sl) (pure (n : Int))) Q E s := by
  obtain ⟨os, hos, hcs, hds⟩ := id hs
  unfold Builtin.Slice.sliceApplied Builtin.Slice.sliceFields
  refine wpAny_bind (wpAny_bind (wpAny_field hos hds (x := .none) rfl (wpAny_bind (wpAny_field hos hds (x := .none) rfl (wpAny_bind (wpAny_field hos hds (x := vk) rfl (wpAny_pure ?_)))))))
  refine wpAny_bind (slicePart_ pk ?_)
  show wpAny _ _ (if ((-1 : Int) == 0) = true then _ else _) _ _ s
  rw [if_neg (by decide)]
  refine wpAny_bind (slicePart_none (wpAny_bind (slicePart_none (wpAny_bind (wpAny_pure ?_)))))
  have e : Builtin.Slice.sliceAdjust none none (-1) (n : Int) = ((n : Int) - 1, -1) := by
    unfold Builtin.Slice.sliceAdjust
    simp
  show wpAny _ _ (match Builtin.Slice.sliceAdjust none none (-1) (n : Int) with | (lo, hi) => pure (lo, (-1 : Int), Builtin.Slice.slicePlaces lo hi (-1))) _ _ s
  rw [e]
  have e2 : Builtin.Slice.slicePlaces ((n : Int) - 1) (-1) (-1) = n := by
    unfold Builtin.Slice.slicePlaces
    simp
    try omega
  show wpAny _ _ (pure ((n : Int) - 1, (-1 : Int), Builtin.Slice.slicePlaces ((n : Int) - 1) (-1) (-1))) _ _ s
  rw [e2]
  exact wpAny_pure h
theorem filter_congr {α β : Type} {f g : α → Option β} : ∀ {l : List α}, (∀ x ∈ l, f x = g x) → l.filterMap f = l.filterMap g
  | [], _ => rfl
  | x :: l, h => by
    rw [List.filterMap_cons, List.filterMap_cons, h x List.mem_cons_self, filter_congr fun y hy => h y (List.mem_cons_of_mem _ hy)]
theorem pick_back (xs : Array Value) : ((List.range xs.size).filterMap fun (m : Nat) => xs[((xs.size : Int) - 1 + (m : Int) * (-1)).toNat]?).toArray = xs.toList.reverse.toArray := by
  have e : (List.range xs.size).filterMap (fun (m : Nat) => xs[((xs.size : Int) - 1 + (m : Int) * (-1)).toNat]?) = ((List.range xs.size).map (fun k => xs.size - 1 - k)).filterMap (xs[·]?) := by
    rw [List.filterMap_map]
    refine filter_congr fun m hm => ?_
    have := List.mem_range.mp hm
    have e2 : ((xs.size : Int) - 1 + (m : Int) * (-1)).toNat = xs.size - 1 - m := by omega
    rw [e2]
    rfl
  rw [e, PySem.W.krv_range, List.filterMap_reverse, PySem.W.krv_all]
theorem getItem_back {t sl : Addr} {items : Array Value} {vk : Value} {Q : Value → Shared → Prop} (ht : IsTup s.heap t items) (hs : s.heap.IsSliceOf sl .none .none vk) (pk : IsPart vk (some (-1)))
    (h : Q (.ref s.heap.objs.size) { s with heap := s.heap.push { cls := .type "tuple", data := .seq items.toList.reverse.toArray } })
    (hsz : items.size ≤ sizeLine) : wpAny (model prog w) A (getItem (.ref t) (.ref sl)) Q E s := by
  have htake : sizeOk (.seq items.toList.reverse.toArray) := by
    show items.toList.reverse.toArray.size ≤ sizeLine
    rw [List.size_toArray, List.length_reverse, Array.length_toList]
    exact hsz
  obtain ⟨os, hos, hcs, hds⟩ := id hs
  have hTs : s.TypeIs (.ref sl) "slice" := ⟨os, hos, hcs⟩
  unfold getItem
  try with_reducible refine wpAny_holding ?_
  first | refine wpAny_bind (wpAny_pure ?_) | skip
  refine wpAny_bind (wpAny_sequenceKey ht.typeIs (by decide) ?_)
  refine wpAny_bind (wpAny_callSpecial?_slot (name := Str.ofString "__getitem__") ht.typeIs PyProof.Rows.slot_tuple_getitem
    (wpAny_call_entry PyProof.Rows.slot_tuple_getitem ht.typeIs entry_tuple_getitem ?_ (args_tuple_getitem _ _)))
  show wpAny _ _ (Builtin.Tuple.tupleItemsOf (.ref t) >>= _) _ _ s
  refine wpAny_bind (tupleItemsOf_ ht ?_)
  refine wpAny_bind (wpAny_typeOf hTs ?_)
  rw [if_pos (by decide)]
  refine wpAny_bind (applied_back hs pk ?_)
  have hno : ¬ (((items.size : Int) - 1 == 0 && (-1 : Int) == 1 && items.size == items.size) = true) := by
    rw [show ((-1 : Int) == 1) = false from rfl, Bool.and_false, Bool.false_and]
    exact Bool.false_ne_true
  show wpAny _ _ (if ((items.size : Int) - 1 == 0 && (-1 : Int) == 1 && items.size == items.size) = true then _ else _) _ _ s
  rw [if_neg hno, pick_back]
  first
    | exact wpAny_bind (m := Builtin.Tuple.tupleExact _) (wpAny_newObj_type (wpAny_pure ⟨_, rfl, wpAny_pure h⟩) htake)
    | exact wpAny_bind (m := Builtin.Tuple.tupleExact _) (wpAny_newObj_type (wpAny_bind (wpAny_pure (wpAny_pure ⟨_, rfl, wpAny_pure h⟩))) htake)
    | exact wpAny_bind (wpAny_bind (m := Builtin.Tuple.tupleExact _) (wpAny_newObj_type (wpAny_pure (wpAny_pure ⟨_, rfl, wpAny_pure h⟩)) htake))
    | exact wpAny_bind (wpAny_bind (m := Builtin.Tuple.tupleExact _) (wpAny_newObj_type (wpAny_pure ⟨_, rfl, wpAny_pure h⟩) htake))
end
def tBackT (K : PySem.W.Frag) (te : TE) : TE := fun σ H Q => te σ H fun x H1 => ∃ a xs, x = .ref a ∧ SqT K H1 a xs ∧ ∀ p, H1 p = none → Q (.ref p) (upd H1 p (.tup xs.reverse))
/-- t[::-1] -/
theorem pe_backT {X : Cx} {e : Expr} {te : TE} {j : Nat} {pos p2 p3 p4 : Pos} (he : PE X e te) : PE X (.Subscript e (.Slice none none (some (.UnaryOp .USub (.Constant (.int 1) j p4) p3)) p2) pos) (tBackT X.K te) := by
  refine ⟨fun pins s σ H Q I h => ?_⟩
  refine Subscript_ (thn (he.run pins s σ H _ I h) fun v s1 ⟨x, H1, I1, r1, a, xs, ex, hx, q⟩ => ?_)
  subst ex
  obtain rfl : v = Value.ref a := r1
  refine wpAny_Slice ?_
  rw [evalPart_none, evalPart_some]
  refine wpAny_pure (wpAny_pure ?_)
  refine thn ((pe_un un_neg pe_int).run pins s1 σ H1 (fun y H2 => y = .int (-1) ∧ H2 = H1) I1 ⟨1, rfl, rfl, rfl⟩) fun vk s2 ⟨y, H2, I2, ry, ey, eH⟩ => ?_
  subst ey
  subst eH
  obtain ⟨tk, rfl⟩ := ry
  have I3 : Inv X pins σ H2 { s2 with heap := s2.heap.push { cls := .type "slice", data := .fields #[.none, .none, .int (-1) tk] } } := I2.kept (t' := s2.toks) fun b ob q => Heap.get?_push_of_some _ q
  obtain ⟨its, r, ht, hz⟩ := I3.tuple hx
  have hsl := Heap.IsSliceOf.new s2.heap .none .none (.int (-1) tk)
  refine tail_any (ops := [.ref a, .ref s2.heap.objs.size]) ht.typeIs PyProof.Rows.slot_tuple_getitem.lookup (getItem_back ht hsl (.int _ _) ?_ (by rw [List.size_toArray, ← r.length]; exact hz)) (by with_unfolding_all rfl)
  refine ⟨.ref _, _, I3.laid (t' := s2.toks) (o := .tup xs.reverse) (fun b ob q => Heap.get?_push_of_some _ q) (Nat.le_refl _) ?_, rfl, q _ (I3.hok.fresh (Nat.le_refl _))⟩
  exact ⟨by rw [List.length_reverse]; exact hz, _, r.reverse, IsTup.new _ _⟩
end MH
/-! Own special methods of instances: -o, o == p, o != p, str(o). -/
namespace MH
open PySem PySem.Spec PyProof.Rows L2
end MH
/-! Own rules: the call of an own object, o(..) by its class's __call__; the truth of a whole number within a comprehension. -/
namespace MH
open PySem PySem.Spec PyProof.Rows L2
end MH
/-! Comprehensions over two walks, the second within the first. -/
namespace MH
open PySem PySem.Spec PyProof.Rows L2
theorem walk_zipT {K : PySem.W.Frag} {a b : Addr} {xs ys : List V} {n : Nat} (hn : n = min xs.length ys.length) : Walk (RZ.ItzT K a b) n (fun H => SqT K H a xs ∧ SqT K H b ys) (YPair (fun i => xs[i]?) (fun i => ys[i]?)) where
  goes := fun i H hi q => ⟨xs, ys, xs[i]'(by omega), ys[i]'(by omega), q.1, q.2, List.getElem?_eq_getElem _, List.getElem?_eq_getElem _⟩
  stops := fun H q => ⟨xs, ys, q.1, q.2, by omega⟩
  yields := fun i H v H' hi q ⟨T, x, z, h1, h2, h3, h4, h5⟩ => ⟨T, x, z, h1, h2, h3, h4 xs q.1, h5 ys q.2⟩
end MH
/-! More own special methods: len, bool, repr, [], in, == and != with values of other kinds, f-strings, classmethods. -/
namespace MH
open PySem PySem.Spec PyProof.Rows L2
end MH
/-! try .. except (A, B, C) as n: the clause's classes in a tuple. -/
namespace MH
open PySem PySem.Spec PyProof.Rows L2
end MH
/-! Caught exceptions as objects of the tracked heap; defs that are called within an except suite. -/
namespace MH
open PySem PySem.Spec PyProof.Rows L2
/-! ### a caught exception -/
/-! ### try: body, except (A, B, C) as n: suite -/
/-! ### promises of defs that are called within a suite (whatever is handled), while no repr is under way -/
def FnK (P : Program) (w : World) (K : PySem.W.Frag) (mg : Str → Option Value) (base : Heap) (k : Nat) (f : Addr) (sp : Sp) : Prop :=
  ∀ (A : Around) (fr : List Env) (st : Shared) (H : Hp) (us : List Value) (vs : List V) (Q : VK), A.guards = some [] → L2H.RoomH k A → Env0 P w K mg base A fr st H → Vals vs us →
    sp vs H Q E0 → codeAny (model P w) A (.call (.ref f) ⟨us, []⟩) (CR CX0 fr P w H st Q E0) st
section
variable {P : Program} {w : World} {K : PySem.W.Frag} {mg : Str → Option Value} {base : Heap} {k : Nat} {f : Addr} {sp : Sp}
theorem FnK.mono {j : Nat} (F : FnK P w K mg base j f sp) (h : j ≤ k) : FnK P w K mg base k f sp := fun A fr st H us vs Q hg hr => F A fr st H us vs Q hg (hr.mono h)
end
/-! ### isinstance and fields of a caught exception -/
end MH
/-! repr of values of many kinds; list.count of truths; the signs of what repr shows. -/
namespace MH
open PySem PySem.Spec PyProof.Rows L2
/-! ### signs -/
/-! ### what repr shows of a value -/
/-! ### list.count of truths -/
end MH
/-! Small rules: what a callee lets out, defs that make lambdas, upper and replace side by side, frames in which tables of code grow, the end of such a law. -/
namespace MH
open PySem PySem.Spec PyProof.Rows L2
theorem roomH_units {k : Nat} {A : Around} (r : L2H.RoomH k A) : A.units + 64 < cLine := by
  have := r.un
  omega
theorem _root_.L2H.RoomH.units {k : Nat} {A : Around} (r : L2H.RoomH k A) : A.units + 64 < cLine := roomH_units r
/-! ### a def whose code object is told -/
/-! ### [x.upper(), y.replace(".", ".."), ..] -/
/-! ### frames in which the tables of code may grow -/
/-! ### the end of a law whose defs make lambdas -/
end MH
/-! More small rules: t == (), star defs that raise, c.m() of a class, calls that may raise but do not, the end of a law with several tables of code. -/
namespace MH
open PySem PySem.Spec PyProof.Rows L2
/-! ### t == () -/
def rEqT0 (K : PySem.W.Frag) : R2 := fun x y H Q => ∃ (a b : Addr) (xs : List V), x = .ref a ∧ y = .ref b ∧ SqT K H a xs ∧ SqT K H b [] ∧ Q (.bl (decide (xs = []))) H
theorem op_eqT0 {X : Cx} (hu : X.A.units < cLine) : OpR X (compareOp .Eq) (rEqT0 X.K) := by
  intro pins s σ H x y v u Q I rx ry h
  obtain ⟨a, b, xs, rfl, rfl, ha, hb, q⟩ := h
  obtain rfl : v = Value.ref a := rx
  obtain rfl : u = Value.ref b := ry
  obtain ⟨its, rv, pl, hlen⟩ := I.tuple ha
  obtain ⟨its2, rv2, pl2, _⟩ := I.tuple hb
  cases rv2
  have e : ((List.range (min its.toArray.size ([] : List Value).toArray.size)).all (fun _ => true) && its.toArray.size == ([] : List Value).toArray.size) = decide (xs = []) := by
    have hl := rv.length
    cases xs with
    | nil =>
      have : its = [] := List.length_eq_zero_iff.mp hl.symm
      subst this
      rfl
    | cons x r =>
      cases its with
      | nil => cases hl
      | cons y t => simp
  have q2 : EP X pins σ Q (.bool (decide (xs = []))) s := ⟨.bl _, H, I, rfl, q⟩
  rw [← e] at q2
  exact SeqAt.RcAt.tuples (e := fun _ => true) pl pl2 hu (fun j h1 h2 => absurd h2 (by simp)) X.prog X.w _ _ q2
/-! ### calls that may raise and do not -/
/-! ### star defs that raise -/
/-! ### c.m(), m a classmethod -/
/-! ### the end of a law whose defs make lambdas: several tables -/
end MH
/-! Error classes of the program over any error class of Python's: their field is set, they are made and raised. -/
namespace MH
open PySem PySem.Spec PyProof.Rows L2
end MH
/-! sorted of a list of tuples of texts (of any lengths but none), any number of them. -/
namespace MH
open PySem PySem.Spec PyProof.Rows L2 Srt
/-! ### the order of rows -/
def ltZ (fin : Bool) : List Str → List Str → Bool
  | x :: xs, y :: ys => if x = y then ltZ fin xs ys else decide (x.cps.toList < y.cps.toList)
  | _, _ => fin
/-- the one row stands ahead of the other: as Python orders tuples of texts -/
def ltR (xs ys : List Str) : Bool := ltZ (decide (xs.length < ys.length)) xs ys
theorem ltZ_cons {f : Bool} {x y : Str} {xs ys : List Str} : ltZ f (x :: xs) (y :: ys) = if x = y then ltZ f xs ys else decide (x.cps.toList < y.cps.toList) := rfl
theorem ltZ_nil_left {f : Bool} {ys : List Str} : ltZ f [] ys = f := by cases ys <;> rfl
theorem ltZ_nil_right {f : Bool} {xs : List Str} : ltZ f xs [] = f := by cases xs <;> rfl
theorem ltR_nil_nil : ltR [] [] = false := rfl
theorem ltR_nil_cons {y : Str} {ys : List Str} : ltR [] (y :: ys) = true := by
  unfold ltR
  rw [ltZ_nil_left]
  exact decide_eq_true (Nat.succ_pos _)
theorem ltR_cons_nil {x : Str} {xs : List Str} : ltR (x :: xs) [] = false := by
  unfold ltR
  rw [ltZ_nil_right]
  exact decide_eq_false (Nat.not_lt_zero _)
theorem ltR_cons {x y : Str} {xs ys : List Str} : ltR (x :: xs) (y :: ys) = if x = y then ltR xs ys else decide (ltS x y) := by
  unfold ltR
  rw [ltZ_cons]
  by_cases h : x = y
  · rw [if_pos h, if_pos h]
    congr 1
    simp
  · rw [if_neg h, if_neg h]
    rfl
theorem ltR_asym : ∀ xs ys, ltR xs ys = true → ltR ys xs = false
  | [], [], h => by rw [ltR_nil_nil] at h; cases h
  | [], y :: ys, _ => ltR_cons_nil
  | x :: xs, [], h => by rw [ltR_cons_nil] at h; cases h
  | x :: xs, y :: ys, h => by
    rw [ltR_cons] at h ⊢
    by_cases e : x = y
    · subst e
      rw [if_pos rfl] at h ⊢
      exact ltR_asym xs ys h
    · rw [if_neg e] at h
      rw [if_neg fun z => e z.symm]
      exact decide_eq_false fun z => ltS_irrefl x (ltS_trans (of_decide_eq_true h) z)
theorem ltR_tri : ∀ xs ys, ltR xs ys = false → ltR ys xs = false → xs = ys
  | [], [], _, _ => rfl
  | [], y :: ys, h, _ => by rw [ltR_nil_cons] at h; cases h
  | x :: xs, [], _, h => by rw [ltR_nil_cons] at h; cases h
  | x :: xs, y :: ys, h, g => by
    rw [ltR_cons] at h g
    by_cases e : x = y
    · subst e
      rw [if_pos rfl] at h g
      rw [ltR_tri xs ys h g]
    · rw [if_neg e] at h
      rw [if_neg fun z => e z.symm] at g
      rcases ltS_tri x y with q | q | q
      · exact absurd q (of_decide_eq_false h)
      · exact absurd q e
      · exact absurd q (of_decide_eq_false g)
theorem ltR_trans : ∀ xs ys zs, ltR xs ys = true → ltR ys zs = true → ltR xs zs = true
  | [], [], _, h, _ => by rw [ltR_nil_nil] at h; cases h
  | x :: xs, [], _, h, _ => by rw [ltR_cons_nil] at h; cases h
  | [], y :: ys, [], _, g => by rw [ltR_cons_nil] at g; cases g
  | [], y :: ys, z :: zs, _, _ => ltR_nil_cons
  | x :: xs, y :: ys, [], _, g => by rw [ltR_cons_nil] at g; cases g
  | x :: xs, y :: ys, z :: zs, h, g => by
    rw [ltR_cons] at h g ⊢
    by_cases e : x = y
    · subst e
      rw [if_pos rfl] at h
      by_cases e2 : x = z
      · subst e2
        rw [if_pos rfl] at g ⊢
        exact ltR_trans xs ys zs h g
      · rw [if_neg e2] at g ⊢
        exact g
    · rw [if_neg e] at h
      by_cases e2 : y = z
      · subst e2
        rw [if_neg e]
        exact h
      · rw [if_neg e2] at g
        have t := ltS_trans (of_decide_eq_true h) (of_decide_eq_true g)
        rw [if_neg fun q => by subst q; exact ltS_irrefl x t]
        exact decide_eq_true t
theorem swo_row (k : Value → List Str) : SrtO.Swo fun v u => ltR (k v) (k u) := by
  refine ⟨fun x y h => ltR_asym _ _ h, fun x y z h1 h2 => ?_⟩
  cases h : ltR (k z) (k x) with
  | false => rfl
  | true =>
    exfalso
    cases h3 : ltR (k x) (k y) with
    | true =>
      have := ltR_trans _ _ _ h h3
      rw [h2] at this
      cases this
    | false =>
      have e := ltR_tri _ _ h3 h1
      rw [e] at h
      rw [h2] at h
      cases h
/-! ### such tuples in memory -/
/-- v: a tuple of these texts -/
def IsRow (h : Heap) (v : Value) (xs : List Str) : Prop := ∃ (a : Addr) (o : Obj) (its : List Value) (n : Nat), v = .ref a ∧ h.get? a = some o ∧ o.cls = .type "tuple" ∧ o.data = .seq its.toArray n ∧ Vals (xs.map V.str) its
theorem IsRow.keeps {h h' : Heap} {v : Value} {xs : List Str} (r : IsRow h v xs) (k : ∀ b o, h.get? b = some o → o.cls = .type "tuple" → h'.get? b = some o) : IsRow h' v xs := by
  obtain ⟨a, o, its, n, e, ho, hc, hd, hv⟩ := r
  exact ⟨a, o, its, n, e, k _ _ ho hc, hc, hd, hv⟩
section
variable {prog : Program} {w : World} {A : Around} {E : Value → Shared → Prop} {s : Shared}
theorem kat_row {fin : Bool} {Q : Bool → Shared → Prop} : ∀ (xs ys : List Str) (us vs : List Value) (i : Nat), Vals (xs.map V.str) us → Vals (ys.map V.str) vs → Q (ltZ fin xs ys) s → PySem.W.KatLex prog w A true fin Q (us.zip vs) i s
  | [], ys, us, vs, i, h, g, q => by
    cases h
    rw [ltZ_nil_left] at q
    exact PySem.W.kat_nil q
  | x :: xs, [], us, vs, i, h, g, q => by
    cases g
    rw [ltZ_nil_right] at q
    rw [List.zip_nil_right]
    exact PySem.W.kat_nil q
  | x :: xs, y :: ys, us, vs, i, h, g, q => by
    rw [List.map_cons] at h g
    cases h with
    | @cons _ u _ us' h1 h2 =>
      cases g with
      | @cons _ v _ vs' g1 g2 =>
        obtain ⟨t, rfl⟩ : ∃ t, u = Value.str x t := h1
        obtain ⟨t', rfl⟩ : ∃ t', v = Value.str y t' := g1
        rw [ltZ_cons] at q
        rw [List.zip_cons_cons]
        refine PySem.W.kat_cons (SeqAt.EqAt.str_str x t y t' prog w _ _ ?_)
        refine PySem.W.kat_go (fun e => ?_) (fun e => ?_)
        · have e : x = y := by simpa using e
          rw [if_pos e] at q
          exact PySem.W.kat_yes (kat_row xs ys us' vs' (i + 1) h2 g2 q)
        · have e : ¬ x = y := by simpa using e
          rw [if_neg e] at q
          exact PySem.W.kat_no (oneLt_any_str q)
theorem row_cmp {vs : List Value} {k : Value → List Str} (hp : ∀ v ∈ vs, IsRow s.heap v (k v)) : SrtO.Cmp prog w A s (tuples' true) (fun p => p.1 ∈ vs) (SrtO.lt2 fun v u => ltR (k v) (k u)) := by
  intro p q hm hm'
  have h1 := hp _ hm
  have h2 := hp _ hm'
  show wpAny (model prog w) A (keyLt' (tuples' true) p.1 q.1) (fun r s' => s' = s ∧ r = ltR (k p.1) (k q.1)) (fun _ _ => False) s
  generalize k p.1 = xs at h1 ⊢
  generalize k q.1 = ys at h2 ⊢
  obtain ⟨a, o, us, n, e, ho, hc, hd, hu⟩ := h1
  obtain ⟨a', o', ws, n', e', ho', hc', hd', hw⟩ := h2
  rw [e, e']
  refine PySem.W.kat_lt ho hd ho' hd' ?_
  have lx : us.toArray.size = xs.length := by
    have := hu.length
    rw [List.length_map] at this
    simp [this]
  have ly : ws.toArray.size = ys.length := by
    have := hw.length
    rw [List.length_map] at this
    simp [this]
  rw [lx, ly]
  exact kat_row xs ys us ws 0 hu hw ⟨rfl, rfl⟩
theorem row_firsts {h : Heap} {k : Value → List Str} : ∀ {vs : List Value}, (∀ v ∈ vs, IsRow h v (k v) ∧ k v ≠ []) → ∃ fs : List Value, PySem.W.KatTups h vs fs ∧ fs.length = vs.length ∧ ∀ f ∈ fs, ∃ x t, f = Value.str x t
  | [], _ => ⟨[], PySem.W.KatTups.nil, rfl, fun _ hm => by simp at hm⟩
  | v :: vs, hp => by
    obtain ⟨fs, h1, h2, h3⟩ := row_firsts (vs := vs) fun v' hm => hp v' (List.mem_cons_of_mem _ hm)
    obtain ⟨⟨a, o, us, n, e, ho, hc, hd, hu⟩, ne⟩ := hp v (List.mem_cons_self ..)
    obtain ⟨x, xs, ek⟩ := List.exists_cons_of_ne_nil ne
    rw [ek, List.map_cons] at hu
    cases hu with
    | @cons _ u _ us' r1 r2 =>
      obtain ⟨t, rfl⟩ : ∃ t, u = Value.str x t := r1
      subst e
      refine ⟨.str x t :: fs, PySem.W.KatTups.cons ho hc hd (by simp) h1, by rw [List.length_cons, List.length_cons, h2], fun f hm => ?_⟩
      rcases List.mem_cons.mp hm with rfl | hm
      · exact ⟨x, t, rfl⟩
      · exact h3 f hm
theorem rows_sortableO {a : Addr} {vs : List Value} {k : Value → List Str} (h0 : 0 < vs.length) (hp : ∀ v ∈ vs, IsRow s.heap v (k v) ∧ k v ≠ []) (ha : ∀ o, s.heap.get? a = some o → o.cls ≠ .type "tuple") : SrtO.SortableO prog w A s a vs fun v u => ltR (k v) (k u) := by
  intro h' keep
  have hp' : ∀ v ∈ vs, IsRow h' v (k v) ∧ k v ≠ [] := fun v hm => ⟨(hp v hm).1.keeps fun b o e c => keep b o (fun z => by subst z; exact ha o e c) e, (hp v hm).2⟩
  obtain ⟨fs, h1, h2, h3⟩ := row_firsts hp'
  refine ⟨tuples' true, fun Q E hq => ?_, row_cmp fun v hv => (hp' v hv).1⟩
  refine PySem.W.kat_kind (T := .type "str") h1 (by omega) (fun f hm => ?_) (by rfl) ?_
  · obtain ⟨x, t, rfl⟩ := h3 f hm
    exact PySem.W.Looks.now
  · have e : (Value.type "str" != Value.type "tuple") = true := by first | decide +kernel | rfl | decide
    rw [e]
    exact hq
end
/-- sorted(xs), xs a list of tuples of texts (k says which, none empty): a new list of them, in order -/
def rSortedR (K : PySem.W.Frag) : List V → Hp → VK → Prop := fun vs H Q => ∃ (a : Addr) (ts : List Addr) (k : Addr → List Str), vs = [V.ref a] ∧ SqL K H a (ts.map V.ref) ∧ (∀ t ∈ ts, SqT K H t ((k t).map V.str) ∧ k t ≠ []) ∧
  ∀ (ts' : List Addr) (p : Addr), ts'.Perm ts → (ts'.map k).Pairwise (fun x y => ltR y x = false) → H p = none → Q (.ref p) (upd H p (.lst (ts'.map V.ref)))
def refA : Value → Addr
  | .ref a => a
  | _ => 0
section
variable {X : Cx}
theorem vals_refs : ∀ {ts : List Addr} {us : List Value}, Vals (ts.map V.ref) us → us = ts.map Value.ref
  | [], _, r => by
    cases r
    rfl
  | t :: ts, _, r => by
    rw [List.map_cons] at r
    cases r with
    | cons r1 r2 =>
      cases r1
      rw [vals_refs r2]
      rfl
theorem refs_vals : ∀ ts : List Addr, Vals (ts.map V.ref) (ts.map Value.ref)
  | [] => .nil
  | t :: ts => .cons rfl (refs_vals ts)
theorem cr_sortedR : CallR X (.builtin "sorted") (rSortedR X.K) := by
  intro pins s σ H xs us Q I r h
  obtain ⟨a, ts, k, rfl, hs, hk, q⟩ := h
  obtain ⟨its, rv, hl, hz⟩ := I.list hs
  obtain ⟨u, rfl, ru⟩ := vals1 r
  obtain rfl : u = Value.ref a := ru
  have ei := vals_refs rv
  subst ei
  have hz' : (ts.map Value.ref).length ≤ sizeLine := by
    rw [← rv.length]
    exact hz
  have rows : ∀ v ∈ ts.map Value.ref, IsRow s.heap v (k (refA v)) ∧ k (refA v) ≠ [] := fun v hv => by
    obtain ⟨t, ht, rfl⟩ := List.mem_map.mp hv
    obtain ⟨h1, h2⟩ := hk t ht
    obtain ⟨us, r1, ⟨o, ho, hc, n, hd⟩, _⟩ := I.tuple h1
    exact ⟨⟨t, o, us, n, rfl, ho, hc, hd, r1⟩, h2⟩
  refine SrtO.sorted_ord (swo_row fun v => k (refA v)) hl.isList hz' (fun h2 h₁ a' ha kk => ?_) fun out h1 h2 => ?_
  · refine rows_sortableO (s := { s with heap := h₁ }) (k := fun v => k (refA v)) (by omega) (fun v hm => ⟨(rows v hm).1.keeps fun b o e _ => (kk b o e).2, (rows v hm).2⟩) fun o e => ?_
    have e' : some o = some (seqObj "list" (ts.map Value.ref).toArray 0) := e.symm.trans ha
    cases e'
    intro c
    exact absurd (Value.type.inj c) (by decide)
  · obtain ⟨ep, he'⟩ := PyProof.Rows.sortedAll_at s.heap (ts.map Value.ref) out.toArray
    have pm := h2.perm
    have eo : out = (out.map refA).map Value.ref := by
      rw [List.map_map]
      have : ∀ v ∈ out, (Value.ref ∘ refA) v = v := fun v hv => by
        obtain ⟨t, _, rfl⟩ := List.mem_map.mp (pm.mem_iff.mp hv)
        rfl
      exact ((List.map_congr_left (g := id) this).trans (List.map_id _)).symm
    have pm2 : (out.map refA).Perm ts := by
      have z := pm.map refA
      rw [List.map_map] at z
      have e2 : ts.map (refA ∘ Value.ref) = ts := by
        have : (refA ∘ Value.ref) = id := rfl
        rw [this, List.map_id]
      rw [e2] at z
      exact z
    have so : ((out.map refA).map k).Pairwise (fun x y => ltR y x = false) := by
      rw [List.map_map]
      exact List.pairwise_map.mpr (h1.imp fun {x y} h => h)
    have lo : ((out.map refA).map V.ref).length ≤ sizeLine := by
      rw [List.length_map, pm2.length_eq]
      rw [List.length_map] at hz'
      exact hz'
    have vo : Vals ((out.map refA).map V.ref) out := by
      have z := refs_vals (out.map refA)
      rw [← eo] at z
      exact z
    exact ⟨.ref _, upd H (s.heap.objs.size + 1) (.lst ((out.map refA).map V.ref)), I.laid (t' := s.toks) (fun _ _ => PyProof.Rows.sortedAll_old) (Nat.le_succ _) ⟨lo, out, ep, vo, he'⟩, rfl, q _ _ pm2 so (I.hok.fresh (Nat.le_succ _))⟩
end
end MH
/-! own rules: C(*y); dicts whose keys are tuples, made by a comprehension -/
namespace MH
open PySem PySem.Spec PyProof.Rows L2
/-! ### {k: v for t in it}, the keys tuples of ints and texts -/
/-! ### tuple(x) with nothing held back of it; list(d), the keys tuples -/
end MH
/-! own rule: t < u of tuples of texts -/
namespace MH
open PySem PySem.Spec PyProof.Rows L2
theorem u65 {k : Nat} {A : Around} (r : Room (k + 1) A) : A.units + 65 < cLine := by
  have := r.un
  omega
end MH
/-! own rules: zip of a list and a tuple -/
namespace MH
open PySem PySem.Spec PyProof.Rows L2
end MH
/-! own rules: dicts whose keys are tuples that are known to the object (so that their methods may be called); such tuples made by displays, by + and by t[::-1] -/
namespace MH
open PySem PySem.Spec PyProof.Rows L2
abbrev EKs := List (List Key × Addr × Value)
/-- the tuples that are known to the object, as tuples -/
def dn (H : Hp) : Hp := fun b => match H b with
  | some (.frz o (.tup xs)) => (match o.dict with
    | Option.none => some (.tup xs)
    | _ => none)
  | _ => none
theorem dn_of {H : Hp} {b : Addr} {xs : List V} (h : TupO H b xs) : dn H b = some (.tup xs) := by
  obtain ⟨o, e, d⟩ := h
  unfold dn
  rw [e]
  simp only [d]
theorem of_dn {H : Hp} {b : Addr} {u : HO} (h : dn H b = some u) : ∃ xs, u = .tup xs ∧ TupO H b xs := by
  unfold dn at h
  split at h
  · rename_i o xs e
    split at h
    · rename_i d
      cases h
      exact ⟨xs, rfl, o, e, d⟩
    · cases h
  · cases h
theorem dn_tup {H : Hp} {b : Addr} {xs : List V} (h : dn H b = some (.tup xs)) : TupO H b xs := by
  obtain ⟨ys, e, t⟩ := of_dn h
  cases e
  exact t
/-- the dict at a has these entries -/
def DPhi (P : Program) (w : World) (a : Addr) (xs : EKs) (h : Heap) : Prop := xs.length ≤ sizeLine ∧ (a == sysModules) = false ∧ (xs.map (·.1)).Nodup ∧
  ∃ o es ep, h.get? a = some o ∧ o.ExactDict ∧ o.data = .dict es ep ∧ es.toList = xs.map (entryOfKey (tupleKind (mixKind P w)))
def DictE (P : Program) (w : World) (H : Hp) (a : Addr) (kvs : List (List Key × V)) : Prop := ∃ xs, H a = some (.ext (DPhi P w a xs)) ∧ KT (dn H) kvs xs
theorem kt_same {H H' : Hp} (s : ∀ b o u, H b = some (.frz o u) → H' b = some (.frz o u)) {kvs : List (List Key × V)} {xs : EKs} (k : KT (dn H) kvs xs) : KT (dn H') kvs xs := k.keeps fun b ys e => by
  obtain ⟨o, e, d⟩ := dn_tup e
  exact dn_of ⟨o, s _ _ _ e, d⟩
theorem DictE.same {P : Program} {w : World} {H H' : Hp} {a : Addr} {kvs : List (List Key × V)} (d : DictE P w H a kvs) (s : Same H H') : DictE P w H' a kvs :=
  let ⟨xs, e, k⟩ := d
  ⟨xs, s _ _ e, kt_same (fun b o u h => s _ _ h) k⟩
/-! ### tuples known to the object: displays, +, t[::-1] -/
section
variable {X : Cx}
def tTupF (t : TA) : TE := fun σ H Q => t σ H fun xs H1 => xs.length ≤ sizeLine ∧ ∀ (p : Addr) (o : Obj), H1 p = none → o.dict = none → Q (.ref p) (upd H1 p (.frz o (.tup xs)))
theorem pe_tupF {es : List Expr} {t : TA} {pos : Pos} {x1} (h : PA X es t) : PE X (.Tuple es x1 pos) (tTupF t) := by
  refine ⟨fun pins s σ H Q I hq => wpAny_Tuple_spliced (thn (h.run pos pins s σ H _ I hq) fun us s1 ⟨xs, H1, I1, r, z, q⟩ => ⟨by rw [← r.length]; exact z, ?_⟩)⟩
  have at1 := Heap.get?_push_size s1.heap (o := { cls := .type "tuple", data := .seq us.toArray }) rfl
  exact ⟨.ref s1.heap.objs.size, _, I1.laid (t' := s1.toks) (o := .frz { cls := .type "tuple", data := .seq us.toArray } (.tup xs)) (fun b u e => Heap.get?_push_of_some _ e) (Nat.le_refl _) ⟨at1, z, us, r, ⟨_, at1, rfl, _, rfl⟩⟩, rfl, q _ _ (I1.hok.fresh (Nat.le_refl _)) rfl⟩
end
end MH
/-! own rules: zip of a tuple and a text -/
namespace MH
open PySem PySem.Spec PyProof.Rows L2
end MH
/-! own rules: [x + ".", y.replace(".", ".."), ..] -/
namespace MH
open PySem PySem.Spec PyProof.Rows L2
end MH
/-! f(k = v, ..) without positional values; == of two tuples of the same objects. -/
namespace MH
open PySem PySem.Spec PyProof.Rows L2
def tCallK0 (n : Nat) (sp : Sp) (gV : List V → List V → List V) (E : XK) (tk : TA) : TE := fun σ H Q => tk σ H fun zs H2 => zs.length = n ∧ sp (gV [] zs) H2 Q E
section
variable {X : Cx} {CX : CXT} {k : Nat} {f : Addr} {fd : FuncData} {ps ks : List Str} {sp : Sp} {E : XK} {x : Str} {p pos : Pos} {kws : List Keyword} {tk : TA} {g : List Value → List Value → List Value} {gV : List V → List V → List V}
theorem pe_callK0 (F : FnOk X.prog X.w X.K X.mg X.base CX k f fd ps sp) (hr : Room k X.A) (hg : Gl X x) (hm : X.mg x = some (.ref f)) (hk : PySem.W.keepIn X.K (.ref f) = true) (hb : KBn X.K fd ps 0 ks g gV) (hx : Passes CX X E) (hkw : PK X kws tk)
    (hall : (backToKw pos (keywordEach kws X.env)).all (·.1.isSome) = true := by rfl) (hks : (backToKw pos (keywordEach kws X.env)).filterMap (·.1) = ks := by rfl)
    (hdb : (x == ("__debug__" : Str)) = false := by decide)
    (hpl : ((backTo pos (starEach [] X.env)).any (·.1) || (backToKw pos (keywordEach kws X.env)).any (·.1.isNone)) = false := by rfl) :
    PE X (.Call (.Name x p) [] kws pos) (tCallK0 ks.length sp gV E tk) := by
  refine ⟨fun pins s σ H Q I h => ?_⟩
  refine wpAny_Call_Name_kw (ld_glob I hg hm ?_ hdb)
  refine PySem.W.callWith_KW0 (first := []) (h₀ := X.base) I.ok.mod.kin hk hall ?_ hpl
  refine thn (hkw.run pos pins s σ H _ I h) fun ws s2 ⟨zs, H2, I2, rz, hz, q2⟩ => ⟨I2.kIn, ?_⟩
  rw [hks]
  have r2 := hb.rel (vs := []) (us := []) .nil rz
  refine wpAny_call (codeAny_mono (F.run X.A X.stack s2 H2 ⟨[], ks.zip ws⟩ (g [] ws) (gV [] zs) Q E hr I2.env0 (hb.to s2 [] ws I2.kIn rfl (rz.length.symm.trans hz)) r2 q2) fun r s' hq => ?_)
  match r, hq with
  | .ok (.ret u), hq => exact I2.after hq
  | .ok .next, hq => exact False.elim hq
  | .ok .brk, hq => exact False.elim hq
  | .ok .cont, hq => exact False.elim hq
  | .error e, hq => exact hx pins σ H2 s2 e s' I2 hq
end
/-! ### C.m(e, ..), m a staticmethod -/
/-! ### defs with defaults -/
structure FunV (K : PySem.W.Frag) (x qual : Str) (st : Stmt) (dvs : List V) (f : Addr) (fd : FuncData) : Prop where
  ex : ∃ (oc : Value) (od : Option Addr) (T : Addr) (kV doc pm : Value) (an : Option Addr) (cdv ct : Value) (osl : Array (Option Value)) (o : Obj) (its : List Value) (n : Nat),
    fd = PySem.W.fnOf x qual (defArgs st) (defBody st) (defScope st) (.ref T) kV doc pm an cdv ct ∧ K.lookup f = some ⟨oc, od, .func fd, osl⟩ ∧ PySem.W.codeIn K cdv qual = true ∧ K.lookup T = some o ∧ o.data = .seq its.toArray n ∧ Vals dvs its
  kp : PySem.W.keepIn K (.ref f) = true
section
variable {P : Program} {w : World} {K : PySem.W.Frag} {mg : Str → Option Value} {base : Heap} {x qual : Str} {st : Stmt} {dvs : List V} {f : Addr} {fd : FuncData}
theorem FunV.ok {N ps : List Str} {k : Nat} {sp : Sp} (F : FunV K x qual st dvs f fd) (S : FnScope N ps (defScope st)) (len : ∀ vs H Q E, sp vs H Q E → vs.length = ps.length)
    (hbody : ∀ (cdv : Value) (A : Around) (outer : List Env) (s : Shared) (H : Hp) (vs : List V) (Q : VK) (E : XK), Room k (A.deeper (envOfC qual (defScope st) s.heap.objs.size f cdv)) → sp vs H Q E →
      ∃ t, PSs (cxOf CX0 P w K mg base N qual (defScope st) f cdv A outer s H E).nox (defBody st) t ∧ t { nx := fun _ H' => Q .non H', rt := Q } (start N vs) H) : FnOk P w K mg base CX0 (k + 1) f fd ps sp := by
  obtain ⟨oc, od, T, kV, doc, pm, an, cdv, ct, osl, o, its, n, rfl, lk, hcd, _⟩ := F.ex
  refine fn_of lk hcd S len fun A outer s H vs Q E hr hsp => ?_
  obtain ⟨t, h, q⟩ := hbody cdv A outer s H vs Q E hr hsp
  exact ⟨t, h.nox, q⟩
end
end MH
/-! own rule: slices of tuples that are known to the object (so that their methods may be called) -/
namespace MH
open PySem PySem.Spec PyProof.Rows L2
end MH
/-! MhJu: what the judge's laws want beside the other files: a walk over a value that is a list or a tuple. -/
namespace MH
open PySem PySem.Spec PyProof.Rows L2
section
variable {X : Cx} {tg : Expr}
/-- a list or a tuple, walked -/
def iLT (K : PySem.W.Frag) (tl : TE) : TI := fun σ H R => iList K tl σ H R ∨ iTup K tl σ H R
theorem pi_lt {l : Expr} {tl : TE} (hl : PE X l tl) : PI X tg l (iLT X.K tl) :=
  ⟨fun pins s σ H R I h => h.elim (fun a => (pi_list hl).run pins s σ H R I a) fun a => (pi_tup hl).run pins s σ H R I a⟩
end
end MH
/-! MhSt: len(set(t)) of a tuple of any texts. -/
namespace MH
open PySem PySem.Spec PyProof.Rows L2
/-- how many different ones stand among the first i -/
def fewS (xs : List Str) : Nat → Nat
  | 0 => 0
  | i + 1 => if (xs.take i).any (· == xs.getD i Str.empty) = true then fewS xs i else fewS xs i + 1
theorem fewS_le (xs : List Str) : ∀ i, fewS xs i ≤ i
  | 0 => Nat.le_refl 0
  | i + 1 => by
    have := fewS_le xs i
    unfold fewS
    split <;> omega
theorem fewS_all (xs : List Str) : ∀ i, i ≤ xs.length → (fewS xs i = i ↔ (xs.take i).Nodup)
  | 0, _ => by simp [fewS]
  | i + 1, h => by
    have ih := fewS_all xs i (by omega)
    have le := fewS_le xs i
    have hx : xs[i]? = some (xs.getD i Str.empty) := by
      rw [List.getD_eq_getElem?_getD, List.getElem?_eq_getElem (by omega)]
      rfl
    have tk : xs.take (i + 1) = xs.take i ++ [xs.getD i Str.empty] := by
      rw [List.take_add_one, hx]
      rfl
    rw [tk, List.nodup_append]
    unfold fewS
    by_cases c : (xs.take i).any (· == xs.getD i Str.empty) = true
    · rw [if_pos c]
      constructor
      · intro e
        omega
      · rintro ⟨_, _, h3⟩
        obtain ⟨y, hy, e⟩ := List.any_eq_true.mp c
        exact absurd (eq_of_beq e) (h3 y hy _ (List.mem_singleton.mpr rfl))
    · rw [if_neg c]
      constructor
      · intro e
        refine ⟨ih.mp (by omega), by simp, fun a ha b hb q => c (List.any_eq_true.mpr ⟨a, ha, ?_⟩)⟩
        rw [List.mem_singleton.mp hb] at q
        rw [q]
        exact beq_self_eq_true _
      · rintro ⟨h1, _, _⟩
        have := ih.mpr h1
        omega
section
variable {prog : Program} {w : World} {A : Around} {R : Result → Shared → Prop} {I : Addr} {fp wr : List Addr} {G : Array GenState → Array GenState → Prop} {n : Nat} {P : Nat → Value → Prop} {St : Nat → Shared → Prop}
theorem fill_strs (W : WalksS prog w A.in1 I fp wr G n P St) (S : Addr) (hSf : S ∉ fp) (xs : List Str) (hb : n + 1 < scanBound)
    (hval : ∀ i v, P i v → ∃ t, v = .str (xs.getD i Str.empty) t) :
    ∀ (k i : Nat) (s : Shared), n - i = k → i ≤ n → n ≤ xs.length → St i s →
      s.heap.SetOf (PySem.strKind prog w) S (fun k' => (xs.take i).any (· == k')) (fewS xs i) →
      (∀ s', Moved (S :: wr) G s s' → s'.heap.SetOf (PySem.strKind prog w) S (fun k' => (xs.take n).any (· == k')) (fewS xs n) → R (.ok (.ret .none)) s') →
      codeAny (model prog w) A (.builtin "set.update.loop" ⟨[.ref S, .ref I], []⟩) R s := by
  have hSw : S ∉ wr := fun h => hSf (W.sub _ h)
  have hsub : ∀ b ∈ wr, b ∈ S :: wr := fun b hb => List.mem_cons_of_mem _ hb
  intro k
  induction k with
  | zero =>
    intro i s hk hi hx hst hS hR
    obtain rfl : i = n := by omega
    refine codeAny_builtin PyProof.Rows.F.entry_set_update_loop ?_
    rw [Around.under_plainId PyProof.Rows.F.plain_set_update_loop _]
    show wpAny _ A.in1 (pyNext (.ref I) >>= _) _ _ s
    refine wpAny_bind (W.done s _ _ hst fun s' hm => ?_)
    show wpAny _ A.in1 (ret Value.none) _ _ s'
    obtain ⟨o, es, ep, t, ho, rest⟩ := hS
    exact wpAny_pure (hR s' (hm.mono hsub) ⟨o, es, ep, t, hm.heap S _ hSw ho, rest⟩)
  | succ k ih =>
    intro i s hk hi hx hst hS hR
    have hlt : i < n := by omega
    refine codeAny_builtin PyProof.Rows.F.entry_set_update_loop ?_
    rw [Around.under_plainId PyProof.Rows.F.plain_set_update_loop _]
    show wpAny _ A.in1 (pyNext (.ref I) >>= _) _ _ s
    refine wpAny_bind (W.item i s _ _ hlt hst fun v s' hP hst' hm => ?_)
    obtain ⟨t, rfl⟩ := hval i v hP
    obtain ⟨o, es, ep, tb, ho, rest⟩ := hS
    have hS' : s'.heap.SetOf (PySem.strKind prog w) S (fun k' => (xs.take i).any (· == k')) (fewS xs i) := ⟨o, es, ep, tb, hm.heap S _ hSw ho, rest⟩
    show wpAny _ A.in1 (holding [Value.str (xs.getD i Str.empty) t] (setAdd S (.str (xs.getD i Str.empty) t)) >>= _) _ _ s'
    refine wpAny_bind (wpAny_holding ?_)
    unfold setAdd
    refine wpAny_holding ?_
    refine wpAny_bind ((PySem.strKind prog w).pyHash (k := xs.getD i Str.empty) (strKind_is _ _ _ _) ?_)
    refine wpAny_setAddHashed_of (knd := PySem.strKind prog w) (s := { s' with toks := s'.toks + 1 }) (strKind_is _ _ _ _) rfl hS' (by have := fewS_le xs i; omega) fun h' hsb hS2 => ?_
    have hxi : xs[i]? = some (xs.getD i Str.empty) := by
      rw [List.getD_eq_getElem?_getD, List.getElem?_eq_getElem (by omega)]
      rfl
    have hSi : h'.SetOf (PySem.strKind prog w) S (fun k' => (xs.take (i + 1)).any (· == k')) (fewS xs (i + 1)) := by
      refine SetOf_congr hS2 (fun k' => ?_) rfl
      rw [List.take_add_one, hxi]
      simp only [Option.toList_some, List.any_append, List.any_cons, List.any_nil, Bool.or_false]
      congr 1
      by_cases e : k' = xs.getD i Str.empty
      · rw [e]
        simp
      · rw [decide_eq_false e]
        exact (beq_eq_false_iff_ne.mpr fun q => e q.symm).symm
    refine wpAny_pure ⟨plainId_quiet PyProof.Rows.F.plain_set_update_loop _, ih (i + 1) _ (by omega) hlt hx (W.frame _ s' _ _ hst' (Nat.le_succ _) fun b hb o e => ?_) hSi fun s'' hm'' hS'' => ?_⟩
    · rw [hsb.2 b (fun h : b = S => hSf (by rw [← h]; exact hb))]; exact e
    · refine hR s'' (Moved.trans W.gtrans ((hm.mono hsub).then_heap (Nat.le_succ _) fun b o hb e => ?_) hm'') hS''
      rw [hsb.2 b (fun h : b = S => hb (by rw [h]; exact List.mem_cons_self))]; exact e
end
/-- the set that set(..) begins with -/
abbrev set0 (led : Bool) : Obj := { cls := .type "set", dict := none, data := .set #[] 0 (.fresh 0 0 led) }
section
variable {prog : Program} {w : World} {A : Around} {E : Value → Shared → Prop} {s : Shared}
theorem set_tup_strs {l : Addr} {items : Array Value} {xs : List Str} {Q : Value → Shared → Prop}
    (hh : A.handled = none) (hl : s.heap.IsTuple l items) (hi : PyProof.Rows.StrsAre items.toList xs) (hb : xs.length + 1 < scanBound)
    (h : ∀ (h' : Heap) (tk : Nat), h'.SetOf (PySem.strKind prog w) s.heap.objs.size (fun k' => (xs.take xs.length).any (· == k')) (fewS xs xs.length) →
      (∀ b o, b < s.heap.objs.size → s.heap.get? b = some o → h'.get? b = some o) → Q (.ref s.heap.objs.size) { s with heap := h', toks := tk }) :
    wpAny (model prog w) A (call (.type "set") [.ref l]) Q E s := by
  have hsz : xs.length = items.size := by rw [← StrsAre.len_eq hi, Array.length_toList]
  obtain ⟨c, tl, hmro⟩ := PySem.F.called_set.mro
  have hmade := PySem.F.called_set.made
  have hsub := PySem.F.called_set.sub
  refine wpAny_call (codeAny_of_tree ?_)
  show wpAny _ _ (callAny (.type "set") _) _ _ _
  refine wpAny_pure ⟨Code.quiet_builtin _ (by decide +kernel), codeAny_builtin PySem.F.entry_type_call ?_⟩
  rw [Around.under_plain (weight_type_call_type "set" [.ref l] []) rfl]
  have h1 := PySem.F.called_set.notType
  have h2 := PySem.F.called_set.canCreate
  have hct := PySem.F.typeCall_set_1 (.ref l)
  repeat (any_goals (first | assumption | wp_step))
  refine codeAny_mono (code_set_new_1 (.ref l) (E := E) (Q₁ := fun obj s₁ => ∃ led : Bool, obj = .ref s.heap.objs.size ∧ s₁ = { s with heap := s.heap.push (set0 led) }) fun led => ⟨led, rfl, rfl⟩) fun r s₁ hr => ?_
  cases r with
  | error e => exact hr
  | ok fl =>
    cases fl with
    | ret obj =>
      obtain ⟨led, rfl, rfl⟩ := hr
      have hS : (s.heap.push (set0 led)).get? s.heap.objs.size = some (set0 led) := Heap.get?_push_size _ rfl
      have hT : Shared.TypeIs { s with heap := s.heap.push (set0 led) } (.ref s.heap.objs.size) "set" := ⟨_, hS, rfl⟩
      have hli := PySem.F.called_set.init.lookup
      have hbi := PySem.F.called_set.init.bind (.ref s.heap.objs.size)
      repeat (any_goals (first | assumption | wp_step))
      refine codeAny_mono (codeAny_call_builtin (R := wants (fun r s₂ => r = .none ∧ ∃ h' tk, s₂ = { s with heap := h', toks := tk } ∧
          h'.SetOf (PySem.strKind prog w) s.heap.objs.size (fun k' => (xs.take items.size).any (· == k')) (fewS xs items.size) ∧
          (∀ b o, b < s.heap.objs.size → s.heap.get? b = some o → h'.get? b = some o)) E) PySem.F.called_set.init.plain PySem.F.entry_set_init (check_set_init_1 hT ?_)) fun r₂ s₂ hr₂ => ?_
      · obtain ⟨ol, hol, hcl, nl, hdl⟩ := hl
        obtain ⟨ocls, odict, odata, oslots⟩ := ol
        simp only at hcl hdl
        subst hcl; subst hdl
        have hol' : (s.heap.push (set0 led)).get? l = some { cls := .type "tuple", dict := odict, data := .seq items nl, slots := oslots } := Heap.get?_push_of_some _ hol
        have hsls := PySem.F.sub_tuple_set
        have hslf := PySem.F.sub_tuple_frozenset
        have hne : (Value.type "tuple" == Value.type "dict") = false := by decide
        have hl1 : (s.heap.push (set0 led)).IsTuple l items := ⟨_, hol', rfl, nl, rfl⟩
        unfold Builtin.«set.__init__» noKeywords Builtin.Frozenset.updateFrom
        generalize hPI : pyIter = PI
        wp_walk
        subst hPI
        refine wpAny_pyIter_tuple hl1 ?_
        refine wpAny_bind (wpAny_runValue ?_)
        have hlS : l < s.heap.objs.size := Heap.lt_size hol
        have hh3 : A.in1.in1.in1.handled = none := by simp [hh]
        have hneI : l ≠ (s.heap.push (set0 led)).objs.size := by
          rw [Heap.size_push]; exact Nat.ne_of_lt (Nat.lt_succ_of_lt hlS)
        have hSf : s.heap.objs.size ∉ [(s.heap.push (set0 led)).objs.size, l] := by
          rw [Heap.size_push]; simp only [List.mem_cons, List.mem_singleton, List.not_mem_nil, or_false, not_or]
          exact ⟨Nat.ne_of_lt (Nat.lt_succ_self _), Nat.ne_of_gt hlS⟩
        have hval : ∀ (i : Nat) (v : Value), items[i]? = some v → ∃ t, v = .str (xs.getD i Str.empty) t := fun i v hv => SS.strs_at hi i v (by rw [Array.getElem?_toList]; exact hv)
        refine fill_strs ((Walks.tuple hh3 _ l hneI items).toS) s.heap.objs.size
          hSf xs (by omega) hval (items.size - 0) 0 _ (by omega) (Nat.zero_le _) (by omega)
          ⟨⟨_, Heap.get?_push_size _ rfl, rfl, rfl⟩, (hl1.push _)⟩ ?hS0 ?hR
        case hS0 =>
          have hget : ((s.heap.push (set0 led)).push { cls := .type "tuple_iterator", data := .fields #[.ref l, .int 0 0] }).get? s.heap.objs.size
              = some (set0 led) := Heap.get?_push_of_some _ hS
          exact PyProof.Rows.SetOf_congr ((PyProof.Rows.setObjOf_fresh (knd := PySem.strKind prog w) led).setOf hget (by unfold scanBound; omega)) (fun _ => rfl) rfl
        case hR =>
          intro s' hm hS'
          obtain ⟨h', g', d', tk', os'⟩ := s'
          have eg : g' = s.gens := hm.gens
          have ed : d' = s.drawn := hm.drawn
          have eo : os' = s.os := hm.os
          subst eg; subst ed; subst eo
          show wpAny _ _ _ _ _ _
          refine wpAny_pure ?_
          show wpAny _ _ (ret Value.none) _ _ _
          refine wpAny_pure ⟨rfl, h', tk', rfl, hS', fun b o hb e => ?_⟩
          have hb1 : b ≠ s.heap.objs.size := Nat.ne_of_lt hb
          have hb2 : b ≠ (s.heap.push (set0 led)).objs.size := by
            rw [Heap.size_push]; exact Nat.ne_of_lt (Nat.lt_succ_of_lt hb)
          exact hm.heap b o (by simp only [List.mem_cons, List.mem_singleton, List.not_mem_nil, or_false, not_or]; exact ⟨hb1, hb2⟩) (Heap.get?_push_of_some _ (Heap.get?_push_of_some _ e))
      · cases r₂ with
        | error e => exact hr₂
        | ok fl₂ =>
          cases fl₂ with
          | ret r =>
            obtain ⟨rfl, h', tk, rfl, hS', hk'⟩ := hr₂
            repeat (any_goals (first | assumption | wp_step))
            rw [← hsz] at hS'
            exact h _ _ hS' hk'
          | _ => exact hr₂.elim
    | _ => exact hr.elim
end
/-- len(set(t)): how many different ones -/
def tLenSetS (K : PySem.W.Frag) (ta : TE) : TE := fun σ H Q => ta σ H fun x H1 => ∃ (l : Addr) (xs : List Str), x = .ref l ∧ SqT K H1 l (xs.map V.str) ∧ xs.length ≤ 4000 ∧ Q (.int (fewS xs xs.length : Nat)) H1
section
variable {X : Cx}
theorem pe_lenSetS {a : Expr} {ta : TE} {p p2 q pos : Pos} (hc : X.calm = true) (hg : Gl X "len") (hm : X.mg "len" = none) (hg2 : Gl X "set") (hm2 : X.mg "set" = none) (ha : PE X a ta)
    (na : starEach [a] X.env = (false, eval a X.env) :: starEach [] X.env := by rfl) : PE X (.Call (.Name "len" p) [.Call (.Name "set" p2) [a] [] q] [] pos) (tLenSetS X.K ta) := by
  refine ⟨fun pins s σ H Q I h => ?_⟩
  refine Call_ (ld_blt I hg hm boot_len ?_)
  refine PyProof.Rows.callWith_builtin1 (PyProof.Rows.args_cons ?_ rfl) rfl rfl
  refine Call_ (ld_blt I hg2 hm2 boot_set ?_)
  refine PyProof.Rows.callWith_type1 (PyProof.Rows.args_cons (thn (ha.run pins s σ H _ I h) fun v s1 ⟨x, H1, I1, r1, q1⟩ => PyProof.Rows.args_nil ?_) na) na rfl
  obtain ⟨l, xs, rfl, hq, h1, q1⟩ := q1
  cases r1
  obtain ⟨its, r, pl, hz⟩ := I1.tuple hq
  refine set_tup_strs (I1.ok.hd hc) pl (by simpa using strsAre_of r) (by unfold scanBound; omega) fun h' tk hS hk => ?_
  refine PyProof.Rows.args_nil ?_
  obtain ⟨o, es, ep, t, ho, hex, hd, _, _, _, hf, hn⟩ := hS
  have I2 : Inv X pins σ H1 { s1 with heap := h', toks := tk } := I1.kept fun b o e => hk b o (Heap.lt_size e) e
  have := fewS_le xs xs.length
  exact call_len_set ho hex hd hf (by rw [hn] <;> omega) ⟨.int (fewS xs xs.length : Nat), H1, I2.tok _, ⟨_, by rw [hn]⟩, q1⟩
end
end MH
noncomputable section
/-! own work: the head of a law in cuts, each cut one kernel run between two states that are written out once -/
namespace MN
open PySem PySem.W PySem.Calls PyProof.Rows HandSHeadRun
section
variable (st : SharedT → Thread → Option (SharedT × Thread)) (n0 : Nat) (ann : Option Value)
/-- one step that the top may do -/
def one (s : SharedT) (t : Thread) : Option (SharedT × Thread) := match stepOk n0 ann t with
  | true => st s t
  | false => none
/-- statements of the top, to their end -/
def seg : Nat → SharedT → Thread → Option (Flow × SharedT × Code × Pos)
  | 0, _, _ => none
  | m + 1, s, t => match endAt 1 t with
    | some f => some (f, s, t.code, t.pos)
    | none => match one st n0 ann s t with
      | some r => frS r.1 fun s' => seg m s' r.2
      | none => none
/-- the first steps of the top -/
def fore : Nat → SharedT → Thread → Option (SharedT × Thread)
  | 0, s, t => some (s, t)
  | m + 1, s, t => match through t with
    | true => none
    | false => match one st n0 ann s t with
      | some r => frS r.1 fun s' => fore m s' r.2
      | none => none
end
section
variable {tb : String → Option Builtin} {p : Program} {w : World} {n0 : Nat} {ann : Option Value}
theorem one_ok {s s2 : SharedT} {t t2 : Thread} (h : one (stepT (denote tb) p w) n0 ann s t = some (s2, t2)) : stepOk n0 ann t = true ∧ step (denote tb) p w s.abs t = .go s2.abs t2 := by
  unfold one at h
  split at h
  · rename_i a
    exact ⟨a, stepT_spec h⟩
  · cases h
theorem seg_ok {f : Flow} {s2 : SharedT} {c : Code} {q : Pos} : ∀ {m : Nat} {s : SharedT} {t : Thread}, seg (stepT (denote tb) p w) n0 ann m s t = some (f, s2, c, q) → segRun tb p w n0 ann 1 m s.abs t = some (f, s2.abs, c, q)
  | 0, _, _, h => nomatch h
  | m + 1, s, t, h => by
    simp only [seg] at h
    unfold segRun
    split at h
    · rename_i a
      rw [a]
      cases h
      rfl
    · rename_i a
      rw [a]
      split at h
      · rename_i r b
        obtain ⟨u, v⟩ := r
        obtain ⟨d, e⟩ := one_ok b
        rw [frS_eq] at h
        simp only [d, e]
        exact seg_ok h
      · cases h
theorem fore_ok {s2 : SharedT} {t2 : Thread} : ∀ {m : Nat} {s : SharedT} {t : Thread}, fore (stepT (denote tb) p w) n0 ann m s t = some (s2, t2) → topGo tb p w n0 ann m s.abs t = some (s2.abs, t2)
  | 0, s, t, h => by
    cases h
    rfl
  | m + 1, s, t, h => by
    simp only [fore] at h
    unfold topGo
    split at h
    · cases h
    · rename_i a
      rw [a]
      split at h
      · rename_i r b
        obtain ⟨u, v⟩ := r
        obtain ⟨d, e⟩ := one_ok b
        rw [frS_eq] at h
        simp only [d, e]
        exact fore_ok h
      · cases h
end
/-- the state behind the boot, off the tree -/
def bootQ (w : World) (os : OsState) (k : SharedT → Option (SharedT × Thread)) : Option (SharedT × Thread) := match putAll (boot_heap w.params).objs.toList .nil 0 with
  | some (t, n) => frNat n fun n => k (bootT w os (t, n))
  | none => none
theorem bootQ_ok {w : World} {os : OsState} {k : SharedT → Option (SharedT × Thread)} {r : SharedT × Thread} (h : bootQ w os k = some r) : ∃ s : SharedT, s.abs = ⟨boot_heap w.params, #[], boot_drawn, boot_toks, os⟩ ∧ k s = some r := by
  unfold bootQ at h
  split at h
  · rename_i t n e
    rw [frNat_eq] at h
    refine ⟨_, ?_, h⟩
    show (⟨absHeap t n (boot_heap w.params).life, #[], boot_drawn, boot_toks, os⟩ : Shared) = _
    rw [putAll_heap e]
  · cases h
/-- the top runs from s, t to r in N steps at most -/
def Run (p : Program) (w : World) (n0 : Nat) (ann : Option Value) (N : Nat) (s : SharedT) (t : Thread) (r : SharedT) : Prop := topRun treeTable p w n0 ann N s.abs t = some r.abs
def exQ : List Stmt → Env → Sem Flow := PySem.W.Fast.tw12563942051412417395
theorem exQ_eq : @PySem.execs = exQ := PySem.W.Fast.te12563942051412417395
abbrev piecesQ (l : List Stmt) (env : Env) (c : Code) (p : Pos) (B : List Frame) : Thread := ⟨(exQ l env).wrap doneF deadEnd id id, c, p, B⟩
abbrev restQ (l : List Stmt) (env : Env) (c : Code) (p : Pos) (B : List Frame) : Thread := ⟨(exQ l env).wrap doneF (leaveH env) id id, c, p, B⟩
theorem piecesQ_eq (l : List Stmt) (env : Env) (c : Code) (p : Pos) (B : List Frame) : piecesOf l env c p B = piecesQ l env c p B := by
  show (⟨(execs l env).wrap doneF deadEnd id id, c, p, B⟩ : Thread) = ⟨(exQ l env).wrap doneF deadEnd id id, c, p, B⟩
  rw [exQ_eq]
theorem restQ_eq (l : List Stmt) (env : Env) (c : Code) (p : Pos) (B : List Frame) : restOf l env c p B = restQ l env c p B := by
  show (⟨(execs l env).wrap doneF (leaveH env) id id, c, p, B⟩ : Thread) = ⟨(exQ l env).wrap doneF (leaveH env) id id, c, p, B⟩
  rw [exQ_eq]
abbrev stQ (p : Program) (w : World) := stepQ (denQ tabQ) p w
theorem st_eq (p : Program) (w : World) : stepT (denote treeTable) p w = stQ p w := by
  rw [stepQ_eq, denQ_eq, tabQ_eq]
section
variable {p : Program} {w : World} {n0 : Nat} {ann : Option Value} {env : Env} {q : Pos}
theorem run_end {m : Nat} {b : List Stmt} {s r : SharedT} {c : Code} {u : Pos} (h : goF (stQ p w) n0 ann m s (restQ b env c u [topFrame q]) = some r) : Run p w n0 ann m s (restOf b env c u [topFrame q]) r := goF_ok (by rw [st_eq, restQ_eq]; exact h)
theorem run_cut {m N i j k : Nat} {b : List Stmt} {s s2 r : SharedT} {c : Code} {u v : Pos} (hk : i + k = j) (h : seg (stQ p w) n0 ann m s (piecesQ ((b.drop i).take k) env c u [topFrame q]) = some (.next, s2, c, v))
    (z : Run p w n0 ann N s2 (restOf (b.drop j) env c v [topFrame q]) r) : Run p w n0 ann (m + N) s (restOf (b.drop i) env c u [topFrame q]) r := by
  have e : b.drop i = (b.drop i).take k ++ b.drop j := by
    rw [← hk, ← List.drop_drop]
    exact (List.take_append_drop k _).symm
  rw [e]
  exact piece_app (seg_ok (by rw [st_eq, piecesQ_eq]; exact h)) z
theorem run_block {m N : Nat} {b : List Stmt} {s s2 r : SharedT} {c : Code} {u v : Pos} (h : seg (stQ p w) n0 ann m s (blockOf b env c u [topFrame q]) = some (.next, s2, c, v))
    (z : Run p w n0 ann N s2 (restOf b env c v [topFrame q]) r) : Run p w n0 ann (m + N) s ⟨denote treeTable (.body b env), c, u, [topFrame q]⟩ r := piece_block (seg_ok (by rw [st_eq]; exact h)) z
theorem run_fore {m N : Nat} {b : List Stmt} {s s2 r : SharedT} {t : Thread} {c : Code} {u : Pos} (h : fore (stQ p w) n0 ann m s t = some (s2, ⟨denQ tabQ (.body b env), c, u, [topFrame q]⟩))
    (z : Run p w n0 ann N s2 ⟨denote treeTable (.body b env), c, u, [topFrame q]⟩ r) : Run p w n0 ann (m + N) s t r := go_top (fore_ok (by rw [st_eq, denQ_eq, tabQ_eq]; exact h)) z
end
/-- what is looked at behind the top -/
abbrev Looks (p q : Program) (loose : List PySem.Str) (Xt : Shared → Bool) (as : List Addr) (w : World) (s : SharedT) := (looksF p (boot_heap w.params) s.abs, seenQ q loose (importedModules p.main.body) Xt s.abs, as.map (getT s))
abbrev Good (q : Program) (loose : List PySem.Str) (K : Params → Frag) (w : World) := (true, openGood q loose, (K w.params).map fun x => some x.2)
theorem left_cuts {p q : Program} {loose : List PySem.Str} {Xt : Shared → Bool} {K : Params → Frag} {as : List Addr} {ek : ∀ P, as = (K P).map (·.1)} {N M : Nat}
    (e : opening p = plainProg p.main.scope.names) (hN : Nat.ble 600 N = true) (f : ∀ s, fenceModules? p s = some s) (le : Nat.ble M N = true)
    (run : ∀ (w : World) (os : OsState), ∃ s r : SharedT, s.abs = ⟨boot_heap w.params, #[], boot_drawn, boot_toks, os⟩ ∧ Run p w (boot_heap w.params).objs.size (bootAnn w) M s (topStub p) r ∧ Looks p q loose Xt as w r = Good q loose K w) :
    LeftO p q loose Xt (Hook.obs (kHook K as ek)) (Hook.val (kHook K as ek)) N true := fun w => by
  obtain ⟨⟨h, gs, d, k, os⟩, a, a2⟩ := Option.map_eq_some_iff.mp (boot_open e hN f w)
  simp only [Prod.mk.injEq] at a2
  obtain ⟨rfl, rfl, rfl, rfl⟩ := a2
  obtain ⟨s, r, hs, hr, hl⟩ := run w os
  simp only [Prod.mk.injEq] at hl
  obtain ⟨l1, l2, l3⟩ := hl
  have l4 : Hook.obs (kHook K as ek) r.abs = (K w.params).map fun x => some x.2 := by
    rw [← l3]
    exact (List.map_congr_left fun a _ => getT_eq r a).symm
  have g : topRun treeTable p w (boot_heap w.params).objs.size (bootAnn w) N s.abs (topStub p) = some r.abs := by
    have g1 := topRun_mono (N - M) _ _ _ _ hr
    rwa [Nat.add_sub_cancel' (Nat.le_of_ble_eq_true le)] at g1
  rw [hs] at g
  have t : topFrom treeTable p w N ⟨boot_heap w.params, Array.mk [], boot_drawn, boot_toks, os⟩ = some r.abs := by
    simp only [topFrom]
    rw [boot_ns]
    show Option.bind (topRun treeTable p w (boot_heap w.params).objs.size (bootAnn w) N ⟨boot_heap w.params, #[], boot_drawn, boot_toks, os⟩ (topStub p)) _ = _
    rw [g]
    have l1b : (staticsOk (importedModules p.main.body) (boot_heap w.params) r.abs.heap && namesBound p r.abs.heap && gensDone r.abs && laidKept (boot_heap w.params) r.abs.heap) = true := l1
    show (match staticsOk (importedModules p.main.body) (boot_heap w.params) r.abs.heap && namesBound p r.abs.heap && gensDone r.abs && laidKept (boot_heap w.params) r.abs.heap with | true => some r.abs | false => none) = _
    rw [l1b]
  simp only [openEnds, a]
  show Option.map _ (topFrom treeTable p w N _) = _
  rw [t]
  refine congrArg some (Prod.ext ?_ l4)
  rw [← l2]
  exact seenQ_eq _ _ _ _ _
/-- a row of the world, either way -/
theorem both {F : World → Prop} (row : String) (h : ∀ (b : Bool) (w : World), F (w.withFollow row b)) (w : World) : F w := by
  have q := h (w.params.followText row) w
  rwa [World.withFollow_self] at q
end MN
end
namespace MH
open PySem PySem.Spec PyProof.Rows L2
def topS (i : Nat) : Stmt := PySem.Challenge.pw_menuhouses_k72_two_peoples_judged.main.body.getD i (.Pass ⟨0, 0, 0, 0⟩)
abbrev st_is_tuple_of : Stmt := topS 11
abbrev names_is_tuple_of : List Str := ["value", "many"]
theorem sc_is_tuple_of : FnScope names_is_tuple_of ["value", "many"] (defScope st_is_tuple_of) := ⟨rfl, rfl, rfl, by decide +kernel, rfl, by decide +kernel, by decide +kernel⟩
abbrev st_is_name : Stmt := topS 12
abbrev names_is_name : List Str := ["value", "sign"]
theorem sc_is_name : FnScope names_is_name ["value"] (defScope st_is_name) := ⟨rfl, rfl, rfl, by decide +kernel, rfl, by decide +kernel, by decide +kernel⟩
abbrev st_is_one_of : Stmt := topS 13
abbrev names_is_one_of : List Str := ["value", "things"]
theorem sc_is_one_of : FnScope names_is_one_of ["value", "things"] (defScope st_is_one_of) := ⟨rfl, rfl, rfl, by decide +kernel, rfl, by decide +kernel, by decide +kernel⟩
abbrev st_is_ascending : Stmt := topS 14
abbrev names_is_ascending : List Str := ["row", "one", "other"]
theorem sc_is_ascending : FnScope names_is_ascending ["row"] (defScope st_is_ascending) := ⟨rfl, rfl, rfl, by decide +kernel, rfl, by decide +kernel, by decide +kernel⟩
abbrev st_is_part : Stmt := topS 15
abbrev names_is_part : List Str := ["names", "others", "name"]
theorem sc_is_part : FnScope names_is_part ["names", "others"] (defScope st_is_part) := ⟨rfl, rfl, rfl, by decide +kernel, rfl, by decide +kernel, by decide +kernel⟩
abbrev st_are_things : Stmt := topS 16
abbrev names_are_things : List Str := ["value", "name"]
theorem sc_are_things : FnScope names_are_things ["value"] (defScope st_are_things) := ⟨rfl, rfl, rfl, by decide +kernel, rfl, by decide +kernel, by decide +kernel⟩
abbrev st_is_set : Stmt := topS 17
abbrev names_is_set : List Str := ["value", "things", "name"]
theorem sc_is_set : FnScope names_is_set ["value", "things"] (defScope st_is_set) := ⟨rfl, rfl, rfl, by decide +kernel, rfl, by decide +kernel, by decide +kernel⟩
abbrev st_is_menu : Stmt := topS 18
abbrev names_is_menu : List Str := ["value", "things"]
theorem sc_is_menu : FnScope names_is_menu ["value", "things"] (defScope st_is_menu) := ⟨rfl, rfl, rfl, by decide +kernel, rfl, by decide +kernel, by decide +kernel⟩
abbrev st_row_of : Stmt := topS 20
abbrev names_row_of : List Str := ["text", "row", "name"]
theorem sc_row_of : FnScope names_row_of ["text"] (defScope st_row_of) := ⟨rfl, rfl, rfl, by decide +kernel, rfl, by decide +kernel, by decide +kernel⟩
abbrev st_look_of : Stmt := topS 22
abbrev names_look_of : List Str := ["text", "things", "marked", "menu", "passed", "part", "name", "_", "mark"]
theorem sc_look_of : FnScope names_look_of ["text", "things"] (defScope st_look_of) := ⟨rfl, rfl, rfl, by decide +kernel, rfl, by decide +kernel, by decide +kernel⟩
abbrev st_looks_of : Stmt := topS 23
abbrev names_looks_of : List Str := ["value", "things", "looks", "text"]
theorem sc_looks_of : FnScope names_looks_of ["value", "things"] (defScope st_looks_of) := ⟨rfl, rfl, rfl, by decide +kernel, rfl, by decide +kernel, by decide +kernel⟩
abbrev st_best : Stmt := topS 24
abbrev names_best : List Str := ["row", "menu", "name"]
theorem sc_best : FnScope names_best ["row", "menu"] (defScope st_best) := ⟨rfl, rfl, rfl, by decide +kernel, rfl, by decide +kernel, by decide +kernel⟩
abbrev st_takes : Stmt := topS 25
abbrev names_takes : List Str := ["rows", "menu", "thing", "row"]
theorem sc_takes : FnScope names_takes ["rows", "menu", "thing"] (defScope st_takes) := ⟨rfl, rfl, rfl, by decide +kernel, rfl, by decide +kernel, by decide +kernel⟩
abbrev st_has : Stmt := topS 26
abbrev names_has : List Str := ["rows", "look", "menu", "taken", "passed", "some", "row", "thing"]
theorem sc_has : FnScope names_has ["rows", "look"] (defScope st_has) := ⟨rfl, rfl, rfl, by decide +kernel, rfl, by decide +kernel, by decide +kernel⟩
abbrev st_people_who_fit : Stmt := topS 27
abbrev names_people_who_fit : List Str := ["value", "things", "looks", "rows", "text", "look", "row"]
theorem sc_people_who_fit : FnScope names_people_who_fit ["value", "things", "looks"] (defScope st_people_who_fit) := ⟨rfl, rfl, rfl, by decide +kernel, rfl, by decide +kernel, by decide +kernel⟩
abbrev st_shows_perhaps : Stmt := topS 36
abbrev names_shows_perhaps : List Str := ["things", "looks", "menu", "thing", "certificate", "with_it", "without_it"]
theorem sc_shows_perhaps : FnScope names_shows_perhaps ["things", "looks", "menu", "thing", "certificate"] (defScope st_shows_perhaps) := ⟨rfl, rfl, rfl, by decide +kernel, rfl, by decide +kernel, by decide +kernel⟩
abbrev st_accepts_of_answers : Stmt := topS 51
abbrev names_accepts_of_answers : List Str := ["word", "things", "texts", "menu", "thing", "certificate", "looks", "shows"]
theorem sc_accepts_of_answers : FnScope names_accepts_of_answers ["word", "things", "texts", "menu", "thing", "certificate"] (defScope st_accepts_of_answers) := ⟨rfl, rfl, rfl, by decide +kernel, rfl, by decide +kernel, by decide +kernel⟩
abbrev st_accepts : Stmt := topS 54
abbrev names_accepts : List Str := ["claim", "certificate", "word"]
theorem sc_accepts : FnScope names_accepts ["claim", "certificate"] (defScope st_accepts) := ⟨rfl, rfl, rfl, by decide +kernel, rfl, by decide +kernel, by decide +kernel⟩
abbrev st_l_pot : Stmt := topS 56
abbrev names_l_pot : List Str := ["_law_script", "_law_k", "_law_cell", "_law_other", "_law_digits"]
theorem sc_l_pot : FnScope names_l_pot ["_law_script", "_law_k"] (defScope st_l_pot) := ⟨rfl, rfl, rfl, by decide +kernel, rfl, by decide +kernel, by decide +kernel⟩
abbrev st_l_draw : Stmt := topS 57
abbrev names_l_draw : List Str := ["_law_pot_here", "_law_many", "_law_state", "_law_digit"]
theorem sc_l_draw : FnScope names_l_draw ["_law_pot_here", "_law_many"] (defScope st_l_draw) := ⟨rfl, rfl, rfl, by decide +kernel, rfl, by decide +kernel, by decide +kernel⟩
abbrev st_l_names : Stmt := topS 58
abbrev names_l_names : List Str := ["_law_pot_here", "_law_many", "_law_signs", "_law_found", "_law_k", "_law_name", "_law_turn", "_law_spare", "_law_sign"]
theorem sc_l_names : FnScope names_l_names ["_law_pot_here", "_law_many"] (defScope st_l_names) := ⟨rfl, rfl, rfl, by decide +kernel, rfl, by decide +kernel, by decide +kernel⟩
abbrev st_l_things : Stmt := topS 59
abbrev names_l_things : List Str := ["_law_pot_here"]
theorem sc_l_things : FnScope names_l_things ["_law_pot_here"] (defScope st_l_things) := ⟨rfl, rfl, rfl, by decide +kernel, rfl, by decide +kernel, by decide +kernel⟩
abbrev st_l_shuffled : Stmt := topS 60
abbrev names_l_shuffled : List Str := ["_law_pot_here", "_law_things_here", "_law_left", "_law_row", "_law_turn"]
theorem sc_l_shuffled : FnScope names_l_shuffled ["_law_pot_here", "_law_things_here"] (defScope st_l_shuffled) := ⟨rfl, rfl, rfl, by decide +kernel, rfl, by decide +kernel, by decide +kernel⟩
abbrev st_l_ascending : Stmt := topS 61
abbrev names_l_ascending : List Str := ["_law_rows_here", "_law_found", "_law_row"]
theorem sc_l_ascending : FnScope names_l_ascending ["_law_rows_here"] (defScope st_l_ascending) := ⟨rfl, rfl, rfl, by decide +kernel, rfl, by decide +kernel, by decide +kernel⟩
abbrev st_l_rows : Stmt := topS 62
abbrev names_l_rows : List Str := ["_law_pot_here", "_law_things_here", "_law_most", "_law_turn"]
theorem sc_l_rows : FnScope names_l_rows ["_law_pot_here", "_law_things_here", "_law_most"] (defScope st_l_rows) := ⟨rfl, rfl, rfl, by decide +kernel, rfl, by decide +kernel, by decide +kernel⟩
abbrev st_l_taken : Stmt := topS 63
abbrev names_l_taken : List Str := ["_law_rows_here", "_law_menu_here", "_law_best", "_law_row", "_law_thing"]
theorem sc_l_taken : FnScope names_l_taken ["_law_rows_here", "_law_menu_here"] (defScope st_l_taken) := ⟨rfl, rfl, rfl, by decide +kernel, rfl, by decide +kernel, by decide +kernel⟩
abbrev st_l_menu : Stmt := topS 64
abbrev names_l_menu : List Str := ["_law_pot_here", "_law_things_here", "_law_way", "_law_at", "_law_kept", "_law_k"]
theorem sc_l_menu : FnScope names_l_menu ["_law_pot_here", "_law_things_here"] (defScope st_l_menu) := ⟨rfl, rfl, rfl, by decide +kernel, rfl, by decide +kernel, by decide +kernel⟩
abbrev st_l_seen : Stmt := topS 65
abbrev names_l_seen : List Str := ["_law_pot_here", "_law_menu_here", "_law_rows_here", "_law_taken_here", "_law_marks", "_law_thing"]
theorem sc_l_seen : FnScope names_l_seen ["_law_pot_here", "_law_menu_here", "_law_rows_here"] (defScope st_l_seen) := ⟨rfl, rfl, rfl, by decide +kernel, rfl, by decide +kernel, by decide +kernel⟩
abbrev st_l_any_marks : Stmt := topS 66
abbrev names_l_any_marks : List Str := ["_law_pot_here", "_law_menu_here", "_law_marks", "_law_thing"]
theorem sc_l_any_marks : FnScope names_l_any_marks ["_law_pot_here", "_law_menu_here"] (defScope st_l_any_marks) := ⟨rfl, rfl, rfl, by decide +kernel, rfl, by decide +kernel, by decide +kernel⟩
abbrev st_l_looks : Stmt := topS 67
abbrev names_l_looks : List Str := ["_law_pot_here", "_law_things_here", "_law_rows_here", "_law_most", "_law_looks_here", "_law_turn", "_law_menu_here", "_law_is_seen"]
theorem sc_l_looks : FnScope names_l_looks ["_law_pot_here", "_law_things_here", "_law_rows_here", "_law_most"] (defScope st_l_looks) := ⟨rfl, rfl, rfl, by decide +kernel, rfl, by decide +kernel, by decide +kernel⟩
abbrev st_l_look_text : Stmt := topS 68
abbrev names_l_look_text : List Str := ["_law_look", "_law_k"]
theorem sc_l_look_text : FnScope names_l_look_text ["_law_look"] (defScope st_l_look_text) := ⟨rfl, rfl, rfl, by decide +kernel, rfl, by decide +kernel, by decide +kernel⟩
abbrev st_l_marked : Stmt := topS 69
abbrev names_l_marked : List Str := ["_law_look", "_law_mark", "_law_k"]
theorem sc_l_marked : FnScope names_l_marked ["_law_look", "_law_mark"] (defScope st_l_marked) := ⟨rfl, rfl, rfl, by decide +kernel, rfl, by decide +kernel, by decide +kernel⟩
abbrev st_l_fit : Stmt := topS 70
abbrev names_l_fit : List Str := ["_law_people", "_law_things_here", "_law_looks_here", "_law_text", "_law_rows_here", "_law_look", "_law_taken_here", "_law_thing"]
theorem sc_l_fit : FnScope names_l_fit ["_law_people", "_law_things_here", "_law_looks_here"] (defScope st_l_fit) := ⟨rfl, rfl, rfl, by decide +kernel, rfl, by decide +kernel, by decide +kernel⟩
abbrev st_l_needs : Stmt := topS 71
abbrev names_l_needs : List Str := ["_law_looks_here", "_law_needs_here", "_law_k", "_law_thing"]
theorem sc_l_needs : FnScope names_l_needs ["_law_looks_here"] (defScope st_l_needs) := ⟨rfl, rfl, rfl, by decide +kernel, rfl, by decide +kernel, by decide +kernel⟩
abbrev st_l_sharpened : Stmt := topS 72
abbrev names_l_sharpened : List Str := ["_law_looks_here", "_law_need", "_law_pairs", "_law_menu_here", "_law_look", "_law_thing"]
theorem sc_l_sharpened : FnScope names_l_sharpened ["_law_looks_here", "_law_need"] (defScope st_l_sharpened) := ⟨rfl, rfl, rfl, by decide +kernel, rfl, by decide +kernel, by decide +kernel⟩
abbrev st_l_let : Stmt := topS 73
abbrev names_l_let : List Str := ["_law_things_here", "_law_pairs", "_law_row", "_law_left", "_law_turn", "_law_open_pairs", "_law_free", "_law_pair", "_law_thing"]
theorem sc_l_let : FnScope names_l_let ["_law_things_here", "_law_pairs"] (defScope st_l_let) := ⟨rfl, rfl, rfl, by decide +kernel, rfl, by decide +kernel, by decide +kernel⟩
abbrev st_l_bent_text : Stmt := topS 74
abbrev names_l_bent_text : List Str := ["_law_pot_here", "_law_text", "_law_at", "_law_way", "_law_sign"]
theorem sc_l_bent_text : FnScope names_l_bent_text ["_law_pot_here", "_law_text"] (defScope st_l_bent_text) := ⟨rfl, rfl, rfl, by decide +kernel, rfl, by decide +kernel, by decide +kernel⟩
abbrev st_l_told : Stmt := topS 75
abbrev names_l_told : List Str := ["_law_asked", "_law_paper", "_law_due"]
theorem sc_l_told : FnScope names_l_told ["_law_asked", "_law_paper", "_law_due"] (defScope st_l_told) := ⟨rfl, rfl, rfl, by decide +kernel, rfl, by decide +kernel, by decide +kernel⟩
abbrev st_l_is_paper : Stmt := topS 76
abbrev names_l_is_paper : List Str := ["_law_paper", "_law_things_here", "_law_looks_here", "_law_menu_here", "_law_thing", "_law_rows_here", "_law_people", "_law_text"]
theorem sc_l_is_paper : FnScope names_l_is_paper ["_law_paper", "_law_things_here", "_law_looks_here", "_law_menu_here", "_law_thing"] (defScope st_l_is_paper) := ⟨rfl, rfl, rfl, by decide +kernel, rfl, by decide +kernel, by decide +kernel⟩
abbrev st_l_with_it : Stmt := topS 77
abbrev names_l_with_it : List Str := ["_law_things_here", "_law_looks_here", "_law_rows_here", "_law_menu_here", "_law_thing", "_law_remaining", "_law_row", "_law_bar", "_law_other", "_law_one"]
theorem sc_l_with_it : FnScope names_l_with_it ["_law_things_here", "_law_looks_here", "_law_rows_here", "_law_menu_here", "_law_thing"] (defScope st_l_with_it) := ⟨rfl, rfl, rfl, by decide +kernel, rfl, by decide +kernel, by decide +kernel⟩
abbrev st_l_without_it : Stmt := topS 78
abbrev names_l_without_it : List Str := ["_law_things_here", "_law_looks_here", "_law_rows_here", "_law_menu_here", "_law_thing", "_law_found", "_law_need", "_law_row", "_law_bar", "_law_one"]
theorem sc_l_without_it : FnScope names_l_without_it ["_law_things_here", "_law_looks_here", "_law_rows_here", "_law_menu_here", "_law_thing"] (defScope st_l_without_it) := ⟨rfl, rfl, rfl, by decide +kernel, rfl, by decide +kernel, by decide +kernel⟩
abbrev st_l_bent : Stmt := topS 79
abbrev names_l_bent : List Str := ["_law_pot_here", "_law_paper", "_law_things_here", "_law_way", "_law_at", "_law_people", "_law_other", "_law_place", "_law_new"]
theorem sc_l_bent : FnScope names_l_bent ["_law_pot_here", "_law_paper", "_law_things_here"] (defScope st_l_bent) := ⟨rfl, rfl, rfl, by decide +kernel, rfl, by decide +kernel, by decide +kernel⟩
abbrev st_l_right : Stmt := topS 80
abbrev names_l_right : List Str := ["_law_pot_here", "_law_things_here", "_law_rows_here", "_law_looks_here", "_law_texts", "_law_turn", "_law_menu_here", "_law_thing", "_law_good", "_law_paper", "_law_due", "_law_look", "_law_again"]
theorem sc_l_right : FnScope names_l_right ["_law_pot_here"] (defScope st_l_right) := ⟨rfl, rfl, rfl, by decide +kernel, rfl, by decide +kernel, by decide +kernel⟩
abbrev st_law : Stmt := topS 81
abbrev names_law : List Str := ["_law_script", "_law_asked", "_law_with_it_here", "_law_without_it_here", "_law_papers", "_law_paper", "_law_k"]
theorem sc_law : FnScope names_law ["_law_script"] (defScope st_law) := ⟨rfl, rfl, rfl, by decide +kernel, rfl, by decide +kernel, by decide +kernel⟩
structure Tx (K : PySem.W.Frag) (mg : Str → Option Value) (w : World) where
  a_is_tuple_of : Addr
  fd_is_tuple_of : FuncData
  F_is_tuple_of : Fun K "is_tuple_of" "is_tuple_of" st_is_tuple_of a_is_tuple_of fd_is_tuple_of
  b_is_tuple_of : Binds K fd_is_tuple_of ["value", "many"] []
  g_is_tuple_of : mg "is_tuple_of" = some (.ref a_is_tuple_of)
  a_is_name : Addr
  fd_is_name : FuncData
  F_is_name : Fun K "is_name" "is_name" st_is_name a_is_name fd_is_name
  b_is_name : Binds K fd_is_name ["value"] []
  g_is_name : mg "is_name" = some (.ref a_is_name)
  a_is_one_of : Addr
  fd_is_one_of : FuncData
  F_is_one_of : Fun K "is_one_of" "is_one_of" st_is_one_of a_is_one_of fd_is_one_of
  b_is_one_of : Binds K fd_is_one_of ["value", "things"] []
  g_is_one_of : mg "is_one_of" = some (.ref a_is_one_of)
  a_is_ascending : Addr
  fd_is_ascending : FuncData
  F_is_ascending : Fun K "is_ascending" "is_ascending" st_is_ascending a_is_ascending fd_is_ascending
  b_is_ascending : Binds K fd_is_ascending ["row"] []
  g_is_ascending : mg "is_ascending" = some (.ref a_is_ascending)
  a_is_part : Addr
  fd_is_part : FuncData
  F_is_part : Fun K "is_part" "is_part" st_is_part a_is_part fd_is_part
  b_is_part : Binds K fd_is_part ["names", "others"] []
  g_is_part : mg "is_part" = some (.ref a_is_part)
  a_are_things : Addr
  fd_are_things : FuncData
  F_are_things : Fun K "are_things" "are_things" st_are_things a_are_things fd_are_things
  b_are_things : Binds K fd_are_things ["value"] []
  g_are_things : mg "are_things" = some (.ref a_are_things)
  a_is_set : Addr
  fd_is_set : FuncData
  F_is_set : Fun K "is_set" "is_set" st_is_set a_is_set fd_is_set
  b_is_set : Binds K fd_is_set ["value", "things"] []
  g_is_set : mg "is_set" = some (.ref a_is_set)
  a_is_menu : Addr
  fd_is_menu : FuncData
  F_is_menu : Fun K "is_menu" "is_menu" st_is_menu a_is_menu fd_is_menu
  b_is_menu : Binds K fd_is_menu ["value", "things"] []
  g_is_menu : mg "is_menu" = some (.ref a_is_menu)
  a_row_of : Addr
  fd_row_of : FuncData
  F_row_of : Fun K "row_of" "row_of" st_row_of a_row_of fd_row_of
  b_row_of : Binds K fd_row_of ["text"] []
  g_row_of : mg "row_of" = some (.ref a_row_of)
  a_look_of : Addr
  fd_look_of : FuncData
  F_look_of : Fun K "look_of" "look_of" st_look_of a_look_of fd_look_of
  b_look_of : Binds K fd_look_of ["text", "things"] []
  g_look_of : mg "look_of" = some (.ref a_look_of)
  a_looks_of : Addr
  fd_looks_of : FuncData
  F_looks_of : Fun K "looks_of" "looks_of" st_looks_of a_looks_of fd_looks_of
  b_looks_of : Binds K fd_looks_of ["value", "things"] []
  g_looks_of : mg "looks_of" = some (.ref a_looks_of)
  a_best : Addr
  fd_best : FuncData
  F_best : Fun K "best" "best" st_best a_best fd_best
  b_best : Binds K fd_best ["row", "menu"] []
  g_best : mg "best" = some (.ref a_best)
  a_takes : Addr
  fd_takes : FuncData
  F_takes : Fun K "takes" "takes" st_takes a_takes fd_takes
  b_takes : Binds K fd_takes ["rows", "menu", "thing"] []
  g_takes : mg "takes" = some (.ref a_takes)
  a_has : Addr
  fd_has : FuncData
  F_has : Fun K "has" "has" st_has a_has fd_has
  b_has : Binds K fd_has ["rows", "look"] []
  g_has : mg "has" = some (.ref a_has)
  a_people_who_fit : Addr
  fd_people_who_fit : FuncData
  F_people_who_fit : Fun K "people_who_fit" "people_who_fit" st_people_who_fit a_people_who_fit fd_people_who_fit
  b_people_who_fit : Binds K fd_people_who_fit ["value", "things", "looks"] []
  g_people_who_fit : mg "people_who_fit" = some (.ref a_people_who_fit)
  a_shows_perhaps : Addr
  fd_shows_perhaps : FuncData
  F_shows_perhaps : Fun K "shows_perhaps" "shows_perhaps" st_shows_perhaps a_shows_perhaps fd_shows_perhaps
  b_shows_perhaps : Binds K fd_shows_perhaps ["things", "looks", "menu", "thing", "certificate"] []
  g_shows_perhaps : mg "shows_perhaps" = some (.ref a_shows_perhaps)
  a_accepts_of_answers : Addr
  fd_accepts_of_answers : FuncData
  F_accepts_of_answers : Fun K "accepts_of_answers" "accepts_of_answers" st_accepts_of_answers a_accepts_of_answers fd_accepts_of_answers
  b_accepts_of_answers : Binds K fd_accepts_of_answers ["word", "things", "texts", "menu", "thing", "certificate"] []
  g_accepts_of_answers : mg "accepts_of_answers" = some (.ref a_accepts_of_answers)
  a_accepts : Addr
  fd_accepts : FuncData
  F_accepts : Fun K "accepts" "accepts" st_accepts a_accepts fd_accepts
  b_accepts : Binds K fd_accepts ["claim", "certificate"] []
  g_accepts : mg "accepts" = some (.ref a_accepts)
  kb_accepts : KBn K fd_accepts ["claim", "certificate"] 0 ["claim", "certificate"] (fun us ws => us ++ ws) (fun vs zs => vs ++ zs)
  a_l_pot : Addr
  fd_l_pot : FuncData
  F_l_pot : Fun K "_law_pot" "_law_pot" st_l_pot a_l_pot fd_l_pot
  b_l_pot : Binds K fd_l_pot ["_law_script", "_law_k"] []
  g_l_pot : mg "_law_pot" = some (.ref a_l_pot)
  a_l_draw : Addr
  fd_l_draw : FuncData
  F_l_draw : Fun K "_law_draw" "_law_draw" st_l_draw a_l_draw fd_l_draw
  b_l_draw : Binds K fd_l_draw ["_law_pot_here", "_law_many"] []
  g_l_draw : mg "_law_draw" = some (.ref a_l_draw)
  a_l_names : Addr
  fd_l_names : FuncData
  F_l_names : Fun K "_law_names" "_law_names" st_l_names a_l_names fd_l_names
  b_l_names : Binds K fd_l_names ["_law_pot_here", "_law_many"] []
  g_l_names : mg "_law_names" = some (.ref a_l_names)
  a_l_things : Addr
  fd_l_things : FuncData
  F_l_things : Fun K "_law_things" "_law_things" st_l_things a_l_things fd_l_things
  b_l_things : Binds K fd_l_things ["_law_pot_here"] []
  g_l_things : mg "_law_things" = some (.ref a_l_things)
  a_l_shuffled : Addr
  fd_l_shuffled : FuncData
  F_l_shuffled : Fun K "_law_shuffled" "_law_shuffled" st_l_shuffled a_l_shuffled fd_l_shuffled
  b_l_shuffled : Binds K fd_l_shuffled ["_law_pot_here", "_law_things_here"] []
  g_l_shuffled : mg "_law_shuffled" = some (.ref a_l_shuffled)
  a_l_ascending : Addr
  fd_l_ascending : FuncData
  F_l_ascending : Fun K "_law_ascending" "_law_ascending" st_l_ascending a_l_ascending fd_l_ascending
  b_l_ascending : Binds K fd_l_ascending ["_law_rows_here"] []
  g_l_ascending : mg "_law_ascending" = some (.ref a_l_ascending)
  a_l_rows : Addr
  fd_l_rows : FuncData
  F_l_rows : Fun K "_law_rows" "_law_rows" st_l_rows a_l_rows fd_l_rows
  b_l_rows : Binds K fd_l_rows ["_law_pot_here", "_law_things_here", "_law_most"] []
  g_l_rows : mg "_law_rows" = some (.ref a_l_rows)
  a_l_taken : Addr
  fd_l_taken : FuncData
  F_l_taken : Fun K "_law_taken" "_law_taken" st_l_taken a_l_taken fd_l_taken
  b_l_taken : Binds K fd_l_taken ["_law_rows_here", "_law_menu_here"] []
  g_l_taken : mg "_law_taken" = some (.ref a_l_taken)
  a_l_menu : Addr
  fd_l_menu : FuncData
  F_l_menu : Fun K "_law_menu" "_law_menu" st_l_menu a_l_menu fd_l_menu
  b_l_menu : Binds K fd_l_menu ["_law_pot_here", "_law_things_here"] []
  g_l_menu : mg "_law_menu" = some (.ref a_l_menu)
  a_l_seen : Addr
  fd_l_seen : FuncData
  F_l_seen : Fun K "_law_seen" "_law_seen" st_l_seen a_l_seen fd_l_seen
  b_l_seen : Binds K fd_l_seen ["_law_pot_here", "_law_menu_here", "_law_rows_here"] []
  g_l_seen : mg "_law_seen" = some (.ref a_l_seen)
  a_l_any_marks : Addr
  fd_l_any_marks : FuncData
  F_l_any_marks : Fun K "_law_any_marks" "_law_any_marks" st_l_any_marks a_l_any_marks fd_l_any_marks
  b_l_any_marks : Binds K fd_l_any_marks ["_law_pot_here", "_law_menu_here"] []
  g_l_any_marks : mg "_law_any_marks" = some (.ref a_l_any_marks)
  a_l_looks : Addr
  fd_l_looks : FuncData
  F_l_looks : Fun K "_law_looks" "_law_looks" st_l_looks a_l_looks fd_l_looks
  b_l_looks : Binds K fd_l_looks ["_law_pot_here", "_law_things_here", "_law_rows_here", "_law_most"] []
  g_l_looks : mg "_law_looks" = some (.ref a_l_looks)
  a_l_look_text : Addr
  fd_l_look_text : FuncData
  F_l_look_text : Fun K "_law_look_text" "_law_look_text" st_l_look_text a_l_look_text fd_l_look_text
  b_l_look_text : Binds K fd_l_look_text ["_law_look"] []
  g_l_look_text : mg "_law_look_text" = some (.ref a_l_look_text)
  a_l_marked : Addr
  fd_l_marked : FuncData
  F_l_marked : Fun K "_law_marked" "_law_marked" st_l_marked a_l_marked fd_l_marked
  b_l_marked : Binds K fd_l_marked ["_law_look", "_law_mark"] []
  g_l_marked : mg "_law_marked" = some (.ref a_l_marked)
  a_l_fit : Addr
  fd_l_fit : FuncData
  F_l_fit : Fun K "_law_fit" "_law_fit" st_l_fit a_l_fit fd_l_fit
  b_l_fit : Binds K fd_l_fit ["_law_people", "_law_things_here", "_law_looks_here"] []
  g_l_fit : mg "_law_fit" = some (.ref a_l_fit)
  a_l_needs : Addr
  fd_l_needs : FuncData
  F_l_needs : Fun K "_law_needs" "_law_needs" st_l_needs a_l_needs fd_l_needs
  b_l_needs : Binds K fd_l_needs ["_law_looks_here"] []
  g_l_needs : mg "_law_needs" = some (.ref a_l_needs)
  a_l_sharpened : Addr
  fd_l_sharpened : FuncData
  F_l_sharpened : Fun K "_law_sharpened" "_law_sharpened" st_l_sharpened a_l_sharpened fd_l_sharpened
  b_l_sharpened : Binds K fd_l_sharpened ["_law_looks_here", "_law_need"] []
  g_l_sharpened : mg "_law_sharpened" = some (.ref a_l_sharpened)
  a_l_let : Addr
  fd_l_let : FuncData
  F_l_let : Fun K "_law_let" "_law_let" st_l_let a_l_let fd_l_let
  b_l_let : Binds K fd_l_let ["_law_things_here", "_law_pairs"] []
  g_l_let : mg "_law_let" = some (.ref a_l_let)
  a_l_bent_text : Addr
  fd_l_bent_text : FuncData
  F_l_bent_text : Fun K "_law_bent_text" "_law_bent_text" st_l_bent_text a_l_bent_text fd_l_bent_text
  b_l_bent_text : Binds K fd_l_bent_text ["_law_pot_here", "_law_text"] []
  g_l_bent_text : mg "_law_bent_text" = some (.ref a_l_bent_text)
  a_l_told : Addr
  fd_l_told : FuncData
  F_l_told : Fun K "_law_told" "_law_told" st_l_told a_l_told fd_l_told
  b_l_told : Binds K fd_l_told ["_law_asked", "_law_paper", "_law_due"] []
  g_l_told : mg "_law_told" = some (.ref a_l_told)
  a_l_is_paper : Addr
  fd_l_is_paper : FuncData
  F_l_is_paper : Fun K "_law_is_paper" "_law_is_paper" st_l_is_paper a_l_is_paper fd_l_is_paper
  b_l_is_paper : Binds K fd_l_is_paper ["_law_paper", "_law_things_here", "_law_looks_here", "_law_menu_here", "_law_thing"] []
  g_l_is_paper : mg "_law_is_paper" = some (.ref a_l_is_paper)
  a_l_with_it : Addr
  fd_l_with_it : FuncData
  F_l_with_it : Fun K "_law_with_it" "_law_with_it" st_l_with_it a_l_with_it fd_l_with_it
  b_l_with_it : Binds K fd_l_with_it ["_law_things_here", "_law_looks_here", "_law_rows_here", "_law_menu_here", "_law_thing"] []
  g_l_with_it : mg "_law_with_it" = some (.ref a_l_with_it)
  a_l_without_it : Addr
  fd_l_without_it : FuncData
  F_l_without_it : Fun K "_law_without_it" "_law_without_it" st_l_without_it a_l_without_it fd_l_without_it
  b_l_without_it : Binds K fd_l_without_it ["_law_things_here", "_law_looks_here", "_law_rows_here", "_law_menu_here", "_law_thing"] []
  g_l_without_it : mg "_law_without_it" = some (.ref a_l_without_it)
  a_l_bent : Addr
  fd_l_bent : FuncData
  F_l_bent : Fun K "_law_bent" "_law_bent" st_l_bent a_l_bent fd_l_bent
  b_l_bent : Binds K fd_l_bent ["_law_pot_here", "_law_paper", "_law_things_here"] []
  g_l_bent : mg "_law_bent" = some (.ref a_l_bent)
  a_l_right : Addr
  fd_l_right : FuncData
  F_l_right : Fun K "_law_right" "_law_right" st_l_right a_l_right fd_l_right
  b_l_right : Binds K fd_l_right ["_law_pot_here"] []
  g_l_right : mg "_law_right" = some (.ref a_l_right)
  a_law : Addr
  fd_law : FuncData
  F_law : Fun K "law" "law" st_law a_law fd_law
  b_law : Binds K fd_law ["_law_script"] []
  g_law : mg "law" = some (.ref a_law)
  g_MOST_THINGS : ∃ t : Tok, mg "MOST_THINGS" = some (.int 10 t)
  g_MOST_PEOPLE : ∃ t : Tok, mg "MOST_PEOPLE" = some (.int 24 t)
  g_MOST_LOOKS : ∃ t : Tok, mg "MOST_LOOKS" = some (.int 12 t)
  g_LETTERS : ∃ t : Tok, mg "LETTERS" = some (.str "abcdefghijklmnopqrstuvwxyz" t)
  g_DIGITS : ∃ t : Tok, mg "DIGITS" = some (.str "0123456789" t)
  g_LONGEST_NAME : ∃ t : Tok, mg "LONGEST_NAME" = some (.int 8 t)
  g_MARKS : ∃ t : Tok, mg "MARKS" = some (.str "+-?" t)
  g_MOST_IN_CERTIFICATES : ∃ t : Tok, mg "MOST_IN_CERTIFICATES" = some (.int 130 t)
  D_OF_LOOKS : Addr
  es_OF_LOOKS : Array DictEntry
  n_OF_LOOKS : Nat
  g_OF_LOOKS : mg "OF_LOOKS" = some (.ref D_OF_LOOKS)
  kd_OF_LOOKS : KDict K w D_OF_LOOKS es_OF_LOOKS n_OF_LOOKS
  ki_OF_LOOKS_fits : ∃ a, PySem.W.nsIn K D_OF_LOOKS "fits" = some (some (.ref a))
  ki_OF_LOOKS_unfit : ∃ a, PySem.W.nsIn K D_OF_LOOKS "unfit" = some (some (.ref a))
  kn_OF_LOOKS_never : PySem.W.nsIn K D_OF_LOOKS "never" = some none
  kn_OF_LOOKS_surely : PySem.W.nsIn K D_OF_LOOKS "surely" = some none
  kn_OF_LOOKS_perhaps : PySem.W.nsIn K D_OF_LOOKS "perhaps" = some none
  D_OF_ANSWERS : Addr
  es_OF_ANSWERS : Array DictEntry
  n_OF_ANSWERS : Nat
  g_OF_ANSWERS : mg "OF_ANSWERS" = some (.ref D_OF_ANSWERS)
  kd_OF_ANSWERS : KDict K w D_OF_ANSWERS es_OF_ANSWERS n_OF_ANSWERS
  ki_OF_ANSWERS_never : ∃ a, PySem.W.nsIn K D_OF_ANSWERS "never" = some (some (.ref a))
  ki_OF_ANSWERS_surely : ∃ a, PySem.W.nsIn K D_OF_ANSWERS "surely" = some (some (.ref a))
  ki_OF_ANSWERS_perhaps : PySem.W.nsIn K D_OF_ANSWERS "perhaps" = some (some (.ref a_shows_perhaps))
  kn_OF_ANSWERS_fits : PySem.W.nsIn K D_OF_ANSWERS "fits" = some none
  kn_OF_ANSWERS_unfit : PySem.W.nsIn K D_OF_ANSWERS "unfit" = some none
  n_len : mg "len" = none
  n_isinstance : mg "isinstance" = none
  n_all : mg "all" = none
  n_any : mg "any" = none
  n_enumerate : mg "enumerate" = none
  n_tuple : mg "tuple" = none
  n_sorted : mg "sorted" = none
  n_abs : mg "abs" = none
  n_int : mg "int" = none
  n_divmod : mg "divmod" = none
  n_range : mg "range" = none
  n_list : mg "list" = none
  n_repr : mg "repr" = none
  n_max : mg "max" = none
  n_min : mg "min" = none
  n_str : mg "str" = none
  n_bool : mg "bool" = none
  n_zip : mg "zip" = none
  n_set : mg "set" = none
theorem tx_of {w : World} {K : PySem.W.Frag} {h : Heap} {mg : Str → Option Value} {fa : Addr} (X : K.In h) (G : h.Ns mainGlobals mg) (hfa : mg "law" = some (.ref fa))
    {f_is_tuple_of : Addr} {od_is_tuple_of an_is_tuple_of : Option Addr} {sl_is_tuple_of : Array (Option Value)} {oc_is_tuple_of kV_is_tuple_of dc_is_tuple_of pm_is_tuple_of cd_is_tuple_of ct_is_tuple_of : Value}
    {f_is_name : Addr} {od_is_name an_is_name : Option Addr} {sl_is_name : Array (Option Value)} {oc_is_name kV_is_name dc_is_name pm_is_name cd_is_name ct_is_name : Value}
    {f_is_one_of : Addr} {od_is_one_of an_is_one_of : Option Addr} {sl_is_one_of : Array (Option Value)} {oc_is_one_of kV_is_one_of dc_is_one_of pm_is_one_of cd_is_one_of ct_is_one_of : Value}
    {f_is_ascending : Addr} {od_is_ascending an_is_ascending : Option Addr} {sl_is_ascending : Array (Option Value)} {oc_is_ascending kV_is_ascending dc_is_ascending pm_is_ascending cd_is_ascending ct_is_ascending : Value}
    {f_is_part : Addr} {od_is_part an_is_part : Option Addr} {sl_is_part : Array (Option Value)} {oc_is_part kV_is_part dc_is_part pm_is_part cd_is_part ct_is_part : Value}
    {f_are_things : Addr} {od_are_things an_are_things : Option Addr} {sl_are_things : Array (Option Value)} {oc_are_things kV_are_things dc_are_things pm_are_things cd_are_things ct_are_things : Value}
    {f_is_set : Addr} {od_is_set an_is_set : Option Addr} {sl_is_set : Array (Option Value)} {oc_is_set kV_is_set dc_is_set pm_is_set cd_is_set ct_is_set : Value}
    {f_is_menu : Addr} {od_is_menu an_is_menu : Option Addr} {sl_is_menu : Array (Option Value)} {oc_is_menu kV_is_menu dc_is_menu pm_is_menu cd_is_menu ct_is_menu : Value}
    {f_row_of : Addr} {od_row_of an_row_of : Option Addr} {sl_row_of : Array (Option Value)} {oc_row_of kV_row_of dc_row_of pm_row_of cd_row_of ct_row_of : Value}
    {f_look_of : Addr} {od_look_of an_look_of : Option Addr} {sl_look_of : Array (Option Value)} {oc_look_of kV_look_of dc_look_of pm_look_of cd_look_of ct_look_of : Value}
    {f_looks_of : Addr} {od_looks_of an_looks_of : Option Addr} {sl_looks_of : Array (Option Value)} {oc_looks_of kV_looks_of dc_looks_of pm_looks_of cd_looks_of ct_looks_of : Value}
    {f_best : Addr} {od_best an_best : Option Addr} {sl_best : Array (Option Value)} {oc_best kV_best dc_best pm_best cd_best ct_best : Value}
    {f_takes : Addr} {od_takes an_takes : Option Addr} {sl_takes : Array (Option Value)} {oc_takes kV_takes dc_takes pm_takes cd_takes ct_takes : Value}
    {f_has : Addr} {od_has an_has : Option Addr} {sl_has : Array (Option Value)} {oc_has kV_has dc_has pm_has cd_has ct_has : Value}
    {f_people_who_fit : Addr} {od_people_who_fit an_people_who_fit : Option Addr} {sl_people_who_fit : Array (Option Value)} {oc_people_who_fit kV_people_who_fit dc_people_who_fit pm_people_who_fit cd_people_who_fit ct_people_who_fit : Value}
    {f_shows_perhaps : Addr} {od_shows_perhaps an_shows_perhaps : Option Addr} {sl_shows_perhaps : Array (Option Value)} {oc_shows_perhaps kV_shows_perhaps dc_shows_perhaps pm_shows_perhaps cd_shows_perhaps ct_shows_perhaps : Value}
    {f_accepts_of_answers : Addr} {od_accepts_of_answers an_accepts_of_answers : Option Addr} {sl_accepts_of_answers : Array (Option Value)} {oc_accepts_of_answers kV_accepts_of_answers dc_accepts_of_answers pm_accepts_of_answers cd_accepts_of_answers ct_accepts_of_answers : Value}
    {f_accepts : Addr} {od_accepts an_accepts : Option Addr} {sl_accepts : Array (Option Value)} {oc_accepts kV_accepts dc_accepts pm_accepts cd_accepts ct_accepts : Value}
    {f_l_pot : Addr} {od_l_pot an_l_pot : Option Addr} {sl_l_pot : Array (Option Value)} {oc_l_pot kV_l_pot dc_l_pot pm_l_pot cd_l_pot ct_l_pot : Value}
    {f_l_draw : Addr} {od_l_draw an_l_draw : Option Addr} {sl_l_draw : Array (Option Value)} {oc_l_draw kV_l_draw dc_l_draw pm_l_draw cd_l_draw ct_l_draw : Value}
    {f_l_names : Addr} {od_l_names an_l_names : Option Addr} {sl_l_names : Array (Option Value)} {oc_l_names kV_l_names dc_l_names pm_l_names cd_l_names ct_l_names : Value}
    {f_l_things : Addr} {od_l_things an_l_things : Option Addr} {sl_l_things : Array (Option Value)} {oc_l_things kV_l_things dc_l_things pm_l_things cd_l_things ct_l_things : Value}
    {f_l_shuffled : Addr} {od_l_shuffled an_l_shuffled : Option Addr} {sl_l_shuffled : Array (Option Value)} {oc_l_shuffled kV_l_shuffled dc_l_shuffled pm_l_shuffled cd_l_shuffled ct_l_shuffled : Value}
    {f_l_ascending : Addr} {od_l_ascending an_l_ascending : Option Addr} {sl_l_ascending : Array (Option Value)} {oc_l_ascending kV_l_ascending dc_l_ascending pm_l_ascending cd_l_ascending ct_l_ascending : Value}
    {f_l_rows : Addr} {od_l_rows an_l_rows : Option Addr} {sl_l_rows : Array (Option Value)} {oc_l_rows kV_l_rows dc_l_rows pm_l_rows cd_l_rows ct_l_rows : Value}
    {f_l_taken : Addr} {od_l_taken an_l_taken : Option Addr} {sl_l_taken : Array (Option Value)} {oc_l_taken kV_l_taken dc_l_taken pm_l_taken cd_l_taken ct_l_taken : Value}
    {f_l_menu : Addr} {od_l_menu an_l_menu : Option Addr} {sl_l_menu : Array (Option Value)} {oc_l_menu kV_l_menu dc_l_menu pm_l_menu cd_l_menu ct_l_menu : Value}
    {f_l_seen : Addr} {od_l_seen an_l_seen : Option Addr} {sl_l_seen : Array (Option Value)} {oc_l_seen kV_l_seen dc_l_seen pm_l_seen cd_l_seen ct_l_seen : Value}
    {f_l_any_marks : Addr} {od_l_any_marks an_l_any_marks : Option Addr} {sl_l_any_marks : Array (Option Value)} {oc_l_any_marks kV_l_any_marks dc_l_any_marks pm_l_any_marks cd_l_any_marks ct_l_any_marks : Value}
    {f_l_looks : Addr} {od_l_looks an_l_looks : Option Addr} {sl_l_looks : Array (Option Value)} {oc_l_looks kV_l_looks dc_l_looks pm_l_looks cd_l_looks ct_l_looks : Value}
    {f_l_look_text : Addr} {od_l_look_text an_l_look_text : Option Addr} {sl_l_look_text : Array (Option Value)} {oc_l_look_text kV_l_look_text dc_l_look_text pm_l_look_text cd_l_look_text ct_l_look_text : Value}
    {f_l_marked : Addr} {od_l_marked an_l_marked : Option Addr} {sl_l_marked : Array (Option Value)} {oc_l_marked kV_l_marked dc_l_marked pm_l_marked cd_l_marked ct_l_marked : Value}
    {f_l_fit : Addr} {od_l_fit an_l_fit : Option Addr} {sl_l_fit : Array (Option Value)} {oc_l_fit kV_l_fit dc_l_fit pm_l_fit cd_l_fit ct_l_fit : Value}
    {f_l_needs : Addr} {od_l_needs an_l_needs : Option Addr} {sl_l_needs : Array (Option Value)} {oc_l_needs kV_l_needs dc_l_needs pm_l_needs cd_l_needs ct_l_needs : Value}
    {f_l_sharpened : Addr} {od_l_sharpened an_l_sharpened : Option Addr} {sl_l_sharpened : Array (Option Value)} {oc_l_sharpened kV_l_sharpened dc_l_sharpened pm_l_sharpened cd_l_sharpened ct_l_sharpened : Value}
    {f_l_let : Addr} {od_l_let an_l_let : Option Addr} {sl_l_let : Array (Option Value)} {oc_l_let kV_l_let dc_l_let pm_l_let cd_l_let ct_l_let : Value}
    {f_l_bent_text : Addr} {od_l_bent_text an_l_bent_text : Option Addr} {sl_l_bent_text : Array (Option Value)} {oc_l_bent_text kV_l_bent_text dc_l_bent_text pm_l_bent_text cd_l_bent_text ct_l_bent_text : Value}
    {f_l_told : Addr} {od_l_told an_l_told : Option Addr} {sl_l_told : Array (Option Value)} {oc_l_told kV_l_told dc_l_told pm_l_told cd_l_told ct_l_told : Value}
    {f_l_is_paper : Addr} {od_l_is_paper an_l_is_paper : Option Addr} {sl_l_is_paper : Array (Option Value)} {oc_l_is_paper kV_l_is_paper dc_l_is_paper pm_l_is_paper cd_l_is_paper ct_l_is_paper : Value}
    {f_l_with_it : Addr} {od_l_with_it an_l_with_it : Option Addr} {sl_l_with_it : Array (Option Value)} {oc_l_with_it kV_l_with_it dc_l_with_it pm_l_with_it cd_l_with_it ct_l_with_it : Value}
    {f_l_without_it : Addr} {od_l_without_it an_l_without_it : Option Addr} {sl_l_without_it : Array (Option Value)} {oc_l_without_it kV_l_without_it dc_l_without_it pm_l_without_it cd_l_without_it ct_l_without_it : Value}
    {f_l_bent : Addr} {od_l_bent an_l_bent : Option Addr} {sl_l_bent : Array (Option Value)} {oc_l_bent kV_l_bent dc_l_bent pm_l_bent cd_l_bent ct_l_bent : Value}
    {f_l_right : Addr} {od_l_right an_l_right : Option Addr} {sl_l_right : Array (Option Value)} {oc_l_right kV_l_right dc_l_right pm_l_right cd_l_right ct_l_right : Value}
    {f_law : Addr} {od_law an_law : Option Addr} {sl_law : Array (Option Value)} {oc_law kV_law dc_law pm_law cd_law ct_law : Value}
    {t_MOST_THINGS : Tok}
    {t_MOST_PEOPLE : Tok}
    {t_MOST_LOOKS : Tok}
    {t_LETTERS : Tok}
    {t_DIGITS : Tok}
    {t_LONGEST_NAME : Tok}
    {t_MARKS : Tok}
    {t_MOST_IN_CERTIFICATES : Tok}
    {D_OF_LOOKS : Addr} {es_OF_LOOKS : Array DictEntry} {n_OF_LOOKS : Nat}
    {f_shows_fits : Addr}
    {f_shows_unfit : Addr}
    {D_OF_ANSWERS : Addr} {es_OF_ANSWERS : Array DictEntry} {n_OF_ANSWERS : Nat}
    {f_shows_never : Addr}
    {f_shows_surely : Addr}
    (a_is_tuple_of : PySem.W.nsIn K mainGlobals "is_tuple_of" = some (some (.ref f_is_tuple_of)))
    (l_is_tuple_of : K.lookup f_is_tuple_of = some ⟨oc_is_tuple_of, od_is_tuple_of, .func (PySem.W.fnOf "is_tuple_of" "is_tuple_of" (defArgs st_is_tuple_of) (defBody st_is_tuple_of) (defScope st_is_tuple_of) .none kV_is_tuple_of dc_is_tuple_of pm_is_tuple_of an_is_tuple_of cd_is_tuple_of ct_is_tuple_of), sl_is_tuple_of⟩)
    (c_is_tuple_of : PySem.W.codeIn K cd_is_tuple_of "is_tuple_of" = true)
    (k_is_tuple_of : PySem.W.keepIn K (.ref f_is_tuple_of) = true)
    (a_is_name : PySem.W.nsIn K mainGlobals "is_name" = some (some (.ref f_is_name)))
    (l_is_name : K.lookup f_is_name = some ⟨oc_is_name, od_is_name, .func (PySem.W.fnOf "is_name" "is_name" (defArgs st_is_name) (defBody st_is_name) (defScope st_is_name) .none kV_is_name dc_is_name pm_is_name an_is_name cd_is_name ct_is_name), sl_is_name⟩)
    (c_is_name : PySem.W.codeIn K cd_is_name "is_name" = true)
    (k_is_name : PySem.W.keepIn K (.ref f_is_name) = true)
    (a_is_one_of : PySem.W.nsIn K mainGlobals "is_one_of" = some (some (.ref f_is_one_of)))
    (l_is_one_of : K.lookup f_is_one_of = some ⟨oc_is_one_of, od_is_one_of, .func (PySem.W.fnOf "is_one_of" "is_one_of" (defArgs st_is_one_of) (defBody st_is_one_of) (defScope st_is_one_of) .none kV_is_one_of dc_is_one_of pm_is_one_of an_is_one_of cd_is_one_of ct_is_one_of), sl_is_one_of⟩)
    (c_is_one_of : PySem.W.codeIn K cd_is_one_of "is_one_of" = true)
    (k_is_one_of : PySem.W.keepIn K (.ref f_is_one_of) = true)
    (a_is_ascending : PySem.W.nsIn K mainGlobals "is_ascending" = some (some (.ref f_is_ascending)))
    (l_is_ascending : K.lookup f_is_ascending = some ⟨oc_is_ascending, od_is_ascending, .func (PySem.W.fnOf "is_ascending" "is_ascending" (defArgs st_is_ascending) (defBody st_is_ascending) (defScope st_is_ascending) .none kV_is_ascending dc_is_ascending pm_is_ascending an_is_ascending cd_is_ascending ct_is_ascending), sl_is_ascending⟩)
    (c_is_ascending : PySem.W.codeIn K cd_is_ascending "is_ascending" = true)
    (k_is_ascending : PySem.W.keepIn K (.ref f_is_ascending) = true)
    (a_is_part : PySem.W.nsIn K mainGlobals "is_part" = some (some (.ref f_is_part)))
    (l_is_part : K.lookup f_is_part = some ⟨oc_is_part, od_is_part, .func (PySem.W.fnOf "is_part" "is_part" (defArgs st_is_part) (defBody st_is_part) (defScope st_is_part) .none kV_is_part dc_is_part pm_is_part an_is_part cd_is_part ct_is_part), sl_is_part⟩)
    (c_is_part : PySem.W.codeIn K cd_is_part "is_part" = true)
    (k_is_part : PySem.W.keepIn K (.ref f_is_part) = true)
    (a_are_things : PySem.W.nsIn K mainGlobals "are_things" = some (some (.ref f_are_things)))
    (l_are_things : K.lookup f_are_things = some ⟨oc_are_things, od_are_things, .func (PySem.W.fnOf "are_things" "are_things" (defArgs st_are_things) (defBody st_are_things) (defScope st_are_things) .none kV_are_things dc_are_things pm_are_things an_are_things cd_are_things ct_are_things), sl_are_things⟩)
    (c_are_things : PySem.W.codeIn K cd_are_things "are_things" = true)
    (k_are_things : PySem.W.keepIn K (.ref f_are_things) = true)
    (a_is_set : PySem.W.nsIn K mainGlobals "is_set" = some (some (.ref f_is_set)))
    (l_is_set : K.lookup f_is_set = some ⟨oc_is_set, od_is_set, .func (PySem.W.fnOf "is_set" "is_set" (defArgs st_is_set) (defBody st_is_set) (defScope st_is_set) .none kV_is_set dc_is_set pm_is_set an_is_set cd_is_set ct_is_set), sl_is_set⟩)
    (c_is_set : PySem.W.codeIn K cd_is_set "is_set" = true)
    (k_is_set : PySem.W.keepIn K (.ref f_is_set) = true)
    (a_is_menu : PySem.W.nsIn K mainGlobals "is_menu" = some (some (.ref f_is_menu)))
    (l_is_menu : K.lookup f_is_menu = some ⟨oc_is_menu, od_is_menu, .func (PySem.W.fnOf "is_menu" "is_menu" (defArgs st_is_menu) (defBody st_is_menu) (defScope st_is_menu) .none kV_is_menu dc_is_menu pm_is_menu an_is_menu cd_is_menu ct_is_menu), sl_is_menu⟩)
    (c_is_menu : PySem.W.codeIn K cd_is_menu "is_menu" = true)
    (k_is_menu : PySem.W.keepIn K (.ref f_is_menu) = true)
    (a_row_of : PySem.W.nsIn K mainGlobals "row_of" = some (some (.ref f_row_of)))
    (l_row_of : K.lookup f_row_of = some ⟨oc_row_of, od_row_of, .func (PySem.W.fnOf "row_of" "row_of" (defArgs st_row_of) (defBody st_row_of) (defScope st_row_of) .none kV_row_of dc_row_of pm_row_of an_row_of cd_row_of ct_row_of), sl_row_of⟩)
    (c_row_of : PySem.W.codeIn K cd_row_of "row_of" = true)
    (k_row_of : PySem.W.keepIn K (.ref f_row_of) = true)
    (a_look_of : PySem.W.nsIn K mainGlobals "look_of" = some (some (.ref f_look_of)))
    (l_look_of : K.lookup f_look_of = some ⟨oc_look_of, od_look_of, .func (PySem.W.fnOf "look_of" "look_of" (defArgs st_look_of) (defBody st_look_of) (defScope st_look_of) .none kV_look_of dc_look_of pm_look_of an_look_of cd_look_of ct_look_of), sl_look_of⟩)
    (c_look_of : PySem.W.codeIn K cd_look_of "look_of" = true)
    (k_look_of : PySem.W.keepIn K (.ref f_look_of) = true)
    (a_looks_of : PySem.W.nsIn K mainGlobals "looks_of" = some (some (.ref f_looks_of)))
    (l_looks_of : K.lookup f_looks_of = some ⟨oc_looks_of, od_looks_of, .func (PySem.W.fnOf "looks_of" "looks_of" (defArgs st_looks_of) (defBody st_looks_of) (defScope st_looks_of) .none kV_looks_of dc_looks_of pm_looks_of an_looks_of cd_looks_of ct_looks_of), sl_looks_of⟩)
    (c_looks_of : PySem.W.codeIn K cd_looks_of "looks_of" = true)
    (k_looks_of : PySem.W.keepIn K (.ref f_looks_of) = true)
    (a_best : PySem.W.nsIn K mainGlobals "best" = some (some (.ref f_best)))
    (l_best : K.lookup f_best = some ⟨oc_best, od_best, .func (PySem.W.fnOf "best" "best" (defArgs st_best) (defBody st_best) (defScope st_best) .none kV_best dc_best pm_best an_best cd_best ct_best), sl_best⟩)
    (c_best : PySem.W.codeIn K cd_best "best" = true)
    (k_best : PySem.W.keepIn K (.ref f_best) = true)
    (a_takes : PySem.W.nsIn K mainGlobals "takes" = some (some (.ref f_takes)))
    (l_takes : K.lookup f_takes = some ⟨oc_takes, od_takes, .func (PySem.W.fnOf "takes" "takes" (defArgs st_takes) (defBody st_takes) (defScope st_takes) .none kV_takes dc_takes pm_takes an_takes cd_takes ct_takes), sl_takes⟩)
    (c_takes : PySem.W.codeIn K cd_takes "takes" = true)
    (k_takes : PySem.W.keepIn K (.ref f_takes) = true)
    (a_has : PySem.W.nsIn K mainGlobals "has" = some (some (.ref f_has)))
    (l_has : K.lookup f_has = some ⟨oc_has, od_has, .func (PySem.W.fnOf "has" "has" (defArgs st_has) (defBody st_has) (defScope st_has) .none kV_has dc_has pm_has an_has cd_has ct_has), sl_has⟩)
    (c_has : PySem.W.codeIn K cd_has "has" = true)
    (k_has : PySem.W.keepIn K (.ref f_has) = true)
    (a_people_who_fit : PySem.W.nsIn K mainGlobals "people_who_fit" = some (some (.ref f_people_who_fit)))
    (l_people_who_fit : K.lookup f_people_who_fit = some ⟨oc_people_who_fit, od_people_who_fit, .func (PySem.W.fnOf "people_who_fit" "people_who_fit" (defArgs st_people_who_fit) (defBody st_people_who_fit) (defScope st_people_who_fit) .none kV_people_who_fit dc_people_who_fit pm_people_who_fit an_people_who_fit cd_people_who_fit ct_people_who_fit), sl_people_who_fit⟩)
    (c_people_who_fit : PySem.W.codeIn K cd_people_who_fit "people_who_fit" = true)
    (k_people_who_fit : PySem.W.keepIn K (.ref f_people_who_fit) = true)
    (a_shows_perhaps : PySem.W.nsIn K mainGlobals "shows_perhaps" = some (some (.ref f_shows_perhaps)))
    (l_shows_perhaps : K.lookup f_shows_perhaps = some ⟨oc_shows_perhaps, od_shows_perhaps, .func (PySem.W.fnOf "shows_perhaps" "shows_perhaps" (defArgs st_shows_perhaps) (defBody st_shows_perhaps) (defScope st_shows_perhaps) .none kV_shows_perhaps dc_shows_perhaps pm_shows_perhaps an_shows_perhaps cd_shows_perhaps ct_shows_perhaps), sl_shows_perhaps⟩)
    (c_shows_perhaps : PySem.W.codeIn K cd_shows_perhaps "shows_perhaps" = true)
    (k_shows_perhaps : PySem.W.keepIn K (.ref f_shows_perhaps) = true)
    (a_accepts_of_answers : PySem.W.nsIn K mainGlobals "accepts_of_answers" = some (some (.ref f_accepts_of_answers)))
    (l_accepts_of_answers : K.lookup f_accepts_of_answers = some ⟨oc_accepts_of_answers, od_accepts_of_answers, .func (PySem.W.fnOf "accepts_of_answers" "accepts_of_answers" (defArgs st_accepts_of_answers) (defBody st_accepts_of_answers) (defScope st_accepts_of_answers) .none kV_accepts_of_answers dc_accepts_of_answers pm_accepts_of_answers an_accepts_of_answers cd_accepts_of_answers ct_accepts_of_answers), sl_accepts_of_answers⟩)
    (c_accepts_of_answers : PySem.W.codeIn K cd_accepts_of_answers "accepts_of_answers" = true)
    (k_accepts_of_answers : PySem.W.keepIn K (.ref f_accepts_of_answers) = true)
    (a_accepts : PySem.W.nsIn K mainGlobals "accepts" = some (some (.ref f_accepts)))
    (l_accepts : K.lookup f_accepts = some ⟨oc_accepts, od_accepts, .func (PySem.W.fnOf "accepts" "accepts" (defArgs st_accepts) (defBody st_accepts) (defScope st_accepts) .none kV_accepts dc_accepts pm_accepts an_accepts cd_accepts ct_accepts), sl_accepts⟩)
    (c_accepts : PySem.W.codeIn K cd_accepts "accepts" = true)
    (k_accepts : PySem.W.keepIn K (.ref f_accepts) = true)
    (a_l_pot : PySem.W.nsIn K mainGlobals "_law_pot" = some (some (.ref f_l_pot)))
    (l_l_pot : K.lookup f_l_pot = some ⟨oc_l_pot, od_l_pot, .func (PySem.W.fnOf "_law_pot" "_law_pot" (defArgs st_l_pot) (defBody st_l_pot) (defScope st_l_pot) .none kV_l_pot dc_l_pot pm_l_pot an_l_pot cd_l_pot ct_l_pot), sl_l_pot⟩)
    (c_l_pot : PySem.W.codeIn K cd_l_pot "_law_pot" = true)
    (k_l_pot : PySem.W.keepIn K (.ref f_l_pot) = true)
    (a_l_draw : PySem.W.nsIn K mainGlobals "_law_draw" = some (some (.ref f_l_draw)))
    (l_l_draw : K.lookup f_l_draw = some ⟨oc_l_draw, od_l_draw, .func (PySem.W.fnOf "_law_draw" "_law_draw" (defArgs st_l_draw) (defBody st_l_draw) (defScope st_l_draw) .none kV_l_draw dc_l_draw pm_l_draw an_l_draw cd_l_draw ct_l_draw), sl_l_draw⟩)
    (c_l_draw : PySem.W.codeIn K cd_l_draw "_law_draw" = true)
    (k_l_draw : PySem.W.keepIn K (.ref f_l_draw) = true)
    (a_l_names : PySem.W.nsIn K mainGlobals "_law_names" = some (some (.ref f_l_names)))
    (l_l_names : K.lookup f_l_names = some ⟨oc_l_names, od_l_names, .func (PySem.W.fnOf "_law_names" "_law_names" (defArgs st_l_names) (defBody st_l_names) (defScope st_l_names) .none kV_l_names dc_l_names pm_l_names an_l_names cd_l_names ct_l_names), sl_l_names⟩)
    (c_l_names : PySem.W.codeIn K cd_l_names "_law_names" = true)
    (k_l_names : PySem.W.keepIn K (.ref f_l_names) = true)
    (a_l_things : PySem.W.nsIn K mainGlobals "_law_things" = some (some (.ref f_l_things)))
    (l_l_things : K.lookup f_l_things = some ⟨oc_l_things, od_l_things, .func (PySem.W.fnOf "_law_things" "_law_things" (defArgs st_l_things) (defBody st_l_things) (defScope st_l_things) .none kV_l_things dc_l_things pm_l_things an_l_things cd_l_things ct_l_things), sl_l_things⟩)
    (c_l_things : PySem.W.codeIn K cd_l_things "_law_things" = true)
    (k_l_things : PySem.W.keepIn K (.ref f_l_things) = true)
    (a_l_shuffled : PySem.W.nsIn K mainGlobals "_law_shuffled" = some (some (.ref f_l_shuffled)))
    (l_l_shuffled : K.lookup f_l_shuffled = some ⟨oc_l_shuffled, od_l_shuffled, .func (PySem.W.fnOf "_law_shuffled" "_law_shuffled" (defArgs st_l_shuffled) (defBody st_l_shuffled) (defScope st_l_shuffled) .none kV_l_shuffled dc_l_shuffled pm_l_shuffled an_l_shuffled cd_l_shuffled ct_l_shuffled), sl_l_shuffled⟩)
    (c_l_shuffled : PySem.W.codeIn K cd_l_shuffled "_law_shuffled" = true)
    (k_l_shuffled : PySem.W.keepIn K (.ref f_l_shuffled) = true)
    (a_l_ascending : PySem.W.nsIn K mainGlobals "_law_ascending" = some (some (.ref f_l_ascending)))
    (l_l_ascending : K.lookup f_l_ascending = some ⟨oc_l_ascending, od_l_ascending, .func (PySem.W.fnOf "_law_ascending" "_law_ascending" (defArgs st_l_ascending) (defBody st_l_ascending) (defScope st_l_ascending) .none kV_l_ascending dc_l_ascending pm_l_ascending an_l_ascending cd_l_ascending ct_l_ascending), sl_l_ascending⟩)
    (c_l_ascending : PySem.W.codeIn K cd_l_ascending "_law_ascending" = true)
    (k_l_ascending : PySem.W.keepIn K (.ref f_l_ascending) = true)
    (a_l_rows : PySem.W.nsIn K mainGlobals "_law_rows" = some (some (.ref f_l_rows)))
    (l_l_rows : K.lookup f_l_rows = some ⟨oc_l_rows, od_l_rows, .func (PySem.W.fnOf "_law_rows" "_law_rows" (defArgs st_l_rows) (defBody st_l_rows) (defScope st_l_rows) .none kV_l_rows dc_l_rows pm_l_rows an_l_rows cd_l_rows ct_l_rows), sl_l_rows⟩)
    (c_l_rows : PySem.W.codeIn K cd_l_rows "_law_rows" = true)
    (k_l_rows : PySem.W.keepIn K (.ref f_l_rows) = true)
    (a_l_taken : PySem.W.nsIn K mainGlobals "_law_taken" = some (some (.ref f_l_taken)))
    (l_l_taken : K.lookup f_l_taken = some ⟨oc_l_taken, od_l_taken, .func (PySem.W.fnOf "_law_taken" "_law_taken" (defArgs st_l_taken) (defBody st_l_taken) (defScope st_l_taken) .none kV_l_taken dc_l_taken pm_l_taken an_l_taken cd_l_taken ct_l_taken), sl_l_taken⟩)
    (c_l_taken : PySem.W.codeIn K cd_l_taken "_law_taken" = true)
    (k_l_taken : PySem.W.keepIn K (.ref f_l_taken) = true)
    (a_l_menu : PySem.W.nsIn K mainGlobals "_law_menu" = some (some (.ref f_l_menu)))
    (l_l_menu : K.lookup f_l_menu = some ⟨oc_l_menu, od_l_menu, .func (PySem.W.fnOf "_law_menu" "_law_menu" (defArgs st_l_menu) (defBody st_l_menu) (defScope st_l_menu) .none kV_l_menu dc_l_menu pm_l_menu an_l_menu cd_l_menu ct_l_menu), sl_l_menu⟩)
    (c_l_menu : PySem.W.codeIn K cd_l_menu "_law_menu" = true)
    (k_l_menu : PySem.W.keepIn K (.ref f_l_menu) = true)
    (a_l_seen : PySem.W.nsIn K mainGlobals "_law_seen" = some (some (.ref f_l_seen)))
    (l_l_seen : K.lookup f_l_seen = some ⟨oc_l_seen, od_l_seen, .func (PySem.W.fnOf "_law_seen" "_law_seen" (defArgs st_l_seen) (defBody st_l_seen) (defScope st_l_seen) .none kV_l_seen dc_l_seen pm_l_seen an_l_seen cd_l_seen ct_l_seen), sl_l_seen⟩)
    (c_l_seen : PySem.W.codeIn K cd_l_seen "_law_seen" = true)
    (k_l_seen : PySem.W.keepIn K (.ref f_l_seen) = true)
    (a_l_any_marks : PySem.W.nsIn K mainGlobals "_law_any_marks" = some (some (.ref f_l_any_marks)))
    (l_l_any_marks : K.lookup f_l_any_marks = some ⟨oc_l_any_marks, od_l_any_marks, .func (PySem.W.fnOf "_law_any_marks" "_law_any_marks" (defArgs st_l_any_marks) (defBody st_l_any_marks) (defScope st_l_any_marks) .none kV_l_any_marks dc_l_any_marks pm_l_any_marks an_l_any_marks cd_l_any_marks ct_l_any_marks), sl_l_any_marks⟩)
    (c_l_any_marks : PySem.W.codeIn K cd_l_any_marks "_law_any_marks" = true)
    (k_l_any_marks : PySem.W.keepIn K (.ref f_l_any_marks) = true)
    (a_l_looks : PySem.W.nsIn K mainGlobals "_law_looks" = some (some (.ref f_l_looks)))
    (l_l_looks : K.lookup f_l_looks = some ⟨oc_l_looks, od_l_looks, .func (PySem.W.fnOf "_law_looks" "_law_looks" (defArgs st_l_looks) (defBody st_l_looks) (defScope st_l_looks) .none kV_l_looks dc_l_looks pm_l_looks an_l_looks cd_l_looks ct_l_looks), sl_l_looks⟩)
    (c_l_looks : PySem.W.codeIn K cd_l_looks "_law_looks" = true)
    (k_l_looks : PySem.W.keepIn K (.ref f_l_looks) = true)
    (a_l_look_text : PySem.W.nsIn K mainGlobals "_law_look_text" = some (some (.ref f_l_look_text)))
    (l_l_look_text : K.lookup f_l_look_text = some ⟨oc_l_look_text, od_l_look_text, .func (PySem.W.fnOf "_law_look_text" "_law_look_text" (defArgs st_l_look_text) (defBody st_l_look_text) (defScope st_l_look_text) .none kV_l_look_text dc_l_look_text pm_l_look_text an_l_look_text cd_l_look_text ct_l_look_text), sl_l_look_text⟩)
    (c_l_look_text : PySem.W.codeIn K cd_l_look_text "_law_look_text" = true)
    (k_l_look_text : PySem.W.keepIn K (.ref f_l_look_text) = true)
    (a_l_marked : PySem.W.nsIn K mainGlobals "_law_marked" = some (some (.ref f_l_marked)))
    (l_l_marked : K.lookup f_l_marked = some ⟨oc_l_marked, od_l_marked, .func (PySem.W.fnOf "_law_marked" "_law_marked" (defArgs st_l_marked) (defBody st_l_marked) (defScope st_l_marked) .none kV_l_marked dc_l_marked pm_l_marked an_l_marked cd_l_marked ct_l_marked), sl_l_marked⟩)
    (c_l_marked : PySem.W.codeIn K cd_l_marked "_law_marked" = true)
    (k_l_marked : PySem.W.keepIn K (.ref f_l_marked) = true)
    (a_l_fit : PySem.W.nsIn K mainGlobals "_law_fit" = some (some (.ref f_l_fit)))
    (l_l_fit : K.lookup f_l_fit = some ⟨oc_l_fit, od_l_fit, .func (PySem.W.fnOf "_law_fit" "_law_fit" (defArgs st_l_fit) (defBody st_l_fit) (defScope st_l_fit) .none kV_l_fit dc_l_fit pm_l_fit an_l_fit cd_l_fit ct_l_fit), sl_l_fit⟩)
    (c_l_fit : PySem.W.codeIn K cd_l_fit "_law_fit" = true)
    (k_l_fit : PySem.W.keepIn K (.ref f_l_fit) = true)
    (a_l_needs : PySem.W.nsIn K mainGlobals "_law_needs" = some (some (.ref f_l_needs)))
    (l_l_needs : K.lookup f_l_needs = some ⟨oc_l_needs, od_l_needs, .func (PySem.W.fnOf "_law_needs" "_law_needs" (defArgs st_l_needs) (defBody st_l_needs) (defScope st_l_needs) .none kV_l_needs dc_l_needs pm_l_needs an_l_needs cd_l_needs ct_l_needs), sl_l_needs⟩)
    (c_l_needs : PySem.W.codeIn K cd_l_needs "_law_needs" = true)
    (k_l_needs : PySem.W.keepIn K (.ref f_l_needs) = true)
    (a_l_sharpened : PySem.W.nsIn K mainGlobals "_law_sharpened" = some (some (.ref f_l_sharpened)))
    (l_l_sharpened : K.lookup f_l_sharpened = some ⟨oc_l_sharpened, od_l_sharpened, .func (PySem.W.fnOf "_law_sharpened" "_law_sharpened" (defArgs st_l_sharpened) (defBody st_l_sharpened) (defScope st_l_sharpened) .none kV_l_sharpened dc_l_sharpened pm_l_sharpened an_l_sharpened cd_l_sharpened ct_l_sharpened), sl_l_sharpened⟩)
    (c_l_sharpened : PySem.W.codeIn K cd_l_sharpened "_law_sharpened" = true)
    (k_l_sharpened : PySem.W.keepIn K (.ref f_l_sharpened) = true)
    (a_l_let : PySem.W.nsIn K mainGlobals "_law_let" = some (some (.ref f_l_let)))
    (l_l_let : K.lookup f_l_let = some ⟨oc_l_let, od_l_let, .func (PySem.W.fnOf "_law_let" "_law_let" (defArgs st_l_let) (defBody st_l_let) (defScope st_l_let) .none kV_l_let dc_l_let pm_l_let an_l_let cd_l_let ct_l_let), sl_l_let⟩)
    (c_l_let : PySem.W.codeIn K cd_l_let "_law_let" = true)
    (k_l_let : PySem.W.keepIn K (.ref f_l_let) = true)
    (a_l_bent_text : PySem.W.nsIn K mainGlobals "_law_bent_text" = some (some (.ref f_l_bent_text)))
    (l_l_bent_text : K.lookup f_l_bent_text = some ⟨oc_l_bent_text, od_l_bent_text, .func (PySem.W.fnOf "_law_bent_text" "_law_bent_text" (defArgs st_l_bent_text) (defBody st_l_bent_text) (defScope st_l_bent_text) .none kV_l_bent_text dc_l_bent_text pm_l_bent_text an_l_bent_text cd_l_bent_text ct_l_bent_text), sl_l_bent_text⟩)
    (c_l_bent_text : PySem.W.codeIn K cd_l_bent_text "_law_bent_text" = true)
    (k_l_bent_text : PySem.W.keepIn K (.ref f_l_bent_text) = true)
    (a_l_told : PySem.W.nsIn K mainGlobals "_law_told" = some (some (.ref f_l_told)))
    (l_l_told : K.lookup f_l_told = some ⟨oc_l_told, od_l_told, .func (PySem.W.fnOf "_law_told" "_law_told" (defArgs st_l_told) (defBody st_l_told) (defScope st_l_told) .none kV_l_told dc_l_told pm_l_told an_l_told cd_l_told ct_l_told), sl_l_told⟩)
    (c_l_told : PySem.W.codeIn K cd_l_told "_law_told" = true)
    (k_l_told : PySem.W.keepIn K (.ref f_l_told) = true)
    (a_l_is_paper : PySem.W.nsIn K mainGlobals "_law_is_paper" = some (some (.ref f_l_is_paper)))
    (l_l_is_paper : K.lookup f_l_is_paper = some ⟨oc_l_is_paper, od_l_is_paper, .func (PySem.W.fnOf "_law_is_paper" "_law_is_paper" (defArgs st_l_is_paper) (defBody st_l_is_paper) (defScope st_l_is_paper) .none kV_l_is_paper dc_l_is_paper pm_l_is_paper an_l_is_paper cd_l_is_paper ct_l_is_paper), sl_l_is_paper⟩)
    (c_l_is_paper : PySem.W.codeIn K cd_l_is_paper "_law_is_paper" = true)
    (k_l_is_paper : PySem.W.keepIn K (.ref f_l_is_paper) = true)
    (a_l_with_it : PySem.W.nsIn K mainGlobals "_law_with_it" = some (some (.ref f_l_with_it)))
    (l_l_with_it : K.lookup f_l_with_it = some ⟨oc_l_with_it, od_l_with_it, .func (PySem.W.fnOf "_law_with_it" "_law_with_it" (defArgs st_l_with_it) (defBody st_l_with_it) (defScope st_l_with_it) .none kV_l_with_it dc_l_with_it pm_l_with_it an_l_with_it cd_l_with_it ct_l_with_it), sl_l_with_it⟩)
    (c_l_with_it : PySem.W.codeIn K cd_l_with_it "_law_with_it" = true)
    (k_l_with_it : PySem.W.keepIn K (.ref f_l_with_it) = true)
    (a_l_without_it : PySem.W.nsIn K mainGlobals "_law_without_it" = some (some (.ref f_l_without_it)))
    (l_l_without_it : K.lookup f_l_without_it = some ⟨oc_l_without_it, od_l_without_it, .func (PySem.W.fnOf "_law_without_it" "_law_without_it" (defArgs st_l_without_it) (defBody st_l_without_it) (defScope st_l_without_it) .none kV_l_without_it dc_l_without_it pm_l_without_it an_l_without_it cd_l_without_it ct_l_without_it), sl_l_without_it⟩)
    (c_l_without_it : PySem.W.codeIn K cd_l_without_it "_law_without_it" = true)
    (k_l_without_it : PySem.W.keepIn K (.ref f_l_without_it) = true)
    (a_l_bent : PySem.W.nsIn K mainGlobals "_law_bent" = some (some (.ref f_l_bent)))
    (l_l_bent : K.lookup f_l_bent = some ⟨oc_l_bent, od_l_bent, .func (PySem.W.fnOf "_law_bent" "_law_bent" (defArgs st_l_bent) (defBody st_l_bent) (defScope st_l_bent) .none kV_l_bent dc_l_bent pm_l_bent an_l_bent cd_l_bent ct_l_bent), sl_l_bent⟩)
    (c_l_bent : PySem.W.codeIn K cd_l_bent "_law_bent" = true)
    (k_l_bent : PySem.W.keepIn K (.ref f_l_bent) = true)
    (a_l_right : PySem.W.nsIn K mainGlobals "_law_right" = some (some (.ref f_l_right)))
    (l_l_right : K.lookup f_l_right = some ⟨oc_l_right, od_l_right, .func (PySem.W.fnOf "_law_right" "_law_right" (defArgs st_l_right) (defBody st_l_right) (defScope st_l_right) .none kV_l_right dc_l_right pm_l_right an_l_right cd_l_right ct_l_right), sl_l_right⟩)
    (c_l_right : PySem.W.codeIn K cd_l_right "_law_right" = true)
    (k_l_right : PySem.W.keepIn K (.ref f_l_right) = true)
    (a_law : PySem.W.nsIn K mainGlobals "law" = some (some (.ref f_law)))
    (l_law : K.lookup f_law = some ⟨oc_law, od_law, .func (PySem.W.fnOf "law" "law" (defArgs st_law) (defBody st_law) (defScope st_law) .none kV_law dc_law pm_law an_law cd_law ct_law), sl_law⟩)
    (c_law : PySem.W.codeIn K cd_law "law" = true)
    (k_law : PySem.W.keepIn K (.ref f_law) = true)
    (v_MOST_THINGS : PySem.W.nsIn K mainGlobals "MOST_THINGS" = some (some (.int 10 t_MOST_THINGS)))
    (v_MOST_PEOPLE : PySem.W.nsIn K mainGlobals "MOST_PEOPLE" = some (some (.int 24 t_MOST_PEOPLE)))
    (v_MOST_LOOKS : PySem.W.nsIn K mainGlobals "MOST_LOOKS" = some (some (.int 12 t_MOST_LOOKS)))
    (v_LETTERS : PySem.W.nsIn K mainGlobals "LETTERS" = some (some (.str "abcdefghijklmnopqrstuvwxyz" t_LETTERS)))
    (v_DIGITS : PySem.W.nsIn K mainGlobals "DIGITS" = some (some (.str "0123456789" t_DIGITS)))
    (v_LONGEST_NAME : PySem.W.nsIn K mainGlobals "LONGEST_NAME" = some (some (.int 8 t_LONGEST_NAME)))
    (v_MARKS : PySem.W.nsIn K mainGlobals "MARKS" = some (some (.str "+-?" t_MARKS)))
    (v_MOST_IN_CERTIFICATES : PySem.W.nsIn K mainGlobals "MOST_IN_CERTIFICATES" = some (some (.int 130 t_MOST_IN_CERTIFICATES)))
    (v_OF_LOOKS : PySem.W.nsIn K mainGlobals "OF_LOOKS" = some (some (.ref D_OF_LOOKS)))
    (kdl_OF_LOOKS : K.lookup D_OF_LOOKS = some ⟨.type "dict", none, .dict es_OF_LOOKS n_OF_LOOKS, #[]⟩)
    (kdk_OF_LOOKS : es_OF_LOOKS.toList.map He.keyOf = He.keysIn w.params ["fits", "unfit"])
    (kds_OF_LOOKS : (D_OF_LOOKS == sysModules) = false)
    (kdi_OF_LOOKS_fits : PySem.W.nsIn K D_OF_LOOKS "fits" = some (some (.ref f_shows_fits)))
    (kdi_OF_LOOKS_unfit : PySem.W.nsIn K D_OF_LOOKS "unfit" = some (some (.ref f_shows_unfit)))
    (kdn_OF_LOOKS_never : PySem.W.nsIn K D_OF_LOOKS "never" = some none)
    (kdn_OF_LOOKS_surely : PySem.W.nsIn K D_OF_LOOKS "surely" = some none)
    (kdn_OF_LOOKS_perhaps : PySem.W.nsIn K D_OF_LOOKS "perhaps" = some none)
    (v_OF_ANSWERS : PySem.W.nsIn K mainGlobals "OF_ANSWERS" = some (some (.ref D_OF_ANSWERS)))
    (kdl_OF_ANSWERS : K.lookup D_OF_ANSWERS = some ⟨.type "dict", none, .dict es_OF_ANSWERS n_OF_ANSWERS, #[]⟩)
    (kdk_OF_ANSWERS : es_OF_ANSWERS.toList.map He.keyOf = He.keysIn w.params ["never", "surely", "perhaps"])
    (kds_OF_ANSWERS : (D_OF_ANSWERS == sysModules) = false)
    (kdi_OF_ANSWERS_never : PySem.W.nsIn K D_OF_ANSWERS "never" = some (some (.ref f_shows_never)))
    (kdi_OF_ANSWERS_surely : PySem.W.nsIn K D_OF_ANSWERS "surely" = some (some (.ref f_shows_surely)))
    (kdi_OF_ANSWERS_perhaps : PySem.W.nsIn K D_OF_ANSWERS "perhaps" = some (some (.ref f_shows_perhaps)))
    (kdn_OF_ANSWERS_fits : PySem.W.nsIn K D_OF_ANSWERS "fits" = some none)
    (kdn_OF_ANSWERS_unfit : PySem.W.nsIn K D_OF_ANSWERS "unfit" = some none)
    (z_len : PySem.W.nsIn K mainGlobals "len" = some none)
    (z_isinstance : PySem.W.nsIn K mainGlobals "isinstance" = some none)
    (z_all : PySem.W.nsIn K mainGlobals "all" = some none)
    (z_any : PySem.W.nsIn K mainGlobals "any" = some none)
    (z_enumerate : PySem.W.nsIn K mainGlobals "enumerate" = some none)
    (z_tuple : PySem.W.nsIn K mainGlobals "tuple" = some none)
    (z_sorted : PySem.W.nsIn K mainGlobals "sorted" = some none)
    (z_abs : PySem.W.nsIn K mainGlobals "abs" = some none)
    (z_int : PySem.W.nsIn K mainGlobals "int" = some none)
    (z_divmod : PySem.W.nsIn K mainGlobals "divmod" = some none)
    (z_range : PySem.W.nsIn K mainGlobals "range" = some none)
    (z_list : PySem.W.nsIn K mainGlobals "list" = some none)
    (z_repr : PySem.W.nsIn K mainGlobals "repr" = some none)
    (z_max : PySem.W.nsIn K mainGlobals "max" = some none)
    (z_min : PySem.W.nsIn K mainGlobals "min" = some none)
    (z_str : PySem.W.nsIn K mainGlobals "str" = some none)
    (z_bool : PySem.W.nsIn K mainGlobals "bool" = some none)
    (z_zip : PySem.W.nsIn K mainGlobals "zip" = some none)
    (z_set : PySem.W.nsIn K mainGlobals "set" = some none) : ∃ T : Tx K mg w, T.a_law = fa := by
  have e := hfa.symm.trans (PySem.W.mg_of X G a_law)
  cases e
  exact ⟨{
    a_is_tuple_of := f_is_tuple_of
    fd_is_tuple_of := _
    F_is_tuple_of := fun_mk (st := st_is_tuple_of) l_is_tuple_of c_is_tuple_of k_is_tuple_of
    b_is_tuple_of := (fun_mk (st := st_is_tuple_of) l_is_tuple_of c_is_tuple_of k_is_tuple_of).binds (ps := ["value", "many"]) fun _ _ _ _ _ _ us hl => match us, hl with | [_, _], _ => rfl
    g_is_tuple_of := PySem.W.mg_of X G a_is_tuple_of
    a_is_name := f_is_name
    fd_is_name := _
    F_is_name := fun_mk (st := st_is_name) l_is_name c_is_name k_is_name
    b_is_name := (fun_mk (st := st_is_name) l_is_name c_is_name k_is_name).binds (ps := ["value"]) fun _ _ _ _ _ _ us hl => match us, hl with | [_], _ => rfl
    g_is_name := PySem.W.mg_of X G a_is_name
    a_is_one_of := f_is_one_of
    fd_is_one_of := _
    F_is_one_of := fun_mk (st := st_is_one_of) l_is_one_of c_is_one_of k_is_one_of
    b_is_one_of := (fun_mk (st := st_is_one_of) l_is_one_of c_is_one_of k_is_one_of).binds (ps := ["value", "things"]) fun _ _ _ _ _ _ us hl => match us, hl with | [_, _], _ => rfl
    g_is_one_of := PySem.W.mg_of X G a_is_one_of
    a_is_ascending := f_is_ascending
    fd_is_ascending := _
    F_is_ascending := fun_mk (st := st_is_ascending) l_is_ascending c_is_ascending k_is_ascending
    b_is_ascending := (fun_mk (st := st_is_ascending) l_is_ascending c_is_ascending k_is_ascending).binds (ps := ["row"]) fun _ _ _ _ _ _ us hl => match us, hl with | [_], _ => rfl
    g_is_ascending := PySem.W.mg_of X G a_is_ascending
    a_is_part := f_is_part
    fd_is_part := _
    F_is_part := fun_mk (st := st_is_part) l_is_part c_is_part k_is_part
    b_is_part := (fun_mk (st := st_is_part) l_is_part c_is_part k_is_part).binds (ps := ["names", "others"]) fun _ _ _ _ _ _ us hl => match us, hl with | [_, _], _ => rfl
    g_is_part := PySem.W.mg_of X G a_is_part
    a_are_things := f_are_things
    fd_are_things := _
    F_are_things := fun_mk (st := st_are_things) l_are_things c_are_things k_are_things
    b_are_things := (fun_mk (st := st_are_things) l_are_things c_are_things k_are_things).binds (ps := ["value"]) fun _ _ _ _ _ _ us hl => match us, hl with | [_], _ => rfl
    g_are_things := PySem.W.mg_of X G a_are_things
    a_is_set := f_is_set
    fd_is_set := _
    F_is_set := fun_mk (st := st_is_set) l_is_set c_is_set k_is_set
    b_is_set := (fun_mk (st := st_is_set) l_is_set c_is_set k_is_set).binds (ps := ["value", "things"]) fun _ _ _ _ _ _ us hl => match us, hl with | [_, _], _ => rfl
    g_is_set := PySem.W.mg_of X G a_is_set
    a_is_menu := f_is_menu
    fd_is_menu := _
    F_is_menu := fun_mk (st := st_is_menu) l_is_menu c_is_menu k_is_menu
    b_is_menu := (fun_mk (st := st_is_menu) l_is_menu c_is_menu k_is_menu).binds (ps := ["value", "things"]) fun _ _ _ _ _ _ us hl => match us, hl with | [_, _], _ => rfl
    g_is_menu := PySem.W.mg_of X G a_is_menu
    a_row_of := f_row_of
    fd_row_of := _
    F_row_of := fun_mk (st := st_row_of) l_row_of c_row_of k_row_of
    b_row_of := (fun_mk (st := st_row_of) l_row_of c_row_of k_row_of).binds (ps := ["text"]) fun _ _ _ _ _ _ us hl => match us, hl with | [_], _ => rfl
    g_row_of := PySem.W.mg_of X G a_row_of
    a_look_of := f_look_of
    fd_look_of := _
    F_look_of := fun_mk (st := st_look_of) l_look_of c_look_of k_look_of
    b_look_of := (fun_mk (st := st_look_of) l_look_of c_look_of k_look_of).binds (ps := ["text", "things"]) fun _ _ _ _ _ _ us hl => match us, hl with | [_, _], _ => rfl
    g_look_of := PySem.W.mg_of X G a_look_of
    a_looks_of := f_looks_of
    fd_looks_of := _
    F_looks_of := fun_mk (st := st_looks_of) l_looks_of c_looks_of k_looks_of
    b_looks_of := (fun_mk (st := st_looks_of) l_looks_of c_looks_of k_looks_of).binds (ps := ["value", "things"]) fun _ _ _ _ _ _ us hl => match us, hl with | [_, _], _ => rfl
    g_looks_of := PySem.W.mg_of X G a_looks_of
    a_best := f_best
    fd_best := _
    F_best := fun_mk (st := st_best) l_best c_best k_best
    b_best := (fun_mk (st := st_best) l_best c_best k_best).binds (ps := ["row", "menu"]) fun _ _ _ _ _ _ us hl => match us, hl with | [_, _], _ => rfl
    g_best := PySem.W.mg_of X G a_best
    a_takes := f_takes
    fd_takes := _
    F_takes := fun_mk (st := st_takes) l_takes c_takes k_takes
    b_takes := (fun_mk (st := st_takes) l_takes c_takes k_takes).binds (ps := ["rows", "menu", "thing"]) fun _ _ _ _ _ _ us hl => match us, hl with | [_, _, _], _ => rfl
    g_takes := PySem.W.mg_of X G a_takes
    a_has := f_has
    fd_has := _
    F_has := fun_mk (st := st_has) l_has c_has k_has
    b_has := (fun_mk (st := st_has) l_has c_has k_has).binds (ps := ["rows", "look"]) fun _ _ _ _ _ _ us hl => match us, hl with | [_, _], _ => rfl
    g_has := PySem.W.mg_of X G a_has
    a_people_who_fit := f_people_who_fit
    fd_people_who_fit := _
    F_people_who_fit := fun_mk (st := st_people_who_fit) l_people_who_fit c_people_who_fit k_people_who_fit
    b_people_who_fit := (fun_mk (st := st_people_who_fit) l_people_who_fit c_people_who_fit k_people_who_fit).binds (ps := ["value", "things", "looks"]) fun _ _ _ _ _ _ us hl => match us, hl with | [_, _, _], _ => rfl
    g_people_who_fit := PySem.W.mg_of X G a_people_who_fit
    a_shows_perhaps := f_shows_perhaps
    fd_shows_perhaps := _
    F_shows_perhaps := fun_mk (st := st_shows_perhaps) l_shows_perhaps c_shows_perhaps k_shows_perhaps
    b_shows_perhaps := (fun_mk (st := st_shows_perhaps) l_shows_perhaps c_shows_perhaps k_shows_perhaps).binds (ps := ["things", "looks", "menu", "thing", "certificate"]) fun _ _ _ _ _ _ us hl => match us, hl with | [_, _, _, _, _], _ => rfl
    g_shows_perhaps := PySem.W.mg_of X G a_shows_perhaps
    a_accepts_of_answers := f_accepts_of_answers
    fd_accepts_of_answers := _
    F_accepts_of_answers := fun_mk (st := st_accepts_of_answers) l_accepts_of_answers c_accepts_of_answers k_accepts_of_answers
    b_accepts_of_answers := (fun_mk (st := st_accepts_of_answers) l_accepts_of_answers c_accepts_of_answers k_accepts_of_answers).binds (ps := ["word", "things", "texts", "menu", "thing", "certificate"]) fun _ _ _ _ _ _ us hl => match us, hl with | [_, _, _, _, _, _], _ => rfl
    g_accepts_of_answers := PySem.W.mg_of X G a_accepts_of_answers
    a_accepts := f_accepts
    fd_accepts := _
    F_accepts := fun_mk (st := st_accepts) l_accepts c_accepts k_accepts
    b_accepts := (fun_mk (st := st_accepts) l_accepts c_accepts k_accepts).binds (ps := ["claim", "certificate"]) fun _ _ _ _ _ _ us hl => match us, hl with | [_, _], _ => rfl
    g_accepts := PySem.W.mg_of X G a_accepts
    kb_accepts := ⟨fun _ us ws _ l1 l2 => match us, l1, ws, l2 with | [], _, [_, _], _ => .of_eq rfl, fun r1 r2 => r1.append r2⟩
    a_l_pot := f_l_pot
    fd_l_pot := _
    F_l_pot := fun_mk (st := st_l_pot) l_l_pot c_l_pot k_l_pot
    b_l_pot := (fun_mk (st := st_l_pot) l_l_pot c_l_pot k_l_pot).binds (ps := ["_law_script", "_law_k"]) fun _ _ _ _ _ _ us hl => match us, hl with | [_, _], _ => rfl
    g_l_pot := PySem.W.mg_of X G a_l_pot
    a_l_draw := f_l_draw
    fd_l_draw := _
    F_l_draw := fun_mk (st := st_l_draw) l_l_draw c_l_draw k_l_draw
    b_l_draw := (fun_mk (st := st_l_draw) l_l_draw c_l_draw k_l_draw).binds (ps := ["_law_pot_here", "_law_many"]) fun _ _ _ _ _ _ us hl => match us, hl with | [_, _], _ => rfl
    g_l_draw := PySem.W.mg_of X G a_l_draw
    a_l_names := f_l_names
    fd_l_names := _
    F_l_names := fun_mk (st := st_l_names) l_l_names c_l_names k_l_names
    b_l_names := (fun_mk (st := st_l_names) l_l_names c_l_names k_l_names).binds (ps := ["_law_pot_here", "_law_many"]) fun _ _ _ _ _ _ us hl => match us, hl with | [_, _], _ => rfl
    g_l_names := PySem.W.mg_of X G a_l_names
    a_l_things := f_l_things
    fd_l_things := _
    F_l_things := fun_mk (st := st_l_things) l_l_things c_l_things k_l_things
    b_l_things := (fun_mk (st := st_l_things) l_l_things c_l_things k_l_things).binds (ps := ["_law_pot_here"]) fun _ _ _ _ _ _ us hl => match us, hl with | [_], _ => rfl
    g_l_things := PySem.W.mg_of X G a_l_things
    a_l_shuffled := f_l_shuffled
    fd_l_shuffled := _
    F_l_shuffled := fun_mk (st := st_l_shuffled) l_l_shuffled c_l_shuffled k_l_shuffled
    b_l_shuffled := (fun_mk (st := st_l_shuffled) l_l_shuffled c_l_shuffled k_l_shuffled).binds (ps := ["_law_pot_here", "_law_things_here"]) fun _ _ _ _ _ _ us hl => match us, hl with | [_, _], _ => rfl
    g_l_shuffled := PySem.W.mg_of X G a_l_shuffled
    a_l_ascending := f_l_ascending
    fd_l_ascending := _
    F_l_ascending := fun_mk (st := st_l_ascending) l_l_ascending c_l_ascending k_l_ascending
    b_l_ascending := (fun_mk (st := st_l_ascending) l_l_ascending c_l_ascending k_l_ascending).binds (ps := ["_law_rows_here"]) fun _ _ _ _ _ _ us hl => match us, hl with | [_], _ => rfl
    g_l_ascending := PySem.W.mg_of X G a_l_ascending
    a_l_rows := f_l_rows
    fd_l_rows := _
    F_l_rows := fun_mk (st := st_l_rows) l_l_rows c_l_rows k_l_rows
    b_l_rows := (fun_mk (st := st_l_rows) l_l_rows c_l_rows k_l_rows).binds (ps := ["_law_pot_here", "_law_things_here", "_law_most"]) fun _ _ _ _ _ _ us hl => match us, hl with | [_, _, _], _ => rfl
    g_l_rows := PySem.W.mg_of X G a_l_rows
    a_l_taken := f_l_taken
    fd_l_taken := _
    F_l_taken := fun_mk (st := st_l_taken) l_l_taken c_l_taken k_l_taken
    b_l_taken := (fun_mk (st := st_l_taken) l_l_taken c_l_taken k_l_taken).binds (ps := ["_law_rows_here", "_law_menu_here"]) fun _ _ _ _ _ _ us hl => match us, hl with | [_, _], _ => rfl
    g_l_taken := PySem.W.mg_of X G a_l_taken
    a_l_menu := f_l_menu
    fd_l_menu := _
    F_l_menu := fun_mk (st := st_l_menu) l_l_menu c_l_menu k_l_menu
    b_l_menu := (fun_mk (st := st_l_menu) l_l_menu c_l_menu k_l_menu).binds (ps := ["_law_pot_here", "_law_things_here"]) fun _ _ _ _ _ _ us hl => match us, hl with | [_, _], _ => rfl
    g_l_menu := PySem.W.mg_of X G a_l_menu
    a_l_seen := f_l_seen
    fd_l_seen := _
    F_l_seen := fun_mk (st := st_l_seen) l_l_seen c_l_seen k_l_seen
    b_l_seen := (fun_mk (st := st_l_seen) l_l_seen c_l_seen k_l_seen).binds (ps := ["_law_pot_here", "_law_menu_here", "_law_rows_here"]) fun _ _ _ _ _ _ us hl => match us, hl with | [_, _, _], _ => rfl
    g_l_seen := PySem.W.mg_of X G a_l_seen
    a_l_any_marks := f_l_any_marks
    fd_l_any_marks := _
    F_l_any_marks := fun_mk (st := st_l_any_marks) l_l_any_marks c_l_any_marks k_l_any_marks
    b_l_any_marks := (fun_mk (st := st_l_any_marks) l_l_any_marks c_l_any_marks k_l_any_marks).binds (ps := ["_law_pot_here", "_law_menu_here"]) fun _ _ _ _ _ _ us hl => match us, hl with | [_, _], _ => rfl
    g_l_any_marks := PySem.W.mg_of X G a_l_any_marks
    a_l_looks := f_l_looks
    fd_l_looks := _
    F_l_looks := fun_mk (st := st_l_looks) l_l_looks c_l_looks k_l_looks
    b_l_looks := (fun_mk (st := st_l_looks) l_l_looks c_l_looks k_l_looks).binds (ps := ["_law_pot_here", "_law_things_here", "_law_rows_here", "_law_most"]) fun _ _ _ _ _ _ us hl => match us, hl with | [_, _, _, _], _ => rfl
    g_l_looks := PySem.W.mg_of X G a_l_looks
    a_l_look_text := f_l_look_text
    fd_l_look_text := _
    F_l_look_text := fun_mk (st := st_l_look_text) l_l_look_text c_l_look_text k_l_look_text
    b_l_look_text := (fun_mk (st := st_l_look_text) l_l_look_text c_l_look_text k_l_look_text).binds (ps := ["_law_look"]) fun _ _ _ _ _ _ us hl => match us, hl with | [_], _ => rfl
    g_l_look_text := PySem.W.mg_of X G a_l_look_text
    a_l_marked := f_l_marked
    fd_l_marked := _
    F_l_marked := fun_mk (st := st_l_marked) l_l_marked c_l_marked k_l_marked
    b_l_marked := (fun_mk (st := st_l_marked) l_l_marked c_l_marked k_l_marked).binds (ps := ["_law_look", "_law_mark"]) fun _ _ _ _ _ _ us hl => match us, hl with | [_, _], _ => rfl
    g_l_marked := PySem.W.mg_of X G a_l_marked
    a_l_fit := f_l_fit
    fd_l_fit := _
    F_l_fit := fun_mk (st := st_l_fit) l_l_fit c_l_fit k_l_fit
    b_l_fit := (fun_mk (st := st_l_fit) l_l_fit c_l_fit k_l_fit).binds (ps := ["_law_people", "_law_things_here", "_law_looks_here"]) fun _ _ _ _ _ _ us hl => match us, hl with | [_, _, _], _ => rfl
    g_l_fit := PySem.W.mg_of X G a_l_fit
    a_l_needs := f_l_needs
    fd_l_needs := _
    F_l_needs := fun_mk (st := st_l_needs) l_l_needs c_l_needs k_l_needs
    b_l_needs := (fun_mk (st := st_l_needs) l_l_needs c_l_needs k_l_needs).binds (ps := ["_law_looks_here"]) fun _ _ _ _ _ _ us hl => match us, hl with | [_], _ => rfl
    g_l_needs := PySem.W.mg_of X G a_l_needs
    a_l_sharpened := f_l_sharpened
    fd_l_sharpened := _
    F_l_sharpened := fun_mk (st := st_l_sharpened) l_l_sharpened c_l_sharpened k_l_sharpened
    b_l_sharpened := (fun_mk (st := st_l_sharpened) l_l_sharpened c_l_sharpened k_l_sharpened).binds (ps := ["_law_looks_here", "_law_need"]) fun _ _ _ _ _ _ us hl => match us, hl with | [_, _], _ => rfl
    g_l_sharpened := PySem.W.mg_of X G a_l_sharpened
    a_l_let := f_l_let
    fd_l_let := _
    F_l_let := fun_mk (st := st_l_let) l_l_let c_l_let k_l_let
    b_l_let := (fun_mk (st := st_l_let) l_l_let c_l_let k_l_let).binds (ps := ["_law_things_here", "_law_pairs"]) fun _ _ _ _ _ _ us hl => match us, hl with | [_, _], _ => rfl
    g_l_let := PySem.W.mg_of X G a_l_let
    a_l_bent_text := f_l_bent_text
    fd_l_bent_text := _
    F_l_bent_text := fun_mk (st := st_l_bent_text) l_l_bent_text c_l_bent_text k_l_bent_text
    b_l_bent_text := (fun_mk (st := st_l_bent_text) l_l_bent_text c_l_bent_text k_l_bent_text).binds (ps := ["_law_pot_here", "_law_text"]) fun _ _ _ _ _ _ us hl => match us, hl with | [_, _], _ => rfl
    g_l_bent_text := PySem.W.mg_of X G a_l_bent_text
    a_l_told := f_l_told
    fd_l_told := _
    F_l_told := fun_mk (st := st_l_told) l_l_told c_l_told k_l_told
    b_l_told := (fun_mk (st := st_l_told) l_l_told c_l_told k_l_told).binds (ps := ["_law_asked", "_law_paper", "_law_due"]) fun _ _ _ _ _ _ us hl => match us, hl with | [_, _, _], _ => rfl
    g_l_told := PySem.W.mg_of X G a_l_told
    a_l_is_paper := f_l_is_paper
    fd_l_is_paper := _
    F_l_is_paper := fun_mk (st := st_l_is_paper) l_l_is_paper c_l_is_paper k_l_is_paper
    b_l_is_paper := (fun_mk (st := st_l_is_paper) l_l_is_paper c_l_is_paper k_l_is_paper).binds (ps := ["_law_paper", "_law_things_here", "_law_looks_here", "_law_menu_here", "_law_thing"]) fun _ _ _ _ _ _ us hl => match us, hl with | [_, _, _, _, _], _ => rfl
    g_l_is_paper := PySem.W.mg_of X G a_l_is_paper
    a_l_with_it := f_l_with_it
    fd_l_with_it := _
    F_l_with_it := fun_mk (st := st_l_with_it) l_l_with_it c_l_with_it k_l_with_it
    b_l_with_it := (fun_mk (st := st_l_with_it) l_l_with_it c_l_with_it k_l_with_it).binds (ps := ["_law_things_here", "_law_looks_here", "_law_rows_here", "_law_menu_here", "_law_thing"]) fun _ _ _ _ _ _ us hl => match us, hl with | [_, _, _, _, _], _ => rfl
    g_l_with_it := PySem.W.mg_of X G a_l_with_it
    a_l_without_it := f_l_without_it
    fd_l_without_it := _
    F_l_without_it := fun_mk (st := st_l_without_it) l_l_without_it c_l_without_it k_l_without_it
    b_l_without_it := (fun_mk (st := st_l_without_it) l_l_without_it c_l_without_it k_l_without_it).binds (ps := ["_law_things_here", "_law_looks_here", "_law_rows_here", "_law_menu_here", "_law_thing"]) fun _ _ _ _ _ _ us hl => match us, hl with | [_, _, _, _, _], _ => rfl
    g_l_without_it := PySem.W.mg_of X G a_l_without_it
    a_l_bent := f_l_bent
    fd_l_bent := _
    F_l_bent := fun_mk (st := st_l_bent) l_l_bent c_l_bent k_l_bent
    b_l_bent := (fun_mk (st := st_l_bent) l_l_bent c_l_bent k_l_bent).binds (ps := ["_law_pot_here", "_law_paper", "_law_things_here"]) fun _ _ _ _ _ _ us hl => match us, hl with | [_, _, _], _ => rfl
    g_l_bent := PySem.W.mg_of X G a_l_bent
    a_l_right := f_l_right
    fd_l_right := _
    F_l_right := fun_mk (st := st_l_right) l_l_right c_l_right k_l_right
    b_l_right := (fun_mk (st := st_l_right) l_l_right c_l_right k_l_right).binds (ps := ["_law_pot_here"]) fun _ _ _ _ _ _ us hl => match us, hl with | [_], _ => rfl
    g_l_right := PySem.W.mg_of X G a_l_right
    a_law := fa
    fd_law := _
    F_law := fun_mk (st := st_law) l_law c_law k_law
    b_law := (fun_mk (st := st_law) l_law c_law k_law).binds (ps := ["_law_script"]) fun _ _ _ _ _ _ us hl => match us, hl with | [_], _ => rfl
    g_law := PySem.W.mg_of X G a_law
    g_MOST_THINGS := ⟨_, PySem.W.mg_of X G v_MOST_THINGS⟩
    g_MOST_PEOPLE := ⟨_, PySem.W.mg_of X G v_MOST_PEOPLE⟩
    g_MOST_LOOKS := ⟨_, PySem.W.mg_of X G v_MOST_LOOKS⟩
    g_LETTERS := ⟨_, PySem.W.mg_of X G v_LETTERS⟩
    g_DIGITS := ⟨_, PySem.W.mg_of X G v_DIGITS⟩
    g_LONGEST_NAME := ⟨_, PySem.W.mg_of X G v_LONGEST_NAME⟩
    g_MARKS := ⟨_, PySem.W.mg_of X G v_MARKS⟩
    g_MOST_IN_CERTIFICATES := ⟨_, PySem.W.mg_of X G v_MOST_IN_CERTIFICATES⟩
    D_OF_LOOKS := D_OF_LOOKS
    es_OF_LOOKS := es_OF_LOOKS
    n_OF_LOOKS := n_OF_LOOKS
    g_OF_LOOKS := PySem.W.mg_of X G v_OF_LOOKS
    kd_OF_LOOKS := ⟨kdl_OF_LOOKS, He.keysLit_of kdk_OF_LOOKS, kds_OF_LOOKS⟩
    ki_OF_LOOKS_fits := ⟨_, kdi_OF_LOOKS_fits⟩
    ki_OF_LOOKS_unfit := ⟨_, kdi_OF_LOOKS_unfit⟩
    kn_OF_LOOKS_never := kdn_OF_LOOKS_never
    kn_OF_LOOKS_surely := kdn_OF_LOOKS_surely
    kn_OF_LOOKS_perhaps := kdn_OF_LOOKS_perhaps
    D_OF_ANSWERS := D_OF_ANSWERS
    es_OF_ANSWERS := es_OF_ANSWERS
    n_OF_ANSWERS := n_OF_ANSWERS
    g_OF_ANSWERS := PySem.W.mg_of X G v_OF_ANSWERS
    kd_OF_ANSWERS := ⟨kdl_OF_ANSWERS, He.keysLit_of kdk_OF_ANSWERS, kds_OF_ANSWERS⟩
    ki_OF_ANSWERS_never := ⟨_, kdi_OF_ANSWERS_never⟩
    ki_OF_ANSWERS_surely := ⟨_, kdi_OF_ANSWERS_surely⟩
    ki_OF_ANSWERS_perhaps := kdi_OF_ANSWERS_perhaps
    kn_OF_ANSWERS_fits := kdn_OF_ANSWERS_fits
    kn_OF_ANSWERS_unfit := kdn_OF_ANSWERS_unfit
    n_len := PySem.W.mg_none_of X G z_len
    n_isinstance := PySem.W.mg_none_of X G z_isinstance
    n_all := PySem.W.mg_none_of X G z_all
    n_any := PySem.W.mg_none_of X G z_any
    n_enumerate := PySem.W.mg_none_of X G z_enumerate
    n_tuple := PySem.W.mg_none_of X G z_tuple
    n_sorted := PySem.W.mg_none_of X G z_sorted
    n_abs := PySem.W.mg_none_of X G z_abs
    n_int := PySem.W.mg_none_of X G z_int
    n_divmod := PySem.W.mg_none_of X G z_divmod
    n_range := PySem.W.mg_none_of X G z_range
    n_list := PySem.W.mg_none_of X G z_list
    n_repr := PySem.W.mg_none_of X G z_repr
    n_max := PySem.W.mg_none_of X G z_max
    n_min := PySem.W.mg_none_of X G z_min
    n_str := PySem.W.mg_none_of X G z_str
    n_bool := PySem.W.mg_none_of X G z_bool
    n_zip := PySem.W.mg_none_of X G z_zip
    n_set := PySem.W.mg_none_of X G z_set }, rfl⟩
end MH
noncomputable section
namespace MHead
open PySem PySem.W PySem.Calls PyProof.Rows HandSHeadRun MN MH
open L2 (defArgs defBody defScope inClass)
abbrev P0 : Program := PySem.Challenge.pw_menuhouses_k72_two_peoples_judged
abbrev R0 : OpenRow := OpenLaw.row PySem.Challenge.rw_menuhouses_k72_two_peoples_judged
def b0 : List Stmt := behindTheImports P0
def env0 : Env := { scope := P0.main.scope, locals := mainNs, globals := mainNs, cells := [], code := (@Value.ref (nat_lit 13)), frame := some (nat_lit 14) }
abbrev c0 : Code := .body b0 env0
abbrev q0 : Pos := (@Pos.mk (nat_lit 0) (nat_lit 0) (nat_lit 0) (nat_lit 0))
def o11 (P : Params) : Obj := (@Obj.mk (@Value.type "tuple") none (@Data.seq (.mk []) (nat_lit 0)) (.mk []))
def o12 (P : Params) : Obj := (@Obj.mk Value.none none (@Data.fields (.mk [])) (.mk []))
def o13 (P : Params) : Obj := (@Obj.mk (@Value.type "code") none (@Data.fields (.mk [(@Value.str (@Str.ofString "<module>") (nat_lit 182)), (@Value.str (@Str.ofString "<module>") (nat_lit 183)), (@Value.str (@Str.ofString "/claim/cut.py") (nat_lit 184)), (@Value.int (.ofNat (nat_lit 1)) (nat_lit 0)), (@Value.int (.ofNat (nat_lit 0)) (nat_lit 0)), (@Value.int (.ofNat (nat_lit 0)) (nat_lit 0)), (@Value.int (.ofNat (nat_lit 0)) (nat_lit 0)), (@Value.int (.ofNat (nat_lit 0)) (nat_lit 0)), (@Value.ref (nat_lit 11)), (@Value.bool false), (@Value.int (.ofNat (nat_lit 181)) (nat_lit 0)), (@Value.ref (nat_lit 12)), Value.none, Value.none, Value.none, Value.none, (@Value.int (.ofNat (nat_lit 185)) (nat_lit 0)), (@Value.int (.ofNat (nat_lit 1)) (nat_lit 0)), (@Value.str (@Str.ofString "/claim/cut.py") (nat_lit 186))])) (.mk []))
def o14 (P : Params) : Obj := (@Obj.mk (@Value.type "frame") none Data.plain (.mk [(some (@Value.ref (nat_lit 13))), (some (@Value.ref (nat_lit 3))), (some (@Value.ref (nat_lit 3))), none, (some (@Value.str (@Str.ofString "__main__") (nat_lit 164))), none, (some (@Value.ref (nat_lit 0)))]))
def o3 (P : Params) : Obj := (@Obj.mk (@Value.type "dict") none (@Data.dict (.mk [(@DictEntry.mk (@PyData.keyHash P (@Str.ofString "__name__")) (@Value.str (@Str.ofString "__name__") (nat_lit 165)) (@Value.str (@Str.ofString "menuhouses.checker") (nat_lit 193))), (@DictEntry.mk (@PyData.keyHash P (@Str.ofString "__doc__")) (@Value.str (@Str.ofString "__doc__") (nat_lit 166)) Value.none), (@DictEntry.mk (@PyData.keyHash P (@Str.ofString "__package__")) (@Value.str (@Str.ofString "__package__") (nat_lit 167)) Value.none), (@DictEntry.mk (@PyData.keyHash P (@Str.ofString "__loader__")) (@Value.str (@Str.ofString "__loader__") (nat_lit 168)) (@Value.builtin "__main__.__loader__#opaque")), (@DictEntry.mk (@PyData.keyHash P (@Str.ofString "__spec__")) (@Value.str (@Str.ofString "__spec__") (nat_lit 169)) Value.none), (@DictEntry.mk (@PyData.keyHash P (@Str.ofString "__annotations__")) (@Value.str (@Str.ofString "__annotations__") (nat_lit 170)) (@Value.ref (nat_lit 6))), (@DictEntry.mk (@PyData.keyHash P (@Str.ofString "__builtins__")) (@Value.str (@Str.ofString "__builtins__") (nat_lit 171)) (@Value.ref (nat_lit 4))), (@DictEntry.mk (@PyData.keyHash P (@Str.ofString "__file__")) (@Value.str (@Str.ofString "__file__") (nat_lit 173)) (@Value.str (@Str.ofString "/claim/cut.py") (nat_lit 172))), (@DictEntry.mk (@PyData.keyHash P (@Str.ofString "__cached__")) (@Value.str (@Str.ofString "__cached__") (nat_lit 174)) Value.none), (@DictEntry.mk (@PyData.keyHash P (@Str.ofString "MOST_THINGS")) (@Value.str (@Str.ofString "MOST_THINGS") (nat_lit 188)) (@Value.int (.ofNat (nat_lit 10)) (nat_lit 187))), (@DictEntry.mk (@PyData.keyHash P (@Str.ofString "MOST_PEOPLE")) (@Value.str (@Str.ofString "MOST_PEOPLE") (nat_lit 190)) (@Value.int (.ofNat (nat_lit 24)) (nat_lit 189))), (@DictEntry.mk (@PyData.keyHash P (@Str.ofString "MOST_LOOKS")) (@Value.str (@Str.ofString "MOST_LOOKS") (nat_lit 192)) (@Value.int (.ofNat (nat_lit 12)) (nat_lit 191))), (@DictEntry.mk (@PyData.keyHash P (@Str.ofString "LETTERS")) (@Value.str (@Str.ofString "LETTERS") (nat_lit 196)) (@Value.str (@Str.ofString "abcdefghijklmnopqrstuvwxyz") (nat_lit 195))), (@DictEntry.mk (@PyData.keyHash P (@Str.ofString "DIGITS")) (@Value.str (@Str.ofString "DIGITS") (nat_lit 198)) (@Value.str (@Str.ofString "0123456789") (nat_lit 197))), (@DictEntry.mk (@PyData.keyHash P (@Str.ofString "LONGEST_NAME")) (@Value.str (@Str.ofString "LONGEST_NAME") (nat_lit 200)) (@Value.int (.ofNat (nat_lit 8)) (nat_lit 199))), (@DictEntry.mk (@PyData.keyHash P (@Str.ofString "MARKS")) (@Value.str (@Str.ofString "MARKS") (nat_lit 202)) (@Value.str (@Str.ofString "+-?") (nat_lit 201))), (@DictEntry.mk (@PyData.keyHash P (@Str.ofString "MOST_IN_CERTIFICATES")) (@Value.str (@Str.ofString "MOST_IN_CERTIFICATES") (nat_lit 204)) (@Value.int (.ofNat (nat_lit 130)) (nat_lit 203))), (@DictEntry.mk (@PyData.keyHash P (@Str.ofString "is_integer")) (@Value.str (@Str.ofString "is_integer") (nat_lit 211)) (@Value.ref (nat_lit 21))), (@DictEntry.mk (@PyData.keyHash P (@Str.ofString "is_index")) (@Value.str (@Str.ofString "is_index") (nat_lit 219)) (@Value.ref (nat_lit 28))), (@DictEntry.mk (@PyData.keyHash P (@Str.ofString "is_tuple_of")) (@Value.str (@Str.ofString "is_tuple_of") (nat_lit 227)) (@Value.ref (nat_lit 35))), (@DictEntry.mk (@PyData.keyHash P (@Str.ofString "is_name")) (@Value.str (@Str.ofString "is_name") (nat_lit 233)) (@Value.ref (nat_lit 40))), (@DictEntry.mk (@PyData.keyHash P (@Str.ofString "is_one_of")) (@Value.str (@Str.ofString "is_one_of") (nat_lit 241)) (@Value.ref (nat_lit 47))), (@DictEntry.mk (@PyData.keyHash P (@Str.ofString "is_ascending")) (@Value.str (@Str.ofString "is_ascending") (nat_lit 247)) (@Value.ref (nat_lit 52))), (@DictEntry.mk (@PyData.keyHash P (@Str.ofString "is_part")) (@Value.str (@Str.ofString "is_part") (nat_lit 253)) (@Value.ref (nat_lit 57))), (@DictEntry.mk (@PyData.keyHash P (@Str.ofString "are_things")) (@Value.str (@Str.ofString "are_things") (nat_lit 259)) (@Value.ref (nat_lit 62))), (@DictEntry.mk (@PyData.keyHash P (@Str.ofString "is_set")) (@Value.str (@Str.ofString "is_set") (nat_lit 265)) (@Value.ref (nat_lit 67))), (@DictEntry.mk (@PyData.keyHash P (@Str.ofString "is_menu")) (@Value.str (@Str.ofString "is_menu") (nat_lit 273)) (@Value.ref (nat_lit 74))), (@DictEntry.mk (@PyData.keyHash P (@Str.ofString "without")) (@Value.str (@Str.ofString "without") (nat_lit 279)) (@Value.ref (nat_lit 79))), (@DictEntry.mk (@PyData.keyHash P (@Str.ofString "row_of")) (@Value.str (@Str.ofString "row_of") (nat_lit 285)) (@Value.ref (nat_lit 84))), (@DictEntry.mk (@PyData.keyHash P (@Str.ofString "house_of_text")) (@Value.str (@Str.ofString "house_of_text") (nat_lit 291)) (@Value.ref (nat_lit 89))), (@DictEntry.mk (@PyData.keyHash P (@Str.ofString "look_of")) (@Value.str (@Str.ofString "look_of") (nat_lit 297)) (@Value.ref (nat_lit 94))), (@DictEntry.mk (@PyData.keyHash P (@Str.ofString "looks_of")) (@Value.str (@Str.ofString "looks_of") (nat_lit 303)) (@Value.ref (nat_lit 99))), (@DictEntry.mk (@PyData.keyHash P (@Str.ofString "best")) (@Value.str (@Str.ofString "best") (nat_lit 309)) (@Value.ref (nat_lit 104))), (@DictEntry.mk (@PyData.keyHash P (@Str.ofString "takes")) (@Value.str (@Str.ofString "takes") (nat_lit 315)) (@Value.ref (nat_lit 109))), (@DictEntry.mk (@PyData.keyHash P (@Str.ofString "has")) (@Value.str (@Str.ofString "has") (nat_lit 321)) (@Value.ref (nat_lit 114))), (@DictEntry.mk (@PyData.keyHash P (@Str.ofString "people_who_fit")) (@Value.str (@Str.ofString "people_who_fit") (nat_lit 327)) (@Value.ref (nat_lit 119))), (@DictEntry.mk (@PyData.keyHash P (@Str.ofString "is_barred")) (@Value.str (@Str.ofString "is_barred") (nat_lit 333)) (@Value.ref (nat_lit 124))), (@DictEntry.mk (@PyData.keyHash P (@Str.ofString "is_bar")) (@Value.str (@Str.ofString "is_bar") (nat_lit 339)) (@Value.ref (nat_lit 129))), (@DictEntry.mk (@PyData.keyHash P (@Str.ofString "sharpened")) (@Value.str (@Str.ofString "sharpened") (nat_lit 345)) (@Value.ref (nat_lit 134))), (@DictEntry.mk (@PyData.keyHash P (@Str.ofString "is_need_and_bar")) (@Value.str (@Str.ofString "is_need_and_bar") (nat_lit 356)) (@Value.ref (nat_lit 141))), (@DictEntry.mk (@PyData.keyHash P (@Str.ofString "shows_fits")) (@Value.str (@Str.ofString "shows_fits") (nat_lit 365)) (@Value.ref (nat_lit 148))), (@DictEntry.mk (@PyData.keyHash P (@Str.ofString "shows_unfit")) (@Value.str (@Str.ofString "shows_unfit") (nat_lit 374)) (@Value.ref (nat_lit 155))), (@DictEntry.mk (@PyData.keyHash P (@Str.ofString "shows_never")) (@Value.str (@Str.ofString "shows_never") (nat_lit 385)) (@Value.ref (nat_lit 162))), (@DictEntry.mk (@PyData.keyHash P (@Str.ofString "shows_surely")) (@Value.str (@Str.ofString "shows_surely") (nat_lit 396)) (@Value.ref (nat_lit 169))), (@DictEntry.mk (@PyData.keyHash P (@Str.ofString "shows_perhaps")) (@Value.str (@Str.ofString "shows_perhaps") (nat_lit 409)) (@Value.ref (nat_lit 176))), (@DictEntry.mk (@PyData.keyHash P (@Str.ofString "is_cover")) (@Value.str (@Str.ofString "is_cover") (nat_lit 415)) (@Value.ref (nat_lit 181))), (@DictEntry.mk (@PyData.keyHash P (@Str.ofString "are_covers")) (@Value.str (@Str.ofString "are_covers") (nat_lit 421)) (@Value.ref (nat_lit 186))), (@DictEntry.mk (@PyData.keyHash P (@Str.ofString "shows_within")) (@Value.str (@Str.ofString "shows_within") (nat_lit 430)) (@Value.ref (nat_lit 193))), (@DictEntry.mk (@PyData.keyHash P (@Str.ofString "shows_alike")) (@Value.str (@Str.ofString "shows_alike") (nat_lit 439)) (@Value.ref (nat_lit 200))), (@DictEntry.mk (@PyData.keyHash P (@Str.ofString "shows_apart")) (@Value.str (@Str.ofString "shows_apart") (nat_lit 450)) (@Value.ref (nat_lit 207))), (@DictEntry.mk (@PyData.keyHash P (@Str.ofString "shows_common")) (@Value.str (@Str.ofString "shows_common") (nat_lit 460)) (@Value.ref (nat_lit 214))), (@DictEntry.mk (@PyData.keyHash P (@Str.ofString "shows_foreign")) (@Value.str (@Str.ofString "shows_foreign") (nat_lit 466)) (@Value.ref (nat_lit 219))), (@DictEntry.mk (@PyData.keyHash P (@Str.ofString "is_crest")) (@Value.str (@Str.ofString "is_crest") (nat_lit 472)) (@Value.ref (nat_lit 224))), (@DictEntry.mk (@PyData.keyHash P (@Str.ofString "are_loose")) (@Value.str (@Str.ofString "are_loose") (nat_lit 478)) (@Value.ref (nat_lit 229))), (@DictEntry.mk (@PyData.keyHash P (@Str.ofString "shows_fewest")) (@Value.str (@Str.ofString "shows_fewest") (nat_lit 484)) (@Value.ref (nat_lit 234)))]) (nat_lit 55)) (.mk []))
def o12v1 (P : Params) : Obj := (@Obj.mk Value.none none (@Data.fields (.mk [(@Value.int (.ofNat (nat_lit 10)) (nat_lit 0)), (@Value.int (.ofNat (nat_lit 0)) (nat_lit 0)), (@Value.ref (nat_lit 20)), (@Value.int (.ofNat (nat_lit 12)) (nat_lit 0)), (@Value.int (.ofNat (nat_lit 0)) (nat_lit 0)), (@Value.ref (nat_lit 27)), (@Value.int (.ofNat (nat_lit 14)) (nat_lit 0)), (@Value.int (.ofNat (nat_lit 0)) (nat_lit 0)), (@Value.ref (nat_lit 34)), (@Value.int (.ofNat (nat_lit 16)) (nat_lit 0)), (@Value.int (.ofNat (nat_lit 0)) (nat_lit 0)), (@Value.ref (nat_lit 39)), (@Value.int (.ofNat (nat_lit 20)) (nat_lit 0)), (@Value.int (.ofNat (nat_lit 0)) (nat_lit 0)), (@Value.ref (nat_lit 46)), (@Value.int (.ofNat (nat_lit 22)) (nat_lit 0)), (@Value.int (.ofNat (nat_lit 0)) (nat_lit 0)), (@Value.ref (nat_lit 51)), (@Value.int (.ofNat (nat_lit 24)) (nat_lit 0)), (@Value.int (.ofNat (nat_lit 0)) (nat_lit 0)), (@Value.ref (nat_lit 56)), (@Value.int (.ofNat (nat_lit 26)) (nat_lit 0)), (@Value.int (.ofNat (nat_lit 0)) (nat_lit 0)), (@Value.ref (nat_lit 61)), (@Value.int (.ofNat (nat_lit 30)) (nat_lit 0)), (@Value.int (.ofNat (nat_lit 0)) (nat_lit 0)), (@Value.ref (nat_lit 66)), (@Value.int (.ofNat (nat_lit 32)) (nat_lit 0)), (@Value.int (.ofNat (nat_lit 0)) (nat_lit 0)), (@Value.ref (nat_lit 73)), (@Value.int (.ofNat (nat_lit 34)) (nat_lit 0)), (@Value.int (.ofNat (nat_lit 0)) (nat_lit 0)), (@Value.ref (nat_lit 78)), (@Value.int (.ofNat (nat_lit 36)) (nat_lit 0)), (@Value.int (.ofNat (nat_lit 0)) (nat_lit 0)), (@Value.ref (nat_lit 83)), (@Value.int (.ofNat (nat_lit 43)) (nat_lit 0)), (@Value.int (.ofNat (nat_lit 0)) (nat_lit 0)), (@Value.ref (nat_lit 88)), (@Value.int (.ofNat (nat_lit 50)) (nat_lit 0)), (@Value.int (.ofNat (nat_lit 0)) (nat_lit 0)), (@Value.ref (nat_lit 93)), (@Value.int (.ofNat (nat_lit 59)) (nat_lit 0)), (@Value.int (.ofNat (nat_lit 0)) (nat_lit 0)), (@Value.ref (nat_lit 98)), (@Value.int (.ofNat (nat_lit 64)) (nat_lit 0)), (@Value.int (.ofNat (nat_lit 0)) (nat_lit 0)), (@Value.ref (nat_lit 103)), (@Value.int (.ofNat (nat_lit 66)) (nat_lit 0)), (@Value.int (.ofNat (nat_lit 0)) (nat_lit 0)), (@Value.ref (nat_lit 108)), (@Value.int (.ofNat (nat_lit 68)) (nat_lit 0)), (@Value.int (.ofNat (nat_lit 0)) (nat_lit 0)), (@Value.ref (nat_lit 113)), (@Value.int (.ofNat (nat_lit 72)) (nat_lit 0)), (@Value.int (.ofNat (nat_lit 0)) (nat_lit 0)), (@Value.ref (nat_lit 118)), (@Value.int (.ofNat (nat_lit 79)) (nat_lit 0)), (@Value.int (.ofNat (nat_lit 0)) (nat_lit 0)), (@Value.ref (nat_lit 123)), (@Value.int (.ofNat (nat_lit 81)) (nat_lit 0)), (@Value.int (.ofNat (nat_lit 0)) (nat_lit 0)), (@Value.ref (nat_lit 128)), (@Value.int (.ofNat (nat_lit 83)) (nat_lit 0)), (@Value.int (.ofNat (nat_lit 0)) (nat_lit 0)), (@Value.ref (nat_lit 133)), (@Value.int (.ofNat (nat_lit 90)) (nat_lit 0)), (@Value.int (.ofNat (nat_lit 0)) (nat_lit 0)), (@Value.ref (nat_lit 140)), (@Value.int (.ofNat (nat_lit 95)) (nat_lit 0)), (@Value.int (.ofNat (nat_lit 0)) (nat_lit 0)), (@Value.ref (nat_lit 147)), (@Value.int (.ofNat (nat_lit 97)) (nat_lit 0)), (@Value.int (.ofNat (nat_lit 0)) (nat_lit 0)), (@Value.ref (nat_lit 154)), (@Value.int (.ofNat (nat_lit 99)) (nat_lit 0)), (@Value.int (.ofNat (nat_lit 0)) (nat_lit 0)), (@Value.ref (nat_lit 161)), (@Value.int (.ofNat (nat_lit 101)) (nat_lit 0)), (@Value.int (.ofNat (nat_lit 0)) (nat_lit 0)), (@Value.ref (nat_lit 168)), (@Value.int (.ofNat (nat_lit 105)) (nat_lit 0)), (@Value.int (.ofNat (nat_lit 0)) (nat_lit 0)), (@Value.ref (nat_lit 175)), (@Value.int (.ofNat (nat_lit 113)) (nat_lit 0)), (@Value.int (.ofNat (nat_lit 0)) (nat_lit 0)), (@Value.ref (nat_lit 180)), (@Value.int (.ofNat (nat_lit 117)) (nat_lit 0)), (@Value.int (.ofNat (nat_lit 0)) (nat_lit 0)), (@Value.ref (nat_lit 185)), (@Value.int (.ofNat (nat_lit 119)) (nat_lit 0)), (@Value.int (.ofNat (nat_lit 0)) (nat_lit 0)), (@Value.ref (nat_lit 192)), (@Value.int (.ofNat (nat_lit 121)) (nat_lit 0)), (@Value.int (.ofNat (nat_lit 0)) (nat_lit 0)), (@Value.ref (nat_lit 199)), (@Value.int (.ofNat (nat_lit 125)) (nat_lit 0)), (@Value.int (.ofNat (nat_lit 0)) (nat_lit 0)), (@Value.ref (nat_lit 206)), (@Value.int (.ofNat (nat_lit 132)) (nat_lit 0)), (@Value.int (.ofNat (nat_lit 0)) (nat_lit 0)), (@Value.ref (nat_lit 213)), (@Value.int (.ofNat (nat_lit 139)) (nat_lit 0)), (@Value.int (.ofNat (nat_lit 0)) (nat_lit 0)), (@Value.ref (nat_lit 218)), (@Value.int (.ofNat (nat_lit 143)) (nat_lit 0)), (@Value.int (.ofNat (nat_lit 0)) (nat_lit 0)), (@Value.ref (nat_lit 223)), (@Value.int (.ofNat (nat_lit 150)) (nat_lit 0)), (@Value.int (.ofNat (nat_lit 0)) (nat_lit 0)), (@Value.ref (nat_lit 228)), (@Value.int (.ofNat (nat_lit 153)) (nat_lit 0)), (@Value.int (.ofNat (nat_lit 0)) (nat_lit 0)), (@Value.ref (nat_lit 233))])) (.mk []))
def o15 (P : Params) : Obj := (@Obj.mk (@Value.type "tuple") none (@Data.seq (.mk []) (nat_lit 0)) (.mk []))
def o16 (P : Params) : Obj := (@Obj.mk Value.none none (@Data.fields (.mk [])) (.mk []))
def o17 (P : Params) : Obj := (@Obj.mk (@Value.type "tuple") none (@Data.seq (.mk [(@Value.str (@Str.ofString "value") (nat_lit 208))]) (nat_lit 0)) (.mk []))
def o18 (P : Params) : Obj := (@Obj.mk (@Value.type "tuple") none (@Data.seq (.mk []) (nat_lit 0)) (.mk []))
def o19 (P : Params) : Obj := (@Obj.mk Value.none none (@Data.func (@FuncData.mk (@Str.ofString "is_integer") (@Str.ofString "is_integer") (defArgs (topS 9)) (@FuncBody.stmts (defBody (topS 9))) (defScope (topS 9)) (nat_lit 0) [] Value.none Value.none Value.none Value.none none Value.none Value.none (nat_lit 0))) (.mk []))
def o20 (P : Params) : Obj := (@Obj.mk (@Value.type "code") none (@Data.fields (.mk [(@Value.str (@Str.ofString "is_integer") (nat_lit 205)), (@Value.str (@Str.ofString "is_integer") (nat_lit 206)), (@Value.str (@Str.ofString "/claim/cut.py") (nat_lit 207)), (@Value.int (.ofNat (nat_lit 10)) (nat_lit 0)), (@Value.int (.ofNat (nat_lit 1)) (nat_lit 0)), (@Value.int (.ofNat (nat_lit 0)) (nat_lit 0)), (@Value.int (.ofNat (nat_lit 0)) (nat_lit 0)), (@Value.int (.ofNat (nat_lit 3)) (nat_lit 0)), (@Value.ref (nat_lit 15)), (@Value.bool true), (@Value.int (.ofNat (nat_lit 181)) (nat_lit 0)), (@Value.ref (nat_lit 16)), Value.none, (@Value.ref (nat_lit 17)), (@Value.ref (nat_lit 18)), (@Value.ref (nat_lit 19)), (@Value.int (.ofNat (nat_lit 209)) (nat_lit 0)), (@Value.int (.ofNat (nat_lit 10)) (nat_lit 0)), (@Value.str (@Str.ofString "/claim/cut.py") (nat_lit 210))])) (.mk []))
def o21 (P : Params) : Obj := (@Obj.mk (@Value.type "function") none (@Data.func (@FuncData.mk (@Str.ofString "is_integer") (@Str.ofString "is_integer") (defArgs (topS 9)) (@FuncBody.stmts (defBody (topS 9))) (defScope (topS 9)) (nat_lit 3) [] Value.none Value.none Value.none (@Value.str (@Str.ofString "menuhouses.checker") (nat_lit 193)) none (@Value.ref (nat_lit 20)) Value.none (nat_lit 0))) (.mk []))
def o22 (P : Params) : Obj := (@Obj.mk (@Value.type "tuple") none (@Data.seq (.mk []) (nat_lit 0)) (.mk []))
def o23 (P : Params) : Obj := (@Obj.mk Value.none none (@Data.fields (.mk [])) (.mk []))
def o24 (P : Params) : Obj := (@Obj.mk (@Value.type "tuple") none (@Data.seq (.mk [(@Value.str (@Str.ofString "value") (nat_lit 215)), (@Value.str (@Str.ofString "rows") (nat_lit 216))]) (nat_lit 0)) (.mk []))
def o25 (P : Params) : Obj := (@Obj.mk (@Value.type "tuple") none (@Data.seq (.mk []) (nat_lit 0)) (.mk []))
def o26 (P : Params) : Obj := (@Obj.mk Value.none none (@Data.func (@FuncData.mk (@Str.ofString "is_index") (@Str.ofString "is_index") (defArgs (topS 10)) (@FuncBody.stmts (defBody (topS 10))) (defScope (topS 10)) (nat_lit 0) [] Value.none Value.none Value.none Value.none none Value.none Value.none (nat_lit 0))) (.mk []))
def o27 (P : Params) : Obj := (@Obj.mk (@Value.type "code") none (@Data.fields (.mk [(@Value.str (@Str.ofString "is_index") (nat_lit 212)), (@Value.str (@Str.ofString "is_index") (nat_lit 213)), (@Value.str (@Str.ofString "/claim/cut.py") (nat_lit 214)), (@Value.int (.ofNat (nat_lit 12)) (nat_lit 0)), (@Value.int (.ofNat (nat_lit 2)) (nat_lit 0)), (@Value.int (.ofNat (nat_lit 0)) (nat_lit 0)), (@Value.int (.ofNat (nat_lit 0)) (nat_lit 0)), (@Value.int (.ofNat (nat_lit 3)) (nat_lit 0)), (@Value.ref (nat_lit 22)), (@Value.bool true), (@Value.int (.ofNat (nat_lit 181)) (nat_lit 0)), (@Value.ref (nat_lit 23)), Value.none, (@Value.ref (nat_lit 24)), (@Value.ref (nat_lit 25)), (@Value.ref (nat_lit 26)), (@Value.int (.ofNat (nat_lit 217)) (nat_lit 0)), (@Value.int (.ofNat (nat_lit 12)) (nat_lit 0)), (@Value.str (@Str.ofString "/claim/cut.py") (nat_lit 218))])) (.mk []))
def o28 (P : Params) : Obj := (@Obj.mk (@Value.type "function") none (@Data.func (@FuncData.mk (@Str.ofString "is_index") (@Str.ofString "is_index") (defArgs (topS 10)) (@FuncBody.stmts (defBody (topS 10))) (defScope (topS 10)) (nat_lit 3) [] Value.none Value.none Value.none (@Value.str (@Str.ofString "menuhouses.checker") (nat_lit 193)) none (@Value.ref (nat_lit 27)) Value.none (nat_lit 0))) (.mk []))
def o29 (P : Params) : Obj := (@Obj.mk (@Value.type "tuple") none (@Data.seq (.mk []) (nat_lit 0)) (.mk []))
def o30 (P : Params) : Obj := (@Obj.mk Value.none none (@Data.fields (.mk [])) (.mk []))
def o31 (P : Params) : Obj := (@Obj.mk (@Value.type "tuple") none (@Data.seq (.mk [(@Value.str (@Str.ofString "value") (nat_lit 223)), (@Value.str (@Str.ofString "many") (nat_lit 224))]) (nat_lit 0)) (.mk []))
def o32 (P : Params) : Obj := (@Obj.mk (@Value.type "tuple") none (@Data.seq (.mk []) (nat_lit 0)) (.mk []))
def o33 (P : Params) : Obj := (@Obj.mk Value.none none (@Data.func (@FuncData.mk (@Str.ofString "is_tuple_of") (@Str.ofString "is_tuple_of") (defArgs (topS 11)) (@FuncBody.stmts (defBody (topS 11))) (defScope (topS 11)) (nat_lit 0) [] Value.none Value.none Value.none Value.none none Value.none Value.none (nat_lit 0))) (.mk []))
def o34 (P : Params) : Obj := (@Obj.mk (@Value.type "code") none (@Data.fields (.mk [(@Value.str (@Str.ofString "is_tuple_of") (nat_lit 220)), (@Value.str (@Str.ofString "is_tuple_of") (nat_lit 221)), (@Value.str (@Str.ofString "/claim/cut.py") (nat_lit 222)), (@Value.int (.ofNat (nat_lit 14)) (nat_lit 0)), (@Value.int (.ofNat (nat_lit 2)) (nat_lit 0)), (@Value.int (.ofNat (nat_lit 0)) (nat_lit 0)), (@Value.int (.ofNat (nat_lit 0)) (nat_lit 0)), (@Value.int (.ofNat (nat_lit 3)) (nat_lit 0)), (@Value.ref (nat_lit 29)), (@Value.bool true), (@Value.int (.ofNat (nat_lit 181)) (nat_lit 0)), (@Value.ref (nat_lit 30)), Value.none, (@Value.ref (nat_lit 31)), (@Value.ref (nat_lit 32)), (@Value.ref (nat_lit 33)), (@Value.int (.ofNat (nat_lit 225)) (nat_lit 0)), (@Value.int (.ofNat (nat_lit 14)) (nat_lit 0)), (@Value.str (@Str.ofString "/claim/cut.py") (nat_lit 226))])) (.mk []))
def o35 (P : Params) : Obj := (@Obj.mk (@Value.type "function") none (@Data.func (@FuncData.mk (@Str.ofString "is_tuple_of") (@Str.ofString "is_tuple_of") (defArgs (topS 11)) (@FuncBody.stmts (defBody (topS 11))) (defScope (topS 11)) (nat_lit 3) [] Value.none Value.none Value.none (@Value.str (@Str.ofString "menuhouses.checker") (nat_lit 193)) none (@Value.ref (nat_lit 34)) Value.none (nat_lit 0))) (.mk []))
def o36 (P : Params) : Obj := (@Obj.mk (@Value.type "tuple") none (@Data.seq (.mk []) (nat_lit 0)) (.mk []))
def o37 (P : Params) : Obj := (@Obj.mk Value.none none (@Data.fields (.mk [])) (.mk []))
def o38 (P : Params) : Obj := (@Obj.mk Value.none none (@Data.func (@FuncData.mk (@Str.ofString "is_name") (@Str.ofString "is_name") (defArgs (topS 12)) (@FuncBody.stmts (defBody (topS 12))) (defScope (topS 12)) (nat_lit 0) [] Value.none Value.none Value.none Value.none none Value.none Value.none (nat_lit 0))) (.mk []))
def o39 (P : Params) : Obj := (@Obj.mk (@Value.type "code") none (@Data.fields (.mk [(@Value.str (@Str.ofString "is_name") (nat_lit 228)), (@Value.str (@Str.ofString "is_name") (nat_lit 229)), (@Value.str (@Str.ofString "/claim/cut.py") (nat_lit 230)), (@Value.int (.ofNat (nat_lit 16)) (nat_lit 0)), (@Value.int (.ofNat (nat_lit 1)) (nat_lit 0)), (@Value.int (.ofNat (nat_lit 0)) (nat_lit 0)), (@Value.int (.ofNat (nat_lit 0)) (nat_lit 0)), (@Value.int (.ofNat (nat_lit 3)) (nat_lit 0)), (@Value.ref (nat_lit 36)), (@Value.bool true), (@Value.int (.ofNat (nat_lit 181)) (nat_lit 0)), (@Value.ref (nat_lit 37)), Value.none, Value.none, Value.none, (@Value.ref (nat_lit 38)), (@Value.int (.ofNat (nat_lit 231)) (nat_lit 0)), (@Value.int (.ofNat (nat_lit 16)) (nat_lit 0)), (@Value.str (@Str.ofString "/claim/cut.py") (nat_lit 232))])) (.mk []))
def o40 (P : Params) : Obj := (@Obj.mk (@Value.type "function") none (@Data.func (@FuncData.mk (@Str.ofString "is_name") (@Str.ofString "is_name") (defArgs (topS 12)) (@FuncBody.stmts (defBody (topS 12))) (defScope (topS 12)) (nat_lit 3) [] Value.none Value.none Value.none (@Value.str (@Str.ofString "menuhouses.checker") (nat_lit 193)) none (@Value.ref (nat_lit 39)) Value.none (nat_lit 0))) (.mk []))
def o41 (P : Params) : Obj := (@Obj.mk (@Value.type "tuple") none (@Data.seq (.mk []) (nat_lit 0)) (.mk []))
def o42 (P : Params) : Obj := (@Obj.mk Value.none none (@Data.fields (.mk [])) (.mk []))
def o43 (P : Params) : Obj := (@Obj.mk (@Value.type "tuple") none (@Data.seq (.mk [(@Value.str (@Str.ofString "value") (nat_lit 237)), (@Value.str (@Str.ofString "things") (nat_lit 238))]) (nat_lit 0)) (.mk []))
def o44 (P : Params) : Obj := (@Obj.mk (@Value.type "tuple") none (@Data.seq (.mk []) (nat_lit 0)) (.mk []))
def o45 (P : Params) : Obj := (@Obj.mk Value.none none (@Data.func (@FuncData.mk (@Str.ofString "is_one_of") (@Str.ofString "is_one_of") (defArgs (topS 13)) (@FuncBody.stmts (defBody (topS 13))) (defScope (topS 13)) (nat_lit 0) [] Value.none Value.none Value.none Value.none none Value.none Value.none (nat_lit 0))) (.mk []))
def o46 (P : Params) : Obj := (@Obj.mk (@Value.type "code") none (@Data.fields (.mk [(@Value.str (@Str.ofString "is_one_of") (nat_lit 234)), (@Value.str (@Str.ofString "is_one_of") (nat_lit 235)), (@Value.str (@Str.ofString "/claim/cut.py") (nat_lit 236)), (@Value.int (.ofNat (nat_lit 20)) (nat_lit 0)), (@Value.int (.ofNat (nat_lit 2)) (nat_lit 0)), (@Value.int (.ofNat (nat_lit 0)) (nat_lit 0)), (@Value.int (.ofNat (nat_lit 0)) (nat_lit 0)), (@Value.int (.ofNat (nat_lit 3)) (nat_lit 0)), (@Value.ref (nat_lit 41)), (@Value.bool true), (@Value.int (.ofNat (nat_lit 181)) (nat_lit 0)), (@Value.ref (nat_lit 42)), Value.none, (@Value.ref (nat_lit 43)), (@Value.ref (nat_lit 44)), (@Value.ref (nat_lit 45)), (@Value.int (.ofNat (nat_lit 239)) (nat_lit 0)), (@Value.int (.ofNat (nat_lit 20)) (nat_lit 0)), (@Value.str (@Str.ofString "/claim/cut.py") (nat_lit 240))])) (.mk []))
def o47 (P : Params) : Obj := (@Obj.mk (@Value.type "function") none (@Data.func (@FuncData.mk (@Str.ofString "is_one_of") (@Str.ofString "is_one_of") (defArgs (topS 13)) (@FuncBody.stmts (defBody (topS 13))) (defScope (topS 13)) (nat_lit 3) [] Value.none Value.none Value.none (@Value.str (@Str.ofString "menuhouses.checker") (nat_lit 193)) none (@Value.ref (nat_lit 46)) Value.none (nat_lit 0))) (.mk []))
def o48 (P : Params) : Obj := (@Obj.mk (@Value.type "tuple") none (@Data.seq (.mk []) (nat_lit 0)) (.mk []))
def o49 (P : Params) : Obj := (@Obj.mk Value.none none (@Data.fields (.mk [])) (.mk []))
def o50 (P : Params) : Obj := (@Obj.mk Value.none none (@Data.func (@FuncData.mk (@Str.ofString "is_ascending") (@Str.ofString "is_ascending") (defArgs (topS 14)) (@FuncBody.stmts (defBody (topS 14))) (defScope (topS 14)) (nat_lit 0) [] Value.none Value.none Value.none Value.none none Value.none Value.none (nat_lit 0))) (.mk []))
def o51 (P : Params) : Obj := (@Obj.mk (@Value.type "code") none (@Data.fields (.mk [(@Value.str (@Str.ofString "is_ascending") (nat_lit 242)), (@Value.str (@Str.ofString "is_ascending") (nat_lit 243)), (@Value.str (@Str.ofString "/claim/cut.py") (nat_lit 244)), (@Value.int (.ofNat (nat_lit 22)) (nat_lit 0)), (@Value.int (.ofNat (nat_lit 1)) (nat_lit 0)), (@Value.int (.ofNat (nat_lit 0)) (nat_lit 0)), (@Value.int (.ofNat (nat_lit 0)) (nat_lit 0)), (@Value.int (.ofNat (nat_lit 3)) (nat_lit 0)), (@Value.ref (nat_lit 48)), (@Value.bool true), (@Value.int (.ofNat (nat_lit 181)) (nat_lit 0)), (@Value.ref (nat_lit 49)), Value.none, Value.none, Value.none, (@Value.ref (nat_lit 50)), (@Value.int (.ofNat (nat_lit 245)) (nat_lit 0)), (@Value.int (.ofNat (nat_lit 22)) (nat_lit 0)), (@Value.str (@Str.ofString "/claim/cut.py") (nat_lit 246))])) (.mk []))
def o52 (P : Params) : Obj := (@Obj.mk (@Value.type "function") none (@Data.func (@FuncData.mk (@Str.ofString "is_ascending") (@Str.ofString "is_ascending") (defArgs (topS 14)) (@FuncBody.stmts (defBody (topS 14))) (defScope (topS 14)) (nat_lit 3) [] Value.none Value.none Value.none (@Value.str (@Str.ofString "menuhouses.checker") (nat_lit 193)) none (@Value.ref (nat_lit 51)) Value.none (nat_lit 0))) (.mk []))
def o53 (P : Params) : Obj := (@Obj.mk (@Value.type "tuple") none (@Data.seq (.mk []) (nat_lit 0)) (.mk []))
def o54 (P : Params) : Obj := (@Obj.mk Value.none none (@Data.fields (.mk [])) (.mk []))
def o55 (P : Params) : Obj := (@Obj.mk Value.none none (@Data.func (@FuncData.mk (@Str.ofString "is_part") (@Str.ofString "is_part") (defArgs (topS 15)) (@FuncBody.stmts (defBody (topS 15))) (defScope (topS 15)) (nat_lit 0) [] Value.none Value.none Value.none Value.none none Value.none Value.none (nat_lit 0))) (.mk []))
def o56 (P : Params) : Obj := (@Obj.mk (@Value.type "code") none (@Data.fields (.mk [(@Value.str (@Str.ofString "is_part") (nat_lit 248)), (@Value.str (@Str.ofString "is_part") (nat_lit 249)), (@Value.str (@Str.ofString "/claim/cut.py") (nat_lit 250)), (@Value.int (.ofNat (nat_lit 24)) (nat_lit 0)), (@Value.int (.ofNat (nat_lit 2)) (nat_lit 0)), (@Value.int (.ofNat (nat_lit 0)) (nat_lit 0)), (@Value.int (.ofNat (nat_lit 0)) (nat_lit 0)), (@Value.int (.ofNat (nat_lit 3)) (nat_lit 0)), (@Value.ref (nat_lit 53)), (@Value.bool true), (@Value.int (.ofNat (nat_lit 181)) (nat_lit 0)), (@Value.ref (nat_lit 54)), Value.none, Value.none, Value.none, (@Value.ref (nat_lit 55)), (@Value.int (.ofNat (nat_lit 251)) (nat_lit 0)), (@Value.int (.ofNat (nat_lit 24)) (nat_lit 0)), (@Value.str (@Str.ofString "/claim/cut.py") (nat_lit 252))])) (.mk []))
def o57 (P : Params) : Obj := (@Obj.mk (@Value.type "function") none (@Data.func (@FuncData.mk (@Str.ofString "is_part") (@Str.ofString "is_part") (defArgs (topS 15)) (@FuncBody.stmts (defBody (topS 15))) (defScope (topS 15)) (nat_lit 3) [] Value.none Value.none Value.none (@Value.str (@Str.ofString "menuhouses.checker") (nat_lit 193)) none (@Value.ref (nat_lit 56)) Value.none (nat_lit 0))) (.mk []))
def o58 (P : Params) : Obj := (@Obj.mk (@Value.type "tuple") none (@Data.seq (.mk []) (nat_lit 0)) (.mk []))
def o59 (P : Params) : Obj := (@Obj.mk Value.none none (@Data.fields (.mk [])) (.mk []))
def o60 (P : Params) : Obj := (@Obj.mk Value.none none (@Data.func (@FuncData.mk (@Str.ofString "are_things") (@Str.ofString "are_things") (defArgs (topS 16)) (@FuncBody.stmts (defBody (topS 16))) (defScope (topS 16)) (nat_lit 0) [] Value.none Value.none Value.none Value.none none Value.none Value.none (nat_lit 0))) (.mk []))
def o61 (P : Params) : Obj := (@Obj.mk (@Value.type "code") none (@Data.fields (.mk [(@Value.str (@Str.ofString "are_things") (nat_lit 254)), (@Value.str (@Str.ofString "are_things") (nat_lit 255)), (@Value.str (@Str.ofString "/claim/cut.py") (nat_lit 256)), (@Value.int (.ofNat (nat_lit 26)) (nat_lit 0)), (@Value.int (.ofNat (nat_lit 1)) (nat_lit 0)), (@Value.int (.ofNat (nat_lit 0)) (nat_lit 0)), (@Value.int (.ofNat (nat_lit 0)) (nat_lit 0)), (@Value.int (.ofNat (nat_lit 3)) (nat_lit 0)), (@Value.ref (nat_lit 58)), (@Value.bool true), (@Value.int (.ofNat (nat_lit 181)) (nat_lit 0)), (@Value.ref (nat_lit 59)), Value.none, Value.none, Value.none, (@Value.ref (nat_lit 60)), (@Value.int (.ofNat (nat_lit 257)) (nat_lit 0)), (@Value.int (.ofNat (nat_lit 26)) (nat_lit 0)), (@Value.str (@Str.ofString "/claim/cut.py") (nat_lit 258))])) (.mk []))
def o62 (P : Params) : Obj := (@Obj.mk (@Value.type "function") none (@Data.func (@FuncData.mk (@Str.ofString "are_things") (@Str.ofString "are_things") (defArgs (topS 16)) (@FuncBody.stmts (defBody (topS 16))) (defScope (topS 16)) (nat_lit 3) [] Value.none Value.none Value.none (@Value.str (@Str.ofString "menuhouses.checker") (nat_lit 193)) none (@Value.ref (nat_lit 61)) Value.none (nat_lit 0))) (.mk []))
def o63 (P : Params) : Obj := (@Obj.mk (@Value.type "tuple") none (@Data.seq (.mk []) (nat_lit 0)) (.mk []))
def o64 (P : Params) : Obj := (@Obj.mk Value.none none (@Data.fields (.mk [])) (.mk []))
def o65 (P : Params) : Obj := (@Obj.mk Value.none none (@Data.func (@FuncData.mk (@Str.ofString "is_set") (@Str.ofString "is_set") (defArgs (topS 17)) (@FuncBody.stmts (defBody (topS 17))) (defScope (topS 17)) (nat_lit 0) [] Value.none Value.none Value.none Value.none none Value.none Value.none (nat_lit 0))) (.mk []))
def o66 (P : Params) : Obj := (@Obj.mk (@Value.type "code") none (@Data.fields (.mk [(@Value.str (@Str.ofString "is_set") (nat_lit 260)), (@Value.str (@Str.ofString "is_set") (nat_lit 261)), (@Value.str (@Str.ofString "/claim/cut.py") (nat_lit 262)), (@Value.int (.ofNat (nat_lit 30)) (nat_lit 0)), (@Value.int (.ofNat (nat_lit 2)) (nat_lit 0)), (@Value.int (.ofNat (nat_lit 0)) (nat_lit 0)), (@Value.int (.ofNat (nat_lit 0)) (nat_lit 0)), (@Value.int (.ofNat (nat_lit 3)) (nat_lit 0)), (@Value.ref (nat_lit 63)), (@Value.bool true), (@Value.int (.ofNat (nat_lit 181)) (nat_lit 0)), (@Value.ref (nat_lit 64)), Value.none, Value.none, Value.none, (@Value.ref (nat_lit 65)), (@Value.int (.ofNat (nat_lit 263)) (nat_lit 0)), (@Value.int (.ofNat (nat_lit 30)) (nat_lit 0)), (@Value.str (@Str.ofString "/claim/cut.py") (nat_lit 264))])) (.mk []))
def o67 (P : Params) : Obj := (@Obj.mk (@Value.type "function") none (@Data.func (@FuncData.mk (@Str.ofString "is_set") (@Str.ofString "is_set") (defArgs (topS 17)) (@FuncBody.stmts (defBody (topS 17))) (defScope (topS 17)) (nat_lit 3) [] Value.none Value.none Value.none (@Value.str (@Str.ofString "menuhouses.checker") (nat_lit 193)) none (@Value.ref (nat_lit 66)) Value.none (nat_lit 0))) (.mk []))
def o68 (P : Params) : Obj := (@Obj.mk (@Value.type "tuple") none (@Data.seq (.mk []) (nat_lit 0)) (.mk []))
def o69 (P : Params) : Obj := (@Obj.mk Value.none none (@Data.fields (.mk [])) (.mk []))
def o70 (P : Params) : Obj := (@Obj.mk (@Value.type "tuple") none (@Data.seq (.mk [(@Value.str (@Str.ofString "value") (nat_lit 269)), (@Value.str (@Str.ofString "things") (nat_lit 270))]) (nat_lit 0)) (.mk []))
def o71 (P : Params) : Obj := (@Obj.mk (@Value.type "tuple") none (@Data.seq (.mk []) (nat_lit 0)) (.mk []))
def o72 (P : Params) : Obj := (@Obj.mk Value.none none (@Data.func (@FuncData.mk (@Str.ofString "is_menu") (@Str.ofString "is_menu") (defArgs (topS 18)) (@FuncBody.stmts (defBody (topS 18))) (defScope (topS 18)) (nat_lit 0) [] Value.none Value.none Value.none Value.none none Value.none Value.none (nat_lit 0))) (.mk []))
def o73 (P : Params) : Obj := (@Obj.mk (@Value.type "code") none (@Data.fields (.mk [(@Value.str (@Str.ofString "is_menu") (nat_lit 266)), (@Value.str (@Str.ofString "is_menu") (nat_lit 267)), (@Value.str (@Str.ofString "/claim/cut.py") (nat_lit 268)), (@Value.int (.ofNat (nat_lit 32)) (nat_lit 0)), (@Value.int (.ofNat (nat_lit 2)) (nat_lit 0)), (@Value.int (.ofNat (nat_lit 0)) (nat_lit 0)), (@Value.int (.ofNat (nat_lit 0)) (nat_lit 0)), (@Value.int (.ofNat (nat_lit 3)) (nat_lit 0)), (@Value.ref (nat_lit 68)), (@Value.bool true), (@Value.int (.ofNat (nat_lit 181)) (nat_lit 0)), (@Value.ref (nat_lit 69)), Value.none, (@Value.ref (nat_lit 70)), (@Value.ref (nat_lit 71)), (@Value.ref (nat_lit 72)), (@Value.int (.ofNat (nat_lit 271)) (nat_lit 0)), (@Value.int (.ofNat (nat_lit 32)) (nat_lit 0)), (@Value.str (@Str.ofString "/claim/cut.py") (nat_lit 272))])) (.mk []))
def o74 (P : Params) : Obj := (@Obj.mk (@Value.type "function") none (@Data.func (@FuncData.mk (@Str.ofString "is_menu") (@Str.ofString "is_menu") (defArgs (topS 18)) (@FuncBody.stmts (defBody (topS 18))) (defScope (topS 18)) (nat_lit 3) [] Value.none Value.none Value.none (@Value.str (@Str.ofString "menuhouses.checker") (nat_lit 193)) none (@Value.ref (nat_lit 73)) Value.none (nat_lit 0))) (.mk []))
def o75 (P : Params) : Obj := (@Obj.mk (@Value.type "tuple") none (@Data.seq (.mk []) (nat_lit 0)) (.mk []))
def o76 (P : Params) : Obj := (@Obj.mk Value.none none (@Data.fields (.mk [])) (.mk []))
def o77 (P : Params) : Obj := (@Obj.mk Value.none none (@Data.func (@FuncData.mk (@Str.ofString "without") (@Str.ofString "without") (defArgs (topS 19)) (@FuncBody.stmts (defBody (topS 19))) (defScope (topS 19)) (nat_lit 0) [] Value.none Value.none Value.none Value.none none Value.none Value.none (nat_lit 0))) (.mk []))
def o78 (P : Params) : Obj := (@Obj.mk (@Value.type "code") none (@Data.fields (.mk [(@Value.str (@Str.ofString "without") (nat_lit 274)), (@Value.str (@Str.ofString "without") (nat_lit 275)), (@Value.str (@Str.ofString "/claim/cut.py") (nat_lit 276)), (@Value.int (.ofNat (nat_lit 34)) (nat_lit 0)), (@Value.int (.ofNat (nat_lit 2)) (nat_lit 0)), (@Value.int (.ofNat (nat_lit 0)) (nat_lit 0)), (@Value.int (.ofNat (nat_lit 0)) (nat_lit 0)), (@Value.int (.ofNat (nat_lit 3)) (nat_lit 0)), (@Value.ref (nat_lit 75)), (@Value.bool true), (@Value.int (.ofNat (nat_lit 181)) (nat_lit 0)), (@Value.ref (nat_lit 76)), Value.none, Value.none, Value.none, (@Value.ref (nat_lit 77)), (@Value.int (.ofNat (nat_lit 277)) (nat_lit 0)), (@Value.int (.ofNat (nat_lit 34)) (nat_lit 0)), (@Value.str (@Str.ofString "/claim/cut.py") (nat_lit 278))])) (.mk []))
def o79 (P : Params) : Obj := (@Obj.mk (@Value.type "function") none (@Data.func (@FuncData.mk (@Str.ofString "without") (@Str.ofString "without") (defArgs (topS 19)) (@FuncBody.stmts (defBody (topS 19))) (defScope (topS 19)) (nat_lit 3) [] Value.none Value.none Value.none (@Value.str (@Str.ofString "menuhouses.checker") (nat_lit 193)) none (@Value.ref (nat_lit 78)) Value.none (nat_lit 0))) (.mk []))
def o80 (P : Params) : Obj := (@Obj.mk (@Value.type "tuple") none (@Data.seq (.mk []) (nat_lit 0)) (.mk []))
def o81 (P : Params) : Obj := (@Obj.mk Value.none none (@Data.fields (.mk [])) (.mk []))
def o82 (P : Params) : Obj := (@Obj.mk Value.none none (@Data.func (@FuncData.mk (@Str.ofString "row_of") (@Str.ofString "row_of") (defArgs (topS 20)) (@FuncBody.stmts (defBody (topS 20))) (defScope (topS 20)) (nat_lit 0) [] Value.none Value.none Value.none Value.none none Value.none Value.none (nat_lit 0))) (.mk []))
def o83 (P : Params) : Obj := (@Obj.mk (@Value.type "code") none (@Data.fields (.mk [(@Value.str (@Str.ofString "row_of") (nat_lit 280)), (@Value.str (@Str.ofString "row_of") (nat_lit 281)), (@Value.str (@Str.ofString "/claim/cut.py") (nat_lit 282)), (@Value.int (.ofNat (nat_lit 36)) (nat_lit 0)), (@Value.int (.ofNat (nat_lit 1)) (nat_lit 0)), (@Value.int (.ofNat (nat_lit 0)) (nat_lit 0)), (@Value.int (.ofNat (nat_lit 0)) (nat_lit 0)), (@Value.int (.ofNat (nat_lit 3)) (nat_lit 0)), (@Value.ref (nat_lit 80)), (@Value.bool true), (@Value.int (.ofNat (nat_lit 181)) (nat_lit 0)), (@Value.ref (nat_lit 81)), Value.none, Value.none, Value.none, (@Value.ref (nat_lit 82)), (@Value.int (.ofNat (nat_lit 283)) (nat_lit 0)), (@Value.int (.ofNat (nat_lit 36)) (nat_lit 0)), (@Value.str (@Str.ofString "/claim/cut.py") (nat_lit 284))])) (.mk []))
def o84 (P : Params) : Obj := (@Obj.mk (@Value.type "function") none (@Data.func (@FuncData.mk (@Str.ofString "row_of") (@Str.ofString "row_of") (defArgs (topS 20)) (@FuncBody.stmts (defBody (topS 20))) (defScope (topS 20)) (nat_lit 3) [] Value.none Value.none Value.none (@Value.str (@Str.ofString "menuhouses.checker") (nat_lit 193)) none (@Value.ref (nat_lit 83)) Value.none (nat_lit 0))) (.mk []))
def o85 (P : Params) : Obj := (@Obj.mk (@Value.type "tuple") none (@Data.seq (.mk []) (nat_lit 0)) (.mk []))
def o86 (P : Params) : Obj := (@Obj.mk Value.none none (@Data.fields (.mk [])) (.mk []))
def o87 (P : Params) : Obj := (@Obj.mk Value.none none (@Data.func (@FuncData.mk (@Str.ofString "house_of_text") (@Str.ofString "house_of_text") (defArgs (topS 21)) (@FuncBody.stmts (defBody (topS 21))) (defScope (topS 21)) (nat_lit 0) [] Value.none Value.none Value.none Value.none none Value.none Value.none (nat_lit 0))) (.mk []))
def o88 (P : Params) : Obj := (@Obj.mk (@Value.type "code") none (@Data.fields (.mk [(@Value.str (@Str.ofString "house_of_text") (nat_lit 286)), (@Value.str (@Str.ofString "house_of_text") (nat_lit 287)), (@Value.str (@Str.ofString "/claim/cut.py") (nat_lit 288)), (@Value.int (.ofNat (nat_lit 43)) (nat_lit 0)), (@Value.int (.ofNat (nat_lit 1)) (nat_lit 0)), (@Value.int (.ofNat (nat_lit 0)) (nat_lit 0)), (@Value.int (.ofNat (nat_lit 0)) (nat_lit 0)), (@Value.int (.ofNat (nat_lit 3)) (nat_lit 0)), (@Value.ref (nat_lit 85)), (@Value.bool true), (@Value.int (.ofNat (nat_lit 181)) (nat_lit 0)), (@Value.ref (nat_lit 86)), Value.none, Value.none, Value.none, (@Value.ref (nat_lit 87)), (@Value.int (.ofNat (nat_lit 289)) (nat_lit 0)), (@Value.int (.ofNat (nat_lit 43)) (nat_lit 0)), (@Value.str (@Str.ofString "/claim/cut.py") (nat_lit 290))])) (.mk []))
def o89 (P : Params) : Obj := (@Obj.mk (@Value.type "function") none (@Data.func (@FuncData.mk (@Str.ofString "house_of_text") (@Str.ofString "house_of_text") (defArgs (topS 21)) (@FuncBody.stmts (defBody (topS 21))) (defScope (topS 21)) (nat_lit 3) [] Value.none Value.none Value.none (@Value.str (@Str.ofString "menuhouses.checker") (nat_lit 193)) none (@Value.ref (nat_lit 88)) Value.none (nat_lit 0))) (.mk []))
def o90 (P : Params) : Obj := (@Obj.mk (@Value.type "tuple") none (@Data.seq (.mk []) (nat_lit 0)) (.mk []))
def o91 (P : Params) : Obj := (@Obj.mk Value.none none (@Data.fields (.mk [])) (.mk []))
def o92 (P : Params) : Obj := (@Obj.mk Value.none none (@Data.func (@FuncData.mk (@Str.ofString "look_of") (@Str.ofString "look_of") (defArgs (topS 22)) (@FuncBody.stmts (defBody (topS 22))) (defScope (topS 22)) (nat_lit 0) [] Value.none Value.none Value.none Value.none none Value.none Value.none (nat_lit 0))) (.mk []))
def o93 (P : Params) : Obj := (@Obj.mk (@Value.type "code") none (@Data.fields (.mk [(@Value.str (@Str.ofString "look_of") (nat_lit 292)), (@Value.str (@Str.ofString "look_of") (nat_lit 293)), (@Value.str (@Str.ofString "/claim/cut.py") (nat_lit 294)), (@Value.int (.ofNat (nat_lit 50)) (nat_lit 0)), (@Value.int (.ofNat (nat_lit 2)) (nat_lit 0)), (@Value.int (.ofNat (nat_lit 0)) (nat_lit 0)), (@Value.int (.ofNat (nat_lit 0)) (nat_lit 0)), (@Value.int (.ofNat (nat_lit 3)) (nat_lit 0)), (@Value.ref (nat_lit 90)), (@Value.bool true), (@Value.int (.ofNat (nat_lit 181)) (nat_lit 0)), (@Value.ref (nat_lit 91)), Value.none, Value.none, Value.none, (@Value.ref (nat_lit 92)), (@Value.int (.ofNat (nat_lit 295)) (nat_lit 0)), (@Value.int (.ofNat (nat_lit 50)) (nat_lit 0)), (@Value.str (@Str.ofString "/claim/cut.py") (nat_lit 296))])) (.mk []))
def o94 (P : Params) : Obj := (@Obj.mk (@Value.type "function") none (@Data.func (@FuncData.mk (@Str.ofString "look_of") (@Str.ofString "look_of") (defArgs (topS 22)) (@FuncBody.stmts (defBody (topS 22))) (defScope (topS 22)) (nat_lit 3) [] Value.none Value.none Value.none (@Value.str (@Str.ofString "menuhouses.checker") (nat_lit 193)) none (@Value.ref (nat_lit 93)) Value.none (nat_lit 0))) (.mk []))
def o95 (P : Params) : Obj := (@Obj.mk (@Value.type "tuple") none (@Data.seq (.mk []) (nat_lit 0)) (.mk []))
def o96 (P : Params) : Obj := (@Obj.mk Value.none none (@Data.fields (.mk [])) (.mk []))
def o97 (P : Params) : Obj := (@Obj.mk Value.none none (@Data.func (@FuncData.mk (@Str.ofString "looks_of") (@Str.ofString "looks_of") (defArgs (topS 23)) (@FuncBody.stmts (defBody (topS 23))) (defScope (topS 23)) (nat_lit 0) [] Value.none Value.none Value.none Value.none none Value.none Value.none (nat_lit 0))) (.mk []))
def o98 (P : Params) : Obj := (@Obj.mk (@Value.type "code") none (@Data.fields (.mk [(@Value.str (@Str.ofString "looks_of") (nat_lit 298)), (@Value.str (@Str.ofString "looks_of") (nat_lit 299)), (@Value.str (@Str.ofString "/claim/cut.py") (nat_lit 300)), (@Value.int (.ofNat (nat_lit 59)) (nat_lit 0)), (@Value.int (.ofNat (nat_lit 2)) (nat_lit 0)), (@Value.int (.ofNat (nat_lit 0)) (nat_lit 0)), (@Value.int (.ofNat (nat_lit 0)) (nat_lit 0)), (@Value.int (.ofNat (nat_lit 3)) (nat_lit 0)), (@Value.ref (nat_lit 95)), (@Value.bool true), (@Value.int (.ofNat (nat_lit 181)) (nat_lit 0)), (@Value.ref (nat_lit 96)), Value.none, Value.none, Value.none, (@Value.ref (nat_lit 97)), (@Value.int (.ofNat (nat_lit 301)) (nat_lit 0)), (@Value.int (.ofNat (nat_lit 59)) (nat_lit 0)), (@Value.str (@Str.ofString "/claim/cut.py") (nat_lit 302))])) (.mk []))
def o99 (P : Params) : Obj := (@Obj.mk (@Value.type "function") none (@Data.func (@FuncData.mk (@Str.ofString "looks_of") (@Str.ofString "looks_of") (defArgs (topS 23)) (@FuncBody.stmts (defBody (topS 23))) (defScope (topS 23)) (nat_lit 3) [] Value.none Value.none Value.none (@Value.str (@Str.ofString "menuhouses.checker") (nat_lit 193)) none (@Value.ref (nat_lit 98)) Value.none (nat_lit 0))) (.mk []))
def o100 (P : Params) : Obj := (@Obj.mk (@Value.type "tuple") none (@Data.seq (.mk []) (nat_lit 0)) (.mk []))
def o101 (P : Params) : Obj := (@Obj.mk Value.none none (@Data.fields (.mk [])) (.mk []))
def o102 (P : Params) : Obj := (@Obj.mk Value.none none (@Data.func (@FuncData.mk (@Str.ofString "best") (@Str.ofString "best") (defArgs (topS 24)) (@FuncBody.stmts (defBody (topS 24))) (defScope (topS 24)) (nat_lit 0) [] Value.none Value.none Value.none Value.none none Value.none Value.none (nat_lit 0))) (.mk []))
def o103 (P : Params) : Obj := (@Obj.mk (@Value.type "code") none (@Data.fields (.mk [(@Value.str (@Str.ofString "best") (nat_lit 304)), (@Value.str (@Str.ofString "best") (nat_lit 305)), (@Value.str (@Str.ofString "/claim/cut.py") (nat_lit 306)), (@Value.int (.ofNat (nat_lit 64)) (nat_lit 0)), (@Value.int (.ofNat (nat_lit 2)) (nat_lit 0)), (@Value.int (.ofNat (nat_lit 0)) (nat_lit 0)), (@Value.int (.ofNat (nat_lit 0)) (nat_lit 0)), (@Value.int (.ofNat (nat_lit 3)) (nat_lit 0)), (@Value.ref (nat_lit 100)), (@Value.bool true), (@Value.int (.ofNat (nat_lit 181)) (nat_lit 0)), (@Value.ref (nat_lit 101)), Value.none, Value.none, Value.none, (@Value.ref (nat_lit 102)), (@Value.int (.ofNat (nat_lit 307)) (nat_lit 0)), (@Value.int (.ofNat (nat_lit 64)) (nat_lit 0)), (@Value.str (@Str.ofString "/claim/cut.py") (nat_lit 308))])) (.mk []))
def o104 (P : Params) : Obj := (@Obj.mk (@Value.type "function") none (@Data.func (@FuncData.mk (@Str.ofString "best") (@Str.ofString "best") (defArgs (topS 24)) (@FuncBody.stmts (defBody (topS 24))) (defScope (topS 24)) (nat_lit 3) [] Value.none Value.none Value.none (@Value.str (@Str.ofString "menuhouses.checker") (nat_lit 193)) none (@Value.ref (nat_lit 103)) Value.none (nat_lit 0))) (.mk []))
def o105 (P : Params) : Obj := (@Obj.mk (@Value.type "tuple") none (@Data.seq (.mk []) (nat_lit 0)) (.mk []))
def o106 (P : Params) : Obj := (@Obj.mk Value.none none (@Data.fields (.mk [])) (.mk []))
def o107 (P : Params) : Obj := (@Obj.mk Value.none none (@Data.func (@FuncData.mk (@Str.ofString "takes") (@Str.ofString "takes") (defArgs (topS 25)) (@FuncBody.stmts (defBody (topS 25))) (defScope (topS 25)) (nat_lit 0) [] Value.none Value.none Value.none Value.none none Value.none Value.none (nat_lit 0))) (.mk []))
def o108 (P : Params) : Obj := (@Obj.mk (@Value.type "code") none (@Data.fields (.mk [(@Value.str (@Str.ofString "takes") (nat_lit 310)), (@Value.str (@Str.ofString "takes") (nat_lit 311)), (@Value.str (@Str.ofString "/claim/cut.py") (nat_lit 312)), (@Value.int (.ofNat (nat_lit 66)) (nat_lit 0)), (@Value.int (.ofNat (nat_lit 3)) (nat_lit 0)), (@Value.int (.ofNat (nat_lit 0)) (nat_lit 0)), (@Value.int (.ofNat (nat_lit 0)) (nat_lit 0)), (@Value.int (.ofNat (nat_lit 3)) (nat_lit 0)), (@Value.ref (nat_lit 105)), (@Value.bool true), (@Value.int (.ofNat (nat_lit 181)) (nat_lit 0)), (@Value.ref (nat_lit 106)), Value.none, Value.none, Value.none, (@Value.ref (nat_lit 107)), (@Value.int (.ofNat (nat_lit 313)) (nat_lit 0)), (@Value.int (.ofNat (nat_lit 66)) (nat_lit 0)), (@Value.str (@Str.ofString "/claim/cut.py") (nat_lit 314))])) (.mk []))
def o109 (P : Params) : Obj := (@Obj.mk (@Value.type "function") none (@Data.func (@FuncData.mk (@Str.ofString "takes") (@Str.ofString "takes") (defArgs (topS 25)) (@FuncBody.stmts (defBody (topS 25))) (defScope (topS 25)) (nat_lit 3) [] Value.none Value.none Value.none (@Value.str (@Str.ofString "menuhouses.checker") (nat_lit 193)) none (@Value.ref (nat_lit 108)) Value.none (nat_lit 0))) (.mk []))
def o110 (P : Params) : Obj := (@Obj.mk (@Value.type "tuple") none (@Data.seq (.mk []) (nat_lit 0)) (.mk []))
def o111 (P : Params) : Obj := (@Obj.mk Value.none none (@Data.fields (.mk [])) (.mk []))
def o112 (P : Params) : Obj := (@Obj.mk Value.none none (@Data.func (@FuncData.mk (@Str.ofString "has") (@Str.ofString "has") (defArgs (topS 26)) (@FuncBody.stmts (defBody (topS 26))) (defScope (topS 26)) (nat_lit 0) [] Value.none Value.none Value.none Value.none none Value.none Value.none (nat_lit 0))) (.mk []))
def o113 (P : Params) : Obj := (@Obj.mk (@Value.type "code") none (@Data.fields (.mk [(@Value.str (@Str.ofString "has") (nat_lit 316)), (@Value.str (@Str.ofString "has") (nat_lit 317)), (@Value.str (@Str.ofString "/claim/cut.py") (nat_lit 318)), (@Value.int (.ofNat (nat_lit 68)) (nat_lit 0)), (@Value.int (.ofNat (nat_lit 2)) (nat_lit 0)), (@Value.int (.ofNat (nat_lit 0)) (nat_lit 0)), (@Value.int (.ofNat (nat_lit 0)) (nat_lit 0)), (@Value.int (.ofNat (nat_lit 3)) (nat_lit 0)), (@Value.ref (nat_lit 110)), (@Value.bool true), (@Value.int (.ofNat (nat_lit 181)) (nat_lit 0)), (@Value.ref (nat_lit 111)), Value.none, Value.none, Value.none, (@Value.ref (nat_lit 112)), (@Value.int (.ofNat (nat_lit 319)) (nat_lit 0)), (@Value.int (.ofNat (nat_lit 68)) (nat_lit 0)), (@Value.str (@Str.ofString "/claim/cut.py") (nat_lit 320))])) (.mk []))
def o114 (P : Params) : Obj := (@Obj.mk (@Value.type "function") none (@Data.func (@FuncData.mk (@Str.ofString "has") (@Str.ofString "has") (defArgs (topS 26)) (@FuncBody.stmts (defBody (topS 26))) (defScope (topS 26)) (nat_lit 3) [] Value.none Value.none Value.none (@Value.str (@Str.ofString "menuhouses.checker") (nat_lit 193)) none (@Value.ref (nat_lit 113)) Value.none (nat_lit 0))) (.mk []))
def o115 (P : Params) : Obj := (@Obj.mk (@Value.type "tuple") none (@Data.seq (.mk []) (nat_lit 0)) (.mk []))
def o116 (P : Params) : Obj := (@Obj.mk Value.none none (@Data.fields (.mk [])) (.mk []))
def o117 (P : Params) : Obj := (@Obj.mk Value.none none (@Data.func (@FuncData.mk (@Str.ofString "people_who_fit") (@Str.ofString "people_who_fit") (defArgs (topS 27)) (@FuncBody.stmts (defBody (topS 27))) (defScope (topS 27)) (nat_lit 0) [] Value.none Value.none Value.none Value.none none Value.none Value.none (nat_lit 0))) (.mk []))
def o118 (P : Params) : Obj := (@Obj.mk (@Value.type "code") none (@Data.fields (.mk [(@Value.str (@Str.ofString "people_who_fit") (nat_lit 322)), (@Value.str (@Str.ofString "people_who_fit") (nat_lit 323)), (@Value.str (@Str.ofString "/claim/cut.py") (nat_lit 324)), (@Value.int (.ofNat (nat_lit 72)) (nat_lit 0)), (@Value.int (.ofNat (nat_lit 3)) (nat_lit 0)), (@Value.int (.ofNat (nat_lit 0)) (nat_lit 0)), (@Value.int (.ofNat (nat_lit 0)) (nat_lit 0)), (@Value.int (.ofNat (nat_lit 3)) (nat_lit 0)), (@Value.ref (nat_lit 115)), (@Value.bool true), (@Value.int (.ofNat (nat_lit 181)) (nat_lit 0)), (@Value.ref (nat_lit 116)), Value.none, Value.none, Value.none, (@Value.ref (nat_lit 117)), (@Value.int (.ofNat (nat_lit 325)) (nat_lit 0)), (@Value.int (.ofNat (nat_lit 72)) (nat_lit 0)), (@Value.str (@Str.ofString "/claim/cut.py") (nat_lit 326))])) (.mk []))
def o119 (P : Params) : Obj := (@Obj.mk (@Value.type "function") none (@Data.func (@FuncData.mk (@Str.ofString "people_who_fit") (@Str.ofString "people_who_fit") (defArgs (topS 27)) (@FuncBody.stmts (defBody (topS 27))) (defScope (topS 27)) (nat_lit 3) [] Value.none Value.none Value.none (@Value.str (@Str.ofString "menuhouses.checker") (nat_lit 193)) none (@Value.ref (nat_lit 118)) Value.none (nat_lit 0))) (.mk []))
def o120 (P : Params) : Obj := (@Obj.mk (@Value.type "tuple") none (@Data.seq (.mk []) (nat_lit 0)) (.mk []))
def o121 (P : Params) : Obj := (@Obj.mk Value.none none (@Data.fields (.mk [])) (.mk []))
def o122 (P : Params) : Obj := (@Obj.mk Value.none none (@Data.func (@FuncData.mk (@Str.ofString "is_barred") (@Str.ofString "is_barred") (defArgs (topS 28)) (@FuncBody.stmts (defBody (topS 28))) (defScope (topS 28)) (nat_lit 0) [] Value.none Value.none Value.none Value.none none Value.none Value.none (nat_lit 0))) (.mk []))
def o123 (P : Params) : Obj := (@Obj.mk (@Value.type "code") none (@Data.fields (.mk [(@Value.str (@Str.ofString "is_barred") (nat_lit 328)), (@Value.str (@Str.ofString "is_barred") (nat_lit 329)), (@Value.str (@Str.ofString "/claim/cut.py") (nat_lit 330)), (@Value.int (.ofNat (nat_lit 79)) (nat_lit 0)), (@Value.int (.ofNat (nat_lit 3)) (nat_lit 0)), (@Value.int (.ofNat (nat_lit 0)) (nat_lit 0)), (@Value.int (.ofNat (nat_lit 0)) (nat_lit 0)), (@Value.int (.ofNat (nat_lit 3)) (nat_lit 0)), (@Value.ref (nat_lit 120)), (@Value.bool true), (@Value.int (.ofNat (nat_lit 181)) (nat_lit 0)), (@Value.ref (nat_lit 121)), Value.none, Value.none, Value.none, (@Value.ref (nat_lit 122)), (@Value.int (.ofNat (nat_lit 331)) (nat_lit 0)), (@Value.int (.ofNat (nat_lit 79)) (nat_lit 0)), (@Value.str (@Str.ofString "/claim/cut.py") (nat_lit 332))])) (.mk []))
def o124 (P : Params) : Obj := (@Obj.mk (@Value.type "function") none (@Data.func (@FuncData.mk (@Str.ofString "is_barred") (@Str.ofString "is_barred") (defArgs (topS 28)) (@FuncBody.stmts (defBody (topS 28))) (defScope (topS 28)) (nat_lit 3) [] Value.none Value.none Value.none (@Value.str (@Str.ofString "menuhouses.checker") (nat_lit 193)) none (@Value.ref (nat_lit 123)) Value.none (nat_lit 0))) (.mk []))
def o125 (P : Params) : Obj := (@Obj.mk (@Value.type "tuple") none (@Data.seq (.mk []) (nat_lit 0)) (.mk []))
def o126 (P : Params) : Obj := (@Obj.mk Value.none none (@Data.fields (.mk [])) (.mk []))
def o127 (P : Params) : Obj := (@Obj.mk Value.none none (@Data.func (@FuncData.mk (@Str.ofString "is_bar") (@Str.ofString "is_bar") (defArgs (topS 29)) (@FuncBody.stmts (defBody (topS 29))) (defScope (topS 29)) (nat_lit 0) [] Value.none Value.none Value.none Value.none none Value.none Value.none (nat_lit 0))) (.mk []))
def o128 (P : Params) : Obj := (@Obj.mk (@Value.type "code") none (@Data.fields (.mk [(@Value.str (@Str.ofString "is_bar") (nat_lit 334)), (@Value.str (@Str.ofString "is_bar") (nat_lit 335)), (@Value.str (@Str.ofString "/claim/cut.py") (nat_lit 336)), (@Value.int (.ofNat (nat_lit 81)) (nat_lit 0)), (@Value.int (.ofNat (nat_lit 3)) (nat_lit 0)), (@Value.int (.ofNat (nat_lit 0)) (nat_lit 0)), (@Value.int (.ofNat (nat_lit 0)) (nat_lit 0)), (@Value.int (.ofNat (nat_lit 3)) (nat_lit 0)), (@Value.ref (nat_lit 125)), (@Value.bool true), (@Value.int (.ofNat (nat_lit 181)) (nat_lit 0)), (@Value.ref (nat_lit 126)), Value.none, Value.none, Value.none, (@Value.ref (nat_lit 127)), (@Value.int (.ofNat (nat_lit 337)) (nat_lit 0)), (@Value.int (.ofNat (nat_lit 81)) (nat_lit 0)), (@Value.str (@Str.ofString "/claim/cut.py") (nat_lit 338))])) (.mk []))
def o129 (P : Params) : Obj := (@Obj.mk (@Value.type "function") none (@Data.func (@FuncData.mk (@Str.ofString "is_bar") (@Str.ofString "is_bar") (defArgs (topS 29)) (@FuncBody.stmts (defBody (topS 29))) (defScope (topS 29)) (nat_lit 3) [] Value.none Value.none Value.none (@Value.str (@Str.ofString "menuhouses.checker") (nat_lit 193)) none (@Value.ref (nat_lit 128)) Value.none (nat_lit 0))) (.mk []))
def o130 (P : Params) : Obj := (@Obj.mk (@Value.type "tuple") none (@Data.seq (.mk []) (nat_lit 0)) (.mk []))
def o131 (P : Params) : Obj := (@Obj.mk Value.none none (@Data.fields (.mk [])) (.mk []))
def o132 (P : Params) : Obj := (@Obj.mk Value.none none (@Data.func (@FuncData.mk (@Str.ofString "sharpened") (@Str.ofString "sharpened") (defArgs (topS 30)) (@FuncBody.stmts (defBody (topS 30))) (defScope (topS 30)) (nat_lit 0) [] Value.none Value.none Value.none Value.none none Value.none Value.none (nat_lit 0))) (.mk []))
def o133 (P : Params) : Obj := (@Obj.mk (@Value.type "code") none (@Data.fields (.mk [(@Value.str (@Str.ofString "sharpened") (nat_lit 340)), (@Value.str (@Str.ofString "sharpened") (nat_lit 341)), (@Value.str (@Str.ofString "/claim/cut.py") (nat_lit 342)), (@Value.int (.ofNat (nat_lit 83)) (nat_lit 0)), (@Value.int (.ofNat (nat_lit 2)) (nat_lit 0)), (@Value.int (.ofNat (nat_lit 0)) (nat_lit 0)), (@Value.int (.ofNat (nat_lit 0)) (nat_lit 0)), (@Value.int (.ofNat (nat_lit 3)) (nat_lit 0)), (@Value.ref (nat_lit 130)), (@Value.bool true), (@Value.int (.ofNat (nat_lit 181)) (nat_lit 0)), (@Value.ref (nat_lit 131)), Value.none, Value.none, Value.none, (@Value.ref (nat_lit 132)), (@Value.int (.ofNat (nat_lit 343)) (nat_lit 0)), (@Value.int (.ofNat (nat_lit 83)) (nat_lit 0)), (@Value.str (@Str.ofString "/claim/cut.py") (nat_lit 344))])) (.mk []))
def o134 (P : Params) : Obj := (@Obj.mk (@Value.type "function") none (@Data.func (@FuncData.mk (@Str.ofString "sharpened") (@Str.ofString "sharpened") (defArgs (topS 30)) (@FuncBody.stmts (defBody (topS 30))) (defScope (topS 30)) (nat_lit 3) [] Value.none Value.none Value.none (@Value.str (@Str.ofString "menuhouses.checker") (nat_lit 193)) none (@Value.ref (nat_lit 133)) Value.none (nat_lit 0))) (.mk []))
def o135 (P : Params) : Obj := (@Obj.mk (@Value.type "tuple") none (@Data.seq (.mk []) (nat_lit 0)) (.mk []))
def o136 (P : Params) : Obj := (@Obj.mk Value.none none (@Data.fields (.mk [])) (.mk []))
def o137 (P : Params) : Obj := (@Obj.mk (@Value.type "tuple") none (@Data.seq (.mk [(@Value.str (@Str.ofString "value") (nat_lit 349)), (@Value.str (@Str.ofString "things") (nat_lit 350)), (@Value.str (@Str.ofString "looks") (nat_lit 351)), (@Value.str (@Str.ofString "more") (nat_lit 352)), (@Value.str (@Str.ofString "sharp") (nat_lit 353))]) (nat_lit 0)) (.mk []))
def o138 (P : Params) : Obj := (@Obj.mk (@Value.type "tuple") none (@Data.seq (.mk []) (nat_lit 0)) (.mk []))
def o139 (P : Params) : Obj := (@Obj.mk Value.none none (@Data.func (@FuncData.mk (@Str.ofString "is_need_and_bar") (@Str.ofString "is_need_and_bar") (defArgs (topS 31)) (@FuncBody.stmts (defBody (topS 31))) (defScope (topS 31)) (nat_lit 0) [] Value.none Value.none Value.none Value.none none Value.none Value.none (nat_lit 0))) (.mk []))
def o140 (P : Params) : Obj := (@Obj.mk (@Value.type "code") none (@Data.fields (.mk [(@Value.str (@Str.ofString "is_need_and_bar") (nat_lit 346)), (@Value.str (@Str.ofString "is_need_and_bar") (nat_lit 347)), (@Value.str (@Str.ofString "/claim/cut.py") (nat_lit 348)), (@Value.int (.ofNat (nat_lit 90)) (nat_lit 0)), (@Value.int (.ofNat (nat_lit 4)) (nat_lit 0)), (@Value.int (.ofNat (nat_lit 0)) (nat_lit 0)), (@Value.int (.ofNat (nat_lit 0)) (nat_lit 0)), (@Value.int (.ofNat (nat_lit 3)) (nat_lit 0)), (@Value.ref (nat_lit 135)), (@Value.bool true), (@Value.int (.ofNat (nat_lit 181)) (nat_lit 0)), (@Value.ref (nat_lit 136)), Value.none, (@Value.ref (nat_lit 137)), (@Value.ref (nat_lit 138)), (@Value.ref (nat_lit 139)), (@Value.int (.ofNat (nat_lit 354)) (nat_lit 0)), (@Value.int (.ofNat (nat_lit 90)) (nat_lit 0)), (@Value.str (@Str.ofString "/claim/cut.py") (nat_lit 355))])) (.mk []))
def o141 (P : Params) : Obj := (@Obj.mk (@Value.type "function") none (@Data.func (@FuncData.mk (@Str.ofString "is_need_and_bar") (@Str.ofString "is_need_and_bar") (defArgs (topS 31)) (@FuncBody.stmts (defBody (topS 31))) (defScope (topS 31)) (nat_lit 3) [] Value.none Value.none Value.none (@Value.str (@Str.ofString "menuhouses.checker") (nat_lit 193)) none (@Value.ref (nat_lit 140)) Value.none (nat_lit 0))) (.mk []))
def o142 (P : Params) : Obj := (@Obj.mk (@Value.type "tuple") none (@Data.seq (.mk []) (nat_lit 0)) (.mk []))
def o143 (P : Params) : Obj := (@Obj.mk Value.none none (@Data.fields (.mk [])) (.mk []))
def o144 (P : Params) : Obj := (@Obj.mk (@Value.type "tuple") none (@Data.seq (.mk [(@Value.str (@Str.ofString "things") (nat_lit 360)), (@Value.str (@Str.ofString "looks") (nat_lit 361)), (@Value.str (@Str.ofString "certificate") (nat_lit 362))]) (nat_lit 0)) (.mk []))
def o145 (P : Params) : Obj := (@Obj.mk (@Value.type "tuple") none (@Data.seq (.mk []) (nat_lit 0)) (.mk []))
def o146 (P : Params) : Obj := (@Obj.mk Value.none none (@Data.func (@FuncData.mk (@Str.ofString "shows_fits") (@Str.ofString "shows_fits") (defArgs (topS 32)) (@FuncBody.stmts (defBody (topS 32))) (defScope (topS 32)) (nat_lit 0) [] Value.none Value.none Value.none Value.none none Value.none Value.none (nat_lit 0))) (.mk []))
def o147 (P : Params) : Obj := (@Obj.mk (@Value.type "code") none (@Data.fields (.mk [(@Value.str (@Str.ofString "shows_fits") (nat_lit 357)), (@Value.str (@Str.ofString "shows_fits") (nat_lit 358)), (@Value.str (@Str.ofString "/claim/cut.py") (nat_lit 359)), (@Value.int (.ofNat (nat_lit 95)) (nat_lit 0)), (@Value.int (.ofNat (nat_lit 3)) (nat_lit 0)), (@Value.int (.ofNat (nat_lit 0)) (nat_lit 0)), (@Value.int (.ofNat (nat_lit 0)) (nat_lit 0)), (@Value.int (.ofNat (nat_lit 3)) (nat_lit 0)), (@Value.ref (nat_lit 142)), (@Value.bool true), (@Value.int (.ofNat (nat_lit 181)) (nat_lit 0)), (@Value.ref (nat_lit 143)), Value.none, (@Value.ref (nat_lit 144)), (@Value.ref (nat_lit 145)), (@Value.ref (nat_lit 146)), (@Value.int (.ofNat (nat_lit 363)) (nat_lit 0)), (@Value.int (.ofNat (nat_lit 95)) (nat_lit 0)), (@Value.str (@Str.ofString "/claim/cut.py") (nat_lit 364))])) (.mk []))
def o148 (P : Params) : Obj := (@Obj.mk (@Value.type "function") none (@Data.func (@FuncData.mk (@Str.ofString "shows_fits") (@Str.ofString "shows_fits") (defArgs (topS 32)) (@FuncBody.stmts (defBody (topS 32))) (defScope (topS 32)) (nat_lit 3) [] Value.none Value.none Value.none (@Value.str (@Str.ofString "menuhouses.checker") (nat_lit 193)) none (@Value.ref (nat_lit 147)) Value.none (nat_lit 0))) (.mk []))
def o149 (P : Params) : Obj := (@Obj.mk (@Value.type "tuple") none (@Data.seq (.mk []) (nat_lit 0)) (.mk []))
def o150 (P : Params) : Obj := (@Obj.mk Value.none none (@Data.fields (.mk [])) (.mk []))
def o151 (P : Params) : Obj := (@Obj.mk (@Value.type "tuple") none (@Data.seq (.mk [(@Value.str (@Str.ofString "things") (nat_lit 369)), (@Value.str (@Str.ofString "looks") (nat_lit 370)), (@Value.str (@Str.ofString "certificate") (nat_lit 371))]) (nat_lit 0)) (.mk []))
def o152 (P : Params) : Obj := (@Obj.mk (@Value.type "tuple") none (@Data.seq (.mk []) (nat_lit 0)) (.mk []))
def o153 (P : Params) : Obj := (@Obj.mk Value.none none (@Data.func (@FuncData.mk (@Str.ofString "shows_unfit") (@Str.ofString "shows_unfit") (defArgs (topS 33)) (@FuncBody.stmts (defBody (topS 33))) (defScope (topS 33)) (nat_lit 0) [] Value.none Value.none Value.none Value.none none Value.none Value.none (nat_lit 0))) (.mk []))
def o154 (P : Params) : Obj := (@Obj.mk (@Value.type "code") none (@Data.fields (.mk [(@Value.str (@Str.ofString "shows_unfit") (nat_lit 366)), (@Value.str (@Str.ofString "shows_unfit") (nat_lit 367)), (@Value.str (@Str.ofString "/claim/cut.py") (nat_lit 368)), (@Value.int (.ofNat (nat_lit 97)) (nat_lit 0)), (@Value.int (.ofNat (nat_lit 3)) (nat_lit 0)), (@Value.int (.ofNat (nat_lit 0)) (nat_lit 0)), (@Value.int (.ofNat (nat_lit 0)) (nat_lit 0)), (@Value.int (.ofNat (nat_lit 3)) (nat_lit 0)), (@Value.ref (nat_lit 149)), (@Value.bool true), (@Value.int (.ofNat (nat_lit 181)) (nat_lit 0)), (@Value.ref (nat_lit 150)), Value.none, (@Value.ref (nat_lit 151)), (@Value.ref (nat_lit 152)), (@Value.ref (nat_lit 153)), (@Value.int (.ofNat (nat_lit 372)) (nat_lit 0)), (@Value.int (.ofNat (nat_lit 97)) (nat_lit 0)), (@Value.str (@Str.ofString "/claim/cut.py") (nat_lit 373))])) (.mk []))
def o155 (P : Params) : Obj := (@Obj.mk (@Value.type "function") none (@Data.func (@FuncData.mk (@Str.ofString "shows_unfit") (@Str.ofString "shows_unfit") (defArgs (topS 33)) (@FuncBody.stmts (defBody (topS 33))) (defScope (topS 33)) (nat_lit 3) [] Value.none Value.none Value.none (@Value.str (@Str.ofString "menuhouses.checker") (nat_lit 193)) none (@Value.ref (nat_lit 154)) Value.none (nat_lit 0))) (.mk []))
def o156 (P : Params) : Obj := (@Obj.mk (@Value.type "tuple") none (@Data.seq (.mk []) (nat_lit 0)) (.mk []))
def o157 (P : Params) : Obj := (@Obj.mk Value.none none (@Data.fields (.mk [])) (.mk []))
def o158 (P : Params) : Obj := (@Obj.mk (@Value.type "tuple") none (@Data.seq (.mk [(@Value.str (@Str.ofString "things") (nat_lit 378)), (@Value.str (@Str.ofString "looks") (nat_lit 379)), (@Value.str (@Str.ofString "menu") (nat_lit 380)), (@Value.str (@Str.ofString "thing") (nat_lit 381)), (@Value.str (@Str.ofString "certificate") (nat_lit 382))]) (nat_lit 0)) (.mk []))
def o159 (P : Params) : Obj := (@Obj.mk (@Value.type "tuple") none (@Data.seq (.mk []) (nat_lit 0)) (.mk []))
def o160 (P : Params) : Obj := (@Obj.mk Value.none none (@Data.func (@FuncData.mk (@Str.ofString "shows_never") (@Str.ofString "shows_never") (defArgs (topS 34)) (@FuncBody.stmts (defBody (topS 34))) (defScope (topS 34)) (nat_lit 0) [] Value.none Value.none Value.none Value.none none Value.none Value.none (nat_lit 0))) (.mk []))
def o161 (P : Params) : Obj := (@Obj.mk (@Value.type "code") none (@Data.fields (.mk [(@Value.str (@Str.ofString "shows_never") (nat_lit 375)), (@Value.str (@Str.ofString "shows_never") (nat_lit 376)), (@Value.str (@Str.ofString "/claim/cut.py") (nat_lit 377)), (@Value.int (.ofNat (nat_lit 99)) (nat_lit 0)), (@Value.int (.ofNat (nat_lit 5)) (nat_lit 0)), (@Value.int (.ofNat (nat_lit 0)) (nat_lit 0)), (@Value.int (.ofNat (nat_lit 0)) (nat_lit 0)), (@Value.int (.ofNat (nat_lit 3)) (nat_lit 0)), (@Value.ref (nat_lit 156)), (@Value.bool true), (@Value.int (.ofNat (nat_lit 181)) (nat_lit 0)), (@Value.ref (nat_lit 157)), Value.none, (@Value.ref (nat_lit 158)), (@Value.ref (nat_lit 159)), (@Value.ref (nat_lit 160)), (@Value.int (.ofNat (nat_lit 383)) (nat_lit 0)), (@Value.int (.ofNat (nat_lit 99)) (nat_lit 0)), (@Value.str (@Str.ofString "/claim/cut.py") (nat_lit 384))])) (.mk []))
def o162 (P : Params) : Obj := (@Obj.mk (@Value.type "function") none (@Data.func (@FuncData.mk (@Str.ofString "shows_never") (@Str.ofString "shows_never") (defArgs (topS 34)) (@FuncBody.stmts (defBody (topS 34))) (defScope (topS 34)) (nat_lit 3) [] Value.none Value.none Value.none (@Value.str (@Str.ofString "menuhouses.checker") (nat_lit 193)) none (@Value.ref (nat_lit 161)) Value.none (nat_lit 0))) (.mk []))
def o163 (P : Params) : Obj := (@Obj.mk (@Value.type "tuple") none (@Data.seq (.mk []) (nat_lit 0)) (.mk []))
def o164 (P : Params) : Obj := (@Obj.mk Value.none none (@Data.fields (.mk [])) (.mk []))
def o165 (P : Params) : Obj := (@Obj.mk (@Value.type "tuple") none (@Data.seq (.mk [(@Value.str (@Str.ofString "things") (nat_lit 389)), (@Value.str (@Str.ofString "looks") (nat_lit 390)), (@Value.str (@Str.ofString "menu") (nat_lit 391)), (@Value.str (@Str.ofString "thing") (nat_lit 392)), (@Value.str (@Str.ofString "certificate") (nat_lit 393))]) (nat_lit 0)) (.mk []))
def o166 (P : Params) : Obj := (@Obj.mk (@Value.type "tuple") none (@Data.seq (.mk []) (nat_lit 0)) (.mk []))
def o167 (P : Params) : Obj := (@Obj.mk Value.none none (@Data.func (@FuncData.mk (@Str.ofString "shows_surely") (@Str.ofString "shows_surely") (defArgs (topS 35)) (@FuncBody.stmts (defBody (topS 35))) (defScope (topS 35)) (nat_lit 0) [] Value.none Value.none Value.none Value.none none Value.none Value.none (nat_lit 0))) (.mk []))
def o168 (P : Params) : Obj := (@Obj.mk (@Value.type "code") none (@Data.fields (.mk [(@Value.str (@Str.ofString "shows_surely") (nat_lit 386)), (@Value.str (@Str.ofString "shows_surely") (nat_lit 387)), (@Value.str (@Str.ofString "/claim/cut.py") (nat_lit 388)), (@Value.int (.ofNat (nat_lit 101)) (nat_lit 0)), (@Value.int (.ofNat (nat_lit 5)) (nat_lit 0)), (@Value.int (.ofNat (nat_lit 0)) (nat_lit 0)), (@Value.int (.ofNat (nat_lit 0)) (nat_lit 0)), (@Value.int (.ofNat (nat_lit 3)) (nat_lit 0)), (@Value.ref (nat_lit 163)), (@Value.bool true), (@Value.int (.ofNat (nat_lit 181)) (nat_lit 0)), (@Value.ref (nat_lit 164)), Value.none, (@Value.ref (nat_lit 165)), (@Value.ref (nat_lit 166)), (@Value.ref (nat_lit 167)), (@Value.int (.ofNat (nat_lit 394)) (nat_lit 0)), (@Value.int (.ofNat (nat_lit 101)) (nat_lit 0)), (@Value.str (@Str.ofString "/claim/cut.py") (nat_lit 395))])) (.mk []))
def o169 (P : Params) : Obj := (@Obj.mk (@Value.type "function") none (@Data.func (@FuncData.mk (@Str.ofString "shows_surely") (@Str.ofString "shows_surely") (defArgs (topS 35)) (@FuncBody.stmts (defBody (topS 35))) (defScope (topS 35)) (nat_lit 3) [] Value.none Value.none Value.none (@Value.str (@Str.ofString "menuhouses.checker") (nat_lit 193)) none (@Value.ref (nat_lit 168)) Value.none (nat_lit 0))) (.mk []))
def o170 (P : Params) : Obj := (@Obj.mk (@Value.type "tuple") none (@Data.seq (.mk []) (nat_lit 0)) (.mk []))
def o171 (P : Params) : Obj := (@Obj.mk Value.none none (@Data.fields (.mk [])) (.mk []))
def o172 (P : Params) : Obj := (@Obj.mk (@Value.type "tuple") none (@Data.seq (.mk [(@Value.str (@Str.ofString "things") (nat_lit 400)), (@Value.str (@Str.ofString "looks") (nat_lit 401)), (@Value.str (@Str.ofString "menu") (nat_lit 402)), (@Value.str (@Str.ofString "thing") (nat_lit 403)), (@Value.str (@Str.ofString "certificate") (nat_lit 404)), (@Value.str (@Str.ofString "with_it") (nat_lit 405)), (@Value.str (@Str.ofString "without_it") (nat_lit 406))]) (nat_lit 0)) (.mk []))
def o173 (P : Params) : Obj := (@Obj.mk (@Value.type "tuple") none (@Data.seq (.mk []) (nat_lit 0)) (.mk []))
def o174 (P : Params) : Obj := (@Obj.mk Value.none none (@Data.func (@FuncData.mk (@Str.ofString "shows_perhaps") (@Str.ofString "shows_perhaps") (defArgs (topS 36)) (@FuncBody.stmts (defBody (topS 36))) (defScope (topS 36)) (nat_lit 0) [] Value.none Value.none Value.none Value.none none Value.none Value.none (nat_lit 0))) (.mk []))
def o175 (P : Params) : Obj := (@Obj.mk (@Value.type "code") none (@Data.fields (.mk [(@Value.str (@Str.ofString "shows_perhaps") (nat_lit 397)), (@Value.str (@Str.ofString "shows_perhaps") (nat_lit 398)), (@Value.str (@Str.ofString "/claim/cut.py") (nat_lit 399)), (@Value.int (.ofNat (nat_lit 105)) (nat_lit 0)), (@Value.int (.ofNat (nat_lit 5)) (nat_lit 0)), (@Value.int (.ofNat (nat_lit 0)) (nat_lit 0)), (@Value.int (.ofNat (nat_lit 0)) (nat_lit 0)), (@Value.int (.ofNat (nat_lit 3)) (nat_lit 0)), (@Value.ref (nat_lit 170)), (@Value.bool true), (@Value.int (.ofNat (nat_lit 181)) (nat_lit 0)), (@Value.ref (nat_lit 171)), Value.none, (@Value.ref (nat_lit 172)), (@Value.ref (nat_lit 173)), (@Value.ref (nat_lit 174)), (@Value.int (.ofNat (nat_lit 407)) (nat_lit 0)), (@Value.int (.ofNat (nat_lit 105)) (nat_lit 0)), (@Value.str (@Str.ofString "/claim/cut.py") (nat_lit 408))])) (.mk []))
def o176 (P : Params) : Obj := (@Obj.mk (@Value.type "function") none (@Data.func (@FuncData.mk (@Str.ofString "shows_perhaps") (@Str.ofString "shows_perhaps") (defArgs (topS 36)) (@FuncBody.stmts (defBody (topS 36))) (defScope (topS 36)) (nat_lit 3) [] Value.none Value.none Value.none (@Value.str (@Str.ofString "menuhouses.checker") (nat_lit 193)) none (@Value.ref (nat_lit 175)) Value.none (nat_lit 0))) (.mk []))
def o177 (P : Params) : Obj := (@Obj.mk (@Value.type "tuple") none (@Data.seq (.mk []) (nat_lit 0)) (.mk []))
def o178 (P : Params) : Obj := (@Obj.mk Value.none none (@Data.fields (.mk [])) (.mk []))
def o179 (P : Params) : Obj := (@Obj.mk Value.none none (@Data.func (@FuncData.mk (@Str.ofString "is_cover") (@Str.ofString "is_cover") (defArgs (topS 37)) (@FuncBody.stmts (defBody (topS 37))) (defScope (topS 37)) (nat_lit 0) [] Value.none Value.none Value.none Value.none none Value.none Value.none (nat_lit 0))) (.mk []))
def o180 (P : Params) : Obj := (@Obj.mk (@Value.type "code") none (@Data.fields (.mk [(@Value.str (@Str.ofString "is_cover") (nat_lit 410)), (@Value.str (@Str.ofString "is_cover") (nat_lit 411)), (@Value.str (@Str.ofString "/claim/cut.py") (nat_lit 412)), (@Value.int (.ofNat (nat_lit 113)) (nat_lit 0)), (@Value.int (.ofNat (nat_lit 3)) (nat_lit 0)), (@Value.int (.ofNat (nat_lit 0)) (nat_lit 0)), (@Value.int (.ofNat (nat_lit 0)) (nat_lit 0)), (@Value.int (.ofNat (nat_lit 3)) (nat_lit 0)), (@Value.ref (nat_lit 177)), (@Value.bool true), (@Value.int (.ofNat (nat_lit 181)) (nat_lit 0)), (@Value.ref (nat_lit 178)), Value.none, Value.none, Value.none, (@Value.ref (nat_lit 179)), (@Value.int (.ofNat (nat_lit 413)) (nat_lit 0)), (@Value.int (.ofNat (nat_lit 113)) (nat_lit 0)), (@Value.str (@Str.ofString "/claim/cut.py") (nat_lit 414))])) (.mk []))
def o181 (P : Params) : Obj := (@Obj.mk (@Value.type "function") none (@Data.func (@FuncData.mk (@Str.ofString "is_cover") (@Str.ofString "is_cover") (defArgs (topS 37)) (@FuncBody.stmts (defBody (topS 37))) (defScope (topS 37)) (nat_lit 3) [] Value.none Value.none Value.none (@Value.str (@Str.ofString "menuhouses.checker") (nat_lit 193)) none (@Value.ref (nat_lit 180)) Value.none (nat_lit 0))) (.mk []))
def o182 (P : Params) : Obj := (@Obj.mk (@Value.type "tuple") none (@Data.seq (.mk []) (nat_lit 0)) (.mk []))
def o183 (P : Params) : Obj := (@Obj.mk Value.none none (@Data.fields (.mk [])) (.mk []))
def o184 (P : Params) : Obj := (@Obj.mk Value.none none (@Data.func (@FuncData.mk (@Str.ofString "are_covers") (@Str.ofString "are_covers") (defArgs (topS 38)) (@FuncBody.stmts (defBody (topS 38))) (defScope (topS 38)) (nat_lit 0) [] Value.none Value.none Value.none Value.none none Value.none Value.none (nat_lit 0))) (.mk []))
def o185 (P : Params) : Obj := (@Obj.mk (@Value.type "code") none (@Data.fields (.mk [(@Value.str (@Str.ofString "are_covers") (nat_lit 416)), (@Value.str (@Str.ofString "are_covers") (nat_lit 417)), (@Value.str (@Str.ofString "/claim/cut.py") (nat_lit 418)), (@Value.int (.ofNat (nat_lit 117)) (nat_lit 0)), (@Value.int (.ofNat (nat_lit 3)) (nat_lit 0)), (@Value.int (.ofNat (nat_lit 0)) (nat_lit 0)), (@Value.int (.ofNat (nat_lit 0)) (nat_lit 0)), (@Value.int (.ofNat (nat_lit 3)) (nat_lit 0)), (@Value.ref (nat_lit 182)), (@Value.bool true), (@Value.int (.ofNat (nat_lit 181)) (nat_lit 0)), (@Value.ref (nat_lit 183)), Value.none, Value.none, Value.none, (@Value.ref (nat_lit 184)), (@Value.int (.ofNat (nat_lit 419)) (nat_lit 0)), (@Value.int (.ofNat (nat_lit 117)) (nat_lit 0)), (@Value.str (@Str.ofString "/claim/cut.py") (nat_lit 420))])) (.mk []))
def o186 (P : Params) : Obj := (@Obj.mk (@Value.type "function") none (@Data.func (@FuncData.mk (@Str.ofString "are_covers") (@Str.ofString "are_covers") (defArgs (topS 38)) (@FuncBody.stmts (defBody (topS 38))) (defScope (topS 38)) (nat_lit 3) [] Value.none Value.none Value.none (@Value.str (@Str.ofString "menuhouses.checker") (nat_lit 193)) none (@Value.ref (nat_lit 185)) Value.none (nat_lit 0))) (.mk []))
def o187 (P : Params) : Obj := (@Obj.mk (@Value.type "tuple") none (@Data.seq (.mk []) (nat_lit 0)) (.mk []))
def o188 (P : Params) : Obj := (@Obj.mk Value.none none (@Data.fields (.mk [])) (.mk []))
def o189 (P : Params) : Obj := (@Obj.mk (@Value.type "tuple") none (@Data.seq (.mk [(@Value.str (@Str.ofString "one") (nat_lit 425)), (@Value.str (@Str.ofString "other") (nat_lit 426)), (@Value.str (@Str.ofString "certificate") (nat_lit 427))]) (nat_lit 0)) (.mk []))
def o190 (P : Params) : Obj := (@Obj.mk (@Value.type "tuple") none (@Data.seq (.mk []) (nat_lit 0)) (.mk []))
def o191 (P : Params) : Obj := (@Obj.mk Value.none none (@Data.func (@FuncData.mk (@Str.ofString "shows_within") (@Str.ofString "shows_within") (defArgs (topS 39)) (@FuncBody.stmts (defBody (topS 39))) (defScope (topS 39)) (nat_lit 0) [] Value.none Value.none Value.none Value.none none Value.none Value.none (nat_lit 0))) (.mk []))
def o192 (P : Params) : Obj := (@Obj.mk (@Value.type "code") none (@Data.fields (.mk [(@Value.str (@Str.ofString "shows_within") (nat_lit 422)), (@Value.str (@Str.ofString "shows_within") (nat_lit 423)), (@Value.str (@Str.ofString "/claim/cut.py") (nat_lit 424)), (@Value.int (.ofNat (nat_lit 119)) (nat_lit 0)), (@Value.int (.ofNat (nat_lit 3)) (nat_lit 0)), (@Value.int (.ofNat (nat_lit 0)) (nat_lit 0)), (@Value.int (.ofNat (nat_lit 0)) (nat_lit 0)), (@Value.int (.ofNat (nat_lit 3)) (nat_lit 0)), (@Value.ref (nat_lit 187)), (@Value.bool true), (@Value.int (.ofNat (nat_lit 181)) (nat_lit 0)), (@Value.ref (nat_lit 188)), Value.none, (@Value.ref (nat_lit 189)), (@Value.ref (nat_lit 190)), (@Value.ref (nat_lit 191)), (@Value.int (.ofNat (nat_lit 428)) (nat_lit 0)), (@Value.int (.ofNat (nat_lit 119)) (nat_lit 0)), (@Value.str (@Str.ofString "/claim/cut.py") (nat_lit 429))])) (.mk []))
def o193 (P : Params) : Obj := (@Obj.mk (@Value.type "function") none (@Data.func (@FuncData.mk (@Str.ofString "shows_within") (@Str.ofString "shows_within") (defArgs (topS 39)) (@FuncBody.stmts (defBody (topS 39))) (defScope (topS 39)) (nat_lit 3) [] Value.none Value.none Value.none (@Value.str (@Str.ofString "menuhouses.checker") (nat_lit 193)) none (@Value.ref (nat_lit 192)) Value.none (nat_lit 0))) (.mk []))
def o194 (P : Params) : Obj := (@Obj.mk (@Value.type "tuple") none (@Data.seq (.mk []) (nat_lit 0)) (.mk []))
def o195 (P : Params) : Obj := (@Obj.mk Value.none none (@Data.fields (.mk [])) (.mk []))
def o196 (P : Params) : Obj := (@Obj.mk (@Value.type "tuple") none (@Data.seq (.mk [(@Value.str (@Str.ofString "one") (nat_lit 434)), (@Value.str (@Str.ofString "other") (nat_lit 435)), (@Value.str (@Str.ofString "certificate") (nat_lit 436))]) (nat_lit 0)) (.mk []))
def o197 (P : Params) : Obj := (@Obj.mk (@Value.type "tuple") none (@Data.seq (.mk []) (nat_lit 0)) (.mk []))
def o198 (P : Params) : Obj := (@Obj.mk Value.none none (@Data.func (@FuncData.mk (@Str.ofString "shows_alike") (@Str.ofString "shows_alike") (defArgs (topS 40)) (@FuncBody.stmts (defBody (topS 40))) (defScope (topS 40)) (nat_lit 0) [] Value.none Value.none Value.none Value.none none Value.none Value.none (nat_lit 0))) (.mk []))
def o199 (P : Params) : Obj := (@Obj.mk (@Value.type "code") none (@Data.fields (.mk [(@Value.str (@Str.ofString "shows_alike") (nat_lit 431)), (@Value.str (@Str.ofString "shows_alike") (nat_lit 432)), (@Value.str (@Str.ofString "/claim/cut.py") (nat_lit 433)), (@Value.int (.ofNat (nat_lit 121)) (nat_lit 0)), (@Value.int (.ofNat (nat_lit 3)) (nat_lit 0)), (@Value.int (.ofNat (nat_lit 0)) (nat_lit 0)), (@Value.int (.ofNat (nat_lit 0)) (nat_lit 0)), (@Value.int (.ofNat (nat_lit 3)) (nat_lit 0)), (@Value.ref (nat_lit 194)), (@Value.bool true), (@Value.int (.ofNat (nat_lit 181)) (nat_lit 0)), (@Value.ref (nat_lit 195)), Value.none, (@Value.ref (nat_lit 196)), (@Value.ref (nat_lit 197)), (@Value.ref (nat_lit 198)), (@Value.int (.ofNat (nat_lit 437)) (nat_lit 0)), (@Value.int (.ofNat (nat_lit 121)) (nat_lit 0)), (@Value.str (@Str.ofString "/claim/cut.py") (nat_lit 438))])) (.mk []))
def o200 (P : Params) : Obj := (@Obj.mk (@Value.type "function") none (@Data.func (@FuncData.mk (@Str.ofString "shows_alike") (@Str.ofString "shows_alike") (defArgs (topS 40)) (@FuncBody.stmts (defBody (topS 40))) (defScope (topS 40)) (nat_lit 3) [] Value.none Value.none Value.none (@Value.str (@Str.ofString "menuhouses.checker") (nat_lit 193)) none (@Value.ref (nat_lit 199)) Value.none (nat_lit 0))) (.mk []))
def o201 (P : Params) : Obj := (@Obj.mk (@Value.type "tuple") none (@Data.seq (.mk []) (nat_lit 0)) (.mk []))
def o202 (P : Params) : Obj := (@Obj.mk Value.none none (@Data.fields (.mk [])) (.mk []))
def o203 (P : Params) : Obj := (@Obj.mk (@Value.type "tuple") none (@Data.seq (.mk [(@Value.str (@Str.ofString "one") (nat_lit 443)), (@Value.str (@Str.ofString "other") (nat_lit 444)), (@Value.str (@Str.ofString "certificate") (nat_lit 445)), (@Value.str (@Str.ofString "menu") (nat_lit 446)), (@Value.str (@Str.ofString "thing") (nat_lit 447))]) (nat_lit 0)) (.mk []))
def o204 (P : Params) : Obj := (@Obj.mk (@Value.type "tuple") none (@Data.seq (.mk []) (nat_lit 0)) (.mk []))
def o205 (P : Params) : Obj := (@Obj.mk Value.none none (@Data.func (@FuncData.mk (@Str.ofString "shows_apart") (@Str.ofString "shows_apart") (defArgs (topS 41)) (@FuncBody.stmts (defBody (topS 41))) (defScope (topS 41)) (nat_lit 0) [] Value.none Value.none Value.none Value.none none Value.none Value.none (nat_lit 0))) (.mk []))
def o206 (P : Params) : Obj := (@Obj.mk (@Value.type "code") none (@Data.fields (.mk [(@Value.str (@Str.ofString "shows_apart") (nat_lit 440)), (@Value.str (@Str.ofString "shows_apart") (nat_lit 441)), (@Value.str (@Str.ofString "/claim/cut.py") (nat_lit 442)), (@Value.int (.ofNat (nat_lit 125)) (nat_lit 0)), (@Value.int (.ofNat (nat_lit 3)) (nat_lit 0)), (@Value.int (.ofNat (nat_lit 0)) (nat_lit 0)), (@Value.int (.ofNat (nat_lit 0)) (nat_lit 0)), (@Value.int (.ofNat (nat_lit 3)) (nat_lit 0)), (@Value.ref (nat_lit 201)), (@Value.bool true), (@Value.int (.ofNat (nat_lit 181)) (nat_lit 0)), (@Value.ref (nat_lit 202)), Value.none, (@Value.ref (nat_lit 203)), (@Value.ref (nat_lit 204)), (@Value.ref (nat_lit 205)), (@Value.int (.ofNat (nat_lit 448)) (nat_lit 0)), (@Value.int (.ofNat (nat_lit 125)) (nat_lit 0)), (@Value.str (@Str.ofString "/claim/cut.py") (nat_lit 449))])) (.mk []))
def o207 (P : Params) : Obj := (@Obj.mk (@Value.type "function") none (@Data.func (@FuncData.mk (@Str.ofString "shows_apart") (@Str.ofString "shows_apart") (defArgs (topS 41)) (@FuncBody.stmts (defBody (topS 41))) (defScope (topS 41)) (nat_lit 3) [] Value.none Value.none Value.none (@Value.str (@Str.ofString "menuhouses.checker") (nat_lit 193)) none (@Value.ref (nat_lit 206)) Value.none (nat_lit 0))) (.mk []))
def o208 (P : Params) : Obj := (@Obj.mk (@Value.type "tuple") none (@Data.seq (.mk []) (nat_lit 0)) (.mk []))
def o209 (P : Params) : Obj := (@Obj.mk Value.none none (@Data.fields (.mk [])) (.mk []))
def o210 (P : Params) : Obj := (@Obj.mk (@Value.type "tuple") none (@Data.seq (.mk [(@Value.str (@Str.ofString "one") (nat_lit 454)), (@Value.str (@Str.ofString "other") (nat_lit 455)), (@Value.str (@Str.ofString "certificate") (nat_lit 456)), (@Value.str (@Str.ofString "row") (nat_lit 457))]) (nat_lit 0)) (.mk []))
def o211 (P : Params) : Obj := (@Obj.mk (@Value.type "tuple") none (@Data.seq (.mk []) (nat_lit 0)) (.mk []))
def o212 (P : Params) : Obj := (@Obj.mk Value.none none (@Data.func (@FuncData.mk (@Str.ofString "shows_common") (@Str.ofString "shows_common") (defArgs (topS 42)) (@FuncBody.stmts (defBody (topS 42))) (defScope (topS 42)) (nat_lit 0) [] Value.none Value.none Value.none Value.none none Value.none Value.none (nat_lit 0))) (.mk []))
def o213 (P : Params) : Obj := (@Obj.mk (@Value.type "code") none (@Data.fields (.mk [(@Value.str (@Str.ofString "shows_common") (nat_lit 451)), (@Value.str (@Str.ofString "shows_common") (nat_lit 452)), (@Value.str (@Str.ofString "/claim/cut.py") (nat_lit 453)), (@Value.int (.ofNat (nat_lit 132)) (nat_lit 0)), (@Value.int (.ofNat (nat_lit 3)) (nat_lit 0)), (@Value.int (.ofNat (nat_lit 0)) (nat_lit 0)), (@Value.int (.ofNat (nat_lit 0)) (nat_lit 0)), (@Value.int (.ofNat (nat_lit 3)) (nat_lit 0)), (@Value.ref (nat_lit 208)), (@Value.bool true), (@Value.int (.ofNat (nat_lit 181)) (nat_lit 0)), (@Value.ref (nat_lit 209)), Value.none, (@Value.ref (nat_lit 210)), (@Value.ref (nat_lit 211)), (@Value.ref (nat_lit 212)), (@Value.int (.ofNat (nat_lit 458)) (nat_lit 0)), (@Value.int (.ofNat (nat_lit 132)) (nat_lit 0)), (@Value.str (@Str.ofString "/claim/cut.py") (nat_lit 459))])) (.mk []))
def o214 (P : Params) : Obj := (@Obj.mk (@Value.type "function") none (@Data.func (@FuncData.mk (@Str.ofString "shows_common") (@Str.ofString "shows_common") (defArgs (topS 42)) (@FuncBody.stmts (defBody (topS 42))) (defScope (topS 42)) (nat_lit 3) [] Value.none Value.none Value.none (@Value.str (@Str.ofString "menuhouses.checker") (nat_lit 193)) none (@Value.ref (nat_lit 213)) Value.none (nat_lit 0))) (.mk []))
def o215 (P : Params) : Obj := (@Obj.mk (@Value.type "tuple") none (@Data.seq (.mk []) (nat_lit 0)) (.mk []))
def o216 (P : Params) : Obj := (@Obj.mk Value.none none (@Data.fields (.mk [])) (.mk []))
def o217 (P : Params) : Obj := (@Obj.mk Value.none none (@Data.func (@FuncData.mk (@Str.ofString "shows_foreign") (@Str.ofString "shows_foreign") (defArgs (topS 43)) (@FuncBody.stmts (defBody (topS 43))) (defScope (topS 43)) (nat_lit 0) [] Value.none Value.none Value.none Value.none none Value.none Value.none (nat_lit 0))) (.mk []))
def o218 (P : Params) : Obj := (@Obj.mk (@Value.type "code") none (@Data.fields (.mk [(@Value.str (@Str.ofString "shows_foreign") (nat_lit 461)), (@Value.str (@Str.ofString "shows_foreign") (nat_lit 462)), (@Value.str (@Str.ofString "/claim/cut.py") (nat_lit 463)), (@Value.int (.ofNat (nat_lit 139)) (nat_lit 0)), (@Value.int (.ofNat (nat_lit 3)) (nat_lit 0)), (@Value.int (.ofNat (nat_lit 0)) (nat_lit 0)), (@Value.int (.ofNat (nat_lit 0)) (nat_lit 0)), (@Value.int (.ofNat (nat_lit 3)) (nat_lit 0)), (@Value.ref (nat_lit 215)), (@Value.bool true), (@Value.int (.ofNat (nat_lit 181)) (nat_lit 0)), (@Value.ref (nat_lit 216)), Value.none, Value.none, Value.none, (@Value.ref (nat_lit 217)), (@Value.int (.ofNat (nat_lit 464)) (nat_lit 0)), (@Value.int (.ofNat (nat_lit 139)) (nat_lit 0)), (@Value.str (@Str.ofString "/claim/cut.py") (nat_lit 465))])) (.mk []))
def o219 (P : Params) : Obj := (@Obj.mk (@Value.type "function") none (@Data.func (@FuncData.mk (@Str.ofString "shows_foreign") (@Str.ofString "shows_foreign") (defArgs (topS 43)) (@FuncBody.stmts (defBody (topS 43))) (defScope (topS 43)) (nat_lit 3) [] Value.none Value.none Value.none (@Value.str (@Str.ofString "menuhouses.checker") (nat_lit 193)) none (@Value.ref (nat_lit 218)) Value.none (nat_lit 0))) (.mk []))
def o220 (P : Params) : Obj := (@Obj.mk (@Value.type "tuple") none (@Data.seq (.mk []) (nat_lit 0)) (.mk []))
def o221 (P : Params) : Obj := (@Obj.mk Value.none none (@Data.fields (.mk [])) (.mk []))
def o222 (P : Params) : Obj := (@Obj.mk Value.none none (@Data.func (@FuncData.mk (@Str.ofString "is_crest") (@Str.ofString "is_crest") (defArgs (topS 44)) (@FuncBody.stmts (defBody (topS 44))) (defScope (topS 44)) (nat_lit 0) [] Value.none Value.none Value.none Value.none none Value.none Value.none (nat_lit 0))) (.mk []))
def o223 (P : Params) : Obj := (@Obj.mk (@Value.type "code") none (@Data.fields (.mk [(@Value.str (@Str.ofString "is_crest") (nat_lit 467)), (@Value.str (@Str.ofString "is_crest") (nat_lit 468)), (@Value.str (@Str.ofString "/claim/cut.py") (nat_lit 469)), (@Value.int (.ofNat (nat_lit 143)) (nat_lit 0)), (@Value.int (.ofNat (nat_lit 2)) (nat_lit 0)), (@Value.int (.ofNat (nat_lit 0)) (nat_lit 0)), (@Value.int (.ofNat (nat_lit 0)) (nat_lit 0)), (@Value.int (.ofNat (nat_lit 3)) (nat_lit 0)), (@Value.ref (nat_lit 220)), (@Value.bool true), (@Value.int (.ofNat (nat_lit 181)) (nat_lit 0)), (@Value.ref (nat_lit 221)), Value.none, Value.none, Value.none, (@Value.ref (nat_lit 222)), (@Value.int (.ofNat (nat_lit 470)) (nat_lit 0)), (@Value.int (.ofNat (nat_lit 143)) (nat_lit 0)), (@Value.str (@Str.ofString "/claim/cut.py") (nat_lit 471))])) (.mk []))
def o224 (P : Params) : Obj := (@Obj.mk (@Value.type "function") none (@Data.func (@FuncData.mk (@Str.ofString "is_crest") (@Str.ofString "is_crest") (defArgs (topS 44)) (@FuncBody.stmts (defBody (topS 44))) (defScope (topS 44)) (nat_lit 3) [] Value.none Value.none Value.none (@Value.str (@Str.ofString "menuhouses.checker") (nat_lit 193)) none (@Value.ref (nat_lit 223)) Value.none (nat_lit 0))) (.mk []))
def o225 (P : Params) : Obj := (@Obj.mk (@Value.type "tuple") none (@Data.seq (.mk []) (nat_lit 0)) (.mk []))
def o226 (P : Params) : Obj := (@Obj.mk Value.none none (@Data.fields (.mk [])) (.mk []))
def o227 (P : Params) : Obj := (@Obj.mk Value.none none (@Data.func (@FuncData.mk (@Str.ofString "are_loose") (@Str.ofString "are_loose") (defArgs (topS 45)) (@FuncBody.stmts (defBody (topS 45))) (defScope (topS 45)) (nat_lit 0) [] Value.none Value.none Value.none Value.none none Value.none Value.none (nat_lit 0))) (.mk []))
def o228 (P : Params) : Obj := (@Obj.mk (@Value.type "code") none (@Data.fields (.mk [(@Value.str (@Str.ofString "are_loose") (nat_lit 473)), (@Value.str (@Str.ofString "are_loose") (nat_lit 474)), (@Value.str (@Str.ofString "/claim/cut.py") (nat_lit 475)), (@Value.int (.ofNat (nat_lit 150)) (nat_lit 0)), (@Value.int (.ofNat (nat_lit 1)) (nat_lit 0)), (@Value.int (.ofNat (nat_lit 0)) (nat_lit 0)), (@Value.int (.ofNat (nat_lit 0)) (nat_lit 0)), (@Value.int (.ofNat (nat_lit 3)) (nat_lit 0)), (@Value.ref (nat_lit 225)), (@Value.bool true), (@Value.int (.ofNat (nat_lit 181)) (nat_lit 0)), (@Value.ref (nat_lit 226)), Value.none, Value.none, Value.none, (@Value.ref (nat_lit 227)), (@Value.int (.ofNat (nat_lit 476)) (nat_lit 0)), (@Value.int (.ofNat (nat_lit 150)) (nat_lit 0)), (@Value.str (@Str.ofString "/claim/cut.py") (nat_lit 477))])) (.mk []))
def o229 (P : Params) : Obj := (@Obj.mk (@Value.type "function") none (@Data.func (@FuncData.mk (@Str.ofString "are_loose") (@Str.ofString "are_loose") (defArgs (topS 45)) (@FuncBody.stmts (defBody (topS 45))) (defScope (topS 45)) (nat_lit 3) [] Value.none Value.none Value.none (@Value.str (@Str.ofString "menuhouses.checker") (nat_lit 193)) none (@Value.ref (nat_lit 228)) Value.none (nat_lit 0))) (.mk []))
def o230 (P : Params) : Obj := (@Obj.mk (@Value.type "tuple") none (@Data.seq (.mk []) (nat_lit 0)) (.mk []))
def o231 (P : Params) : Obj := (@Obj.mk Value.none none (@Data.fields (.mk [])) (.mk []))
def o232 (P : Params) : Obj := (@Obj.mk Value.none none (@Data.func (@FuncData.mk (@Str.ofString "shows_fewest") (@Str.ofString "shows_fewest") (defArgs (topS 46)) (@FuncBody.stmts (defBody (topS 46))) (defScope (topS 46)) (nat_lit 0) [] Value.none Value.none Value.none Value.none none Value.none Value.none (nat_lit 0))) (.mk []))
def o233 (P : Params) : Obj := (@Obj.mk (@Value.type "code") none (@Data.fields (.mk [(@Value.str (@Str.ofString "shows_fewest") (nat_lit 479)), (@Value.str (@Str.ofString "shows_fewest") (nat_lit 480)), (@Value.str (@Str.ofString "/claim/cut.py") (nat_lit 481)), (@Value.int (.ofNat (nat_lit 153)) (nat_lit 0)), (@Value.int (.ofNat (nat_lit 3)) (nat_lit 0)), (@Value.int (.ofNat (nat_lit 0)) (nat_lit 0)), (@Value.int (.ofNat (nat_lit 0)) (nat_lit 0)), (@Value.int (.ofNat (nat_lit 3)) (nat_lit 0)), (@Value.ref (nat_lit 230)), (@Value.bool true), (@Value.int (.ofNat (nat_lit 181)) (nat_lit 0)), (@Value.ref (nat_lit 231)), Value.none, Value.none, Value.none, (@Value.ref (nat_lit 232)), (@Value.int (.ofNat (nat_lit 482)) (nat_lit 0)), (@Value.int (.ofNat (nat_lit 153)) (nat_lit 0)), (@Value.str (@Str.ofString "/claim/cut.py") (nat_lit 483))])) (.mk []))
def o234 (P : Params) : Obj := (@Obj.mk (@Value.type "function") none (@Data.func (@FuncData.mk (@Str.ofString "shows_fewest") (@Str.ofString "shows_fewest") (defArgs (topS 46)) (@FuncBody.stmts (defBody (topS 46))) (defScope (topS 46)) (nat_lit 3) [] Value.none Value.none Value.none (@Value.str (@Str.ofString "menuhouses.checker") (nat_lit 193)) none (@Value.ref (nat_lit 233)) Value.none (nat_lit 0))) (.mk []))
def o3v1 (P : Params) : Obj := (@Obj.mk (@Value.type "dict") none (@Data.dict (.mk [(@DictEntry.mk (@PyData.keyHash P (@Str.ofString "__name__")) (@Value.str (@Str.ofString "__name__") (nat_lit 165)) (@Value.str (@Str.ofString "menuhouses.checker") (nat_lit 193))), (@DictEntry.mk (@PyData.keyHash P (@Str.ofString "__doc__")) (@Value.str (@Str.ofString "__doc__") (nat_lit 166)) Value.none), (@DictEntry.mk (@PyData.keyHash P (@Str.ofString "__package__")) (@Value.str (@Str.ofString "__package__") (nat_lit 167)) Value.none), (@DictEntry.mk (@PyData.keyHash P (@Str.ofString "__loader__")) (@Value.str (@Str.ofString "__loader__") (nat_lit 168)) (@Value.builtin "__main__.__loader__#opaque")), (@DictEntry.mk (@PyData.keyHash P (@Str.ofString "__spec__")) (@Value.str (@Str.ofString "__spec__") (nat_lit 169)) Value.none), (@DictEntry.mk (@PyData.keyHash P (@Str.ofString "__annotations__")) (@Value.str (@Str.ofString "__annotations__") (nat_lit 170)) (@Value.ref (nat_lit 6))), (@DictEntry.mk (@PyData.keyHash P (@Str.ofString "__builtins__")) (@Value.str (@Str.ofString "__builtins__") (nat_lit 171)) (@Value.ref (nat_lit 4))), (@DictEntry.mk (@PyData.keyHash P (@Str.ofString "__file__")) (@Value.str (@Str.ofString "__file__") (nat_lit 173)) (@Value.str (@Str.ofString "/claim/cut.py") (nat_lit 172))), (@DictEntry.mk (@PyData.keyHash P (@Str.ofString "__cached__")) (@Value.str (@Str.ofString "__cached__") (nat_lit 174)) Value.none), (@DictEntry.mk (@PyData.keyHash P (@Str.ofString "MOST_THINGS")) (@Value.str (@Str.ofString "MOST_THINGS") (nat_lit 188)) (@Value.int (.ofNat (nat_lit 10)) (nat_lit 187))), (@DictEntry.mk (@PyData.keyHash P (@Str.ofString "MOST_PEOPLE")) (@Value.str (@Str.ofString "MOST_PEOPLE") (nat_lit 190)) (@Value.int (.ofNat (nat_lit 24)) (nat_lit 189))), (@DictEntry.mk (@PyData.keyHash P (@Str.ofString "MOST_LOOKS")) (@Value.str (@Str.ofString "MOST_LOOKS") (nat_lit 192)) (@Value.int (.ofNat (nat_lit 12)) (nat_lit 191))), (@DictEntry.mk (@PyData.keyHash P (@Str.ofString "LETTERS")) (@Value.str (@Str.ofString "LETTERS") (nat_lit 196)) (@Value.str (@Str.ofString "abcdefghijklmnopqrstuvwxyz") (nat_lit 195))), (@DictEntry.mk (@PyData.keyHash P (@Str.ofString "DIGITS")) (@Value.str (@Str.ofString "DIGITS") (nat_lit 198)) (@Value.str (@Str.ofString "0123456789") (nat_lit 197))), (@DictEntry.mk (@PyData.keyHash P (@Str.ofString "LONGEST_NAME")) (@Value.str (@Str.ofString "LONGEST_NAME") (nat_lit 200)) (@Value.int (.ofNat (nat_lit 8)) (nat_lit 199))), (@DictEntry.mk (@PyData.keyHash P (@Str.ofString "MARKS")) (@Value.str (@Str.ofString "MARKS") (nat_lit 202)) (@Value.str (@Str.ofString "+-?") (nat_lit 201))), (@DictEntry.mk (@PyData.keyHash P (@Str.ofString "MOST_IN_CERTIFICATES")) (@Value.str (@Str.ofString "MOST_IN_CERTIFICATES") (nat_lit 204)) (@Value.int (.ofNat (nat_lit 130)) (nat_lit 203))), (@DictEntry.mk (@PyData.keyHash P (@Str.ofString "is_integer")) (@Value.str (@Str.ofString "is_integer") (nat_lit 211)) (@Value.ref (nat_lit 21))), (@DictEntry.mk (@PyData.keyHash P (@Str.ofString "is_index")) (@Value.str (@Str.ofString "is_index") (nat_lit 219)) (@Value.ref (nat_lit 28))), (@DictEntry.mk (@PyData.keyHash P (@Str.ofString "is_tuple_of")) (@Value.str (@Str.ofString "is_tuple_of") (nat_lit 227)) (@Value.ref (nat_lit 35))), (@DictEntry.mk (@PyData.keyHash P (@Str.ofString "is_name")) (@Value.str (@Str.ofString "is_name") (nat_lit 233)) (@Value.ref (nat_lit 40))), (@DictEntry.mk (@PyData.keyHash P (@Str.ofString "is_one_of")) (@Value.str (@Str.ofString "is_one_of") (nat_lit 241)) (@Value.ref (nat_lit 47))), (@DictEntry.mk (@PyData.keyHash P (@Str.ofString "is_ascending")) (@Value.str (@Str.ofString "is_ascending") (nat_lit 247)) (@Value.ref (nat_lit 52))), (@DictEntry.mk (@PyData.keyHash P (@Str.ofString "is_part")) (@Value.str (@Str.ofString "is_part") (nat_lit 253)) (@Value.ref (nat_lit 57))), (@DictEntry.mk (@PyData.keyHash P (@Str.ofString "are_things")) (@Value.str (@Str.ofString "are_things") (nat_lit 259)) (@Value.ref (nat_lit 62))), (@DictEntry.mk (@PyData.keyHash P (@Str.ofString "is_set")) (@Value.str (@Str.ofString "is_set") (nat_lit 265)) (@Value.ref (nat_lit 67))), (@DictEntry.mk (@PyData.keyHash P (@Str.ofString "is_menu")) (@Value.str (@Str.ofString "is_menu") (nat_lit 273)) (@Value.ref (nat_lit 74))), (@DictEntry.mk (@PyData.keyHash P (@Str.ofString "without")) (@Value.str (@Str.ofString "without") (nat_lit 279)) (@Value.ref (nat_lit 79))), (@DictEntry.mk (@PyData.keyHash P (@Str.ofString "row_of")) (@Value.str (@Str.ofString "row_of") (nat_lit 285)) (@Value.ref (nat_lit 84))), (@DictEntry.mk (@PyData.keyHash P (@Str.ofString "house_of_text")) (@Value.str (@Str.ofString "house_of_text") (nat_lit 291)) (@Value.ref (nat_lit 89))), (@DictEntry.mk (@PyData.keyHash P (@Str.ofString "look_of")) (@Value.str (@Str.ofString "look_of") (nat_lit 297)) (@Value.ref (nat_lit 94))), (@DictEntry.mk (@PyData.keyHash P (@Str.ofString "looks_of")) (@Value.str (@Str.ofString "looks_of") (nat_lit 303)) (@Value.ref (nat_lit 99))), (@DictEntry.mk (@PyData.keyHash P (@Str.ofString "best")) (@Value.str (@Str.ofString "best") (nat_lit 309)) (@Value.ref (nat_lit 104))), (@DictEntry.mk (@PyData.keyHash P (@Str.ofString "takes")) (@Value.str (@Str.ofString "takes") (nat_lit 315)) (@Value.ref (nat_lit 109))), (@DictEntry.mk (@PyData.keyHash P (@Str.ofString "has")) (@Value.str (@Str.ofString "has") (nat_lit 321)) (@Value.ref (nat_lit 114))), (@DictEntry.mk (@PyData.keyHash P (@Str.ofString "people_who_fit")) (@Value.str (@Str.ofString "people_who_fit") (nat_lit 327)) (@Value.ref (nat_lit 119))), (@DictEntry.mk (@PyData.keyHash P (@Str.ofString "is_barred")) (@Value.str (@Str.ofString "is_barred") (nat_lit 333)) (@Value.ref (nat_lit 124))), (@DictEntry.mk (@PyData.keyHash P (@Str.ofString "is_bar")) (@Value.str (@Str.ofString "is_bar") (nat_lit 339)) (@Value.ref (nat_lit 129))), (@DictEntry.mk (@PyData.keyHash P (@Str.ofString "sharpened")) (@Value.str (@Str.ofString "sharpened") (nat_lit 345)) (@Value.ref (nat_lit 134))), (@DictEntry.mk (@PyData.keyHash P (@Str.ofString "is_need_and_bar")) (@Value.str (@Str.ofString "is_need_and_bar") (nat_lit 356)) (@Value.ref (nat_lit 141))), (@DictEntry.mk (@PyData.keyHash P (@Str.ofString "shows_fits")) (@Value.str (@Str.ofString "shows_fits") (nat_lit 365)) (@Value.ref (nat_lit 148))), (@DictEntry.mk (@PyData.keyHash P (@Str.ofString "shows_unfit")) (@Value.str (@Str.ofString "shows_unfit") (nat_lit 374)) (@Value.ref (nat_lit 155))), (@DictEntry.mk (@PyData.keyHash P (@Str.ofString "shows_never")) (@Value.str (@Str.ofString "shows_never") (nat_lit 385)) (@Value.ref (nat_lit 162))), (@DictEntry.mk (@PyData.keyHash P (@Str.ofString "shows_surely")) (@Value.str (@Str.ofString "shows_surely") (nat_lit 396)) (@Value.ref (nat_lit 169))), (@DictEntry.mk (@PyData.keyHash P (@Str.ofString "shows_perhaps")) (@Value.str (@Str.ofString "shows_perhaps") (nat_lit 409)) (@Value.ref (nat_lit 176))), (@DictEntry.mk (@PyData.keyHash P (@Str.ofString "is_cover")) (@Value.str (@Str.ofString "is_cover") (nat_lit 415)) (@Value.ref (nat_lit 181))), (@DictEntry.mk (@PyData.keyHash P (@Str.ofString "are_covers")) (@Value.str (@Str.ofString "are_covers") (nat_lit 421)) (@Value.ref (nat_lit 186))), (@DictEntry.mk (@PyData.keyHash P (@Str.ofString "shows_within")) (@Value.str (@Str.ofString "shows_within") (nat_lit 430)) (@Value.ref (nat_lit 193))), (@DictEntry.mk (@PyData.keyHash P (@Str.ofString "shows_alike")) (@Value.str (@Str.ofString "shows_alike") (nat_lit 439)) (@Value.ref (nat_lit 200))), (@DictEntry.mk (@PyData.keyHash P (@Str.ofString "shows_apart")) (@Value.str (@Str.ofString "shows_apart") (nat_lit 450)) (@Value.ref (nat_lit 207))), (@DictEntry.mk (@PyData.keyHash P (@Str.ofString "shows_common")) (@Value.str (@Str.ofString "shows_common") (nat_lit 460)) (@Value.ref (nat_lit 214))), (@DictEntry.mk (@PyData.keyHash P (@Str.ofString "shows_foreign")) (@Value.str (@Str.ofString "shows_foreign") (nat_lit 466)) (@Value.ref (nat_lit 219))), (@DictEntry.mk (@PyData.keyHash P (@Str.ofString "is_crest")) (@Value.str (@Str.ofString "is_crest") (nat_lit 472)) (@Value.ref (nat_lit 224))), (@DictEntry.mk (@PyData.keyHash P (@Str.ofString "are_loose")) (@Value.str (@Str.ofString "are_loose") (nat_lit 478)) (@Value.ref (nat_lit 229))), (@DictEntry.mk (@PyData.keyHash P (@Str.ofString "shows_fewest")) (@Value.str (@Str.ofString "shows_fewest") (nat_lit 484)) (@Value.ref (nat_lit 234))), (@DictEntry.mk (@PyData.keyHash P (@Str.ofString "OF_LOOKS")) (@Value.str (@Str.ofString "OF_LOOKS") (nat_lit 489)) (@Value.ref (nat_lit 235))), (@DictEntry.mk (@PyData.keyHash P (@Str.ofString "OF_ANSWERS")) (@Value.str (@Str.ofString "OF_ANSWERS") (nat_lit 496)) (@Value.ref (nat_lit 236))), (@DictEntry.mk (@PyData.keyHash P (@Str.ofString "OF_HOUSES")) (@Value.str (@Str.ofString "OF_HOUSES") (nat_lit 507)) (@Value.ref (nat_lit 237)))]) (nat_lit 58)) (.mk []))
def o235 (P : Params) : Obj := (@Obj.mk (@Value.type "dict") none (@Data.dict (.mk [(@DictEntry.mk (@PyData.keyHash P (@Str.ofString "fits")) (@Value.str (@Str.ofString "fits") (nat_lit 485)) (@Value.ref (nat_lit 148))), (@DictEntry.mk (@PyData.keyHash P (@Str.ofString "unfit")) (@Value.str (@Str.ofString "unfit") (nat_lit 486)) (@Value.ref (nat_lit 155)))]) (nat_lit 2)) (.mk []))
def o236 (P : Params) : Obj := (@Obj.mk (@Value.type "dict") none (@Data.dict (.mk [(@DictEntry.mk (@PyData.keyHash P (@Str.ofString "never")) (@Value.str (@Str.ofString "never") (nat_lit 490)) (@Value.ref (nat_lit 162))), (@DictEntry.mk (@PyData.keyHash P (@Str.ofString "surely")) (@Value.str (@Str.ofString "surely") (nat_lit 491)) (@Value.ref (nat_lit 169))), (@DictEntry.mk (@PyData.keyHash P (@Str.ofString "perhaps")) (@Value.str (@Str.ofString "perhaps") (nat_lit 492)) (@Value.ref (nat_lit 176)))]) (nat_lit 3)) (.mk []))
def o237 (P : Params) : Obj := (@Obj.mk (@Value.type "dict") none (@Data.dict (.mk [(@DictEntry.mk (@PyData.keyHash P (@Str.ofString "within")) (@Value.str (@Str.ofString "within") (nat_lit 497)) (@Value.ref (nat_lit 193))), (@DictEntry.mk (@PyData.keyHash P (@Str.ofString "alike")) (@Value.str (@Str.ofString "alike") (nat_lit 498)) (@Value.ref (nat_lit 200))), (@DictEntry.mk (@PyData.keyHash P (@Str.ofString "apart")) (@Value.str (@Str.ofString "apart") (nat_lit 499)) (@Value.ref (nat_lit 207))), (@DictEntry.mk (@PyData.keyHash P (@Str.ofString "common")) (@Value.str (@Str.ofString "common") (nat_lit 500)) (@Value.ref (nat_lit 214))), (@DictEntry.mk (@PyData.keyHash P (@Str.ofString "foreign")) (@Value.str (@Str.ofString "foreign") (nat_lit 501)) (@Value.ref (nat_lit 219)))]) (nat_lit 5)) (.mk []))
def o2 (P : Params) : Obj := (@Obj.mk Value.none none (@Data.dict (.mk []) (nat_lit 0)) (.mk []))
def o3v2 (P : Params) : Obj := (@Obj.mk (@Value.type "dict") none (@Data.dict (.mk [(@DictEntry.mk (@PyData.keyHash P (@Str.ofString "__name__")) (@Value.str (@Str.ofString "__name__") (nat_lit 165)) (@Value.str (@Str.ofString "law_menuhouses_k72_two_peoples_judged") (nat_lit 566))), (@DictEntry.mk (@PyData.keyHash P (@Str.ofString "__doc__")) (@Value.str (@Str.ofString "__doc__") (nat_lit 166)) Value.none), (@DictEntry.mk (@PyData.keyHash P (@Str.ofString "__package__")) (@Value.str (@Str.ofString "__package__") (nat_lit 167)) Value.none), (@DictEntry.mk (@PyData.keyHash P (@Str.ofString "__loader__")) (@Value.str (@Str.ofString "__loader__") (nat_lit 168)) (@Value.builtin "__main__.__loader__#opaque")), (@DictEntry.mk (@PyData.keyHash P (@Str.ofString "__spec__")) (@Value.str (@Str.ofString "__spec__") (nat_lit 169)) Value.none), (@DictEntry.mk (@PyData.keyHash P (@Str.ofString "__annotations__")) (@Value.str (@Str.ofString "__annotations__") (nat_lit 170)) (@Value.ref (nat_lit 6))), (@DictEntry.mk (@PyData.keyHash P (@Str.ofString "__builtins__")) (@Value.str (@Str.ofString "__builtins__") (nat_lit 171)) (@Value.ref (nat_lit 4))), (@DictEntry.mk (@PyData.keyHash P (@Str.ofString "__file__")) (@Value.str (@Str.ofString "__file__") (nat_lit 173)) (@Value.str (@Str.ofString "/claim/cut.py") (nat_lit 172))), (@DictEntry.mk (@PyData.keyHash P (@Str.ofString "__cached__")) (@Value.str (@Str.ofString "__cached__") (nat_lit 174)) Value.none), (@DictEntry.mk (@PyData.keyHash P (@Str.ofString "MOST_THINGS")) (@Value.str (@Str.ofString "MOST_THINGS") (nat_lit 188)) (@Value.int (.ofNat (nat_lit 10)) (nat_lit 187))), (@DictEntry.mk (@PyData.keyHash P (@Str.ofString "MOST_PEOPLE")) (@Value.str (@Str.ofString "MOST_PEOPLE") (nat_lit 190)) (@Value.int (.ofNat (nat_lit 24)) (nat_lit 189))), (@DictEntry.mk (@PyData.keyHash P (@Str.ofString "MOST_LOOKS")) (@Value.str (@Str.ofString "MOST_LOOKS") (nat_lit 192)) (@Value.int (.ofNat (nat_lit 12)) (nat_lit 191))), (@DictEntry.mk (@PyData.keyHash P (@Str.ofString "LETTERS")) (@Value.str (@Str.ofString "LETTERS") (nat_lit 196)) (@Value.str (@Str.ofString "abcdefghijklmnopqrstuvwxyz") (nat_lit 195))), (@DictEntry.mk (@PyData.keyHash P (@Str.ofString "DIGITS")) (@Value.str (@Str.ofString "DIGITS") (nat_lit 198)) (@Value.str (@Str.ofString "0123456789") (nat_lit 197))), (@DictEntry.mk (@PyData.keyHash P (@Str.ofString "LONGEST_NAME")) (@Value.str (@Str.ofString "LONGEST_NAME") (nat_lit 200)) (@Value.int (.ofNat (nat_lit 8)) (nat_lit 199))), (@DictEntry.mk (@PyData.keyHash P (@Str.ofString "MARKS")) (@Value.str (@Str.ofString "MARKS") (nat_lit 202)) (@Value.str (@Str.ofString "+-?") (nat_lit 201))), (@DictEntry.mk (@PyData.keyHash P (@Str.ofString "MOST_IN_CERTIFICATES")) (@Value.str (@Str.ofString "MOST_IN_CERTIFICATES") (nat_lit 204)) (@Value.int (.ofNat (nat_lit 130)) (nat_lit 203))), (@DictEntry.mk (@PyData.keyHash P (@Str.ofString "is_integer")) (@Value.str (@Str.ofString "is_integer") (nat_lit 211)) (@Value.ref (nat_lit 21))), (@DictEntry.mk (@PyData.keyHash P (@Str.ofString "is_index")) (@Value.str (@Str.ofString "is_index") (nat_lit 219)) (@Value.ref (nat_lit 28))), (@DictEntry.mk (@PyData.keyHash P (@Str.ofString "is_tuple_of")) (@Value.str (@Str.ofString "is_tuple_of") (nat_lit 227)) (@Value.ref (nat_lit 35))), (@DictEntry.mk (@PyData.keyHash P (@Str.ofString "is_name")) (@Value.str (@Str.ofString "is_name") (nat_lit 233)) (@Value.ref (nat_lit 40))), (@DictEntry.mk (@PyData.keyHash P (@Str.ofString "is_one_of")) (@Value.str (@Str.ofString "is_one_of") (nat_lit 241)) (@Value.ref (nat_lit 47))), (@DictEntry.mk (@PyData.keyHash P (@Str.ofString "is_ascending")) (@Value.str (@Str.ofString "is_ascending") (nat_lit 247)) (@Value.ref (nat_lit 52))), (@DictEntry.mk (@PyData.keyHash P (@Str.ofString "is_part")) (@Value.str (@Str.ofString "is_part") (nat_lit 253)) (@Value.ref (nat_lit 57))), (@DictEntry.mk (@PyData.keyHash P (@Str.ofString "are_things")) (@Value.str (@Str.ofString "are_things") (nat_lit 259)) (@Value.ref (nat_lit 62))), (@DictEntry.mk (@PyData.keyHash P (@Str.ofString "is_set")) (@Value.str (@Str.ofString "is_set") (nat_lit 265)) (@Value.ref (nat_lit 67))), (@DictEntry.mk (@PyData.keyHash P (@Str.ofString "is_menu")) (@Value.str (@Str.ofString "is_menu") (nat_lit 273)) (@Value.ref (nat_lit 74))), (@DictEntry.mk (@PyData.keyHash P (@Str.ofString "without")) (@Value.str (@Str.ofString "without") (nat_lit 279)) (@Value.ref (nat_lit 79))), (@DictEntry.mk (@PyData.keyHash P (@Str.ofString "row_of")) (@Value.str (@Str.ofString "row_of") (nat_lit 285)) (@Value.ref (nat_lit 84))), (@DictEntry.mk (@PyData.keyHash P (@Str.ofString "house_of_text")) (@Value.str (@Str.ofString "house_of_text") (nat_lit 291)) (@Value.ref (nat_lit 89))), (@DictEntry.mk (@PyData.keyHash P (@Str.ofString "look_of")) (@Value.str (@Str.ofString "look_of") (nat_lit 297)) (@Value.ref (nat_lit 94))), (@DictEntry.mk (@PyData.keyHash P (@Str.ofString "looks_of")) (@Value.str (@Str.ofString "looks_of") (nat_lit 303)) (@Value.ref (nat_lit 99))), (@DictEntry.mk (@PyData.keyHash P (@Str.ofString "best")) (@Value.str (@Str.ofString "best") (nat_lit 309)) (@Value.ref (nat_lit 104))), (@DictEntry.mk (@PyData.keyHash P (@Str.ofString "takes")) (@Value.str (@Str.ofString "takes") (nat_lit 315)) (@Value.ref (nat_lit 109))), (@DictEntry.mk (@PyData.keyHash P (@Str.ofString "has")) (@Value.str (@Str.ofString "has") (nat_lit 321)) (@Value.ref (nat_lit 114))), (@DictEntry.mk (@PyData.keyHash P (@Str.ofString "people_who_fit")) (@Value.str (@Str.ofString "people_who_fit") (nat_lit 327)) (@Value.ref (nat_lit 119))), (@DictEntry.mk (@PyData.keyHash P (@Str.ofString "is_barred")) (@Value.str (@Str.ofString "is_barred") (nat_lit 333)) (@Value.ref (nat_lit 124))), (@DictEntry.mk (@PyData.keyHash P (@Str.ofString "is_bar")) (@Value.str (@Str.ofString "is_bar") (nat_lit 339)) (@Value.ref (nat_lit 129))), (@DictEntry.mk (@PyData.keyHash P (@Str.ofString "sharpened")) (@Value.str (@Str.ofString "sharpened") (nat_lit 345)) (@Value.ref (nat_lit 134))), (@DictEntry.mk (@PyData.keyHash P (@Str.ofString "is_need_and_bar")) (@Value.str (@Str.ofString "is_need_and_bar") (nat_lit 356)) (@Value.ref (nat_lit 141))), (@DictEntry.mk (@PyData.keyHash P (@Str.ofString "shows_fits")) (@Value.str (@Str.ofString "shows_fits") (nat_lit 365)) (@Value.ref (nat_lit 148))), (@DictEntry.mk (@PyData.keyHash P (@Str.ofString "shows_unfit")) (@Value.str (@Str.ofString "shows_unfit") (nat_lit 374)) (@Value.ref (nat_lit 155))), (@DictEntry.mk (@PyData.keyHash P (@Str.ofString "shows_never")) (@Value.str (@Str.ofString "shows_never") (nat_lit 385)) (@Value.ref (nat_lit 162))), (@DictEntry.mk (@PyData.keyHash P (@Str.ofString "shows_surely")) (@Value.str (@Str.ofString "shows_surely") (nat_lit 396)) (@Value.ref (nat_lit 169))), (@DictEntry.mk (@PyData.keyHash P (@Str.ofString "shows_perhaps")) (@Value.str (@Str.ofString "shows_perhaps") (nat_lit 409)) (@Value.ref (nat_lit 176))), (@DictEntry.mk (@PyData.keyHash P (@Str.ofString "is_cover")) (@Value.str (@Str.ofString "is_cover") (nat_lit 415)) (@Value.ref (nat_lit 181))), (@DictEntry.mk (@PyData.keyHash P (@Str.ofString "are_covers")) (@Value.str (@Str.ofString "are_covers") (nat_lit 421)) (@Value.ref (nat_lit 186))), (@DictEntry.mk (@PyData.keyHash P (@Str.ofString "shows_within")) (@Value.str (@Str.ofString "shows_within") (nat_lit 430)) (@Value.ref (nat_lit 193))), (@DictEntry.mk (@PyData.keyHash P (@Str.ofString "shows_alike")) (@Value.str (@Str.ofString "shows_alike") (nat_lit 439)) (@Value.ref (nat_lit 200))), (@DictEntry.mk (@PyData.keyHash P (@Str.ofString "shows_apart")) (@Value.str (@Str.ofString "shows_apart") (nat_lit 450)) (@Value.ref (nat_lit 207))), (@DictEntry.mk (@PyData.keyHash P (@Str.ofString "shows_common")) (@Value.str (@Str.ofString "shows_common") (nat_lit 460)) (@Value.ref (nat_lit 214))), (@DictEntry.mk (@PyData.keyHash P (@Str.ofString "shows_foreign")) (@Value.str (@Str.ofString "shows_foreign") (nat_lit 466)) (@Value.ref (nat_lit 219))), (@DictEntry.mk (@PyData.keyHash P (@Str.ofString "is_crest")) (@Value.str (@Str.ofString "is_crest") (nat_lit 472)) (@Value.ref (nat_lit 224))), (@DictEntry.mk (@PyData.keyHash P (@Str.ofString "are_loose")) (@Value.str (@Str.ofString "are_loose") (nat_lit 478)) (@Value.ref (nat_lit 229))), (@DictEntry.mk (@PyData.keyHash P (@Str.ofString "shows_fewest")) (@Value.str (@Str.ofString "shows_fewest") (nat_lit 484)) (@Value.ref (nat_lit 234))), (@DictEntry.mk (@PyData.keyHash P (@Str.ofString "OF_LOOKS")) (@Value.str (@Str.ofString "OF_LOOKS") (nat_lit 489)) (@Value.ref (nat_lit 235))), (@DictEntry.mk (@PyData.keyHash P (@Str.ofString "OF_ANSWERS")) (@Value.str (@Str.ofString "OF_ANSWERS") (nat_lit 496)) (@Value.ref (nat_lit 236))), (@DictEntry.mk (@PyData.keyHash P (@Str.ofString "OF_HOUSES")) (@Value.str (@Str.ofString "OF_HOUSES") (nat_lit 507)) (@Value.ref (nat_lit 237))), (@DictEntry.mk (@PyData.keyHash P (@Str.ofString "accepts_of_looks")) (@Value.str (@Str.ofString "accepts_of_looks") (nat_lit 519)) (@Value.ref (nat_lit 244))), (@DictEntry.mk (@PyData.keyHash P (@Str.ofString "accepts_of_answers")) (@Value.str (@Str.ofString "accepts_of_answers") (nat_lit 533)) (@Value.ref (nat_lit 251))), (@DictEntry.mk (@PyData.keyHash P (@Str.ofString "accepts_of_houses")) (@Value.str (@Str.ofString "accepts_of_houses") (nat_lit 546)) (@Value.ref (nat_lit 258))), (@DictEntry.mk (@PyData.keyHash P (@Str.ofString "accepts_of_fewest")) (@Value.str (@Str.ofString "accepts_of_fewest") (nat_lit 556)) (@Value.ref (nat_lit 265))), (@DictEntry.mk (@PyData.keyHash P (@Str.ofString "accepts")) (@Value.str (@Str.ofString "accepts") (nat_lit 565)) (@Value.ref (nat_lit 272))), (@DictEntry.mk (@PyData.keyHash P (@Str.ofString "_law_pot")) (@Value.str (@Str.ofString "_law_pot") (nat_lit 578)) (@Value.ref (nat_lit 279))), (@DictEntry.mk (@PyData.keyHash P (@Str.ofString "_law_draw")) (@Value.str (@Str.ofString "_law_draw") (nat_lit 588)) (@Value.ref (nat_lit 286))), (@DictEntry.mk (@PyData.keyHash P (@Str.ofString "_law_names")) (@Value.str (@Str.ofString "_law_names") (nat_lit 594)) (@Value.ref (nat_lit 291))), (@DictEntry.mk (@PyData.keyHash P (@Str.ofString "_law_things")) (@Value.str (@Str.ofString "_law_things") (nat_lit 601)) (@Value.ref (nat_lit 298))), (@DictEntry.mk (@PyData.keyHash P (@Str.ofString "_law_shuffled")) (@Value.str (@Str.ofString "_law_shuffled") (nat_lit 612)) (@Value.ref (nat_lit 305))), (@DictEntry.mk (@PyData.keyHash P (@Str.ofString "_law_ascending")) (@Value.str (@Str.ofString "_law_ascending") (nat_lit 621)) (@Value.ref (nat_lit 312))), (@DictEntry.mk (@PyData.keyHash P (@Str.ofString "_law_rows")) (@Value.str (@Str.ofString "_law_rows") (nat_lit 627)) (@Value.ref (nat_lit 317))), (@DictEntry.mk (@PyData.keyHash P (@Str.ofString "_law_taken")) (@Value.str (@Str.ofString "_law_taken") (nat_lit 633)) (@Value.ref (nat_lit 322))), (@DictEntry.mk (@PyData.keyHash P (@Str.ofString "_law_menu")) (@Value.str (@Str.ofString "_law_menu") (nat_lit 645)) (@Value.ref (nat_lit 329))), (@DictEntry.mk (@PyData.keyHash P (@Str.ofString "_law_seen")) (@Value.str (@Str.ofString "_law_seen") (nat_lit 657)) (@Value.ref (nat_lit 336))), (@DictEntry.mk (@PyData.keyHash P (@Str.ofString "_law_any_marks")) (@Value.str (@Str.ofString "_law_any_marks") (nat_lit 667)) (@Value.ref (nat_lit 343))), (@DictEntry.mk (@PyData.keyHash P (@Str.ofString "_law_looks")) (@Value.str (@Str.ofString "_law_looks") (nat_lit 681)) (@Value.ref (nat_lit 350))), (@DictEntry.mk (@PyData.keyHash P (@Str.ofString "_law_look_text")) (@Value.str (@Str.ofString "_law_look_text") (nat_lit 687)) (@Value.ref (nat_lit 355))), (@DictEntry.mk (@PyData.keyHash P (@Str.ofString "_law_marked")) (@Value.str (@Str.ofString "_law_marked") (nat_lit 693)) (@Value.ref (nat_lit 360))), (@DictEntry.mk (@PyData.keyHash P (@Str.ofString "_law_fit")) (@Value.str (@Str.ofString "_law_fit") (nat_lit 699)) (@Value.ref (nat_lit 365))), (@DictEntry.mk (@PyData.keyHash P (@Str.ofString "_law_needs")) (@Value.str (@Str.ofString "_law_needs") (nat_lit 705)) (@Value.ref (nat_lit 370))), (@DictEntry.mk (@PyData.keyHash P (@Str.ofString "_law_sharpened")) (@Value.str (@Str.ofString "_law_sharpened") (nat_lit 711)) (@Value.ref (nat_lit 375))), (@DictEntry.mk (@PyData.keyHash P (@Str.ofString "_law_let")) (@Value.str (@Str.ofString "_law_let") (nat_lit 717)) (@Value.ref (nat_lit 380))), (@DictEntry.mk (@PyData.keyHash P (@Str.ofString "_law_bent_text")) (@Value.str (@Str.ofString "_law_bent_text") (nat_lit 728)) (@Value.ref (nat_lit 387))), (@DictEntry.mk (@PyData.keyHash P (@Str.ofString "_law_told")) (@Value.str (@Str.ofString "_law_told") (nat_lit 737)) (@Value.ref (nat_lit 394))), (@DictEntry.mk (@PyData.keyHash P (@Str.ofString "_law_is_paper")) (@Value.str (@Str.ofString "_law_is_paper") (nat_lit 743)) (@Value.ref (nat_lit 399))), (@DictEntry.mk (@PyData.keyHash P (@Str.ofString "_law_with_it")) (@Value.str (@Str.ofString "_law_with_it") (nat_lit 749)) (@Value.ref (nat_lit 404))), (@DictEntry.mk (@PyData.keyHash P (@Str.ofString "_law_without_it")) (@Value.str (@Str.ofString "_law_without_it") (nat_lit 755)) (@Value.ref (nat_lit 409))), (@DictEntry.mk (@PyData.keyHash P (@Str.ofString "_law_bent")) (@Value.str (@Str.ofString "_law_bent") (nat_lit 770)) (@Value.ref (nat_lit 416))), (@DictEntry.mk (@PyData.keyHash P (@Str.ofString "_law_right")) (@Value.str (@Str.ofString "_law_right") (nat_lit 776)) (@Value.ref (nat_lit 421))), (@DictEntry.mk (@PyData.keyHash P (@Str.ofString "law")) (@Value.str (@Str.ofString "law") (nat_lit 782)) (@Value.ref (nat_lit 426)))]) (nat_lit 89)) (.mk []))
def o238 (P : Params) : Obj := (@Obj.mk (@Value.type "tuple") none (@Data.seq (.mk []) (nat_lit 0)) (.mk []))
def o240 (P : Params) : Obj := (@Obj.mk (@Value.type "tuple") none (@Data.seq (.mk [(@Value.str (@Str.ofString "word") (nat_lit 511)), (@Value.str (@Str.ofString "things") (nat_lit 512)), (@Value.str (@Str.ofString "texts") (nat_lit 513)), (@Value.str (@Str.ofString "certificate") (nat_lit 514)), (@Value.str (@Str.ofString "looks") (nat_lit 515)), (@Value.str (@Str.ofString "shows") (nat_lit 516))]) (nat_lit 0)) (.mk []))
def o241 (P : Params) : Obj := (@Obj.mk (@Value.type "tuple") none (@Data.seq (.mk []) (nat_lit 0)) (.mk []))
def o243 (P : Params) : Obj := (@Obj.mk (@Value.type "code") none (@Data.fields (.mk [(@Value.str (@Str.ofString "accepts_of_looks") (nat_lit 508)), (@Value.str (@Str.ofString "accepts_of_looks") (nat_lit 509)), (@Value.str (@Str.ofString "/claim/cut.py") (nat_lit 510)), (@Value.int (.ofNat (nat_lit 166)) (nat_lit 0)), (@Value.int (.ofNat (nat_lit 4)) (nat_lit 0)), (@Value.int (.ofNat (nat_lit 0)) (nat_lit 0)), (@Value.int (.ofNat (nat_lit 0)) (nat_lit 0)), (@Value.int (.ofNat (nat_lit 3)) (nat_lit 0)), (@Value.ref (nat_lit 238)), (@Value.bool true), (@Value.int (.ofNat (nat_lit 181)) (nat_lit 0)), (@Value.ref (nat_lit 239)), Value.none, (@Value.ref (nat_lit 240)), (@Value.ref (nat_lit 241)), (@Value.ref (nat_lit 242)), (@Value.int (.ofNat (nat_lit 517)) (nat_lit 0)), (@Value.int (.ofNat (nat_lit 166)) (nat_lit 0)), (@Value.str (@Str.ofString "/claim/cut.py") (nat_lit 518))])) (.mk []))
def o244 (P : Params) : Obj := (@Obj.mk (@Value.type "function") none (@Data.func (@FuncData.mk (@Str.ofString "accepts_of_looks") (@Str.ofString "accepts_of_looks") (defArgs (topS 50)) (@FuncBody.stmts (defBody (topS 50))) (defScope (topS 50)) (nat_lit 3) [] Value.none Value.none Value.none (@Value.str (@Str.ofString "menuhouses.checker") (nat_lit 193)) none (@Value.ref (nat_lit 243)) Value.none (nat_lit 0))) (.mk []))
def o245 (P : Params) : Obj := (@Obj.mk (@Value.type "tuple") none (@Data.seq (.mk []) (nat_lit 0)) (.mk []))
def o247 (P : Params) : Obj := (@Obj.mk (@Value.type "tuple") none (@Data.seq (.mk [(@Value.str (@Str.ofString "word") (nat_lit 523)), (@Value.str (@Str.ofString "things") (nat_lit 524)), (@Value.str (@Str.ofString "texts") (nat_lit 525)), (@Value.str (@Str.ofString "menu") (nat_lit 526)), (@Value.str (@Str.ofString "thing") (nat_lit 527)), (@Value.str (@Str.ofString "certificate") (nat_lit 528)), (@Value.str (@Str.ofString "looks") (nat_lit 529)), (@Value.str (@Str.ofString "shows") (nat_lit 530))]) (nat_lit 0)) (.mk []))
def o248 (P : Params) : Obj := (@Obj.mk (@Value.type "tuple") none (@Data.seq (.mk []) (nat_lit 0)) (.mk []))
def o250 (P : Params) : Obj := (@Obj.mk (@Value.type "code") none (@Data.fields (.mk [(@Value.str (@Str.ofString "accepts_of_answers") (nat_lit 520)), (@Value.str (@Str.ofString "accepts_of_answers") (nat_lit 521)), (@Value.str (@Str.ofString "/claim/cut.py") (nat_lit 522)), (@Value.int (.ofNat (nat_lit 172)) (nat_lit 0)), (@Value.int (.ofNat (nat_lit 6)) (nat_lit 0)), (@Value.int (.ofNat (nat_lit 0)) (nat_lit 0)), (@Value.int (.ofNat (nat_lit 0)) (nat_lit 0)), (@Value.int (.ofNat (nat_lit 3)) (nat_lit 0)), (@Value.ref (nat_lit 245)), (@Value.bool true), (@Value.int (.ofNat (nat_lit 181)) (nat_lit 0)), (@Value.ref (nat_lit 246)), Value.none, (@Value.ref (nat_lit 247)), (@Value.ref (nat_lit 248)), (@Value.ref (nat_lit 249)), (@Value.int (.ofNat (nat_lit 531)) (nat_lit 0)), (@Value.int (.ofNat (nat_lit 172)) (nat_lit 0)), (@Value.str (@Str.ofString "/claim/cut.py") (nat_lit 532))])) (.mk []))
def o251 (P : Params) : Obj := (@Obj.mk (@Value.type "function") none (@Data.func (@FuncData.mk (@Str.ofString "accepts_of_answers") (@Str.ofString "accepts_of_answers") (defArgs (topS 51)) (@FuncBody.stmts (defBody (topS 51))) (defScope (topS 51)) (nat_lit 3) [] Value.none Value.none Value.none (@Value.str (@Str.ofString "menuhouses.checker") (nat_lit 193)) none (@Value.ref (nat_lit 250)) Value.none (nat_lit 0))) (.mk []))
def o252 (P : Params) : Obj := (@Obj.mk (@Value.type "tuple") none (@Data.seq (.mk []) (nat_lit 0)) (.mk []))
def o254 (P : Params) : Obj := (@Obj.mk (@Value.type "tuple") none (@Data.seq (.mk [(@Value.str (@Str.ofString "word") (nat_lit 537)), (@Value.str (@Str.ofString "one") (nat_lit 538)), (@Value.str (@Str.ofString "other") (nat_lit 539)), (@Value.str (@Str.ofString "certificate") (nat_lit 540)), (@Value.str (@Str.ofString "rows") (nat_lit 541)), (@Value.str (@Str.ofString "others") (nat_lit 542)), (@Value.str (@Str.ofString "shows") (nat_lit 543))]) (nat_lit 0)) (.mk []))
def o255 (P : Params) : Obj := (@Obj.mk (@Value.type "tuple") none (@Data.seq (.mk []) (nat_lit 0)) (.mk []))
def o257 (P : Params) : Obj := (@Obj.mk (@Value.type "code") none (@Data.fields (.mk [(@Value.str (@Str.ofString "accepts_of_houses") (nat_lit 534)), (@Value.str (@Str.ofString "accepts_of_houses") (nat_lit 535)), (@Value.str (@Str.ofString "/claim/cut.py") (nat_lit 536)), (@Value.int (.ofNat (nat_lit 178)) (nat_lit 0)), (@Value.int (.ofNat (nat_lit 4)) (nat_lit 0)), (@Value.int (.ofNat (nat_lit 0)) (nat_lit 0)), (@Value.int (.ofNat (nat_lit 0)) (nat_lit 0)), (@Value.int (.ofNat (nat_lit 3)) (nat_lit 0)), (@Value.ref (nat_lit 252)), (@Value.bool true), (@Value.int (.ofNat (nat_lit 181)) (nat_lit 0)), (@Value.ref (nat_lit 253)), Value.none, (@Value.ref (nat_lit 254)), (@Value.ref (nat_lit 255)), (@Value.ref (nat_lit 256)), (@Value.int (.ofNat (nat_lit 544)) (nat_lit 0)), (@Value.int (.ofNat (nat_lit 178)) (nat_lit 0)), (@Value.str (@Str.ofString "/claim/cut.py") (nat_lit 545))])) (.mk []))
def o258 (P : Params) : Obj := (@Obj.mk (@Value.type "function") none (@Data.func (@FuncData.mk (@Str.ofString "accepts_of_houses") (@Str.ofString "accepts_of_houses") (defArgs (topS 52)) (@FuncBody.stmts (defBody (topS 52))) (defScope (topS 52)) (nat_lit 3) [] Value.none Value.none Value.none (@Value.str (@Str.ofString "menuhouses.checker") (nat_lit 193)) none (@Value.ref (nat_lit 257)) Value.none (nat_lit 0))) (.mk []))
def o259 (P : Params) : Obj := (@Obj.mk (@Value.type "tuple") none (@Data.seq (.mk []) (nat_lit 0)) (.mk []))
def o261 (P : Params) : Obj := (@Obj.mk (@Value.type "tuple") none (@Data.seq (.mk [(@Value.str (@Str.ofString "text") (nat_lit 550)), (@Value.str (@Str.ofString "number") (nat_lit 551)), (@Value.str (@Str.ofString "certificate") (nat_lit 552)), (@Value.str (@Str.ofString "rows") (nat_lit 553))]) (nat_lit 0)) (.mk []))
def o262 (P : Params) : Obj := (@Obj.mk (@Value.type "tuple") none (@Data.seq (.mk []) (nat_lit 0)) (.mk []))
def o264 (P : Params) : Obj := (@Obj.mk (@Value.type "code") none (@Data.fields (.mk [(@Value.str (@Str.ofString "accepts_of_fewest") (nat_lit 547)), (@Value.str (@Str.ofString "accepts_of_fewest") (nat_lit 548)), (@Value.str (@Str.ofString "/claim/cut.py") (nat_lit 549)), (@Value.int (.ofNat (nat_lit 184)) (nat_lit 0)), (@Value.int (.ofNat (nat_lit 3)) (nat_lit 0)), (@Value.int (.ofNat (nat_lit 0)) (nat_lit 0)), (@Value.int (.ofNat (nat_lit 0)) (nat_lit 0)), (@Value.int (.ofNat (nat_lit 3)) (nat_lit 0)), (@Value.ref (nat_lit 259)), (@Value.bool true), (@Value.int (.ofNat (nat_lit 181)) (nat_lit 0)), (@Value.ref (nat_lit 260)), Value.none, (@Value.ref (nat_lit 261)), (@Value.ref (nat_lit 262)), (@Value.ref (nat_lit 263)), (@Value.int (.ofNat (nat_lit 554)) (nat_lit 0)), (@Value.int (.ofNat (nat_lit 184)) (nat_lit 0)), (@Value.str (@Str.ofString "/claim/cut.py") (nat_lit 555))])) (.mk []))
def o265 (P : Params) : Obj := (@Obj.mk (@Value.type "function") none (@Data.func (@FuncData.mk (@Str.ofString "accepts_of_fewest") (@Str.ofString "accepts_of_fewest") (defArgs (topS 53)) (@FuncBody.stmts (defBody (topS 53))) (defScope (topS 53)) (nat_lit 3) [] Value.none Value.none Value.none (@Value.str (@Str.ofString "menuhouses.checker") (nat_lit 193)) none (@Value.ref (nat_lit 264)) Value.none (nat_lit 0))) (.mk []))
def o266 (P : Params) : Obj := (@Obj.mk (@Value.type "tuple") none (@Data.seq (.mk []) (nat_lit 0)) (.mk []))
def o268 (P : Params) : Obj := (@Obj.mk (@Value.type "tuple") none (@Data.seq (.mk [(@Value.str (@Str.ofString "claim") (nat_lit 560)), (@Value.str (@Str.ofString "certificate") (nat_lit 561)), (@Value.str (@Str.ofString "word") (nat_lit 562))]) (nat_lit 0)) (.mk []))
def o269 (P : Params) : Obj := (@Obj.mk (@Value.type "tuple") none (@Data.seq (.mk []) (nat_lit 0)) (.mk []))
def o271 (P : Params) : Obj := (@Obj.mk (@Value.type "code") none (@Data.fields (.mk [(@Value.str (@Str.ofString "accepts") (nat_lit 557)), (@Value.str (@Str.ofString "accepts") (nat_lit 558)), (@Value.str (@Str.ofString "/claim/cut.py") (nat_lit 559)), (@Value.int (.ofNat (nat_lit 187)) (nat_lit 0)), (@Value.int (.ofNat (nat_lit 2)) (nat_lit 0)), (@Value.int (.ofNat (nat_lit 0)) (nat_lit 0)), (@Value.int (.ofNat (nat_lit 0)) (nat_lit 0)), (@Value.int (.ofNat (nat_lit 3)) (nat_lit 0)), (@Value.ref (nat_lit 266)), (@Value.bool true), (@Value.int (.ofNat (nat_lit 181)) (nat_lit 0)), (@Value.ref (nat_lit 267)), Value.none, (@Value.ref (nat_lit 268)), (@Value.ref (nat_lit 269)), (@Value.ref (nat_lit 270)), (@Value.int (.ofNat (nat_lit 563)) (nat_lit 0)), (@Value.int (.ofNat (nat_lit 187)) (nat_lit 0)), (@Value.str (@Str.ofString "/claim/cut.py") (nat_lit 564))])) (.mk []))
def o272 (P : Params) : Obj := (@Obj.mk (@Value.type "function") none (@Data.func (@FuncData.mk (@Str.ofString "accepts") (@Str.ofString "accepts") (defArgs (topS 54)) (@FuncBody.stmts (defBody (topS 54))) (defScope (topS 54)) (nat_lit 3) [] Value.none Value.none Value.none (@Value.str (@Str.ofString "menuhouses.checker") (nat_lit 193)) none (@Value.ref (nat_lit 271)) Value.none (nat_lit 0))) (.mk []))
def o273 (P : Params) : Obj := (@Obj.mk (@Value.type "tuple") none (@Data.seq (.mk []) (nat_lit 0)) (.mk []))
def o275 (P : Params) : Obj := (@Obj.mk (@Value.type "tuple") none (@Data.seq (.mk [(@Value.str (@Str.ofString "_law_script") (nat_lit 571)), (@Value.str (@Str.ofString "_law_k") (nat_lit 572)), (@Value.str (@Str.ofString "_law_cell") (nat_lit 573)), (@Value.str (@Str.ofString "_law_other") (nat_lit 574)), (@Value.str (@Str.ofString "_law_digits") (nat_lit 575))]) (nat_lit 0)) (.mk []))
def o276 (P : Params) : Obj := (@Obj.mk (@Value.type "tuple") none (@Data.seq (.mk []) (nat_lit 0)) (.mk []))
def o278 (P : Params) : Obj := (@Obj.mk (@Value.type "code") none (@Data.fields (.mk [(@Value.str (@Str.ofString "_law_pot") (nat_lit 568)), (@Value.str (@Str.ofString "_law_pot") (nat_lit 569)), (@Value.str (@Str.ofString "/claim/cut.py") (nat_lit 570)), (@Value.int (.ofNat (nat_lit 199)) (nat_lit 0)), (@Value.int (.ofNat (nat_lit 2)) (nat_lit 0)), (@Value.int (.ofNat (nat_lit 0)) (nat_lit 0)), (@Value.int (.ofNat (nat_lit 0)) (nat_lit 0)), (@Value.int (.ofNat (nat_lit 3)) (nat_lit 0)), (@Value.ref (nat_lit 273)), (@Value.bool true), (@Value.int (.ofNat (nat_lit 181)) (nat_lit 0)), (@Value.ref (nat_lit 274)), Value.none, (@Value.ref (nat_lit 275)), (@Value.ref (nat_lit 276)), (@Value.ref (nat_lit 277)), (@Value.int (.ofNat (nat_lit 576)) (nat_lit 0)), (@Value.int (.ofNat (nat_lit 199)) (nat_lit 0)), (@Value.str (@Str.ofString "/claim/cut.py") (nat_lit 577))])) (.mk []))
def o279 (P : Params) : Obj := (@Obj.mk (@Value.type "function") none (@Data.func (@FuncData.mk (@Str.ofString "_law_pot") (@Str.ofString "_law_pot") (defArgs (topS 56)) (@FuncBody.stmts (defBody (topS 56))) (defScope (topS 56)) (nat_lit 3) [] Value.none Value.none Value.none (@Value.str (@Str.ofString "law_menuhouses_k72_two_peoples_judged") (nat_lit 566)) none (@Value.ref (nat_lit 278)) Value.none (nat_lit 0))) (.mk []))
def o280 (P : Params) : Obj := (@Obj.mk (@Value.type "tuple") none (@Data.seq (.mk []) (nat_lit 0)) (.mk []))
def o282 (P : Params) : Obj := (@Obj.mk (@Value.type "tuple") none (@Data.seq (.mk [(@Value.str (@Str.ofString "_law_pot_here") (nat_lit 582)), (@Value.str (@Str.ofString "_law_many") (nat_lit 583)), (@Value.str (@Str.ofString "_law_state") (nat_lit 584)), (@Value.str (@Str.ofString "_law_digit") (nat_lit 585))]) (nat_lit 0)) (.mk []))
def o283 (P : Params) : Obj := (@Obj.mk (@Value.type "tuple") none (@Data.seq (.mk []) (nat_lit 0)) (.mk []))
def o285 (P : Params) : Obj := (@Obj.mk (@Value.type "code") none (@Data.fields (.mk [(@Value.str (@Str.ofString "_law_draw") (nat_lit 579)), (@Value.str (@Str.ofString "_law_draw") (nat_lit 580)), (@Value.str (@Str.ofString "/claim/cut.py") (nat_lit 581)), (@Value.int (.ofNat (nat_lit 206)) (nat_lit 0)), (@Value.int (.ofNat (nat_lit 2)) (nat_lit 0)), (@Value.int (.ofNat (nat_lit 0)) (nat_lit 0)), (@Value.int (.ofNat (nat_lit 0)) (nat_lit 0)), (@Value.int (.ofNat (nat_lit 3)) (nat_lit 0)), (@Value.ref (nat_lit 280)), (@Value.bool true), (@Value.int (.ofNat (nat_lit 181)) (nat_lit 0)), (@Value.ref (nat_lit 281)), Value.none, (@Value.ref (nat_lit 282)), (@Value.ref (nat_lit 283)), (@Value.ref (nat_lit 284)), (@Value.int (.ofNat (nat_lit 586)) (nat_lit 0)), (@Value.int (.ofNat (nat_lit 206)) (nat_lit 0)), (@Value.str (@Str.ofString "/claim/cut.py") (nat_lit 587))])) (.mk []))
def o286 (P : Params) : Obj := (@Obj.mk (@Value.type "function") none (@Data.func (@FuncData.mk (@Str.ofString "_law_draw") (@Str.ofString "_law_draw") (defArgs (topS 57)) (@FuncBody.stmts (defBody (topS 57))) (defScope (topS 57)) (nat_lit 3) [] Value.none Value.none Value.none (@Value.str (@Str.ofString "law_menuhouses_k72_two_peoples_judged") (nat_lit 566)) none (@Value.ref (nat_lit 285)) Value.none (nat_lit 0))) (.mk []))
def o287 (P : Params) : Obj := (@Obj.mk (@Value.type "tuple") none (@Data.seq (.mk []) (nat_lit 0)) (.mk []))
def o290 (P : Params) : Obj := (@Obj.mk (@Value.type "code") none (@Data.fields (.mk [(@Value.str (@Str.ofString "_law_names") (nat_lit 589)), (@Value.str (@Str.ofString "_law_names") (nat_lit 590)), (@Value.str (@Str.ofString "/claim/cut.py") (nat_lit 591)), (@Value.int (.ofNat (nat_lit 214)) (nat_lit 0)), (@Value.int (.ofNat (nat_lit 2)) (nat_lit 0)), (@Value.int (.ofNat (nat_lit 0)) (nat_lit 0)), (@Value.int (.ofNat (nat_lit 0)) (nat_lit 0)), (@Value.int (.ofNat (nat_lit 3)) (nat_lit 0)), (@Value.ref (nat_lit 287)), (@Value.bool true), (@Value.int (.ofNat (nat_lit 181)) (nat_lit 0)), (@Value.ref (nat_lit 288)), Value.none, Value.none, Value.none, (@Value.ref (nat_lit 289)), (@Value.int (.ofNat (nat_lit 592)) (nat_lit 0)), (@Value.int (.ofNat (nat_lit 214)) (nat_lit 0)), (@Value.str (@Str.ofString "/claim/cut.py") (nat_lit 593))])) (.mk []))
def o291 (P : Params) : Obj := (@Obj.mk (@Value.type "function") none (@Data.func (@FuncData.mk (@Str.ofString "_law_names") (@Str.ofString "_law_names") (defArgs (topS 58)) (@FuncBody.stmts (defBody (topS 58))) (defScope (topS 58)) (nat_lit 3) [] Value.none Value.none Value.none (@Value.str (@Str.ofString "law_menuhouses_k72_two_peoples_judged") (nat_lit 566)) none (@Value.ref (nat_lit 290)) Value.none (nat_lit 0))) (.mk []))
def o292 (P : Params) : Obj := (@Obj.mk (@Value.type "tuple") none (@Data.seq (.mk []) (nat_lit 0)) (.mk []))
def o294 (P : Params) : Obj := (@Obj.mk (@Value.type "tuple") none (@Data.seq (.mk [(@Value.str (@Str.ofString "_law_pot_here") (nat_lit 598))]) (nat_lit 0)) (.mk []))
def o295 (P : Params) : Obj := (@Obj.mk (@Value.type "tuple") none (@Data.seq (.mk []) (nat_lit 0)) (.mk []))
def o297 (P : Params) : Obj := (@Obj.mk (@Value.type "code") none (@Data.fields (.mk [(@Value.str (@Str.ofString "_law_things") (nat_lit 595)), (@Value.str (@Str.ofString "_law_things") (nat_lit 596)), (@Value.str (@Str.ofString "/claim/cut.py") (nat_lit 597)), (@Value.int (.ofNat (nat_lit 223)) (nat_lit 0)), (@Value.int (.ofNat (nat_lit 1)) (nat_lit 0)), (@Value.int (.ofNat (nat_lit 0)) (nat_lit 0)), (@Value.int (.ofNat (nat_lit 0)) (nat_lit 0)), (@Value.int (.ofNat (nat_lit 3)) (nat_lit 0)), (@Value.ref (nat_lit 292)), (@Value.bool true), (@Value.int (.ofNat (nat_lit 181)) (nat_lit 0)), (@Value.ref (nat_lit 293)), Value.none, (@Value.ref (nat_lit 294)), (@Value.ref (nat_lit 295)), (@Value.ref (nat_lit 296)), (@Value.int (.ofNat (nat_lit 599)) (nat_lit 0)), (@Value.int (.ofNat (nat_lit 223)) (nat_lit 0)), (@Value.str (@Str.ofString "/claim/cut.py") (nat_lit 600))])) (.mk []))
def o298 (P : Params) : Obj := (@Obj.mk (@Value.type "function") none (@Data.func (@FuncData.mk (@Str.ofString "_law_things") (@Str.ofString "_law_things") (defArgs (topS 59)) (@FuncBody.stmts (defBody (topS 59))) (defScope (topS 59)) (nat_lit 3) [] Value.none Value.none Value.none (@Value.str (@Str.ofString "law_menuhouses_k72_two_peoples_judged") (nat_lit 566)) none (@Value.ref (nat_lit 297)) Value.none (nat_lit 0))) (.mk []))
def o299 (P : Params) : Obj := (@Obj.mk (@Value.type "tuple") none (@Data.seq (.mk []) (nat_lit 0)) (.mk []))
def o301 (P : Params) : Obj := (@Obj.mk (@Value.type "tuple") none (@Data.seq (.mk [(@Value.str (@Str.ofString "_law_pot_here") (nat_lit 605)), (@Value.str (@Str.ofString "_law_things_here") (nat_lit 606)), (@Value.str (@Str.ofString "_law_left") (nat_lit 607)), (@Value.str (@Str.ofString "_law_row") (nat_lit 608)), (@Value.str (@Str.ofString "_law_turn") (nat_lit 609))]) (nat_lit 0)) (.mk []))
def o302 (P : Params) : Obj := (@Obj.mk (@Value.type "tuple") none (@Data.seq (.mk []) (nat_lit 0)) (.mk []))
def o304 (P : Params) : Obj := (@Obj.mk (@Value.type "code") none (@Data.fields (.mk [(@Value.str (@Str.ofString "_law_shuffled") (nat_lit 602)), (@Value.str (@Str.ofString "_law_shuffled") (nat_lit 603)), (@Value.str (@Str.ofString "/claim/cut.py") (nat_lit 604)), (@Value.int (.ofNat (nat_lit 225)) (nat_lit 0)), (@Value.int (.ofNat (nat_lit 2)) (nat_lit 0)), (@Value.int (.ofNat (nat_lit 0)) (nat_lit 0)), (@Value.int (.ofNat (nat_lit 0)) (nat_lit 0)), (@Value.int (.ofNat (nat_lit 3)) (nat_lit 0)), (@Value.ref (nat_lit 299)), (@Value.bool true), (@Value.int (.ofNat (nat_lit 181)) (nat_lit 0)), (@Value.ref (nat_lit 300)), Value.none, (@Value.ref (nat_lit 301)), (@Value.ref (nat_lit 302)), (@Value.ref (nat_lit 303)), (@Value.int (.ofNat (nat_lit 610)) (nat_lit 0)), (@Value.int (.ofNat (nat_lit 225)) (nat_lit 0)), (@Value.str (@Str.ofString "/claim/cut.py") (nat_lit 611))])) (.mk []))
def o305 (P : Params) : Obj := (@Obj.mk (@Value.type "function") none (@Data.func (@FuncData.mk (@Str.ofString "_law_shuffled") (@Str.ofString "_law_shuffled") (defArgs (topS 60)) (@FuncBody.stmts (defBody (topS 60))) (defScope (topS 60)) (nat_lit 3) [] Value.none Value.none Value.none (@Value.str (@Str.ofString "law_menuhouses_k72_two_peoples_judged") (nat_lit 566)) none (@Value.ref (nat_lit 304)) Value.none (nat_lit 0))) (.mk []))
def o306 (P : Params) : Obj := (@Obj.mk (@Value.type "tuple") none (@Data.seq (.mk []) (nat_lit 0)) (.mk []))
def o308 (P : Params) : Obj := (@Obj.mk (@Value.type "tuple") none (@Data.seq (.mk [(@Value.str (@Str.ofString "_law_rows_here") (nat_lit 616)), (@Value.str (@Str.ofString "_law_found") (nat_lit 617)), (@Value.str (@Str.ofString "_law_row") (nat_lit 618))]) (nat_lit 0)) (.mk []))
def o309 (P : Params) : Obj := (@Obj.mk (@Value.type "tuple") none (@Data.seq (.mk []) (nat_lit 0)) (.mk []))
def o311 (P : Params) : Obj := (@Obj.mk (@Value.type "code") none (@Data.fields (.mk [(@Value.str (@Str.ofString "_law_ascending") (nat_lit 613)), (@Value.str (@Str.ofString "_law_ascending") (nat_lit 614)), (@Value.str (@Str.ofString "/claim/cut.py") (nat_lit 615)), (@Value.int (.ofNat (nat_lit 230)) (nat_lit 0)), (@Value.int (.ofNat (nat_lit 1)) (nat_lit 0)), (@Value.int (.ofNat (nat_lit 0)) (nat_lit 0)), (@Value.int (.ofNat (nat_lit 0)) (nat_lit 0)), (@Value.int (.ofNat (nat_lit 3)) (nat_lit 0)), (@Value.ref (nat_lit 306)), (@Value.bool true), (@Value.int (.ofNat (nat_lit 181)) (nat_lit 0)), (@Value.ref (nat_lit 307)), Value.none, (@Value.ref (nat_lit 308)), (@Value.ref (nat_lit 309)), (@Value.ref (nat_lit 310)), (@Value.int (.ofNat (nat_lit 619)) (nat_lit 0)), (@Value.int (.ofNat (nat_lit 230)) (nat_lit 0)), (@Value.str (@Str.ofString "/claim/cut.py") (nat_lit 620))])) (.mk []))
def o312 (P : Params) : Obj := (@Obj.mk (@Value.type "function") none (@Data.func (@FuncData.mk (@Str.ofString "_law_ascending") (@Str.ofString "_law_ascending") (defArgs (topS 61)) (@FuncBody.stmts (defBody (topS 61))) (defScope (topS 61)) (nat_lit 3) [] Value.none Value.none Value.none (@Value.str (@Str.ofString "law_menuhouses_k72_two_peoples_judged") (nat_lit 566)) none (@Value.ref (nat_lit 311)) Value.none (nat_lit 0))) (.mk []))
def o313 (P : Params) : Obj := (@Obj.mk (@Value.type "tuple") none (@Data.seq (.mk []) (nat_lit 0)) (.mk []))
def o316 (P : Params) : Obj := (@Obj.mk (@Value.type "code") none (@Data.fields (.mk [(@Value.str (@Str.ofString "_law_rows") (nat_lit 622)), (@Value.str (@Str.ofString "_law_rows") (nat_lit 623)), (@Value.str (@Str.ofString "/claim/cut.py") (nat_lit 624)), (@Value.int (.ofNat (nat_lit 236)) (nat_lit 0)), (@Value.int (.ofNat (nat_lit 3)) (nat_lit 0)), (@Value.int (.ofNat (nat_lit 0)) (nat_lit 0)), (@Value.int (.ofNat (nat_lit 0)) (nat_lit 0)), (@Value.int (.ofNat (nat_lit 3)) (nat_lit 0)), (@Value.ref (nat_lit 313)), (@Value.bool true), (@Value.int (.ofNat (nat_lit 181)) (nat_lit 0)), (@Value.ref (nat_lit 314)), Value.none, Value.none, Value.none, (@Value.ref (nat_lit 315)), (@Value.int (.ofNat (nat_lit 625)) (nat_lit 0)), (@Value.int (.ofNat (nat_lit 236)) (nat_lit 0)), (@Value.str (@Str.ofString "/claim/cut.py") (nat_lit 626))])) (.mk []))
def o317 (P : Params) : Obj := (@Obj.mk (@Value.type "function") none (@Data.func (@FuncData.mk (@Str.ofString "_law_rows") (@Str.ofString "_law_rows") (defArgs (topS 62)) (@FuncBody.stmts (defBody (topS 62))) (defScope (topS 62)) (nat_lit 3) [] Value.none Value.none Value.none (@Value.str (@Str.ofString "law_menuhouses_k72_two_peoples_judged") (nat_lit 566)) none (@Value.ref (nat_lit 316)) Value.none (nat_lit 0))) (.mk []))
def o318 (P : Params) : Obj := (@Obj.mk (@Value.type "tuple") none (@Data.seq (.mk []) (nat_lit 0)) (.mk []))
def o321 (P : Params) : Obj := (@Obj.mk (@Value.type "code") none (@Data.fields (.mk [(@Value.str (@Str.ofString "_law_taken") (nat_lit 628)), (@Value.str (@Str.ofString "_law_taken") (nat_lit 629)), (@Value.str (@Str.ofString "/claim/cut.py") (nat_lit 630)), (@Value.int (.ofNat (nat_lit 238)) (nat_lit 0)), (@Value.int (.ofNat (nat_lit 2)) (nat_lit 0)), (@Value.int (.ofNat (nat_lit 0)) (nat_lit 0)), (@Value.int (.ofNat (nat_lit 0)) (nat_lit 0)), (@Value.int (.ofNat (nat_lit 3)) (nat_lit 0)), (@Value.ref (nat_lit 318)), (@Value.bool true), (@Value.int (.ofNat (nat_lit 181)) (nat_lit 0)), (@Value.ref (nat_lit 319)), Value.none, Value.none, Value.none, (@Value.ref (nat_lit 320)), (@Value.int (.ofNat (nat_lit 631)) (nat_lit 0)), (@Value.int (.ofNat (nat_lit 238)) (nat_lit 0)), (@Value.str (@Str.ofString "/claim/cut.py") (nat_lit 632))])) (.mk []))
def o322 (P : Params) : Obj := (@Obj.mk (@Value.type "function") none (@Data.func (@FuncData.mk (@Str.ofString "_law_taken") (@Str.ofString "_law_taken") (defArgs (topS 63)) (@FuncBody.stmts (defBody (topS 63))) (defScope (topS 63)) (nat_lit 3) [] Value.none Value.none Value.none (@Value.str (@Str.ofString "law_menuhouses_k72_two_peoples_judged") (nat_lit 566)) none (@Value.ref (nat_lit 321)) Value.none (nat_lit 0))) (.mk []))
def o323 (P : Params) : Obj := (@Obj.mk (@Value.type "tuple") none (@Data.seq (.mk []) (nat_lit 0)) (.mk []))
def o325 (P : Params) : Obj := (@Obj.mk (@Value.type "tuple") none (@Data.seq (.mk [(@Value.str (@Str.ofString "_law_pot_here") (nat_lit 637)), (@Value.str (@Str.ofString "_law_things_here") (nat_lit 638)), (@Value.str (@Str.ofString "_law_way") (nat_lit 639)), (@Value.str (@Str.ofString "_law_at") (nat_lit 640)), (@Value.str (@Str.ofString "_law_kept") (nat_lit 641)), (@Value.str (@Str.ofString "_law_k") (nat_lit 642))]) (nat_lit 0)) (.mk []))
def o326 (P : Params) : Obj := (@Obj.mk (@Value.type "tuple") none (@Data.seq (.mk []) (nat_lit 0)) (.mk []))
def o328 (P : Params) : Obj := (@Obj.mk (@Value.type "code") none (@Data.fields (.mk [(@Value.str (@Str.ofString "_law_menu") (nat_lit 634)), (@Value.str (@Str.ofString "_law_menu") (nat_lit 635)), (@Value.str (@Str.ofString "/claim/cut.py") (nat_lit 636)), (@Value.int (.ofNat (nat_lit 241)) (nat_lit 0)), (@Value.int (.ofNat (nat_lit 2)) (nat_lit 0)), (@Value.int (.ofNat (nat_lit 0)) (nat_lit 0)), (@Value.int (.ofNat (nat_lit 0)) (nat_lit 0)), (@Value.int (.ofNat (nat_lit 3)) (nat_lit 0)), (@Value.ref (nat_lit 323)), (@Value.bool true), (@Value.int (.ofNat (nat_lit 181)) (nat_lit 0)), (@Value.ref (nat_lit 324)), Value.none, (@Value.ref (nat_lit 325)), (@Value.ref (nat_lit 326)), (@Value.ref (nat_lit 327)), (@Value.int (.ofNat (nat_lit 643)) (nat_lit 0)), (@Value.int (.ofNat (nat_lit 241)) (nat_lit 0)), (@Value.str (@Str.ofString "/claim/cut.py") (nat_lit 644))])) (.mk []))
def o329 (P : Params) : Obj := (@Obj.mk (@Value.type "function") none (@Data.func (@FuncData.mk (@Str.ofString "_law_menu") (@Str.ofString "_law_menu") (defArgs (topS 64)) (@FuncBody.stmts (defBody (topS 64))) (defScope (topS 64)) (nat_lit 3) [] Value.none Value.none Value.none (@Value.str (@Str.ofString "law_menuhouses_k72_two_peoples_judged") (nat_lit 566)) none (@Value.ref (nat_lit 328)) Value.none (nat_lit 0))) (.mk []))
def o330 (P : Params) : Obj := (@Obj.mk (@Value.type "tuple") none (@Data.seq (.mk []) (nat_lit 0)) (.mk []))
def o332 (P : Params) : Obj := (@Obj.mk (@Value.type "tuple") none (@Data.seq (.mk [(@Value.str (@Str.ofString "_law_pot_here") (nat_lit 649)), (@Value.str (@Str.ofString "_law_menu_here") (nat_lit 650)), (@Value.str (@Str.ofString "_law_rows_here") (nat_lit 651)), (@Value.str (@Str.ofString "_law_taken_here") (nat_lit 652)), (@Value.str (@Str.ofString "_law_marks") (nat_lit 653)), (@Value.str (@Str.ofString "_law_thing") (nat_lit 654))]) (nat_lit 0)) (.mk []))
def o333 (P : Params) : Obj := (@Obj.mk (@Value.type "tuple") none (@Data.seq (.mk []) (nat_lit 0)) (.mk []))
def o335 (P : Params) : Obj := (@Obj.mk (@Value.type "code") none (@Data.fields (.mk [(@Value.str (@Str.ofString "_law_seen") (nat_lit 646)), (@Value.str (@Str.ofString "_law_seen") (nat_lit 647)), (@Value.str (@Str.ofString "/claim/cut.py") (nat_lit 648)), (@Value.int (.ofNat (nat_lit 247)) (nat_lit 0)), (@Value.int (.ofNat (nat_lit 3)) (nat_lit 0)), (@Value.int (.ofNat (nat_lit 0)) (nat_lit 0)), (@Value.int (.ofNat (nat_lit 0)) (nat_lit 0)), (@Value.int (.ofNat (nat_lit 3)) (nat_lit 0)), (@Value.ref (nat_lit 330)), (@Value.bool true), (@Value.int (.ofNat (nat_lit 181)) (nat_lit 0)), (@Value.ref (nat_lit 331)), Value.none, (@Value.ref (nat_lit 332)), (@Value.ref (nat_lit 333)), (@Value.ref (nat_lit 334)), (@Value.int (.ofNat (nat_lit 655)) (nat_lit 0)), (@Value.int (.ofNat (nat_lit 247)) (nat_lit 0)), (@Value.str (@Str.ofString "/claim/cut.py") (nat_lit 656))])) (.mk []))
def o336 (P : Params) : Obj := (@Obj.mk (@Value.type "function") none (@Data.func (@FuncData.mk (@Str.ofString "_law_seen") (@Str.ofString "_law_seen") (defArgs (topS 65)) (@FuncBody.stmts (defBody (topS 65))) (defScope (topS 65)) (nat_lit 3) [] Value.none Value.none Value.none (@Value.str (@Str.ofString "law_menuhouses_k72_two_peoples_judged") (nat_lit 566)) none (@Value.ref (nat_lit 335)) Value.none (nat_lit 0))) (.mk []))
def o337 (P : Params) : Obj := (@Obj.mk (@Value.type "tuple") none (@Data.seq (.mk []) (nat_lit 0)) (.mk []))
def o339 (P : Params) : Obj := (@Obj.mk (@Value.type "tuple") none (@Data.seq (.mk [(@Value.str (@Str.ofString "_law_pot_here") (nat_lit 661)), (@Value.str (@Str.ofString "_law_menu_here") (nat_lit 662)), (@Value.str (@Str.ofString "_law_marks") (nat_lit 663)), (@Value.str (@Str.ofString "_law_thing") (nat_lit 664))]) (nat_lit 0)) (.mk []))
def o340 (P : Params) : Obj := (@Obj.mk (@Value.type "tuple") none (@Data.seq (.mk []) (nat_lit 0)) (.mk []))
def o342 (P : Params) : Obj := (@Obj.mk (@Value.type "code") none (@Data.fields (.mk [(@Value.str (@Str.ofString "_law_any_marks") (nat_lit 658)), (@Value.str (@Str.ofString "_law_any_marks") (nat_lit 659)), (@Value.str (@Str.ofString "/claim/cut.py") (nat_lit 660)), (@Value.int (.ofNat (nat_lit 252)) (nat_lit 0)), (@Value.int (.ofNat (nat_lit 2)) (nat_lit 0)), (@Value.int (.ofNat (nat_lit 0)) (nat_lit 0)), (@Value.int (.ofNat (nat_lit 0)) (nat_lit 0)), (@Value.int (.ofNat (nat_lit 3)) (nat_lit 0)), (@Value.ref (nat_lit 337)), (@Value.bool true), (@Value.int (.ofNat (nat_lit 181)) (nat_lit 0)), (@Value.ref (nat_lit 338)), Value.none, (@Value.ref (nat_lit 339)), (@Value.ref (nat_lit 340)), (@Value.ref (nat_lit 341)), (@Value.int (.ofNat (nat_lit 665)) (nat_lit 0)), (@Value.int (.ofNat (nat_lit 252)) (nat_lit 0)), (@Value.str (@Str.ofString "/claim/cut.py") (nat_lit 666))])) (.mk []))
def o343 (P : Params) : Obj := (@Obj.mk (@Value.type "function") none (@Data.func (@FuncData.mk (@Str.ofString "_law_any_marks") (@Str.ofString "_law_any_marks") (defArgs (topS 66)) (@FuncBody.stmts (defBody (topS 66))) (defScope (topS 66)) (nat_lit 3) [] Value.none Value.none Value.none (@Value.str (@Str.ofString "law_menuhouses_k72_two_peoples_judged") (nat_lit 566)) none (@Value.ref (nat_lit 342)) Value.none (nat_lit 0))) (.mk []))
def o344 (P : Params) : Obj := (@Obj.mk (@Value.type "tuple") none (@Data.seq (.mk []) (nat_lit 0)) (.mk []))
def o346 (P : Params) : Obj := (@Obj.mk (@Value.type "tuple") none (@Data.seq (.mk [(@Value.str (@Str.ofString "_law_pot_here") (nat_lit 671)), (@Value.str (@Str.ofString "_law_things_here") (nat_lit 672)), (@Value.str (@Str.ofString "_law_rows_here") (nat_lit 673)), (@Value.str (@Str.ofString "_law_most") (nat_lit 674)), (@Value.str (@Str.ofString "_law_looks_here") (nat_lit 675)), (@Value.str (@Str.ofString "_law_turn") (nat_lit 676)), (@Value.str (@Str.ofString "_law_menu_here") (nat_lit 677)), (@Value.str (@Str.ofString "_law_is_seen") (nat_lit 678))]) (nat_lit 0)) (.mk []))
def o347 (P : Params) : Obj := (@Obj.mk (@Value.type "tuple") none (@Data.seq (.mk []) (nat_lit 0)) (.mk []))
def o349 (P : Params) : Obj := (@Obj.mk (@Value.type "code") none (@Data.fields (.mk [(@Value.str (@Str.ofString "_law_looks") (nat_lit 668)), (@Value.str (@Str.ofString "_law_looks") (nat_lit 669)), (@Value.str (@Str.ofString "/claim/cut.py") (nat_lit 670)), (@Value.int (.ofNat (nat_lit 257)) (nat_lit 0)), (@Value.int (.ofNat (nat_lit 4)) (nat_lit 0)), (@Value.int (.ofNat (nat_lit 0)) (nat_lit 0)), (@Value.int (.ofNat (nat_lit 0)) (nat_lit 0)), (@Value.int (.ofNat (nat_lit 3)) (nat_lit 0)), (@Value.ref (nat_lit 344)), (@Value.bool true), (@Value.int (.ofNat (nat_lit 181)) (nat_lit 0)), (@Value.ref (nat_lit 345)), Value.none, (@Value.ref (nat_lit 346)), (@Value.ref (nat_lit 347)), (@Value.ref (nat_lit 348)), (@Value.int (.ofNat (nat_lit 679)) (nat_lit 0)), (@Value.int (.ofNat (nat_lit 257)) (nat_lit 0)), (@Value.str (@Str.ofString "/claim/cut.py") (nat_lit 680))])) (.mk []))
def o350 (P : Params) : Obj := (@Obj.mk (@Value.type "function") none (@Data.func (@FuncData.mk (@Str.ofString "_law_looks") (@Str.ofString "_law_looks") (defArgs (topS 67)) (@FuncBody.stmts (defBody (topS 67))) (defScope (topS 67)) (nat_lit 3) [] Value.none Value.none Value.none (@Value.str (@Str.ofString "law_menuhouses_k72_two_peoples_judged") (nat_lit 566)) none (@Value.ref (nat_lit 349)) Value.none (nat_lit 0))) (.mk []))
def o351 (P : Params) : Obj := (@Obj.mk (@Value.type "tuple") none (@Data.seq (.mk []) (nat_lit 0)) (.mk []))
def o354 (P : Params) : Obj := (@Obj.mk (@Value.type "code") none (@Data.fields (.mk [(@Value.str (@Str.ofString "_law_look_text") (nat_lit 682)), (@Value.str (@Str.ofString "_law_look_text") (nat_lit 683)), (@Value.str (@Str.ofString "/claim/cut.py") (nat_lit 684)), (@Value.int (.ofNat (nat_lit 263)) (nat_lit 0)), (@Value.int (.ofNat (nat_lit 1)) (nat_lit 0)), (@Value.int (.ofNat (nat_lit 0)) (nat_lit 0)), (@Value.int (.ofNat (nat_lit 0)) (nat_lit 0)), (@Value.int (.ofNat (nat_lit 3)) (nat_lit 0)), (@Value.ref (nat_lit 351)), (@Value.bool true), (@Value.int (.ofNat (nat_lit 181)) (nat_lit 0)), (@Value.ref (nat_lit 352)), Value.none, Value.none, Value.none, (@Value.ref (nat_lit 353)), (@Value.int (.ofNat (nat_lit 685)) (nat_lit 0)), (@Value.int (.ofNat (nat_lit 263)) (nat_lit 0)), (@Value.str (@Str.ofString "/claim/cut.py") (nat_lit 686))])) (.mk []))
def o355 (P : Params) : Obj := (@Obj.mk (@Value.type "function") none (@Data.func (@FuncData.mk (@Str.ofString "_law_look_text") (@Str.ofString "_law_look_text") (defArgs (topS 68)) (@FuncBody.stmts (defBody (topS 68))) (defScope (topS 68)) (nat_lit 3) [] Value.none Value.none Value.none (@Value.str (@Str.ofString "law_menuhouses_k72_two_peoples_judged") (nat_lit 566)) none (@Value.ref (nat_lit 354)) Value.none (nat_lit 0))) (.mk []))
def o356 (P : Params) : Obj := (@Obj.mk (@Value.type "tuple") none (@Data.seq (.mk []) (nat_lit 0)) (.mk []))
def o359 (P : Params) : Obj := (@Obj.mk (@Value.type "code") none (@Data.fields (.mk [(@Value.str (@Str.ofString "_law_marked") (nat_lit 688)), (@Value.str (@Str.ofString "_law_marked") (nat_lit 689)), (@Value.str (@Str.ofString "/claim/cut.py") (nat_lit 690)), (@Value.int (.ofNat (nat_lit 265)) (nat_lit 0)), (@Value.int (.ofNat (nat_lit 2)) (nat_lit 0)), (@Value.int (.ofNat (nat_lit 0)) (nat_lit 0)), (@Value.int (.ofNat (nat_lit 0)) (nat_lit 0)), (@Value.int (.ofNat (nat_lit 3)) (nat_lit 0)), (@Value.ref (nat_lit 356)), (@Value.bool true), (@Value.int (.ofNat (nat_lit 181)) (nat_lit 0)), (@Value.ref (nat_lit 357)), Value.none, Value.none, Value.none, (@Value.ref (nat_lit 358)), (@Value.int (.ofNat (nat_lit 691)) (nat_lit 0)), (@Value.int (.ofNat (nat_lit 265)) (nat_lit 0)), (@Value.str (@Str.ofString "/claim/cut.py") (nat_lit 692))])) (.mk []))
def o360 (P : Params) : Obj := (@Obj.mk (@Value.type "function") none (@Data.func (@FuncData.mk (@Str.ofString "_law_marked") (@Str.ofString "_law_marked") (defArgs (topS 69)) (@FuncBody.stmts (defBody (topS 69))) (defScope (topS 69)) (nat_lit 3) [] Value.none Value.none Value.none (@Value.str (@Str.ofString "law_menuhouses_k72_two_peoples_judged") (nat_lit 566)) none (@Value.ref (nat_lit 359)) Value.none (nat_lit 0))) (.mk []))
def o361 (P : Params) : Obj := (@Obj.mk (@Value.type "tuple") none (@Data.seq (.mk []) (nat_lit 0)) (.mk []))
def o364 (P : Params) : Obj := (@Obj.mk (@Value.type "code") none (@Data.fields (.mk [(@Value.str (@Str.ofString "_law_fit") (nat_lit 694)), (@Value.str (@Str.ofString "_law_fit") (nat_lit 695)), (@Value.str (@Str.ofString "/claim/cut.py") (nat_lit 696)), (@Value.int (.ofNat (nat_lit 267)) (nat_lit 0)), (@Value.int (.ofNat (nat_lit 3)) (nat_lit 0)), (@Value.int (.ofNat (nat_lit 0)) (nat_lit 0)), (@Value.int (.ofNat (nat_lit 0)) (nat_lit 0)), (@Value.int (.ofNat (nat_lit 3)) (nat_lit 0)), (@Value.ref (nat_lit 361)), (@Value.bool true), (@Value.int (.ofNat (nat_lit 181)) (nat_lit 0)), (@Value.ref (nat_lit 362)), Value.none, Value.none, Value.none, (@Value.ref (nat_lit 363)), (@Value.int (.ofNat (nat_lit 697)) (nat_lit 0)), (@Value.int (.ofNat (nat_lit 267)) (nat_lit 0)), (@Value.str (@Str.ofString "/claim/cut.py") (nat_lit 698))])) (.mk []))
def o365 (P : Params) : Obj := (@Obj.mk (@Value.type "function") none (@Data.func (@FuncData.mk (@Str.ofString "_law_fit") (@Str.ofString "_law_fit") (defArgs (topS 70)) (@FuncBody.stmts (defBody (topS 70))) (defScope (topS 70)) (nat_lit 3) [] Value.none Value.none Value.none (@Value.str (@Str.ofString "law_menuhouses_k72_two_peoples_judged") (nat_lit 566)) none (@Value.ref (nat_lit 364)) Value.none (nat_lit 0))) (.mk []))
def o366 (P : Params) : Obj := (@Obj.mk (@Value.type "tuple") none (@Data.seq (.mk []) (nat_lit 0)) (.mk []))
def o369 (P : Params) : Obj := (@Obj.mk (@Value.type "code") none (@Data.fields (.mk [(@Value.str (@Str.ofString "_law_needs") (nat_lit 700)), (@Value.str (@Str.ofString "_law_needs") (nat_lit 701)), (@Value.str (@Str.ofString "/claim/cut.py") (nat_lit 702)), (@Value.int (.ofNat (nat_lit 281)) (nat_lit 0)), (@Value.int (.ofNat (nat_lit 1)) (nat_lit 0)), (@Value.int (.ofNat (nat_lit 0)) (nat_lit 0)), (@Value.int (.ofNat (nat_lit 0)) (nat_lit 0)), (@Value.int (.ofNat (nat_lit 3)) (nat_lit 0)), (@Value.ref (nat_lit 366)), (@Value.bool true), (@Value.int (.ofNat (nat_lit 181)) (nat_lit 0)), (@Value.ref (nat_lit 367)), Value.none, Value.none, Value.none, (@Value.ref (nat_lit 368)), (@Value.int (.ofNat (nat_lit 703)) (nat_lit 0)), (@Value.int (.ofNat (nat_lit 281)) (nat_lit 0)), (@Value.str (@Str.ofString "/claim/cut.py") (nat_lit 704))])) (.mk []))
def o370 (P : Params) : Obj := (@Obj.mk (@Value.type "function") none (@Data.func (@FuncData.mk (@Str.ofString "_law_needs") (@Str.ofString "_law_needs") (defArgs (topS 71)) (@FuncBody.stmts (defBody (topS 71))) (defScope (topS 71)) (nat_lit 3) [] Value.none Value.none Value.none (@Value.str (@Str.ofString "law_menuhouses_k72_two_peoples_judged") (nat_lit 566)) none (@Value.ref (nat_lit 369)) Value.none (nat_lit 0))) (.mk []))
def o371 (P : Params) : Obj := (@Obj.mk (@Value.type "tuple") none (@Data.seq (.mk []) (nat_lit 0)) (.mk []))
def o374 (P : Params) : Obj := (@Obj.mk (@Value.type "code") none (@Data.fields (.mk [(@Value.str (@Str.ofString "_law_sharpened") (nat_lit 706)), (@Value.str (@Str.ofString "_law_sharpened") (nat_lit 707)), (@Value.str (@Str.ofString "/claim/cut.py") (nat_lit 708)), (@Value.int (.ofNat (nat_lit 286)) (nat_lit 0)), (@Value.int (.ofNat (nat_lit 2)) (nat_lit 0)), (@Value.int (.ofNat (nat_lit 0)) (nat_lit 0)), (@Value.int (.ofNat (nat_lit 0)) (nat_lit 0)), (@Value.int (.ofNat (nat_lit 3)) (nat_lit 0)), (@Value.ref (nat_lit 371)), (@Value.bool true), (@Value.int (.ofNat (nat_lit 181)) (nat_lit 0)), (@Value.ref (nat_lit 372)), Value.none, Value.none, Value.none, (@Value.ref (nat_lit 373)), (@Value.int (.ofNat (nat_lit 709)) (nat_lit 0)), (@Value.int (.ofNat (nat_lit 286)) (nat_lit 0)), (@Value.str (@Str.ofString "/claim/cut.py") (nat_lit 710))])) (.mk []))
def o375 (P : Params) : Obj := (@Obj.mk (@Value.type "function") none (@Data.func (@FuncData.mk (@Str.ofString "_law_sharpened") (@Str.ofString "_law_sharpened") (defArgs (topS 72)) (@FuncBody.stmts (defBody (topS 72))) (defScope (topS 72)) (nat_lit 3) [] Value.none Value.none Value.none (@Value.str (@Str.ofString "law_menuhouses_k72_two_peoples_judged") (nat_lit 566)) none (@Value.ref (nat_lit 374)) Value.none (nat_lit 0))) (.mk []))
def o376 (P : Params) : Obj := (@Obj.mk (@Value.type "tuple") none (@Data.seq (.mk []) (nat_lit 0)) (.mk []))
def o379 (P : Params) : Obj := (@Obj.mk (@Value.type "code") none (@Data.fields (.mk [(@Value.str (@Str.ofString "_law_let") (nat_lit 712)), (@Value.str (@Str.ofString "_law_let") (nat_lit 713)), (@Value.str (@Str.ofString "/claim/cut.py") (nat_lit 714)), (@Value.int (.ofNat (nat_lit 292)) (nat_lit 0)), (@Value.int (.ofNat (nat_lit 2)) (nat_lit 0)), (@Value.int (.ofNat (nat_lit 0)) (nat_lit 0)), (@Value.int (.ofNat (nat_lit 0)) (nat_lit 0)), (@Value.int (.ofNat (nat_lit 3)) (nat_lit 0)), (@Value.ref (nat_lit 376)), (@Value.bool true), (@Value.int (.ofNat (nat_lit 181)) (nat_lit 0)), (@Value.ref (nat_lit 377)), Value.none, Value.none, Value.none, (@Value.ref (nat_lit 378)), (@Value.int (.ofNat (nat_lit 715)) (nat_lit 0)), (@Value.int (.ofNat (nat_lit 292)) (nat_lit 0)), (@Value.str (@Str.ofString "/claim/cut.py") (nat_lit 716))])) (.mk []))
def o380 (P : Params) : Obj := (@Obj.mk (@Value.type "function") none (@Data.func (@FuncData.mk (@Str.ofString "_law_let") (@Str.ofString "_law_let") (defArgs (topS 73)) (@FuncBody.stmts (defBody (topS 73))) (defScope (topS 73)) (nat_lit 3) [] Value.none Value.none Value.none (@Value.str (@Str.ofString "law_menuhouses_k72_two_peoples_judged") (nat_lit 566)) none (@Value.ref (nat_lit 379)) Value.none (nat_lit 0))) (.mk []))
def o381 (P : Params) : Obj := (@Obj.mk (@Value.type "tuple") none (@Data.seq (.mk []) (nat_lit 0)) (.mk []))
def o383 (P : Params) : Obj := (@Obj.mk (@Value.type "tuple") none (@Data.seq (.mk [(@Value.str (@Str.ofString "_law_pot_here") (nat_lit 721)), (@Value.str (@Str.ofString "_law_text") (nat_lit 722)), (@Value.str (@Str.ofString "_law_at") (nat_lit 723)), (@Value.str (@Str.ofString "_law_way") (nat_lit 724)), (@Value.str (@Str.ofString "_law_sign") (nat_lit 725))]) (nat_lit 0)) (.mk []))
def o384 (P : Params) : Obj := (@Obj.mk (@Value.type "tuple") none (@Data.seq (.mk []) (nat_lit 0)) (.mk []))
def o386 (P : Params) : Obj := (@Obj.mk (@Value.type "code") none (@Data.fields (.mk [(@Value.str (@Str.ofString "_law_bent_text") (nat_lit 718)), (@Value.str (@Str.ofString "_law_bent_text") (nat_lit 719)), (@Value.str (@Str.ofString "/claim/cut.py") (nat_lit 720)), (@Value.int (.ofNat (nat_lit 301)) (nat_lit 0)), (@Value.int (.ofNat (nat_lit 2)) (nat_lit 0)), (@Value.int (.ofNat (nat_lit 0)) (nat_lit 0)), (@Value.int (.ofNat (nat_lit 0)) (nat_lit 0)), (@Value.int (.ofNat (nat_lit 3)) (nat_lit 0)), (@Value.ref (nat_lit 381)), (@Value.bool true), (@Value.int (.ofNat (nat_lit 181)) (nat_lit 0)), (@Value.ref (nat_lit 382)), Value.none, (@Value.ref (nat_lit 383)), (@Value.ref (nat_lit 384)), (@Value.ref (nat_lit 385)), (@Value.int (.ofNat (nat_lit 726)) (nat_lit 0)), (@Value.int (.ofNat (nat_lit 301)) (nat_lit 0)), (@Value.str (@Str.ofString "/claim/cut.py") (nat_lit 727))])) (.mk []))
def o387 (P : Params) : Obj := (@Obj.mk (@Value.type "function") none (@Data.func (@FuncData.mk (@Str.ofString "_law_bent_text") (@Str.ofString "_law_bent_text") (defArgs (topS 74)) (@FuncBody.stmts (defBody (topS 74))) (defScope (topS 74)) (nat_lit 3) [] Value.none Value.none Value.none (@Value.str (@Str.ofString "law_menuhouses_k72_two_peoples_judged") (nat_lit 566)) none (@Value.ref (nat_lit 386)) Value.none (nat_lit 0))) (.mk []))
def o388 (P : Params) : Obj := (@Obj.mk (@Value.type "tuple") none (@Data.seq (.mk []) (nat_lit 0)) (.mk []))
def o390 (P : Params) : Obj := (@Obj.mk (@Value.type "tuple") none (@Data.seq (.mk [(@Value.str (@Str.ofString "_law_asked") (nat_lit 732)), (@Value.str (@Str.ofString "_law_paper") (nat_lit 733)), (@Value.str (@Str.ofString "_law_due") (nat_lit 734))]) (nat_lit 0)) (.mk []))
def o391 (P : Params) : Obj := (@Obj.mk (@Value.type "tuple") none (@Data.seq (.mk []) (nat_lit 0)) (.mk []))
def o393 (P : Params) : Obj := (@Obj.mk (@Value.type "code") none (@Data.fields (.mk [(@Value.str (@Str.ofString "_law_told") (nat_lit 729)), (@Value.str (@Str.ofString "_law_told") (nat_lit 730)), (@Value.str (@Str.ofString "/claim/cut.py") (nat_lit 731)), (@Value.int (.ofNat (nat_lit 307)) (nat_lit 0)), (@Value.int (.ofNat (nat_lit 3)) (nat_lit 0)), (@Value.int (.ofNat (nat_lit 0)) (nat_lit 0)), (@Value.int (.ofNat (nat_lit 0)) (nat_lit 0)), (@Value.int (.ofNat (nat_lit 3)) (nat_lit 0)), (@Value.ref (nat_lit 388)), (@Value.bool true), (@Value.int (.ofNat (nat_lit 181)) (nat_lit 0)), (@Value.ref (nat_lit 389)), Value.none, (@Value.ref (nat_lit 390)), (@Value.ref (nat_lit 391)), (@Value.ref (nat_lit 392)), (@Value.int (.ofNat (nat_lit 735)) (nat_lit 0)), (@Value.int (.ofNat (nat_lit 307)) (nat_lit 0)), (@Value.str (@Str.ofString "/claim/cut.py") (nat_lit 736))])) (.mk []))
def o394 (P : Params) : Obj := (@Obj.mk (@Value.type "function") none (@Data.func (@FuncData.mk (@Str.ofString "_law_told") (@Str.ofString "_law_told") (defArgs (topS 75)) (@FuncBody.stmts (defBody (topS 75))) (defScope (topS 75)) (nat_lit 3) [] Value.none Value.none Value.none (@Value.str (@Str.ofString "law_menuhouses_k72_two_peoples_judged") (nat_lit 566)) none (@Value.ref (nat_lit 393)) Value.none (nat_lit 0))) (.mk []))
def o395 (P : Params) : Obj := (@Obj.mk (@Value.type "tuple") none (@Data.seq (.mk []) (nat_lit 0)) (.mk []))
def o398 (P : Params) : Obj := (@Obj.mk (@Value.type "code") none (@Data.fields (.mk [(@Value.str (@Str.ofString "_law_is_paper") (nat_lit 738)), (@Value.str (@Str.ofString "_law_is_paper") (nat_lit 739)), (@Value.str (@Str.ofString "/claim/cut.py") (nat_lit 740)), (@Value.int (.ofNat (nat_lit 309)) (nat_lit 0)), (@Value.int (.ofNat (nat_lit 5)) (nat_lit 0)), (@Value.int (.ofNat (nat_lit 0)) (nat_lit 0)), (@Value.int (.ofNat (nat_lit 0)) (nat_lit 0)), (@Value.int (.ofNat (nat_lit 3)) (nat_lit 0)), (@Value.ref (nat_lit 395)), (@Value.bool true), (@Value.int (.ofNat (nat_lit 181)) (nat_lit 0)), (@Value.ref (nat_lit 396)), Value.none, Value.none, Value.none, (@Value.ref (nat_lit 397)), (@Value.int (.ofNat (nat_lit 741)) (nat_lit 0)), (@Value.int (.ofNat (nat_lit 309)) (nat_lit 0)), (@Value.str (@Str.ofString "/claim/cut.py") (nat_lit 742))])) (.mk []))
def o399 (P : Params) : Obj := (@Obj.mk (@Value.type "function") none (@Data.func (@FuncData.mk (@Str.ofString "_law_is_paper") (@Str.ofString "_law_is_paper") (defArgs (topS 76)) (@FuncBody.stmts (defBody (topS 76))) (defScope (topS 76)) (nat_lit 3) [] Value.none Value.none Value.none (@Value.str (@Str.ofString "law_menuhouses_k72_two_peoples_judged") (nat_lit 566)) none (@Value.ref (nat_lit 398)) Value.none (nat_lit 0))) (.mk []))
def o400 (P : Params) : Obj := (@Obj.mk (@Value.type "tuple") none (@Data.seq (.mk []) (nat_lit 0)) (.mk []))
def o403 (P : Params) : Obj := (@Obj.mk (@Value.type "code") none (@Data.fields (.mk [(@Value.str (@Str.ofString "_law_with_it") (nat_lit 744)), (@Value.str (@Str.ofString "_law_with_it") (nat_lit 745)), (@Value.str (@Str.ofString "/claim/cut.py") (nat_lit 746)), (@Value.int (.ofNat (nat_lit 316)) (nat_lit 0)), (@Value.int (.ofNat (nat_lit 5)) (nat_lit 0)), (@Value.int (.ofNat (nat_lit 0)) (nat_lit 0)), (@Value.int (.ofNat (nat_lit 0)) (nat_lit 0)), (@Value.int (.ofNat (nat_lit 3)) (nat_lit 0)), (@Value.ref (nat_lit 400)), (@Value.bool true), (@Value.int (.ofNat (nat_lit 181)) (nat_lit 0)), (@Value.ref (nat_lit 401)), Value.none, Value.none, Value.none, (@Value.ref (nat_lit 402)), (@Value.int (.ofNat (nat_lit 747)) (nat_lit 0)), (@Value.int (.ofNat (nat_lit 316)) (nat_lit 0)), (@Value.str (@Str.ofString "/claim/cut.py") (nat_lit 748))])) (.mk []))
def o404 (P : Params) : Obj := (@Obj.mk (@Value.type "function") none (@Data.func (@FuncData.mk (@Str.ofString "_law_with_it") (@Str.ofString "_law_with_it") (defArgs (topS 77)) (@FuncBody.stmts (defBody (topS 77))) (defScope (topS 77)) (nat_lit 3) [] Value.none Value.none Value.none (@Value.str (@Str.ofString "law_menuhouses_k72_two_peoples_judged") (nat_lit 566)) none (@Value.ref (nat_lit 403)) Value.none (nat_lit 0))) (.mk []))
def o405 (P : Params) : Obj := (@Obj.mk (@Value.type "tuple") none (@Data.seq (.mk []) (nat_lit 0)) (.mk []))
def o408 (P : Params) : Obj := (@Obj.mk (@Value.type "code") none (@Data.fields (.mk [(@Value.str (@Str.ofString "_law_without_it") (nat_lit 750)), (@Value.str (@Str.ofString "_law_without_it") (nat_lit 751)), (@Value.str (@Str.ofString "/claim/cut.py") (nat_lit 752)), (@Value.int (.ofNat (nat_lit 320)) (nat_lit 0)), (@Value.int (.ofNat (nat_lit 5)) (nat_lit 0)), (@Value.int (.ofNat (nat_lit 0)) (nat_lit 0)), (@Value.int (.ofNat (nat_lit 0)) (nat_lit 0)), (@Value.int (.ofNat (nat_lit 3)) (nat_lit 0)), (@Value.ref (nat_lit 405)), (@Value.bool true), (@Value.int (.ofNat (nat_lit 181)) (nat_lit 0)), (@Value.ref (nat_lit 406)), Value.none, Value.none, Value.none, (@Value.ref (nat_lit 407)), (@Value.int (.ofNat (nat_lit 753)) (nat_lit 0)), (@Value.int (.ofNat (nat_lit 320)) (nat_lit 0)), (@Value.str (@Str.ofString "/claim/cut.py") (nat_lit 754))])) (.mk []))
def o409 (P : Params) : Obj := (@Obj.mk (@Value.type "function") none (@Data.func (@FuncData.mk (@Str.ofString "_law_without_it") (@Str.ofString "_law_without_it") (defArgs (topS 78)) (@FuncBody.stmts (defBody (topS 78))) (defScope (topS 78)) (nat_lit 3) [] Value.none Value.none Value.none (@Value.str (@Str.ofString "law_menuhouses_k72_two_peoples_judged") (nat_lit 566)) none (@Value.ref (nat_lit 408)) Value.none (nat_lit 0))) (.mk []))
def o410 (P : Params) : Obj := (@Obj.mk (@Value.type "tuple") none (@Data.seq (.mk []) (nat_lit 0)) (.mk []))
def o412 (P : Params) : Obj := (@Obj.mk (@Value.type "tuple") none (@Data.seq (.mk [(@Value.str (@Str.ofString "_law_pot_here") (nat_lit 759)), (@Value.str (@Str.ofString "_law_paper") (nat_lit 760)), (@Value.str (@Str.ofString "_law_things_here") (nat_lit 761)), (@Value.str (@Str.ofString "_law_way") (nat_lit 762)), (@Value.str (@Str.ofString "_law_at") (nat_lit 763)), (@Value.str (@Str.ofString "_law_people") (nat_lit 764)), (@Value.str (@Str.ofString "_law_other") (nat_lit 765)), (@Value.str (@Str.ofString "_law_place") (nat_lit 766)), (@Value.str (@Str.ofString "_law_new") (nat_lit 767))]) (nat_lit 0)) (.mk []))
def o413 (P : Params) : Obj := (@Obj.mk (@Value.type "tuple") none (@Data.seq (.mk []) (nat_lit 0)) (.mk []))
def o415 (P : Params) : Obj := (@Obj.mk (@Value.type "code") none (@Data.fields (.mk [(@Value.str (@Str.ofString "_law_bent") (nat_lit 756)), (@Value.str (@Str.ofString "_law_bent") (nat_lit 757)), (@Value.str (@Str.ofString "/claim/cut.py") (nat_lit 758)), (@Value.int (.ofNat (nat_lit 326)) (nat_lit 0)), (@Value.int (.ofNat (nat_lit 3)) (nat_lit 0)), (@Value.int (.ofNat (nat_lit 0)) (nat_lit 0)), (@Value.int (.ofNat (nat_lit 0)) (nat_lit 0)), (@Value.int (.ofNat (nat_lit 3)) (nat_lit 0)), (@Value.ref (nat_lit 410)), (@Value.bool true), (@Value.int (.ofNat (nat_lit 181)) (nat_lit 0)), (@Value.ref (nat_lit 411)), Value.none, (@Value.ref (nat_lit 412)), (@Value.ref (nat_lit 413)), (@Value.ref (nat_lit 414)), (@Value.int (.ofNat (nat_lit 768)) (nat_lit 0)), (@Value.int (.ofNat (nat_lit 326)) (nat_lit 0)), (@Value.str (@Str.ofString "/claim/cut.py") (nat_lit 769))])) (.mk []))
def o416 (P : Params) : Obj := (@Obj.mk (@Value.type "function") none (@Data.func (@FuncData.mk (@Str.ofString "_law_bent") (@Str.ofString "_law_bent") (defArgs (topS 79)) (@FuncBody.stmts (defBody (topS 79))) (defScope (topS 79)) (nat_lit 3) [] Value.none Value.none Value.none (@Value.str (@Str.ofString "law_menuhouses_k72_two_peoples_judged") (nat_lit 566)) none (@Value.ref (nat_lit 415)) Value.none (nat_lit 0))) (.mk []))
def o417 (P : Params) : Obj := (@Obj.mk (@Value.type "tuple") none (@Data.seq (.mk []) (nat_lit 0)) (.mk []))
def o420 (P : Params) : Obj := (@Obj.mk (@Value.type "code") none (@Data.fields (.mk [(@Value.str (@Str.ofString "_law_right") (nat_lit 771)), (@Value.str (@Str.ofString "_law_right") (nat_lit 772)), (@Value.str (@Str.ofString "/claim/cut.py") (nat_lit 773)), (@Value.int (.ofNat (nat_lit 350)) (nat_lit 0)), (@Value.int (.ofNat (nat_lit 1)) (nat_lit 0)), (@Value.int (.ofNat (nat_lit 0)) (nat_lit 0)), (@Value.int (.ofNat (nat_lit 0)) (nat_lit 0)), (@Value.int (.ofNat (nat_lit 3)) (nat_lit 0)), (@Value.ref (nat_lit 417)), (@Value.bool true), (@Value.int (.ofNat (nat_lit 181)) (nat_lit 0)), (@Value.ref (nat_lit 418)), Value.none, Value.none, Value.none, (@Value.ref (nat_lit 419)), (@Value.int (.ofNat (nat_lit 774)) (nat_lit 0)), (@Value.int (.ofNat (nat_lit 350)) (nat_lit 0)), (@Value.str (@Str.ofString "/claim/cut.py") (nat_lit 775))])) (.mk []))
def o421 (P : Params) : Obj := (@Obj.mk (@Value.type "function") none (@Data.func (@FuncData.mk (@Str.ofString "_law_right") (@Str.ofString "_law_right") (defArgs (topS 80)) (@FuncBody.stmts (defBody (topS 80))) (defScope (topS 80)) (nat_lit 3) [] Value.none Value.none Value.none (@Value.str (@Str.ofString "law_menuhouses_k72_two_peoples_judged") (nat_lit 566)) none (@Value.ref (nat_lit 420)) Value.none (nat_lit 0))) (.mk []))
def o422 (P : Params) : Obj := (@Obj.mk (@Value.type "tuple") none (@Data.seq (.mk []) (nat_lit 0)) (.mk []))
def o425 (P : Params) : Obj := (@Obj.mk (@Value.type "code") none (@Data.fields (.mk [(@Value.str (@Str.ofString "law") (nat_lit 777)), (@Value.str (@Str.ofString "law") (nat_lit 778)), (@Value.str (@Str.ofString "/claim/cut.py") (nat_lit 779)), (@Value.int (.ofNat (nat_lit 364)) (nat_lit 0)), (@Value.int (.ofNat (nat_lit 1)) (nat_lit 0)), (@Value.int (.ofNat (nat_lit 0)) (nat_lit 0)), (@Value.int (.ofNat (nat_lit 0)) (nat_lit 0)), (@Value.int (.ofNat (nat_lit 3)) (nat_lit 0)), (@Value.ref (nat_lit 422)), (@Value.bool true), (@Value.int (.ofNat (nat_lit 181)) (nat_lit 0)), (@Value.ref (nat_lit 423)), Value.none, Value.none, Value.none, (@Value.ref (nat_lit 424)), (@Value.int (.ofNat (nat_lit 780)) (nat_lit 0)), (@Value.int (.ofNat (nat_lit 364)) (nat_lit 0)), (@Value.str (@Str.ofString "/claim/cut.py") (nat_lit 781))])) (.mk []))
def o426 (P : Params) : Obj := (@Obj.mk (@Value.type "function") none (@Data.func (@FuncData.mk (@Str.ofString "law") (@Str.ofString "law") (defArgs (topS 81)) (@FuncBody.stmts (defBody (topS 81))) (defScope (topS 81)) (nat_lit 3) [] Value.none Value.none Value.none (@Value.str (@Str.ofString "law_menuhouses_k72_two_peoples_judged") (nat_lit 566)) none (@Value.ref (nat_lit 425)) Value.none (nat_lit 0))) (.mk []))
def T0 (P : Params) : BT := (.node (boot_o_0 P) (.node (boot_o_1 P) (.node (boot_o_3 P) (.node (boot_o_7 P) .nil .nil) (.node (o11 P) .nil .nil)) (.node (boot_o_5 P) (.node (boot_o_9 P) .nil .nil) (.node (o13 P) .nil .nil))) (.node (boot_o_2 P) (.node (boot_o_4 P) (.node (boot_o_8 P) .nil .nil) (.node (o12 P) .nil .nil)) (.node (boot_o_6 P) (.node (boot_o_10 P) .nil .nil) (.node (o14 P) .nil .nil))))
abbrev S0 (w : World) (os : OsState) : SharedT := ⟨T0 w.params, (nat_lit 15), (boot_heap w.params).life, .mk [], boot_drawn, (nat_lit 187), os⟩
def T1 (P : Params) : BT := (.node (boot_o_0 P) (.node (boot_o_1 P) (.node (boot_o_3 P) (.node (boot_o_7 P) .nil .nil) (.node (o11 P) .nil .nil)) (.node (boot_o_5 P) (.node (boot_o_9 P) .nil .nil) (.node (o13 P) .nil .nil))) (.node (boot_o_2 P) (.node (boot_o_4 P) (.node (boot_o_8 P) .nil .nil) (.node (o12 P) .nil .nil)) (.node (boot_o_6 P) (.node (boot_o_10 P) .nil .nil) (.node (o14 P) .nil .nil))))
abbrev S1 (w : World) (os : OsState) : SharedT := ⟨T1 w.params, (nat_lit 15), (boot_heap w.params).life, .mk [], boot_drawn, (nat_lit 187), os⟩
def T2 (P : Params) : BT := (.node (boot_o_0 P) (.node (boot_o_1 P) (.node (o3 P) (.node (boot_o_7 P) (.node (o15 P) (.node (o31 P) (.node (o63 P) (.node (o127 P) .nil .nil) (.node (o191 P) .nil .nil)) (.node (o95 P) (.node (o159 P) .nil .nil) (.node (o223 P) .nil .nil))) (.node (o47 P) (.node (o79 P) (.node (o143 P) .nil .nil) (.node (o207 P) .nil .nil)) (.node (o111 P) (.node (o175 P) .nil .nil) .nil))) (.node (o23 P) (.node (o39 P) (.node (o71 P) (.node (o135 P) .nil .nil) (.node (o199 P) .nil .nil)) (.node (o103 P) (.node (o167 P) .nil .nil) (.node (o231 P) .nil .nil))) (.node (o55 P) (.node (o87 P) (.node (o151 P) .nil .nil) (.node (o215 P) .nil .nil)) (.node (o119 P) (.node (o183 P) .nil .nil) .nil)))) (.node (o11 P) (.node (o19 P) (.node (o35 P) (.node (o67 P) (.node (o131 P) .nil .nil) (.node (o195 P) .nil .nil)) (.node (o99 P) (.node (o163 P) .nil .nil) (.node (o227 P) .nil .nil))) (.node (o51 P) (.node (o83 P) (.node (o147 P) .nil .nil) (.node (o211 P) .nil .nil)) (.node (o115 P) (.node (o179 P) .nil .nil) .nil))) (.node (o27 P) (.node (o43 P) (.node (o75 P) (.node (o139 P) .nil .nil) (.node (o203 P) .nil .nil)) (.node (o107 P) (.node (o171 P) .nil .nil) .nil)) (.node (o59 P) (.node (o91 P) (.node (o155 P) .nil .nil) (.node (o219 P) .nil .nil)) (.node (o123 P) (.node (o187 P) .nil .nil) .nil))))) (.node (boot_o_5 P) (.node (boot_o_9 P) (.node (o17 P) (.node (o33 P) (.node (o65 P) (.node (o129 P) .nil .nil) (.node (o193 P) .nil .nil)) (.node (o97 P) (.node (o161 P) .nil .nil) (.node (o225 P) .nil .nil))) (.node (o49 P) (.node (o81 P) (.node (o145 P) .nil .nil) (.node (o209 P) .nil .nil)) (.node (o113 P) (.node (o177 P) .nil .nil) .nil))) (.node (o25 P) (.node (o41 P) (.node (o73 P) (.node (o137 P) .nil .nil) (.node (o201 P) .nil .nil)) (.node (o105 P) (.node (o169 P) .nil .nil) (.node (o233 P) .nil .nil))) (.node (o57 P) (.node (o89 P) (.node (o153 P) .nil .nil) (.node (o217 P) .nil .nil)) (.node (o121 P) (.node (o185 P) .nil .nil) .nil)))) (.node (o13 P) (.node (o21 P) (.node (o37 P) (.node (o69 P) (.node (o133 P) .nil .nil) (.node (o197 P) .nil .nil)) (.node (o101 P) (.node (o165 P) .nil .nil) (.node (o229 P) .nil .nil))) (.node (o53 P) (.node (o85 P) (.node (o149 P) .nil .nil) (.node (o213 P) .nil .nil)) (.node (o117 P) (.node (o181 P) .nil .nil) .nil))) (.node (o29 P) (.node (o45 P) (.node (o77 P) (.node (o141 P) .nil .nil) (.node (o205 P) .nil .nil)) (.node (o109 P) (.node (o173 P) .nil .nil) .nil)) (.node (o61 P) (.node (o93 P) (.node (o157 P) .nil .nil) (.node (o221 P) .nil .nil)) (.node (o125 P) (.node (o189 P) .nil .nil) .nil)))))) (.node (boot_o_2 P) (.node (boot_o_4 P) (.node (boot_o_8 P) (.node (o16 P) (.node (o32 P) (.node (o64 P) (.node (o128 P) .nil .nil) (.node (o192 P) .nil .nil)) (.node (o96 P) (.node (o160 P) .nil .nil) (.node (o224 P) .nil .nil))) (.node (o48 P) (.node (o80 P) (.node (o144 P) .nil .nil) (.node (o208 P) .nil .nil)) (.node (o112 P) (.node (o176 P) .nil .nil) .nil))) (.node (o24 P) (.node (o40 P) (.node (o72 P) (.node (o136 P) .nil .nil) (.node (o200 P) .nil .nil)) (.node (o104 P) (.node (o168 P) .nil .nil) (.node (o232 P) .nil .nil))) (.node (o56 P) (.node (o88 P) (.node (o152 P) .nil .nil) (.node (o216 P) .nil .nil)) (.node (o120 P) (.node (o184 P) .nil .nil) .nil)))) (.node (o12v1 P) (.node (o20 P) (.node (o36 P) (.node (o68 P) (.node (o132 P) .nil .nil) (.node (o196 P) .nil .nil)) (.node (o100 P) (.node (o164 P) .nil .nil) (.node (o228 P) .nil .nil))) (.node (o52 P) (.node (o84 P) (.node (o148 P) .nil .nil) (.node (o212 P) .nil .nil)) (.node (o116 P) (.node (o180 P) .nil .nil) .nil))) (.node (o28 P) (.node (o44 P) (.node (o76 P) (.node (o140 P) .nil .nil) (.node (o204 P) .nil .nil)) (.node (o108 P) (.node (o172 P) .nil .nil) .nil)) (.node (o60 P) (.node (o92 P) (.node (o156 P) .nil .nil) (.node (o220 P) .nil .nil)) (.node (o124 P) (.node (o188 P) .nil .nil) .nil))))) (.node (boot_o_6 P) (.node (boot_o_10 P) (.node (o18 P) (.node (o34 P) (.node (o66 P) (.node (o130 P) .nil .nil) (.node (o194 P) .nil .nil)) (.node (o98 P) (.node (o162 P) .nil .nil) (.node (o226 P) .nil .nil))) (.node (o50 P) (.node (o82 P) (.node (o146 P) .nil .nil) (.node (o210 P) .nil .nil)) (.node (o114 P) (.node (o178 P) .nil .nil) .nil))) (.node (o26 P) (.node (o42 P) (.node (o74 P) (.node (o138 P) .nil .nil) (.node (o202 P) .nil .nil)) (.node (o106 P) (.node (o170 P) .nil .nil) (.node (o234 P) .nil .nil))) (.node (o58 P) (.node (o90 P) (.node (o154 P) .nil .nil) (.node (o218 P) .nil .nil)) (.node (o122 P) (.node (o186 P) .nil .nil) .nil)))) (.node (o14 P) (.node (o22 P) (.node (o38 P) (.node (o70 P) (.node (o134 P) .nil .nil) (.node (o198 P) .nil .nil)) (.node (o102 P) (.node (o166 P) .nil .nil) (.node (o230 P) .nil .nil))) (.node (o54 P) (.node (o86 P) (.node (o150 P) .nil .nil) (.node (o214 P) .nil .nil)) (.node (o118 P) (.node (o182 P) .nil .nil) .nil))) (.node (o30 P) (.node (o46 P) (.node (o78 P) (.node (o142 P) .nil .nil) (.node (o206 P) .nil .nil)) (.node (o110 P) (.node (o174 P) .nil .nil) .nil)) (.node (o62 P) (.node (o94 P) (.node (o158 P) .nil .nil) (.node (o222 P) .nil .nil)) (.node (o126 P) (.node (o190 P) .nil .nil) .nil)))))))
abbrev S2 (w : World) (os : OsState) : SharedT := ⟨T2 w.params, (nat_lit 235), (boot_heap w.params).life, .mk [], boot_drawn, (nat_lit 485), os⟩
def T3 (P : Params) : BT := (.node (boot_o_0 P) (.node (boot_o_1 P) (.node (o3v1 P) (.node (boot_o_7 P) (.node (o15 P) (.node (o31 P) (.node (o63 P) (.node (o127 P) .nil .nil) (.node (o191 P) .nil .nil)) (.node (o95 P) (.node (o159 P) .nil .nil) (.node (o223 P) .nil .nil))) (.node (o47 P) (.node (o79 P) (.node (o143 P) .nil .nil) (.node (o207 P) .nil .nil)) (.node (o111 P) (.node (o175 P) .nil .nil) .nil))) (.node (o23 P) (.node (o39 P) (.node (o71 P) (.node (o135 P) .nil .nil) (.node (o199 P) .nil .nil)) (.node (o103 P) (.node (o167 P) .nil .nil) (.node (o231 P) .nil .nil))) (.node (o55 P) (.node (o87 P) (.node (o151 P) .nil .nil) (.node (o215 P) .nil .nil)) (.node (o119 P) (.node (o183 P) .nil .nil) .nil)))) (.node (o11 P) (.node (o19 P) (.node (o35 P) (.node (o67 P) (.node (o131 P) .nil .nil) (.node (o195 P) .nil .nil)) (.node (o99 P) (.node (o163 P) .nil .nil) (.node (o227 P) .nil .nil))) (.node (o51 P) (.node (o83 P) (.node (o147 P) .nil .nil) (.node (o211 P) .nil .nil)) (.node (o115 P) (.node (o179 P) .nil .nil) .nil))) (.node (o27 P) (.node (o43 P) (.node (o75 P) (.node (o139 P) .nil .nil) (.node (o203 P) .nil .nil)) (.node (o107 P) (.node (o171 P) .nil .nil) (.node (o235 P) .nil .nil))) (.node (o59 P) (.node (o91 P) (.node (o155 P) .nil .nil) (.node (o219 P) .nil .nil)) (.node (o123 P) (.node (o187 P) .nil .nil) .nil))))) (.node (boot_o_5 P) (.node (boot_o_9 P) (.node (o17 P) (.node (o33 P) (.node (o65 P) (.node (o129 P) .nil .nil) (.node (o193 P) .nil .nil)) (.node (o97 P) (.node (o161 P) .nil .nil) (.node (o225 P) .nil .nil))) (.node (o49 P) (.node (o81 P) (.node (o145 P) .nil .nil) (.node (o209 P) .nil .nil)) (.node (o113 P) (.node (o177 P) .nil .nil) .nil))) (.node (o25 P) (.node (o41 P) (.node (o73 P) (.node (o137 P) .nil .nil) (.node (o201 P) .nil .nil)) (.node (o105 P) (.node (o169 P) .nil .nil) (.node (o233 P) .nil .nil))) (.node (o57 P) (.node (o89 P) (.node (o153 P) .nil .nil) (.node (o217 P) .nil .nil)) (.node (o121 P) (.node (o185 P) .nil .nil) .nil)))) (.node (o13 P) (.node (o21 P) (.node (o37 P) (.node (o69 P) (.node (o133 P) .nil .nil) (.node (o197 P) .nil .nil)) (.node (o101 P) (.node (o165 P) .nil .nil) (.node (o229 P) .nil .nil))) (.node (o53 P) (.node (o85 P) (.node (o149 P) .nil .nil) (.node (o213 P) .nil .nil)) (.node (o117 P) (.node (o181 P) .nil .nil) .nil))) (.node (o29 P) (.node (o45 P) (.node (o77 P) (.node (o141 P) .nil .nil) (.node (o205 P) .nil .nil)) (.node (o109 P) (.node (o173 P) .nil .nil) (.node (o237 P) .nil .nil))) (.node (o61 P) (.node (o93 P) (.node (o157 P) .nil .nil) (.node (o221 P) .nil .nil)) (.node (o125 P) (.node (o189 P) .nil .nil) .nil)))))) (.node (boot_o_2 P) (.node (boot_o_4 P) (.node (boot_o_8 P) (.node (o16 P) (.node (o32 P) (.node (o64 P) (.node (o128 P) .nil .nil) (.node (o192 P) .nil .nil)) (.node (o96 P) (.node (o160 P) .nil .nil) (.node (o224 P) .nil .nil))) (.node (o48 P) (.node (o80 P) (.node (o144 P) .nil .nil) (.node (o208 P) .nil .nil)) (.node (o112 P) (.node (o176 P) .nil .nil) .nil))) (.node (o24 P) (.node (o40 P) (.node (o72 P) (.node (o136 P) .nil .nil) (.node (o200 P) .nil .nil)) (.node (o104 P) (.node (o168 P) .nil .nil) (.node (o232 P) .nil .nil))) (.node (o56 P) (.node (o88 P) (.node (o152 P) .nil .nil) (.node (o216 P) .nil .nil)) (.node (o120 P) (.node (o184 P) .nil .nil) .nil)))) (.node (o12v1 P) (.node (o20 P) (.node (o36 P) (.node (o68 P) (.node (o132 P) .nil .nil) (.node (o196 P) .nil .nil)) (.node (o100 P) (.node (o164 P) .nil .nil) (.node (o228 P) .nil .nil))) (.node (o52 P) (.node (o84 P) (.node (o148 P) .nil .nil) (.node (o212 P) .nil .nil)) (.node (o116 P) (.node (o180 P) .nil .nil) .nil))) (.node (o28 P) (.node (o44 P) (.node (o76 P) (.node (o140 P) .nil .nil) (.node (o204 P) .nil .nil)) (.node (o108 P) (.node (o172 P) .nil .nil) (.node (o236 P) .nil .nil))) (.node (o60 P) (.node (o92 P) (.node (o156 P) .nil .nil) (.node (o220 P) .nil .nil)) (.node (o124 P) (.node (o188 P) .nil .nil) .nil))))) (.node (boot_o_6 P) (.node (boot_o_10 P) (.node (o18 P) (.node (o34 P) (.node (o66 P) (.node (o130 P) .nil .nil) (.node (o194 P) .nil .nil)) (.node (o98 P) (.node (o162 P) .nil .nil) (.node (o226 P) .nil .nil))) (.node (o50 P) (.node (o82 P) (.node (o146 P) .nil .nil) (.node (o210 P) .nil .nil)) (.node (o114 P) (.node (o178 P) .nil .nil) .nil))) (.node (o26 P) (.node (o42 P) (.node (o74 P) (.node (o138 P) .nil .nil) (.node (o202 P) .nil .nil)) (.node (o106 P) (.node (o170 P) .nil .nil) (.node (o234 P) .nil .nil))) (.node (o58 P) (.node (o90 P) (.node (o154 P) .nil .nil) (.node (o218 P) .nil .nil)) (.node (o122 P) (.node (o186 P) .nil .nil) .nil)))) (.node (o14 P) (.node (o22 P) (.node (o38 P) (.node (o70 P) (.node (o134 P) .nil .nil) (.node (o198 P) .nil .nil)) (.node (o102 P) (.node (o166 P) .nil .nil) (.node (o230 P) .nil .nil))) (.node (o54 P) (.node (o86 P) (.node (o150 P) .nil .nil) (.node (o214 P) .nil .nil)) (.node (o118 P) (.node (o182 P) .nil .nil) .nil))) (.node (o30 P) (.node (o46 P) (.node (o78 P) (.node (o142 P) .nil .nil) (.node (o206 P) .nil .nil)) (.node (o110 P) (.node (o174 P) .nil .nil) .nil)) (.node (o62 P) (.node (o94 P) (.node (o158 P) .nil .nil) (.node (o222 P) .nil .nil)) (.node (o126 P) (.node (o190 P) .nil .nil) .nil)))))))
abbrev S3 (w : World) (os : OsState) : SharedT := ⟨T3 w.params, (nat_lit 238), (boot_heap w.params).life, .mk [], boot_drawn, (nat_lit 508), os⟩
theorem r_boot (w : World) (os : OsState) : bootQ w os (fun s => fore (stQ P0 w) (nat_lit 11) (some (@Value.ref (nat_lit 6))) 12 s (topStub P0)) = some (S0 w os, ⟨denQ tabQ c0, c0, (@Pos.mk (nat_lit 0) (nat_lit 0) (nat_lit 0) (nat_lit 0)), [topFrame q0]⟩) := by kernel_rfl
theorem r_block (w : World) (os : OsState) : seg (stQ P0 w) (nat_lit 11) (some (@Value.ref (nat_lit 6))) 1 (S0 w os) (blockOf b0 env0 c0 (@Pos.mk (nat_lit 0) (nat_lit 0) (nat_lit 0) (nat_lit 0)) [topFrame q0]) = some (.next, S1 w os, c0, (@Pos.mk (nat_lit 0) (nat_lit 0) (nat_lit 0) (nat_lit 0))) := by kernel_rfl
theorem r_cut1 (w : World) (os : OsState) : seg (stQ P0 w) (nat_lit 11) (some (@Value.ref (nat_lit 6))) 1152 (S1 w os) (piecesQ ((b0.drop 0).take 47) env0 c0 (@Pos.mk (nat_lit 0) (nat_lit 0) (nat_lit 0) (nat_lit 0)) [topFrame q0]) = some (.next, S2 w os, c0, (@Pos.mk (nat_lit 153) (nat_lit 0) (nat_lit 162) (nat_lit 88))) := by kernel_rfl
theorem r_cut2 (w : World) (os : OsState) : seg (stQ P0 w) (nat_lit 11) (some (@Value.ref (nat_lit 6))) 191 (S2 w os) (piecesQ ((b0.drop 47).take 3) env0 c0 (@Pos.mk (nat_lit 153) (nat_lit 0) (nat_lit 162) (nat_lit 88)) [topFrame q0]) = some (.next, S3 w os, c0, (@Pos.mk (nat_lit 165) (nat_lit 0) (nat_lit 165) (nat_lit 9))) := both (F := fun w => seg (stQ P0 w) (nat_lit 11) (some (@Value.ref (nat_lit 6))) 191 (S2 w os) (piecesQ ((b0.drop 47).take 3) env0 c0 (@Pos.mk (nat_lit 153) (nat_lit 0) (nat_lit 162) (nat_lit 88)) [topFrame q0]) = some (.next, S3 w os, c0, (@Pos.mk (nat_lit 165) (nat_lit 0) (nat_lit 165) (nat_lit 9)))) "special-get-raises" (fun b w => by cases b <;> kernel_rfl) w
abbrev view0 : Program := view P0 [0, 1, 2, 4, 5, 6, 7, 8, 9, 10, 11, 12, 13, 14, 15, 16, 17, 18, 19, 20, 21, 22, 23, 24, 25, 26, 27, 28, 29, 30, 31, 32, 33, 34, 35, 36, 37, 38, 39, 40, 41, 42, 43, 44, 45, 46, 47, 48, 49, 50, 51, 52, 53, 54, 56, 57, 58, 59, 60, 61, 62, 63, 64, 65, 66, 67, 68, 69, 70, 71, 72, 73, 74, 75, 76, 77, 78, 79, 80, 81]
def loose0 : List PySem.Str := ["OF_LOOKS", "OF_ANSWERS", "OF_HOUSES"]
def K0 : Params → Frag := fun P => (nat_lit 2, o2 P) :: (nat_lit 3, o3v2 P) :: (nat_lit 15, o15 P) :: (nat_lit 17, o17 P) :: (nat_lit 18, o18 P) :: (nat_lit 20, o20 P) :: (nat_lit 21, o21 P) :: (nat_lit 22, o22 P) :: (nat_lit 24, o24 P) :: (nat_lit 25, o25 P) :: (nat_lit 27, o27 P) :: (nat_lit 28, o28 P) :: (nat_lit 29, o29 P) :: (nat_lit 31, o31 P) :: (nat_lit 32, o32 P) :: (nat_lit 34, o34 P) :: (nat_lit 35, o35 P) :: (nat_lit 36, o36 P) :: (nat_lit 39, o39 P) :: (nat_lit 40, o40 P) :: (nat_lit 41, o41 P) :: (nat_lit 43, o43 P) :: (nat_lit 44, o44 P) :: (nat_lit 46, o46 P) :: (nat_lit 47, o47 P) :: (nat_lit 48, o48 P) :: (nat_lit 51, o51 P) :: (nat_lit 52, o52 P) :: (nat_lit 53, o53 P) :: (nat_lit 56, o56 P) :: (nat_lit 57, o57 P) :: (nat_lit 58, o58 P) :: (nat_lit 61, o61 P) :: (nat_lit 62, o62 P) :: (nat_lit 63, o63 P) :: (nat_lit 66, o66 P) :: (nat_lit 67, o67 P) :: (nat_lit 68, o68 P) :: (nat_lit 70, o70 P) :: (nat_lit 71, o71 P) :: (nat_lit 73, o73 P) :: (nat_lit 74, o74 P) :: (nat_lit 75, o75 P) :: (nat_lit 78, o78 P) :: (nat_lit 79, o79 P) :: (nat_lit 80, o80 P) :: (nat_lit 83, o83 P) :: (nat_lit 84, o84 P) :: (nat_lit 85, o85 P) :: (nat_lit 88, o88 P) :: (nat_lit 89, o89 P) :: (nat_lit 90, o90 P) :: (nat_lit 93, o93 P) :: (nat_lit 94, o94 P) :: (nat_lit 95, o95 P) :: (nat_lit 98, o98 P) :: (nat_lit 99, o99 P) :: (nat_lit 100, o100 P) :: (nat_lit 103, o103 P) :: (nat_lit 104, o104 P) :: (nat_lit 105, o105 P) :: (nat_lit 108, o108 P) :: (nat_lit 109, o109 P) :: (nat_lit 110, o110 P) :: (nat_lit 113, o113 P) :: (nat_lit 114, o114 P) :: (nat_lit 115, o115 P) :: (nat_lit 118, o118 P) :: (nat_lit 119, o119 P) :: (nat_lit 120, o120 P) :: (nat_lit 123, o123 P) :: (nat_lit 124, o124 P) :: (nat_lit 125, o125 P) :: (nat_lit 128, o128 P) :: (nat_lit 129, o129 P) :: (nat_lit 130, o130 P) :: (nat_lit 133, o133 P) :: (nat_lit 134, o134 P) :: (nat_lit 135, o135 P) :: (nat_lit 137, o137 P) :: (nat_lit 138, o138 P) :: (nat_lit 140, o140 P) :: (nat_lit 141, o141 P) :: (nat_lit 142, o142 P) :: (nat_lit 144, o144 P) :: (nat_lit 145, o145 P) :: (nat_lit 147, o147 P) :: (nat_lit 148, o148 P) :: (nat_lit 149, o149 P) :: (nat_lit 151, o151 P) :: (nat_lit 152, o152 P) :: (nat_lit 154, o154 P) :: (nat_lit 155, o155 P) :: (nat_lit 156, o156 P) :: (nat_lit 158, o158 P) :: (nat_lit 159, o159 P) :: (nat_lit 161, o161 P) :: (nat_lit 162, o162 P) :: (nat_lit 163, o163 P) :: (nat_lit 165, o165 P) :: (nat_lit 166, o166 P) :: (nat_lit 168, o168 P) :: (nat_lit 169, o169 P) :: (nat_lit 170, o170 P) :: (nat_lit 172, o172 P) :: (nat_lit 173, o173 P) :: (nat_lit 175, o175 P) :: (nat_lit 176, o176 P) :: (nat_lit 177, o177 P) :: (nat_lit 180, o180 P) :: (nat_lit 181, o181 P) :: (nat_lit 182, o182 P) :: (nat_lit 185, o185 P) :: (nat_lit 186, o186 P) :: (nat_lit 187, o187 P) :: (nat_lit 189, o189 P) :: (nat_lit 190, o190 P) :: (nat_lit 192, o192 P) :: (nat_lit 193, o193 P) :: (nat_lit 194, o194 P) :: (nat_lit 196, o196 P) :: (nat_lit 197, o197 P) :: (nat_lit 199, o199 P) :: (nat_lit 200, o200 P) :: (nat_lit 201, o201 P) :: (nat_lit 203, o203 P) :: (nat_lit 204, o204 P) :: (nat_lit 206, o206 P) :: (nat_lit 207, o207 P) :: (nat_lit 208, o208 P) :: (nat_lit 210, o210 P) :: (nat_lit 211, o211 P) :: (nat_lit 213, o213 P) :: (nat_lit 214, o214 P) :: (nat_lit 215, o215 P) :: (nat_lit 218, o218 P) :: (nat_lit 219, o219 P) :: (nat_lit 220, o220 P) :: (nat_lit 223, o223 P) :: (nat_lit 224, o224 P) :: (nat_lit 225, o225 P) :: (nat_lit 228, o228 P) :: (nat_lit 229, o229 P) :: (nat_lit 230, o230 P) :: (nat_lit 233, o233 P) :: (nat_lit 234, o234 P) :: (nat_lit 235, o235 P) :: (nat_lit 236, o236 P) :: (nat_lit 237, o237 P) :: (nat_lit 238, o238 P) :: (nat_lit 240, o240 P) :: (nat_lit 241, o241 P) :: (nat_lit 243, o243 P) :: (nat_lit 244, o244 P) :: (nat_lit 245, o245 P) :: (nat_lit 247, o247 P) :: (nat_lit 248, o248 P) :: (nat_lit 250, o250 P) :: (nat_lit 251, o251 P) :: (nat_lit 252, o252 P) :: (nat_lit 254, o254 P) :: (nat_lit 255, o255 P) :: (nat_lit 257, o257 P) :: (nat_lit 258, o258 P) :: (nat_lit 259, o259 P) :: (nat_lit 261, o261 P) :: (nat_lit 262, o262 P) :: (nat_lit 264, o264 P) :: (nat_lit 265, o265 P) :: (nat_lit 266, o266 P) :: (nat_lit 268, o268 P) :: (nat_lit 269, o269 P) :: (nat_lit 271, o271 P) :: (nat_lit 272, o272 P) :: (nat_lit 273, o273 P) :: (nat_lit 275, o275 P) :: (nat_lit 276, o276 P) :: (nat_lit 278, o278 P) :: (nat_lit 279, o279 P) :: (nat_lit 280, o280 P) :: (nat_lit 282, o282 P) :: (nat_lit 283, o283 P) :: (nat_lit 285, o285 P) :: (nat_lit 286, o286 P) :: (nat_lit 287, o287 P) :: (nat_lit 290, o290 P) :: (nat_lit 291, o291 P) :: (nat_lit 292, o292 P) :: (nat_lit 294, o294 P) :: (nat_lit 295, o295 P) :: (nat_lit 297, o297 P) :: (nat_lit 298, o298 P) :: (nat_lit 299, o299 P) :: (nat_lit 301, o301 P) :: (nat_lit 302, o302 P) :: (nat_lit 304, o304 P) :: (nat_lit 305, o305 P) :: (nat_lit 306, o306 P) :: (nat_lit 308, o308 P) :: (nat_lit 309, o309 P) :: (nat_lit 311, o311 P) :: (nat_lit 312, o312 P) :: (nat_lit 313, o313 P) :: (nat_lit 316, o316 P) :: (nat_lit 317, o317 P) :: (nat_lit 318, o318 P) :: (nat_lit 321, o321 P) :: (nat_lit 322, o322 P) :: (nat_lit 323, o323 P) :: (nat_lit 325, o325 P) :: (nat_lit 326, o326 P) :: (nat_lit 328, o328 P) :: (nat_lit 329, o329 P) :: (nat_lit 330, o330 P) :: (nat_lit 332, o332 P) :: (nat_lit 333, o333 P) :: (nat_lit 335, o335 P) :: (nat_lit 336, o336 P) :: (nat_lit 337, o337 P) :: (nat_lit 339, o339 P) :: (nat_lit 340, o340 P) :: (nat_lit 342, o342 P) :: (nat_lit 343, o343 P) :: (nat_lit 344, o344 P) :: (nat_lit 346, o346 P) :: (nat_lit 347, o347 P) :: (nat_lit 349, o349 P) :: (nat_lit 350, o350 P) :: (nat_lit 351, o351 P) :: (nat_lit 354, o354 P) :: (nat_lit 355, o355 P) :: (nat_lit 356, o356 P) :: (nat_lit 359, o359 P) :: (nat_lit 360, o360 P) :: (nat_lit 361, o361 P) :: (nat_lit 364, o364 P) :: (nat_lit 365, o365 P) :: (nat_lit 366, o366 P) :: (nat_lit 369, o369 P) :: (nat_lit 370, o370 P) :: (nat_lit 371, o371 P) :: (nat_lit 374, o374 P) :: (nat_lit 375, o375 P) :: (nat_lit 376, o376 P) :: (nat_lit 379, o379 P) :: (nat_lit 380, o380 P) :: (nat_lit 381, o381 P) :: (nat_lit 383, o383 P) :: (nat_lit 384, o384 P) :: (nat_lit 386, o386 P) :: (nat_lit 387, o387 P) :: (nat_lit 388, o388 P) :: (nat_lit 390, o390 P) :: (nat_lit 391, o391 P) :: (nat_lit 393, o393 P) :: (nat_lit 394, o394 P) :: (nat_lit 395, o395 P) :: (nat_lit 398, o398 P) :: (nat_lit 399, o399 P) :: (nat_lit 400, o400 P) :: (nat_lit 403, o403 P) :: (nat_lit 404, o404 P) :: (nat_lit 405, o405 P) :: (nat_lit 408, o408 P) :: (nat_lit 409, o409 P) :: (nat_lit 410, o410 P) :: (nat_lit 412, o412 P) :: (nat_lit 413, o413 P) :: (nat_lit 415, o415 P) :: (nat_lit 416, o416 P) :: (nat_lit 417, o417 P) :: (nat_lit 420, o420 P) :: (nat_lit 421, o421 P) :: (nat_lit 422, o422 P) :: (nat_lit 425, o425 P) :: (nat_lit 426, o426 P) :: []
def as0 : List Addr := [(nat_lit 2), (nat_lit 3), (nat_lit 15), (nat_lit 17), (nat_lit 18), (nat_lit 20), (nat_lit 21), (nat_lit 22), (nat_lit 24), (nat_lit 25), (nat_lit 27), (nat_lit 28), (nat_lit 29), (nat_lit 31), (nat_lit 32), (nat_lit 34), (nat_lit 35), (nat_lit 36), (nat_lit 39), (nat_lit 40), (nat_lit 41), (nat_lit 43), (nat_lit 44), (nat_lit 46), (nat_lit 47), (nat_lit 48), (nat_lit 51), (nat_lit 52), (nat_lit 53), (nat_lit 56), (nat_lit 57), (nat_lit 58), (nat_lit 61), (nat_lit 62), (nat_lit 63), (nat_lit 66), (nat_lit 67), (nat_lit 68), (nat_lit 70), (nat_lit 71), (nat_lit 73), (nat_lit 74), (nat_lit 75), (nat_lit 78), (nat_lit 79), (nat_lit 80), (nat_lit 83), (nat_lit 84), (nat_lit 85), (nat_lit 88), (nat_lit 89), (nat_lit 90), (nat_lit 93), (nat_lit 94), (nat_lit 95), (nat_lit 98), (nat_lit 99), (nat_lit 100), (nat_lit 103), (nat_lit 104), (nat_lit 105), (nat_lit 108), (nat_lit 109), (nat_lit 110), (nat_lit 113), (nat_lit 114), (nat_lit 115), (nat_lit 118), (nat_lit 119), (nat_lit 120), (nat_lit 123), (nat_lit 124), (nat_lit 125), (nat_lit 128), (nat_lit 129), (nat_lit 130), (nat_lit 133), (nat_lit 134), (nat_lit 135), (nat_lit 137), (nat_lit 138), (nat_lit 140), (nat_lit 141), (nat_lit 142), (nat_lit 144), (nat_lit 145), (nat_lit 147), (nat_lit 148), (nat_lit 149), (nat_lit 151), (nat_lit 152), (nat_lit 154), (nat_lit 155), (nat_lit 156), (nat_lit 158), (nat_lit 159), (nat_lit 161), (nat_lit 162), (nat_lit 163), (nat_lit 165), (nat_lit 166), (nat_lit 168), (nat_lit 169), (nat_lit 170), (nat_lit 172), (nat_lit 173), (nat_lit 175), (nat_lit 176), (nat_lit 177), (nat_lit 180), (nat_lit 181), (nat_lit 182), (nat_lit 185), (nat_lit 186), (nat_lit 187), (nat_lit 189), (nat_lit 190), (nat_lit 192), (nat_lit 193), (nat_lit 194), (nat_lit 196), (nat_lit 197), (nat_lit 199), (nat_lit 200), (nat_lit 201), (nat_lit 203), (nat_lit 204), (nat_lit 206), (nat_lit 207), (nat_lit 208), (nat_lit 210), (nat_lit 211), (nat_lit 213), (nat_lit 214), (nat_lit 215), (nat_lit 218), (nat_lit 219), (nat_lit 220), (nat_lit 223), (nat_lit 224), (nat_lit 225), (nat_lit 228), (nat_lit 229), (nat_lit 230), (nat_lit 233), (nat_lit 234), (nat_lit 235), (nat_lit 236), (nat_lit 237), (nat_lit 238), (nat_lit 240), (nat_lit 241), (nat_lit 243), (nat_lit 244), (nat_lit 245), (nat_lit 247), (nat_lit 248), (nat_lit 250), (nat_lit 251), (nat_lit 252), (nat_lit 254), (nat_lit 255), (nat_lit 257), (nat_lit 258), (nat_lit 259), (nat_lit 261), (nat_lit 262), (nat_lit 264), (nat_lit 265), (nat_lit 266), (nat_lit 268), (nat_lit 269), (nat_lit 271), (nat_lit 272), (nat_lit 273), (nat_lit 275), (nat_lit 276), (nat_lit 278), (nat_lit 279), (nat_lit 280), (nat_lit 282), (nat_lit 283), (nat_lit 285), (nat_lit 286), (nat_lit 287), (nat_lit 290), (nat_lit 291), (nat_lit 292), (nat_lit 294), (nat_lit 295), (nat_lit 297), (nat_lit 298), (nat_lit 299), (nat_lit 301), (nat_lit 302), (nat_lit 304), (nat_lit 305), (nat_lit 306), (nat_lit 308), (nat_lit 309), (nat_lit 311), (nat_lit 312), (nat_lit 313), (nat_lit 316), (nat_lit 317), (nat_lit 318), (nat_lit 321), (nat_lit 322), (nat_lit 323), (nat_lit 325), (nat_lit 326), (nat_lit 328), (nat_lit 329), (nat_lit 330), (nat_lit 332), (nat_lit 333), (nat_lit 335), (nat_lit 336), (nat_lit 337), (nat_lit 339), (nat_lit 340), (nat_lit 342), (nat_lit 343), (nat_lit 344), (nat_lit 346), (nat_lit 347), (nat_lit 349), (nat_lit 350), (nat_lit 351), (nat_lit 354), (nat_lit 355), (nat_lit 356), (nat_lit 359), (nat_lit 360), (nat_lit 361), (nat_lit 364), (nat_lit 365), (nat_lit 366), (nat_lit 369), (nat_lit 370), (nat_lit 371), (nat_lit 374), (nat_lit 375), (nat_lit 376), (nat_lit 379), (nat_lit 380), (nat_lit 381), (nat_lit 383), (nat_lit 384), (nat_lit 386), (nat_lit 387), (nat_lit 388), (nat_lit 390), (nat_lit 391), (nat_lit 393), (nat_lit 394), (nat_lit 395), (nat_lit 398), (nat_lit 399), (nat_lit 400), (nat_lit 403), (nat_lit 404), (nat_lit 405), (nat_lit 408), (nat_lit 409), (nat_lit 410), (nat_lit 412), (nat_lit 413), (nat_lit 415), (nat_lit 416), (nat_lit 417), (nat_lit 420), (nat_lit 421), (nat_lit 422), (nat_lit 425), (nat_lit 426)]
theorem as0_eq (P : Params) : as0 = (K0 P).map (·.1) := by kernel_rfl
abbrev X0 : Shared → Bool := fun s => xlAt view0 [] s && recOk (RowW.records (OpenRow.toRowW R0)) s
theorem r_last (w : World) (os : OsState) : (goF (stQ P0 w) (nat_lit 11) (some (@Value.ref (nat_lit 6))) 957 (S3 w os) (restQ (b0.drop 50) env0 c0 (@Pos.mk (nat_lit 165) (nat_lit 0) (nat_lit 165) (nat_lit 9)) [topFrame q0])).map (Looks P0 view0 loose0 X0 as0 w) = some (Good view0 loose0 K0 w) := by kernel_rfl
theorem r_size (w : World) : (boot_heap w.params).objs.size = (nat_lit 11) := by kernel_rfl
theorem r_ann (w : World) : bootAnn w = (some (@Value.ref (nat_lit 6))) := by kernel_rfl
abbrev M0 : Nat := 12 + (1 + (1152 + (191 + 957)))
theorem left0 : LeftO P0 view0 loose0 X0 (Hook.obs (kHook K0 as0 as0_eq)) (Hook.val (kHook K0 as0 as0_eq)) 5680 true := by
  refine left_cuts (M := M0) (by kernel_rfl) (by rfl) (fun s => by kernel_rfl) (by rfl) fun w os => ?_
  obtain ⟨s, hs, hb⟩ := bootQ_ok (r_boot w os)
  obtain ⟨r, hr, hl⟩ := Option.map_eq_some_iff.mp (r_last w os)
  refine ⟨s, r, hs, ?_, hl⟩
  rw [r_size w, r_ann w]
  exact run_fore hb (run_block (r_block w os) (run_cut (i := 0) (j := 47) (k := 47) (b := b0) rfl (r_cut1 w os) (run_cut (i := 47) (j := 50) (k := 3) (b := b0) rfl (r_cut2 w os) (run_end hr))))
end MHead
end
namespace MH
open PySem PySem.Spec PyProof.Rows L2
/-! ### frames -/
theorem _root_.L2.Same.sqt {K : PySem.W.Frag} {H H' : Hp} {a : Addr} {xs : List V} (e : Same H H') (h : SqT K H a xs) : SqT K H' a xs := by
  rcases h with (h | ⟨o, h⟩) | h
  · exact .inl (.inl (e _ _ h))
  · exact .inl (.inr ⟨o, e _ _ h⟩)
  · exact .inr h
theorem _root_.L2.Same.new {H : Hp} {p : Addr} {o : HO} (h : H p = none) : Same H (upd H p o) := fun b x e => by
  rw [upd_ne (ne_of_none e h)]
  exact e
theorem _root_.L2.Same.new' {H H1 : Hp} {p : Addr} {o : HO} (s : Same H H1) (h : H1 p = none) : Same H (upd H1 p o) := s.trans (Same.new h)
/-- all as it was but p -/
def SameB (p : Addr) (H H' : Hp) : Prop := ∀ b o, b ≠ p → H b = some o → H' b = some o
theorem SameB.of {p : Addr} {H H' : Hp} (s : Same H H') : SameB p H H' := fun b o _ e => s b o e
theorem SameB.refl (p : Addr) (H : Hp) : SameB p H H := fun _ _ _ e => e
theorem SameB.trans {p : Addr} {H H1 H2 : Hp} (a : SameB p H H1) (b : SameB p H1 H2) : SameB p H H2 := fun c o n e => b c o n (a c o n e)
theorem SameB.put {p : Addr} {H H1 : Hp} {o : HO} (s : SameB p H H1) : SameB p H (upd H1 p o) := fun b x n e => by
  rw [upd_ne n]
  exact s b x n e
theorem SameB.new {p q : Addr} {H H1 : Hp} {o : HO} (s : SameB p H H1) (h : H1 q = none) : SameB p H (upd H1 q o) := s.trans (SameB.of (Same.new h))
/-- a tuple stands where only a list changed -/
theorem SameB.sqt {K : PySem.W.Frag} {p a : Addr} {H H' : Hp} {xs ys : List V} (s : SameB p H H') (hp : H p = some (.lst ys)) (h : SqT K H a xs) : SqT K H' a xs := by
  rcases h with (h | ⟨o, h⟩) | h
  · exact .inl (.inl (s _ _ (ne_of h hp (by intro q; cases q)) h))
  · exact .inl (.inr ⟨o, s _ _ (ne_of h hp (by intro q; cases q)) h⟩)
  · exact .inr h
theorem tup_of {K : PySem.W.Frag} {H : Hp} {a : Addr} {xs : List V} (h : H a = some (.tup xs)) : SqT K H a xs := .inl (.inl h)
theorem frz_of {K : PySem.W.Frag} {H : Hp} {a : Addr} {o : Obj} {xs : List V} (h : H a = some (.frz o (.tup xs))) : SqT K H a xs := .inl (.inr ⟨o, h⟩)
theorem lst_of {K : PySem.W.Frag} {H : Hp} {a : Addr} {xs : List V} (h : H a = some (.lst xs)) : SqL K H a xs := .inl (.inl h)
theorem le_line {n : Nat} (h : n ≤ 100000) : n ≤ sizeLine := Nat.le_trans h (by decide)
theorem lt_line {n : Nat} (h : n < 100000) : n < sizeLine := Nat.lt_of_lt_of_le h (by decide)
/-! ### the urn -/
def Ur (H : Hp) (p : Addr) (n : Nat) : Prop := ∃ x y c : Int, H p = some (.lst [.int x, .int y, .int c]) ∧ 0 ≤ x ∧ 0 ≤ y ∧ y < 2305843009213693951 ∧ 0 ≤ c ∧ c ≤ n
theorem Ur.sqt {K : PySem.W.Frag} {H H' : Hp} {p a : Addr} {n : Nat} {xs : List V} (u : Ur H p n) (s : SameB p H H') (h : SqT K H a xs) : SqT K H' a xs := by
  obtain ⟨x, y, c, hp, _⟩ := u
  exact s.sqt hp h
theorem Ur.same {H H' : Hp} {p : Addr} {n : Nat} (u : Ur H p n) (s : Same H H') : Ur H' p n := by
  obtain ⟨x, y, c, hp, h⟩ := u
  exact ⟨x, y, c, s _ _ hp, h⟩
theorem Ur.mono {H : Hp} {p : Addr} {n m : Nat} (u : Ur H p n) (h : n ≤ m) : Ur H p m := by
  obtain ⟨x, y, c, hp, h1, h2, h3, h4, h5⟩ := u
  exact ⟨x, y, c, hp, h1, h2, h3, h4, by omega⟩
theorem Ur.put {H : Hp} {p q : Addr} {n : Nat} {o u : HO} (a : Ur H p n) (hq : H q = some u) (d : ∀ x y z : Int, u ≠ .lst [.int x, .int y, .int z]) : Ur (upd H q o) p n := by
  obtain ⟨x, y, c, hp, h⟩ := a
  have ne : p ≠ q := fun e => by
    subst e
    rw [hp] at hq
    exact d x y c (Option.some.inj hq).symm
  exact ⟨x, y, c, by rw [upd_ne ne]; exact hp, h⟩
/-- what is new stands apart from the urn -/
theorem Ur.ne {H : Hp} {p q : Addr} {n : Nat} (u : Ur H p n) (h : H q = none) : q ≠ p := fun e => by
  obtain ⟨x, y, c, hp, _⟩ := u
  rw [← e, h] at hp
  cases hp
def spDraw : Sp := fun vs H Q _ => ∃ (p : Addr) (m : Int) (n : Nat), vs = [.ref p, .int m] ∧ Ur H p n ∧ n ≤ 1000000000 ∧ 0 < m ∧ m < 1000000 ∧ ∀ d H', 0 ≤ d → d < m → SameB p H H' → Ur H' p (n + 1) → Q (.int d) H'
theorem ite2 {c : Bool} {A B : Prop} (a : c = true → A) (b : ¬ c = true → B) : if c = true then A else B := by
  by_cases h : c = true
  · rw [if_pos h]
    exact a h
  · rw [if_neg h]
    exact b h
section
variable {P : Program} {w : World} {K : PySem.W.Frag} {mg : Str → Option Value} {base : Heap}
theorem ok_l_draw (T : Tx K mg w) : FnOk P w K mg base CX0 1 T.a_l_draw T.fd_l_draw ["_law_pot_here", "_law_many"] spDraw := by
  refine T.F_l_draw.ok sc_l_draw (fun vs H Q E h => ?_) (fun cdv A outer s H vs Q E hr h => ?_)
  · obtain ⟨p, m, n, rfl, _⟩ := h
    rfl
  · obtain ⟨p, m, n, rfl, ⟨x, y, c, hp, hx, hy, hy2, hc, hcn⟩, hn, hm, hm2, k⟩ := h
    refine ⟨_, (pss_cons (ps_asg (pe_op op_add (pe_ix ix_list (pv 0) pe_int (fun _ _ => rfl)) pe_int) (pg_sub (pv 0) pe_int set_list))
      (pss_cons (ps_set (i := 2) sc_l_draw.nd rfl (Or.inl rfl) (pe_op op_add (pe_op op_add (pe_op op_mul (pe_ix ix_list (pv 0) pe_int (fun _ _ => rfl)) pe_int) (pe_op op_mul pe_int (pe_ix ix_list (pv 0) pe_int (fun _ _ => rfl)))) pe_int))
      (pss_cons (ps_asg (pe_op op_mod (pe_callTy call_int1 (by rfl) T.n_int (by decide +kernel) (pa_cons (pv 2) pa_nil)) pe_int) (pg_sub (pv 0) pe_int set_list))
      (pss_cons (ps_if (pt_cmpR op_gt (pe_ix ix_list (pv 0) pe_int (fun _ _ => rfl)) pe_int (nomark _))
        (pss_cons (ps_asg (pe_callB call_divmod (by rfl) T.n_divmod (by decide +kernel) (pa_cons (pe_ix ix_list (pv 0) pe_int (fun _ _ => rfl)) (pa_cons (pv 1) pa_nil))) (pg_tup rfl (pgs_cons (pg_sub (pv 0) pe_int set_list) (pgs_cons (pg_name (i := 3) sc_l_draw.nd rfl (Or.inl rfl)) pgs_nil))))
      (pss_one (ps_ret (pv 3))))
        pss_nil)
      (pss_one (ps_ret (pe_op op_mod (pe_callTy call_int1 (by rfl) T.n_int (by decide +kernel) (pa_cons (pe_op op_fdiv (pe_op op_mul (pe_op op_fdiv (pe_ix ix_list (pv 0) pe_int (fun _ _ => rfl)) pe_int) pe_int) pe_int) pa_nil)) (pv 1)))))))), ?_⟩
    refine ⟨_, rfl, p, _, 2, _, rfl, rfl, lst_of hp, rfl, _, _, rfl, rfl, ?_⟩
    refine ⟨_, rfl, p, _, 2, 2, rfl, rfl, hp, rfl, ?_⟩
    have b1 : SameB p H (upd H p (.lst [.int x, .int y, .int (c + 1)])) := (SameB.refl p H).put
    have h1 : (upd H p (.lst [.int x, .int y, .int (c + 1)])) p = some (.lst [.int x, .int y, .int (c + 1)]) := upd_same
    change tSeq _ _ _ _ (upd H p (.lst [.int x, .int y, .int (c + 1)]))
    generalize upd H p (.lst [.int x, .int y, .int (c + 1)]) = H1 at b1 h1 ⊢
    refine ⟨_, rfl, p, _, 1, _, rfl, rfl, lst_of h1, rfl, _, _, rfl, rfl, .inl ⟨by omega, by omega⟩, _, rfl, p, _, 2, _, rfl, rfl, lst_of h1, rfl, _, _, rfl, rfl, .inl ⟨by omega, by omega⟩, _, _, rfl, rfl, _, _, rfl, rfl, ?_⟩
    change tSeq _ _ _ (List.set _ 2 (some (V.int (y * 2691343689449507681 + 977 * (c + 1) + 3202034522624059)))) H1
    generalize y * 2691343689449507681 + 977 * (c + 1) + 3202034522624059 = m1
    refine ⟨_, rfl, .inl ⟨_, rfl, _, _, rfl, rfl, (by show (0 : Int) < 2305843009213693951; decide), _, rfl, p, _, 1, 1, rfl, rfl, h1, rfl, ?_⟩⟩
    have e0 : 0 ≤ m1 % 2305843009213693951 := Int.emod_nonneg _ (by decide)
    have e1 : m1 % 2305843009213693951 < 2305843009213693951 := Int.emod_lt_of_pos _ (by decide)
    change tSeq _ _ _ _ (upd H1 p (.lst [.int x, .int (m1 % 2305843009213693951), .int (c + 1)]))
    generalize m1 % 2305843009213693951 = z at e0 e1 ⊢
    have b2 : SameB p H (upd H1 p (.lst [.int x, .int z, .int (c + 1)])) := b1.put
    have h2 : (upd H1 p (.lst [.int x, .int z, .int (c + 1)])) p = some (.lst [.int x, .int z, .int (c + 1)]) := upd_same
    generalize upd H1 p (.lst [.int x, .int z, .int (c + 1)]) = H2 at b2 h2 ⊢
    refine ⟨_, rfl, p, _, 0, _, rfl, rfl, lst_of h2, rfl, _, _, rfl, rfl, _, rfl, ?_⟩
    refine ite2 (fun q => ?_) (fun q => ?_)
    · have q : 0 < x := of_decide_eq_true q
      refine ⟨_, rfl, p, _, 0, _, rfl, rfl, lst_of h2, rfl, _, rfl, _, _, rfl, ⟨hm, by omega⟩, fun t ht => ?_⟩
      have npt : p ≠ t := ne_of_none h2 ht
      refine ⟨t, _, rfl, tup_of upd_same, rfl, _, _, rfl, _, rfl, p, _, 0, 0, rfl, rfl, (by rw [upd_ne npt]; exact h2), rfl, _, _, rfl, rfl, ?_⟩
      refine ⟨_, rfl, ?_⟩
      refine k _ _ (Int.emod_nonneg _ (by omega)) (Int.emod_lt_of_pos _ hm) (b2.new ht).put ⟨x / m, z, c + 1, ?_, Int.ediv_nonneg hx (by omega), e0, e1, by omega, by omega⟩
      rw [upd_same]
      rfl
    · have z0 : 0 ≤ z / 134217728 := Int.ediv_nonneg e0 (by decide)
      have z1 : z / 134217728 < 17179869184 := by omega
      refine ⟨_, rfl, p, _, 1, _, rfl, rfl, lst_of h2, rfl, _, _, rfl, rfl, ⟨by decide, by decide⟩, _, _, rfl, rfl, .inl ⟨by omega, by omega⟩, _, _, rfl, rfl, ⟨by decide, by decide⟩, .inl ⟨_, rfl, _, rfl, _, _, rfl, rfl, hm, ?_⟩⟩
      exact k _ _ (Int.emod_nonneg _ (by omega)) (Int.emod_lt_of_pos _ hm) b2 ⟨x, z, c + 1, h2, hx, e0, e1, by omega, by omega⟩
end
theorem _root_.L2.Same.sql {K : PySem.W.Frag} {H H' : Hp} {a : Addr} {xs : List V} (e : Same H H') (h : SqL K H a xs) : SqL K H' a xs := by
  rcases h with (h | ⟨o, h⟩) | h
  · exact .inl (.inl (e _ _ h))
  · exact .inl (.inr ⟨o, e _ _ h⟩)
  · exact .inr h
theorem cutV_mem {xs : List V} {lo hi : Option Int} {x : V} (h : x ∈ cutV xs lo hi) : x ∈ xs := List.mem_of_mem_drop (List.mem_of_mem_take h)
def spPot (K : PySem.W.Frag) : Sp := fun vs H Q _ => ∃ (a : Addr) (ns : List Int) (i : Nat), vs = [.ref a, .int i] ∧ SqL K H a (ns.map V.int) ∧ ns.length ≤ 63 ∧ i < 1000 ∧ ∀ H' p, Same H H' → H p = none → Ur H' p 0 → Q (.ref p) H'
section
variable {P : Program} {w : World} {K : PySem.W.Frag} {mg : Str → Option Value} {base : Heap}
theorem ok_l_pot (T : Tx K mg w) : FnOk P w K mg base CX0 1 T.a_l_pot T.fd_l_pot ["_law_script", "_law_k"] (spPot K) := by
  refine T.F_l_pot.ok sc_l_pot (fun vs H Q E h => ?_) (fun cdv A outer s H vs Q E hr h => ?_)
  · obtain ⟨a, ns, i, rfl, _⟩ := h
    rfl
  · obtain ⟨a, ns, i, rfl, hS, hlen, hi, k⟩ := h
    refine ⟨_, (pss_cons (ps_set (i := 2) sc_l_pot.nd rfl (Or.inl rfl) (pe_ifExp (pt_cmpR op_lt (pv 1) (pe_callB call_len_seq (by rfl) T.n_len (by decide +kernel) (pa_cons (pv 0) pa_nil)) (nomark _)) (pe_ix ix_list (pv 0) (pv 1) (fun _ _ => rfl)) (pe_op op_add (pe_op op_mul pe_int (pv 1)) pe_int)))
      (pss_cons (ps_if (pt_cmpR op_ge (pv 1) (pe_callB call_len_seq (by rfl) T.n_len (by decide +kernel) (pa_cons (pv 0) pa_nil)) (nomark _))
        (pss_one (ps_for PassesOwn.never rfl (pi_list (pe_slice sl_list (pv 0) po_none (po_some pe_int))) (pg_name (i := 3) sc_l_pot.nd rfl (Or.inl rfl))
        (pss_one (ps_set (i := 2) sc_l_pot.nd rfl (Or.inl rfl) (pe_op op_mod (pe_callTy call_int1 (by rfl) T.n_int (by decide +kernel) (pa_cons (pe_op op_add (pe_op op_mul (pv 2) pe_int) (pv 3)) pa_nil)) pe_int)))))
        pss_nil)
      (pss_cons (ps_set (i := 4) sc_l_pot.nd rfl (Or.inl rfl) (pe_ifExp (pt_cmpR op_ge (pe_callB call_abs (by rfl) T.n_abs (by decide +kernel) (pa_cons (pv 2) pa_nil)) (pe_op op_pow pe_int pe_int) (nomark _)) (pe_callB call_abs (by rfl) T.n_abs (by decide +kernel) (pa_cons (pv 2) pa_nil)) pe_int))
      (pss_one (ps_ret (pe_lst (pa_cons (pv 4) (pa_cons (pe_op op_mod (pe_callTy call_int1 (by rfl) T.n_int (by decide +kernel) (pa_cons (pe_op op_add (pe_op op_add (pe_op op_mul (pv 2) pe_int) (pe_op op_mul pe_int (pv 1))) pe_int) pa_nil)) pe_int) (pa_cons pe_int pa_nil))))))))), ?_⟩
    refine ⟨_, rfl, _, rfl, a, _, rfl, .inl hS, _, _, rfl, rfl, _, rfl, ?_⟩
    have fin : ∀ (y g : Int) (H' : Hp), Same H H' → 0 ≤ g → ∀ t, H' t = none → Q (.ref t) (upd H' t (.lst [.int g, .int ((y * 3935559000370003843 + 691 * (i : Int) + 26) % 2305843009213693951), .int 0])) := fun y g H' s1 h t nt =>
      k _ _ (s1.new' nt) (s1.free nt) ⟨g, _, 0, upd_same, h, Int.emod_nonneg _ (by decide), Int.emod_lt_of_pos _ (by decide), Int.le_refl 0, by simp⟩
    refine ite2 (fun c => ?_) (fun c => ?_)
    · have c : (i : Int) < ((ns.map V.int).length : Nat) := of_decide_eq_true c
      have c2 : i < ns.length := by
        rw [List.length_map] at c
        omega
      have g : (ns.map V.int)[i]? = some (.int ns[i]) := by
        rw [List.getElem?_map, List.getElem?_eq_getElem c2]
        rfl
      refine ⟨_, rfl, _, rfl, a, _, _, _, rfl, rfl, hS, atI_nat g, ?_⟩
      refine ⟨_, rfl, _, rfl, a, _, rfl, .inl hS, _, _, rfl, rfl, _, rfl, ?_⟩
      refine ite2 (fun d => ?_) (fun d => ?_)
      · have d : ((ns.map V.int).length : Nat) ≤ (i : Int) := of_decide_eq_true d
        omega
      · have s1 := Same.refl H
        generalize ns[i] = y
        refine ⟨_, rfl, _, rfl, _, _, rfl, rfl, ⟨by decide, by decide, by decide⟩, _, _, rfl, rfl, _, rfl, ?_⟩
        refine ite2 (fun c => ?_) (fun c => ?_)
        · refine ⟨_, rfl, _, rfl, ?_⟩
          refine ⟨_, rfl, _, rfl, _, _, rfl, rfl, .inr ⟨by decide, by decide⟩, _, rfl, _, _, rfl, rfl, .inl ⟨by omega, by omega⟩, _, _, rfl, rfl, _, _, rfl, rfl, ?_⟩
          refine .inl ⟨_, rfl, _, _, rfl, rfl, (by show (0 : Int) < 2305843009213693951; decide), (by show 3 ≤ sizeLine; decide), fun t nt => ?_⟩
          refine fin y _ _ s1 ?_ t nt
          split <;> omega
        · refine ⟨_, rfl, _, rfl, _, _, rfl, rfl, .inr ⟨by decide, by decide⟩, _, rfl, _, _, rfl, rfl, .inl ⟨by omega, by omega⟩, _, _, rfl, rfl, _, _, rfl, rfl, ?_⟩
          refine .inl ⟨_, rfl, _, _, rfl, rfl, (by show (0 : Int) < 2305843009213693951; decide), (by show 3 ≤ sizeLine; decide), fun t nt => ?_⟩
          exact fin y 0 _ s1 (Int.le_refl 0) t nt
    · refine ⟨_, rfl, _, _, rfl, rfl, .inl ⟨by omega, by omega⟩, _, _, rfl, rfl, ?_⟩
      refine ⟨_, rfl, _, rfl, a, _, rfl, .inl hS, _, _, rfl, rfl, _, rfl, ?_⟩
      refine ite2 (fun d => ?_) (fun d => ?_)
      · refine ⟨_, rfl, (3 : Int), rfl, a, _, rfl, hS, fun q nq => ?_⟩
        generalize hcut : cutV (ns.map V.int) none (some 3) = cs
        have hcs : ∀ x ∈ cs, ∃ n : Int, x = V.int n := fun x hx => by
          rw [← hcut] at hx
          obtain ⟨n, _, e⟩ := List.mem_map.mp (cutV_mem hx)
          exact ⟨n, e.symm⟩
        have s1 : Same H (upd H q (.lst cs)) := Same.new nq
        have hq : (upd H q (.lst cs)) q = some (.lst cs) := upd_same
        clear hcut c d
        refine ⟨q, rfl, ⟨_, lst_of hq⟩, for_list (K := K) (a := q) (xs := cs) (fun j σ H' => ∃ (y : Int) (v : Option V), σ = [some (.ref a), some (.int i), some (.int y), v, none] ∧ H' = upd H q (.lst cs))
          ⟨(1009 : Int) * i + 31, none, rfl, rfl⟩ (fun j σ H' _ ⟨_, _, _, e⟩ => by rw [e]; exact lst_of hq) ?_ ?_⟩
        · rintro j x σ H' hx ⟨y, v, rfl, rfl⟩
          obtain ⟨n, rfl⟩ := hcs x (List.mem_of_getElem? hx)
          refine ⟨_, rfl, _, _, rfl, rfl, .inr ⟨by decide, by decide⟩, _, rfl, _, _, rfl, rfl, .inl ⟨_, rfl, _, _, rfl, rfl, (by show (0 : Int) < 2305843009213693951; decide), ?_⟩⟩
          exact ⟨_, _, rfl, rfl⟩
        · rintro σ H' ⟨y, v, rfl, rfl⟩
          refine ⟨_, rfl, _, rfl, _, _, rfl, rfl, ⟨by decide, by decide, by decide⟩, _, _, rfl, rfl, _, rfl, ?_⟩
          refine ite2 (fun c => ?_) (fun c => ?_)
          · refine ⟨_, rfl, _, rfl, ?_⟩
            refine ⟨_, rfl, _, rfl, _, _, rfl, rfl, .inr ⟨by decide, by decide⟩, _, rfl, _, _, rfl, rfl, .inl ⟨by omega, by omega⟩, _, _, rfl, rfl, _, _, rfl, rfl, ?_⟩
            refine .inl ⟨_, rfl, _, _, rfl, rfl, (by show (0 : Int) < 2305843009213693951; decide), (by show 3 ≤ sizeLine; decide), fun t nt => ?_⟩
            refine fin y _ _ s1 ?_ t nt
            split <;> omega
          · refine ⟨_, rfl, _, rfl, _, _, rfl, rfl, .inr ⟨by decide, by decide⟩, _, rfl, _, _, rfl, rfl, .inl ⟨by omega, by omega⟩, _, _, rfl, rfl, _, _, rfl, rfl, ?_⟩
            refine .inl ⟨_, rfl, _, _, rfl, rfl, (by show (0 : Int) < 2305843009213693951; decide), (by show 3 ≤ sizeLine; decide), fun t nt => ?_⟩
            exact fin y 0 _ s1 (Int.le_refl 0) t nt
      · exact absurd (show decide (((ns.map V.int).length : Nat) ≤ (i : Int)) = true from decide_eq_true (by
          have c := of_decide_eq_false (Bool.eq_false_iff.mpr c)
          omega)) d
end
end MH
namespace MH
open PySem PySem.Spec PyProof.Rows L2
def s36 : Str := "abcdefghijklmnopqrstuvwxyz0123456789"
theorem s36_len : s36.cps.toList.length = 36 := by decide +kernel
theorem s36_ok : ∀ d, d < 36 → (isL (s36.cps.toList.getD d 0) || isD (s36.cps.toList.getD d 0)) = true := by decide +kernel
theorem s36_l : ∀ d, d < 26 → isL (s36.cps.toList.getD d 0) = true := by decide +kernel
theorem s36_at {d : Nat} (h : d < 36) : s36.cps.toList[d]? = some (s36.cps.toList.getD d 0) := by
  rw [List.getD_eq_getElem?_getD, List.getElem?_eq_getElem (by rw [s36_len]; exact h)]
  rfl
theorem cps_app (z x : Str) : (z ++ x).cps.toList = z.cps.toList ++ x.cps.toList := by
  show (z.cps ++ x.cps).toList = _
  exact Array.toList_append
theorem len_cps (z : Str) : z.length = z.cps.toList.length := by
  show z.cps.size = _
  exact Array.length_toList.symm
theorem one_len (c : Nat) : (⟨#[c]⟩ : Str).length = 1 := rfl
theorem one_cps (c : Nat) : (⟨#[c]⟩ : Str).cps.toList = [c] := rfl
theorem nameOk_iff {z : Str} : nameOk z = true ↔ 1 ≤ z.length ∧ z.length ≤ 8 ∧ isL (z.cps.toList.getD 0 0) = true ∧ ∀ c ∈ z.cps.toList, (isL c || isD c) = true := by
  unfold nameOk
  simp only [Bool.and_eq_true, decide_eq_true_eq, List.all_eq_true]
theorem nameOk_one {c : Nat} (h : isL c = true) : nameOk ⟨#[c]⟩ = true := nameOk_iff.mpr ⟨Nat.le_refl 1, (by show 1 ≤ 8; decide), h, fun d hd => by
  rw [one_cps] at hd
  rw [List.mem_singleton.mp hd, h]
  rfl⟩
theorem nameOk_snoc {z : Str} {c : Nat} (h : nameOk z = true) (hl : z.length ≤ 7) (hc : (isL c || isD c) = true) : nameOk (z ++ ⟨#[c]⟩) = true := by
  obtain ⟨h1, h2, h3, h4⟩ := nameOk_iff.mp h
  have l : (z ++ (⟨#[c]⟩ : Str)).length = z.length + 1 := by
    rw [len_cps, cps_app, List.length_append, ← len_cps]
    rfl
  refine nameOk_iff.mpr ⟨by omega, by omega, ?_, fun d hd => ?_⟩
  · rw [cps_app]
    rw [len_cps] at h1
    generalize z.cps.toList = l at h1 h3
    cases l with
    | nil => simp at h1
    | cons a r => exact h3
  · rw [cps_app, one_cps] at hd
    rcases List.mem_append.mp hd with hd | hd
    · exact h4 d hd
    · rw [List.mem_singleton.mp hd]
      exact hc
theorem len_app1 (z : Str) (c : Nat) : (z ++ (⟨#[c]⟩ : Str)).length = z.length + 1 := by
  rw [len_cps, cps_app, List.length_append, ← len_cps]
  rfl
theorem inV_strs (z : Str) : ∀ ss : List Str, inV (.str z) (ss.map V.str) = decide (z ∈ ss)
  | [] => rfl
  | y :: r => by
    have ih := inV_strs z r
    show (y == z || inV (.str z) (r.map V.str)) = decide (z ∈ y :: r)
    rw [ih]
    by_cases e : y = z
    · subst e
      simp
    · have e2 : ¬ z = y := fun q => e q.symm
      simp [e, e2]
theorem flat_strs (ss : List Str) : (ss.map V.str).all flatV = true := by
  rw [List.all_eq_true]
  intro v hv
  obtain ⟨z, _, rfl⟩ := List.mem_map.mp hv
  rfl
theorem sum_le {n : Nat} : ∀ l : List Str, (∀ z ∈ l, z.length ≤ n) → (l.map (·.length)).sum ≤ l.length * n
  | [], _ => by simp
  | z :: r, h => by
    have a := h z List.mem_cons_self
    have b := sum_le r fun y hy => h y (List.mem_cons_of_mem _ hy)
    rw [List.map_cons, List.sum_cons, List.length_cons, Nat.add_mul]
    omega
def elev : Str := "abcdefghijklm"
def elevs : List Str := elev.cps.toList.map fun c => ⟨#[c]⟩
theorem elevs_nd : elevs.Nodup := by decide +kernel
theorem elevs_ok : ∀ z ∈ elevs, nameOk z = true := by decide +kernel
theorem elevs_len : elevs.length = 13 := by decide +kernel
theorem spare_ne {found : List Str} (h : found.length ≤ 12) : (elevs.filter fun z => !decide (z ∈ found)) ≠ [] := by
  intro e
  have all : ∀ z ∈ elevs, z ∈ found := fun z hz => by
    have q := List.filter_eq_nil_iff.mp e z hz
    simpa using q
  have q := List.Nodup.length_le_of_subset elevs_nd (fun z hz => all z hz : elevs ⊆ found)
  rw [elevs_len] at q
  omega
def spNames (K : PySem.W.Frag) : Sp := fun vs H Q _ => ∃ (p : Addr) (m n : Nat), vs = [.ref p, .int (m : Nat)] ∧ Ur H p n ∧ n ≤ 800000000 ∧ m ≤ 11 ∧ ∀ (ys : List Str) (t : Addr) H', ys.Nodup → sortedS ys = true → (∀ z ∈ ys, nameOk z = true) → ys.length = m → SameB p H H' → Ur H' p (n + 300) → TupO H' t (ys.map V.str) → Q (.ref t) H'
section
variable {P : Program} {w : World} {K : PySem.W.Frag} {mg : Str → Option Value} {base : Heap}
theorem ok_l_names (T : Tx K mg w) : FnOk P w K mg base CX0 2 T.a_l_names T.fd_l_names ["_law_pot_here", "_law_many"] (spNames K) := by
  refine T.F_l_names.ok sc_l_names (fun vs H Q E h => ?_) (fun cdv A outer s H vs Q E hr h => ?_)
  · obtain ⟨p, m, n, rfl, _⟩ := h
    rfl
  · obtain ⟨p, m, n, rfl, u, hn, hm, k⟩ := h
    refine ⟨_, (pss_cons (ps_asg (pe_tup (pa_cons pe_str (pa_cons (pe_lst pa_nil) pa_nil))) (pg_tup rfl (pgs_cons (pg_name (i := 2) sc_l_names.nd rfl (Or.inl rfl)) (pgs_cons (pg_name (i := 3) sc_l_names.nd rfl (Or.inr rfl)) pgs_nil))))
      (pss_cons (ps_for PassesOwn.never rfl (pi_range1 (by rfl) T.n_range (pa_cons (pv 1) pa_nil)) (pg_name (i := 4) sc_l_names.nd rfl (Or.inl rfl))
        (pss_cons (ps_set (i := 5) sc_l_names.nd rfl (Or.inl rfl) (pe_ix ix_str (pv 2) (pe_call (ok_l_draw T) (hr.mono (by decide)) rfl T.g_l_draw T.F_l_draw.kp T.b_l_draw .nil pass0 (pa_cons (pv 0) (pa_cons pe_int pa_nil))) (fun _ _ => rfl)))
      (pss_cons (ps_for PassesOwn.never rfl (pi_range1 (by rfl) T.n_range (pa_cons (pe_ix ix_list (pe_lst (pa_cons pe_int (pa_cons pe_int (pa_cons pe_int (pa_cons pe_int (pa_cons pe_int pa_nil)))))) (pe_call (ok_l_draw T) (hr.mono (by decide)) rfl T.g_l_draw T.F_l_draw.kp T.b_l_draw .nil pass0 (pa_cons (pv 0) (pa_cons pe_int pa_nil))) (fun _ _ => rfl)) pa_nil)) (pg_name (i := 6) sc_l_names.nd rfl (Or.inl rfl))
        (pss_one (ps_set (i := 5) sc_l_names.nd rfl (Or.inl rfl) (pe_op op_add_str (pv 5) (pe_ix ix_str (pv 2) (pe_call (ok_l_draw T) (hr.mono (by decide)) rfl T.g_l_draw T.F_l_draw.kp T.b_l_draw .nil pass0 (pa_cons (pv 0) (pa_cons pe_int pa_nil))) (fun _ _ => rfl))))))
      (pss_cons (ps_setLc (i := 7) (own := [("_law_sign", 8)]) (g := gName 8) (tt := tTest (tOp (rIn K true) (tVar 8) (tVar 3))) rfl sc_l_names.nd rfl rfl (sw_true rfl rfl rfl (by decide +kernel)) (pi_str pe_str) (blkOk_by (own := [("_law_sign", 8)]) (N := names_l_names) (sc := defScope st_l_names) (by decide +kernel)) (fun _ _ _ _ _ => pg_name (i := 8) sc_l_names.nd rfl (Or.inl rfl)) (fun _ _ _ _ _ => pts_one (pt_cmpR op_notIn_seq (pv 8) (pv 3) (by rfl))) (fun _ _ _ _ _ => (pv 8)))
      (pss_one (ps_expr (pe_bm PySem.F.plainAttrs_list PySem.F.slot_list_append PySem.F.type_list_append mt_append (pv 3) (pa_cons (pe_ifExp (pt_cmpR op_in_seq (pv 5) (pv 3) (by rfl)) (pe_ix ix_list (pv 7) pe_int (fun _ _ => rfl)) (pv 5)) pa_nil))))))))
      (pss_one (ps_ret (pe_callTy call_tupF (by rfl) T.n_tuple (by decide +kernel) (pa_cons (pe_callB cr_sortedS (by rfl) T.n_sorted (by decide +kernel) (pa_cons (pv 3) pa_nil)) pa_nil)))))), ?_⟩
    refine ⟨Nat.zero_le _, fun fo nfo => ⟨(by show 2 ≤ sizeLine; decide), fun t0 nt0 => ⟨t0, _, rfl, tup_of upd_same, rfl, _, _, rfl, _, _, rfl, rfl, ?_⟩⟩⟩
    have nfp : fo ≠ p := u.ne nfo
    have nft : fo ≠ t0 := ne_of_none upd_same nt0
    have hfo : (upd (upd H fo (.lst [])) t0 (.tup [.str s36, .ref fo])) fo = some (.lst []) := by rw [upd_ne nft]; exact upd_same
    have s0 : Same H (upd (upd H fo (.lst [])) t0 (.tup [.str s36, .ref fo])) := (Same.new nfo).new' nt0
    change tSeq _ _ _ [some (.ref p), some (.int (m : Nat)), some (.str s36), some (.ref fo), none, none, none, none, none] (upd (upd H fo (.lst [])) t0 (.tup [.str s36, .ref fo]))
    generalize upd (upd H fo (.lst [])) t0 (.tup [.str s36, .ref fo]) = H0 at hfo s0 ⊢
    refine ⟨_, rfl, (m : Int), rfl, by omega, by omega, for_range (lo := 0) (n := ((m : Nat) : Int).toNat) (fun i σ H' => ∃ (found : List Str) (v3 v4 v5 v6 : Option V), σ = [some (.ref p), some (.int (m : Nat)), some (.str s36), some (.ref fo), v3, v4, v5, v6, none] ∧
      H' fo = some (.lst (found.map V.str)) ∧ found.Nodup ∧ (∀ z ∈ found, nameOk z = true) ∧ found.length = i ∧ SameB p H H' ∧ Ur H' p (n + 25 * i))
      ⟨[], none, none, none, none, rfl, hfo, List.nodup_nil, fun z hz => (nomatch hz), rfl, .of s0, u.same s0⟩ ?_ ?_⟩
    · rintro i σ H' hi ⟨found, v3, v4, v5, v6, rfl, hf, nd, ok, hlen, sb, u'⟩
      have hi : i < m := by omega
      refine ⟨_, rfl, _, rfl, p, 26, n + 25 * i, rfl, u', by omega, by decide, by decide, fun d H1 d0 d1 sb1 u1 => ?_⟩
      obtain ⟨d, rfl⟩ : ∃ e : Nat, d = e := ⟨d.toNat, by omega⟩
      refine ⟨s36, d, _, rfl, rfl, (by decide +kernel), atI_nat (s36_at (by omega)), ?_⟩
      have hz0 := nameOk_one (s36_l d (by omega))
      have hz1 := one_len (s36.cps.toList.getD d 0)
      generalize (⟨#[s36.cps.toList.getD d 0]⟩ : Str) = z0 at hz0 hz1 ⊢
      refine ⟨(by show 5 ≤ sizeLine; decide), fun L nL => ?_⟩
      have nLp : p ≠ L := (u1.ne nL).symm
      have hL : (upd H1 L (.lst [.int 0, .int 0, .int 1, .int 2, .int 7])) L = some (.lst [.int 0, .int 0, .int 1, .int 2, .int 7]) := upd_same
      have s1 : Same H1 (upd H1 L (.lst [.int 0, .int 0, .int 1, .int 2, .int 7])) := Same.new nL
      refine ⟨_, rfl, p, 5, n + 25 * i + 1, rfl, u1.same s1, by omega, by decide, by decide, fun e H2 e0 e1 sb2 u2 => ?_⟩
      obtain ⟨e, rfl⟩ : ∃ f : Nat, e = f := ⟨e.toNat, by omega⟩
      have hL2 := sb2 _ _ nLp.symm hL
      obtain ⟨tn, het, ht7⟩ : ∃ tn : Nat, ([.int 0, .int 0, .int 1, .int 2, .int 7] : List V)[e]? = some (.int (tn : Nat)) ∧ tn ≤ 7 := by
        have he : e < 5 := by omega
        match e, he with
        | 0, _ => exact ⟨0, rfl, by omega⟩
        | 1, _ => exact ⟨0, rfl, by omega⟩
        | 2, _ => exact ⟨1, rfl, by omega⟩
        | 3, _ => exact ⟨2, rfl, by omega⟩
        | 4, _ => exact ⟨7, rfl, by omega⟩
      refine ⟨L, _, _, _, rfl, rfl, lst_of hL2, atI_nat het, (tn : Int), rfl, by omega, by omega, ?_⟩
      have sbA : SameB p H H2 := ((sb.trans sb1).trans (.of s1)).trans sb2
      refine for_range (lo := 0) (n := ((tn : Nat) : Int).toNat) (fun j σ H' => ∃ (z : Str) (v : Option V), σ = [some (.ref p), some (.int (m : Nat)), some (.str s36), some (.ref fo), some (.int (0 + (i : Nat))), some (.str z), v, v6, none] ∧ nameOk z = true ∧ z.length = j + 1 ∧ H' fo = some (.lst (found.map V.str)) ∧ SameB p H H' ∧ Ur H' p (n + 25 * i + 2 + j))
        ⟨z0, v5, rfl, hz0, hz1, sb2 _ _ nfp (s1 _ _ (sb1 _ _ nfp hf)), sbA, u2⟩ ?_ ?_
      · rintro j σ H' hj ⟨z, v, rfl, hz, hl, hfz, sb, u'⟩
        have hj7 : j < tn := by omega
        refine ⟨_, rfl, _, rfl, _, rfl, p, 36, _, rfl, u', by omega, by decide, by decide, fun e H4 e0 e1 sb4 u4 => ?_⟩
        obtain ⟨e, rfl⟩ : ∃ f : Nat, e = f := ⟨e.toNat, by omega⟩
        refine ⟨s36, e, _, rfl, rfl, (by decide +kernel), atI_nat (s36_at (by omega)), ?_⟩
        refine ⟨z, _, rfl, rfl, le_line (by rw [one_len]; omega), ?_⟩
        exact ⟨_, _, rfl, nameOk_snoc hz (by omega) (s36_ok e (by omega)), by rw [len_app1, hl], sb4 _ _ nfp hfz, sb.trans sb4, u4⟩
      · rintro σ Hx ⟨w, tv, rfl, hw, hl, hfx, sbx, ux⟩
        have ux := ux.mono (m := n + 25 * i + 24) (by omega)
        refine ⟨elev, rfl, fun D nD => lc_it (w := walk_str) (fun j H' => Same Hx H' ∧ H' D = some (.lst (((elevs.take j).filter fun y => !decide (y ∈ found)).map V.str))) ⟨Same.new nD, upd_same⟩ (fun _ _ _ _ => trivial) ?_ ?_⟩
        · rintro j x H5 H6 hj ⟨s5, e5⟩ ⟨rfl, cc, hcc, rfl⟩
          refine ⟨rfl, ?_⟩
          have hy : elevs[j]? = some (⟨#[cc]⟩ : Str) := by
            unfold elevs
            rw [List.getElem?_map, show elev.cps.toList[j]? = some cc from by simpa using hcc]
            rfl
          have tk : elevs.take (j + 1) = elevs.take j ++ [(⟨#[cc]⟩ : Str)] := by
            rw [List.take_add_one, hy]
            rfl
          refine ⟨_, rfl, _, rfl, fo, _, rfl, .inl (lst_of (s5 _ _ hfx)), rfl, flat_strs found, _, rfl, ?_⟩
          have iv : inV (.str (⟨#[cc]⟩ : Str)) (found.map V.str) = decide ((⟨#[cc]⟩ : Str) ∈ found) := inV_strs _ found
          refine ite2 (fun c => ?_) (fun c => ?_)
          · have c : (!inV (.str (⟨#[cc]⟩ : Str)) (found.map V.str)) = true := c
            rw [iv] at c
            have hj10 : ((elevs.take j).filter fun y => !decide (y ∈ found)).length ≤ 13 := by
              have q1 := List.length_filter_le (fun y => !decide (y ∈ found)) (elevs.take j)
              rw [List.length_take, elevs_len] at q1
              omega
            refine ⟨_, rfl, _, e5, lt_line (by rw [List.length_map]; omega), fun b o e => ?_, ?_⟩
            · rw [upd_ne (ne_of_none e nD)]
              exact s5 _ _ e
            · rw [upd_same, tk, List.filter_append, List.map_append]
              simp only [List.filter, c]
              rfl
          · have c : ¬ (!inV (.str (⟨#[cc]⟩ : Str)) (found.map V.str)) = true := c
            rw [iv] at c
            refine ⟨s5, ?_⟩
            rw [e5, tk, List.filter_append]
            have c' : (!decide ((⟨#[cc]⟩ : Str) ∈ found)) = false := by simpa using c
            simp only [List.filter, c', List.append_nil]
        · rintro H5 ⟨s5, e5⟩
          rw [show elev.cps.size = 13 by decide +kernel, show elevs.take 13 = elevs from List.take_of_length_le (by rw [elevs_len]; omega)] at e5
          have hf5 := s5 _ _ hfx
          obtain ⟨y0, yr, ey⟩ := List.exists_cons_of_ne_nil (spare_ne (found := found) (by omega))
          have y0m : y0 ∈ elevs ∧ ¬ y0 ∈ found := by
            have q : y0 ∈ elevs.filter fun y => !decide (y ∈ found) := by rw [ey]; exact List.mem_cons_self
            have q := List.mem_filter.mp q
            exact ⟨q.1, by simpa using q.2⟩
          have fin : ∀ y : Str, ¬ y ∈ found → nameOk y = true → ∃ (found' : List Str) (w3 w4 w5 w6 : Option V), ([some (.ref p), some (.int (m : Nat)), some (.str s36), some (.ref fo), some (.int (0 + (i : Nat))), some (.str w), tv, some (.ref D), none] : List (Option V)) = [some (.ref p), some (.int (m : Nat)), some (.str s36), some (.ref fo), w3, w4, w5, w6, none] ∧
              (upd H5 fo (.lst (found.map V.str ++ [V.str y]))) fo = some (.lst (found'.map V.str)) ∧ found'.Nodup ∧ (∀ z ∈ found', nameOk z = true) ∧ found'.length = i + 1 ∧ SameB p H (upd H5 fo (.lst (found.map V.str ++ [V.str y]))) ∧ Ur (upd H5 fo (.lst (found.map V.str ++ [V.str y]))) p (n + 25 * (i + 1)) := by
            intro y ny oky
            refine ⟨found ++ [y], _, _, _, _, rfl, ?_, ?_, ?_, ?_, ?_, ?_⟩
            · rw [upd_same, List.map_append]
              rfl
            · exact List.nodup_append.mpr ⟨nd, by simp, fun a ha b hb => by
                rw [List.mem_singleton.mp hb]
                intro e
                rw [e] at ha
                exact ny ha⟩
            · intro z hz
              rcases List.mem_append.mp hz with hz | hz
              · exact ok z hz
              · rw [List.mem_singleton.mp hz]
                exact oky
            · rw [List.length_append, hlen]
              rfl
            · intro b o nb e
              rw [upd_ne (ne_of_none e nfo)]
              exact s5 _ _ (sbx _ _ nb e)
            · have u5 := ux.same s5
              refine (Ur.put (o := .lst (found.map V.str ++ [V.str y])) u5 hf5 (fun x y z q => ?_)).mono (by omega)
              have q := HO.lst.inj q
              cases found with
              | nil => cases q
              | cons a r => cases q
          refine ⟨_, rfl, .inl ⟨rfl, _, lst_of hf5⟩, _, rfl, _, rfl, fo, _, rfl, .inl (lst_of hf5), rfl, flat_strs found, _, rfl, ite2 (fun c => ?_) (fun c => ?_)⟩
          · refine ⟨_, rfl, D, _, 0, .str y0, rfl, rfl, lst_of e5, ?_, fo, _, _, rfl, rfl, hf5, lt_line (by rw [List.length_map]; omega), fin y0 y0m.2 (elevs_ok y0 y0m.1)⟩
            rw [ey]
            exact atI_nat (j := 0) rfl
          · have c : ¬ inV (.str w) (found.map V.str) = true := c
            rw [inV_strs] at c
            exact ⟨_, rfl, fo, _, _, rfl, rfl, hf5, lt_line (by rw [List.length_map]; omega), fin w (fun q => c (decide_eq_true q)) hw⟩
    · rintro σ H' ⟨found, v3, v4, v5, v6, rfl, hf, nd, ok, hlen, sb, u'⟩
      refine ⟨_, rfl, fo, found, rfl, lst_of hf, by omega, fun ys q pm so nq => ⟨q, _, rfl, .inl ⟨lst_of upd_same, fun t ot nt od => ?_⟩⟩⟩
      refine k ys t _ (pm.nodup_iff.mpr nd) so (fun z hz => ok z (pm.subset hz)) (by rw [pm.length_eq, hlen]; omega) ((sb.new nq).new nt) (((u'.same (Same.new nq)).same (Same.new nt)).mono (by omega)) ⟨ot, upd_same, od⟩
end
end MH
namespace MH
open PySem PySem.Spec PyProof.Rows L2
theorem seqIndex_in {d : Int} {n : Nat} (h0 : 0 ≤ d) (h1 : d < n) : seqIndex? d n = some d.toNat := by
  unfold seqIndex?
  simp only
  first
    | (rw [if_pos h0]; rw [if_pos (by omega)])
    | (split <;> simp_all <;> omega)
theorem _root_.MH.TupO.sb {p a : Addr} {H H' : Hp} {xs : List V} (h : TupO H a xs) (s : SameB p H H') (n : a ≠ p) : TupO H' a xs := let ⟨o, e, d⟩ := h; ⟨o, s _ _ n e, d⟩
theorem _root_.MH.TupO.ne {H : Hp} {a b : Addr} {xs : List V} {u : HO} (h : TupO H a xs) (e : H b = some u) (d : ∀ o, .frz o (.tup xs) ≠ u) : a ≠ b := ne_of h.choose_spec.1 e (d _)
theorem _root_.MH.TupO.no {H : Hp} {a b : Addr} {xs : List V} (h : TupO H a xs) (e : H b = none) : a ≠ b := ne_of_none h.choose_spec.1 e
theorem _root_.MH.TupO.up {H : Hp} {a b : Addr} {xs : List V} {u v : HO} (h : TupO H a xs) (e : H b = some u) (d : ∀ o, .frz o (.tup xs) ≠ u) : TupO (upd H b v) a xs := let ⟨o, q, z⟩ := h; ⟨o, by rw [upd_ne (ne_of q e (d o))]; exact q, z⟩
theorem _root_.MH.TupO.upN {H : Hp} {a b : Addr} {xs : List V} {v : HO} (h : TupO H a xs) (e : H b = none) : TupO (upd H b v) a xs := let ⟨o, q, z⟩ := h; ⟨o, by rw [upd_ne (ne_of_none q e)]; exact q, z⟩
theorem same_sql {K : PySem.W.Frag} {H H' : Hp} {a : Addr} {xs : List V} (e : Same H H') (h : SqL K H a xs) : SqL K H' a xs := by
  rcases h with (h | ⟨o, h⟩) | h
  · exact .inl (.inl (e _ _ h))
  · exact .inl (.inr ⟨o, e _ _ h⟩)
  · exact .inr h
theorem tupO_new {H : Hp} {p : Addr} {o : Obj} {xs : List V} (d : o.dict = none) : TupO (upd H p (.frz o (.tup xs))) p xs := ⟨o, upd_same, d⟩
theorem perm_popV : ∀ {l : List V} {k : Nat} {z : V}, l[k]? = some z → (z :: l.eraseIdx k).Perm l
  | [], k, z, h => by simp at h
  | a :: l, 0, z, h => by
    obtain rfl : a = z := Option.some.inj h
    exact List.Perm.refl _
  | a :: l, k + 1, z, h => by
    have ih := perm_popV (l := l) (k := k) (z := z) h
    exact (List.Perm.swap a z _).trans (ih.cons a)
/-- the order of any things -/
def spShuf (K : PySem.W.Frag) : Sp := fun vs H Q _ => ∃ (p t : Addr) (n : Nat) (xs : List V), vs = [.ref p, .ref t] ∧ Ur H p n ∧ n ≤ 900000000 ∧ SqT K H t xs ∧ xs.length ≤ 1000 ∧
  ∀ (row : List V) (a : Addr) (H' : Hp), row.Perm xs → SameB p H H' → Ur H' p (n + xs.length) → TupO H' a row → Q (.ref a) H'
def spThings (K : PySem.W.Frag) : Sp := fun vs H Q _ => ∃ (p : Addr) (n : Nat), vs = [.ref p] ∧ Ur H p n ∧ n ≤ 700000000 ∧ ∀ (ys : List Str) (t : Addr) H', 1 ≤ ys.length → ys.length ≤ 10 → ys.Nodup → sortedS ys = true → (∀ z ∈ ys, nameOk z = true) → SameB p H H' → Ur H' p (n + 400) → TupO H' t (ys.map V.str) → Q (.ref t) H'
section
variable {P : Program} {w : World} {K : PySem.W.Frag} {mg : Str → Option Value} {base : Heap}
theorem ok_l_things (T : Tx K mg w) : FnOk P w K mg base CX0 3 T.a_l_things T.fd_l_things ["_law_pot_here"] (spThings K) := by
  refine T.F_l_things.ok sc_l_things (fun vs H Q E h => ?_) (fun cdv A outer s H vs Q E hr h => ?_)
  · obtain ⟨p, n, rfl, _⟩ := h
    rfl
  · obtain ⟨p, n, rfl, u, hn, k⟩ := h
    refine ⟨_, (pss_one (ps_ret (pe_call (ok_l_names T) (hr.mono (by decide)) rfl T.g_l_names T.F_l_names.kp T.b_l_names .nil pass0 (pa_cons (pv 0) (pa_cons (pe_op op_add pe_int (pe_call (ok_l_draw T) (hr.mono (by decide)) rfl T.g_l_draw T.F_l_draw.kp T.b_l_draw .nil pass0 (pa_cons (pv 0) (pa_cons (pe_ix ix_list (pe_lst (pa_cons pe_int (pa_cons pe_int (pa_cons pe_int pa_nil)))) (pe_call (ok_l_draw T) (hr.mono (by decide)) rfl T.g_l_draw T.F_l_draw.kp T.b_l_draw .nil pass0 (pa_cons (pv 0) (pa_cons pe_int pa_nil))) (fun _ _ => rfl)) pa_nil)))) pa_nil))))), ?_⟩
    refine ⟨_, rfl, _, rfl, (by show 3 ≤ sizeLine; decide), fun L nL => ?_⟩
    have nLp : L ≠ p := u.ne nL
    have hL : (upd H L (.lst [.int 4, .int 4, .int 10])) L = some (.lst [.int 4, .int 4, .int 10]) := upd_same
    have s1 : Same H (upd H L (.lst [.int 4, .int 4, .int 10])) := Same.new nL
    refine ⟨_, rfl, p, 3, n, rfl, u.same s1, by omega, by decide, by decide, fun e H2 e0 e1 sb2 u2 => ?_⟩
    obtain ⟨e, rfl⟩ : ∃ f : Nat, e = f := ⟨e.toNat, by omega⟩
    have hL2 := sb2 _ _ nLp hL
    obtain ⟨tn, het, ht0, ht7⟩ : ∃ tn : Nat, ([.int 4, .int 4, .int 10] : List V)[e]? = some (.int (tn : Nat)) ∧ 0 < tn ∧ tn ≤ 10 := by
      have he : e < 3 := by omega
      match e, he with
      | 0, _ => exact ⟨4, rfl, by omega, by omega⟩
      | 1, _ => exact ⟨4, rfl, by omega, by omega⟩
      | 2, _ => exact ⟨10, rfl, by omega, by omega⟩
    refine ⟨L, _, _, _, rfl, rfl, lst_of hL2, atI_nat het, p, (tn : Int), n + 1, rfl, u2, by omega, by omega, by omega, fun d H3 d0 d1 sb3 u3 => ?_⟩
    obtain ⟨d, rfl⟩ : ∃ f : Nat, d = f := ⟨d.toNat, by omega⟩
    refine ⟨_, _, rfl, rfl, p, 1 + d, n + 2, rfl, u3, by omega, by omega, fun ys t H4 nd so ok le sb4 u4 ht => ?_⟩
    exact k ys t H4 (by omega) (by omega) nd so ok ((((SameB.of s1).trans sb2).trans sb3).trans sb4) (u4.mono (by omega)) ht
theorem ok_l_shuffled (T : Tx K mg w) : FnOk P w K mg base CX0 2 T.a_l_shuffled T.fd_l_shuffled ["_law_pot_here", "_law_things_here"] (spShuf K) := by
  refine T.F_l_shuffled.ok sc_l_shuffled (fun vs H Q E h => ?_) (fun cdv A outer s H vs Q E hr h => ?_)
  · obtain ⟨p, t, n, xs, rfl, _⟩ := h
    rfl
  · obtain ⟨p, t, n, xs, rfl, pu, hn, hT, hz, k⟩ := h
    refine ⟨_, (pss_cons (ps_par (i := 2) (j := 3) rfl sc_l_shuffled.nd rfl rfl (by decide) rfl rfl (pa_cons (pe_callTy call_list_of (by rfl) T.n_list (by decide +kernel) (pa_cons (pv 1) pa_nil)) (pa_cons (pe_lst pa_nil) pa_nil)) (by rfl))
      (pss_cons (ps_for PassesOwn.never rfl (pi_range1 (by rfl) T.n_range (pa_cons (pe_callB call_len_seq (by rfl) T.n_len (by decide +kernel) (pa_cons (pv 1) pa_nil)) pa_nil)) (pg_name (i := 4) sc_l_shuffled.nd rfl (Or.inl rfl))
        (pss_one (ps_expr (pe_bm PySem.F.plainAttrs_list PySem.F.slot_list_append PySem.F.type_list_append mt_append (pv 3) (pa_cons (pe_bm PySem.F.plainAttrs_list PySem.F.slot_list_pop PySem.F.type_list_pop mt_popAt (pv 2) (pa_cons (pe_call (ok_l_draw T) (hr.mono (by decide)) rfl T.g_l_draw T.F_l_draw.kp T.b_l_draw .nil pass0 (pa_cons (pv 0) (pa_cons (pe_callB call_len_seq (by rfl) T.n_len (by decide +kernel) (pa_cons (pv 2) pa_nil)) pa_nil))) pa_nil)) pa_nil)))))
      (pss_one (ps_ret (pe_callTy call_tupF (by rfl) T.n_tuple (by decide +kernel) (pa_cons (pv 3) pa_nil)))))), ?_⟩
    obtain ⟨x0, y0, c0, hp0, _⟩ := id pu
    refine ⟨_, rfl, t, _, rfl, .inr hT, fun l nl => ?_⟩
    refine ⟨Nat.zero_le _, fun fo nfo => ⟨_, _, rfl, ?_⟩⟩
    have npl : p ≠ l := ne_of_none hp0 nl
    have nlf : l ≠ fo := fun e => by
      rw [e, upd_same] at nfo
      cases nfo
    have nfo' : H fo = none := by
      rw [upd_ne nlf.symm] at nfo
      exact nfo
    have npf : p ≠ fo := ne_of_none hp0 nfo'
    have s0 : Same H (upd (upd H l (.lst xs)) fo (.lst [])) := (Same.new nl).new' nfo
    refine ⟨_, rfl, t, _, rfl, .inr (s0.sqt hT), _, rfl, by omega, by omega, for_range (lo := 0) (n := (((xs.length : Nat) : Int)).toNat) (fun i σ H' => ∃ (rest found : List V) (v : Option V), σ = [some (.ref p), some (.ref t), some (.ref l), some (.ref fo), v] ∧
      H' l = some (.lst rest) ∧ H' fo = some (.lst found) ∧ (rest ++ found).Perm xs ∧ found.length = i ∧ SameB p H H' ∧ Ur H' p (n + i))
      ⟨xs, [], none, rfl, (by rw [upd_ne nlf]; exact upd_same), upd_same, (by rw [List.append_nil]), rfl, .of s0, pu.same s0⟩ ?_ ?_⟩
    · rintro i σ H' hi ⟨rest, found, v, rfl, hl, hf, hpm, hlen, sb, pu1⟩
      have hsum : rest.length + found.length = xs.length := by
        have := hpm.length_eq
        rw [List.length_append] at this
        exact this
      refine ⟨_, rfl, .inl ⟨rfl, _, lst_of hf⟩, _, rfl, .inl ⟨rfl, _, lst_of hl⟩, _, rfl, _, rfl, l, _, rfl, .inl (lst_of hl), p, _, n + i, rfl, pu1, by omega, ?_, ?_, fun d H2 d0 d1 sb2 pu2 => ?_⟩
      · omega
      · omega
      · have dk : d.toNat < rest.length := by omega
        have hl2 := sb2 _ _ npl.symm hl
        have hf2 := sb2 _ _ npf.symm hf
        have g : rest[d.toNat]? = some rest[d.toNat] := List.getElem?_eq_getElem dk
        refine ⟨l, _, d, d.toNat, rest[d.toNat], rfl, rfl, hl2, by omega, by omega, seqIndex_in d0 d1, ?_, ?_⟩
        · exact g
        · refine ⟨fo, _, _, rfl, rfl, (by rw [upd_ne nlf.symm]; exact hf2), lt_line (by omega), ?_⟩
          refine ⟨rest.eraseIdx d.toNat, found ++ [rest[d.toNat]], _, rfl, ?_, ?_, ?_, ?_, ?_, ?_⟩
          · rw [upd_ne nlf, upd_same]
          · exact upd_same
          · refine List.Perm.trans ?_ hpm
            rw [← List.append_assoc]
            exact (List.perm_append_comm (l₂ := [rest[d.toNat]])).trans ((perm_popV g).append_right found)
          · rw [List.length_append, hlen]
            rfl
          · intro b o nb e
            have nbl : b ≠ l := ne_of_none e nl
            have nbf : b ≠ fo := ne_of_none e nfo'
            rw [upd_ne nbf, upd_ne nbl]
            exact sb2 _ _ nb (sb _ _ nb e)
          · obtain ⟨x2, y2, c2, hp2, hh⟩ := pu2
            exact ⟨x2, y2, c2, by rw [upd_ne npf, upd_ne npl]; exact hp2, hh⟩
    · rintro σ H' ⟨rest, found, v, rfl, hl, hf, hpm, hlen, sb, pu1⟩
      have e0 : rest = [] := by
        have := hpm.length_eq
        rw [List.length_append, hlen] at this
        simp at this
        exact this
      subst e0
      refine ⟨_, rfl, fo, _, rfl, .inl ⟨lst_of hf, fun t' ot nt dt => ?_⟩⟩
      exact k found t' _ hpm (sb.new nt) ((pu1.same (Same.new nt)).mono (by omega)) (tupO_new dt)
end
end MH
namespace MH
open PySem PySem.Spec PyProof.Rows L2
structure RowOk (row : List Str) : Prop where
  ne : row ≠ []
  le : row.length ≤ 10
  nd : row.Nodup
  ok : ∀ z ∈ row, nameOk z = true
/-- a list of the rows of a house -/
def RowsAt (H : Hp) (l : Addr) (ts : List Addr) (rows : List (List Str)) : Prop := H l = some (.lst (ts.map V.ref)) ∧ ts.length = rows.length ∧ ∀ (j : Nat) (t : Addr) (r : List Str), ts[j]? = some t → rows[j]? = some r → TupO H t (r.map V.str)
theorem RowsAt.same {H H' : Hp} {l : Addr} {ts : List Addr} {rows : List (List Str)} (h : RowsAt H l ts rows) (s : Same H H') : RowsAt H' l ts rows := ⟨s _ _ h.1, h.2.1, fun j t r h1 h2 => (h.2.2 j t r h1 h2).same s⟩
/-- rows that a house may have -/
structure RowsOk (th : List Str) (rows : List (List Str)) : Prop where
  ok : ∀ r ∈ rows, RowOk r ∧ th.Perm r
  ne : rows ≠ []
  le : rows.length ≤ 24
  so : sortedS th = true
  pw : rows.Pairwise fun a b => ltR a b = true
theorem map_inj1 {α β : Type} {f : α → β} (hf : ∀ x y, f x = f y → x = y) : ∀ {a b : List α}, a.map f = b.map f → a = b
  | [], [], _ => rfl
  | [], _ :: _, h => by cases h
  | _ :: _, [], h => by cases h
  | x :: a, y :: b, h => by
    rw [List.map_cons, List.map_cons] at h
    injection h with h1 h2
    rw [hf x y h1, map_inj1 hf h2]
theorem strV_inj {a b : List Str} (h : a.map V.str = b.map V.str) : a = b := map_inj1 (fun x y e => by cases e; rfl) h
/-- the row that a tuple holds -/
noncomputable def rowAt (H : Hp) (t : Addr) : List Str := open Classical in if h : ∃ row : List Str, H t = some (.tup (row.map V.str)) then h.choose else []
theorem rowAt_of {H : Hp} {t : Addr} {row : List Str} (h : H t = some (.tup (row.map V.str))) : rowAt H t = row := by
  have e : ∃ row : List Str, H t = some (.tup (row.map V.str)) := ⟨row, h⟩
  unfold rowAt
  rw [dif_pos e]
  have q := e.choose_spec
  have q2 := h.symm.trans q
  injection q2 with q2
  injection q2 with q2
  exact (strV_inj q2).symm
theorem eqvAll_strs : ∀ xs ys : List Str, PyData.eqvAll (xs.map PyData.str) (ys.map PyData.str) = decide (xs = ys)
  | [], [] => by simp [PyData.eqvAll]
  | [], _ :: _ => by simp [PyData.eqvAll]
  | _ :: _, [] => by simp [PyData.eqvAll]
  | x :: xs, y :: ys => by
    rw [List.map_cons, List.map_cons, PyData.eqvAll, eqvAll_strs xs ys, PyData.eqv]
    by_cases e : x = y
    · subst e
      simp
    · simp [e]
theorem eqv_strs (xs ys : List Str) : PyData.eqv (.tuple (xs.map PyData.str)) (.tuple (ys.map PyData.str)) = decide (xs = ys) := by
  rw [PyData.eqv]
  exact eqvAll_strs xs ys
theorem shaped_strs {ss : List Str} (h : ∀ z ∈ ss, nameOk z = true) : SeqAt.shaped (.tuple (ss.map PyData.str)) = true := shaped_of (d := .tuple (ss.map PyData.str)) (okDs_strs fun z hz => nameOk_str (h z hz)) (by simp only [PyData.depth, depth_strs]; decide)
theorem depth_all {α : Type} {f : α → PyData} {m : Nat} (h : ∀ a, PyData.depth (f a) ≤ m) : ∀ is : List α, PyData.depthAll (is.map f) ≤ m
  | [] => Nat.zero_le _
  | i :: r => by
    have := depth_all h r
    have := h i
    simp only [List.map_cons, PyData.depthAll]
    omega
theorem eqv_rows (r : List Str) : ∀ rows : List (List Str), ((rows.map fun x => PyData.tuple (x.map PyData.str)).any fun z => PyData.eqv z (.tuple (r.map PyData.str))) = decide (r ∈ rows)
  | [] => rfl
  | x :: rows => by
    rw [List.map_cons, List.any_cons, eqv_rows r rows, eqv_strs]
    by_cases e : x = r
    · subst e
      simp
    · rw [decide_eq_false e]
      by_cases m : r ∈ rows
      · simp [m]
      · rw [decide_eq_false m, decide_eq_false (fun h => (List.mem_cons.mp h).elim (fun z => e z.symm) m)]
        rfl
theorem dp_rows {K : PySem.W.Frag} {H : Hp} : ∀ {ts : List Addr} {rows : List (List Str)}, ts.length = rows.length → (∀ (j : Nat) (t : Addr) (r : List Str), ts[j]? = some t → rows[j]? = some r → TupO H t (r.map V.str)) → DpAll K H (ts.map V.ref) (rows.map fun x => PyData.tuple (x.map PyData.str))
  | [], [], _, _ => .nil
  | [], _ :: _, h, _ => by cases h
  | _ :: _, [], h, _ => by cases h
  | t :: ts, r :: rows, h, hd => .cons (.tup ((hd 0 t r rfl rfl).sqt) (dp_strs r)) (dp_rows (by simpa using h) fun j t' r' h1 h2 => hd (j + 1) t' r' h1 h2)
theorem RowOk.perm {a b : List Str} (h : RowOk a) (p : b.Perm a) : RowOk b where
  ne := fun e => by
    rw [e] at p
    exact h.ne (List.nil_perm.mp p)
  le := by rw [p.length_eq]; exact h.le
  nd := p.nodup_iff.mpr h.nd
  ok := fun z hz => h.ok z (p.subset hz)
theorem okDs_rows {rows : List (List Str)} (h : ∀ r ∈ rows, RowOk r) : okDs (rows.map fun x => PyData.tuple (x.map PyData.str)) = true := by
  induction rows with
  | nil => rfl
  | cons r rows ih =>
    show (okD (.tuple (r.map PyData.str)) && okDs (rows.map fun x => PyData.tuple (x.map PyData.str))) = true
    rw [ih fun x hx => h x (List.mem_cons_of_mem _ hx)]
    have e : okD (.tuple (r.map PyData.str)) = true := okDs_strs fun z hz => nameOk_str ((h r (List.mem_cons_self ..)).ok z hz)
    rw [e]
    rfl
theorem shaped_rows {rows : List (List Str)} (h : ∀ r ∈ rows, RowOk r) : SeqAt.shaped (.list (rows.map fun x => PyData.tuple (x.map PyData.str))) = true := by
  refine shaped_of (d := .list _) (okDs_rows h) ?_
  have d1 : ∀ x : List Str, PyData.depth (PyData.tuple (x.map PyData.str)) ≤ 1 := fun x => by
    simp only [PyData.depth, depth_strs]
    decide
  have := depth_all d1 rows
  simp only [PyData.depth]
  omega
def strOf : V → Option Str
  | .str z => some z
  | _ => none
theorem strs_of : ∀ {row : List V} {ss : List Str}, (∀ v ∈ row, v ∈ ss.map V.str) → row = (row.filterMap strOf).map V.str
  | [], _, _ => rfl
  | v :: row, ss, h => by
    obtain ⟨z, _, rfl⟩ := List.mem_map.mp (h v List.mem_cons_self)
    have ih := strs_of (row := row) (ss := ss) fun u hu => h u (List.mem_cons_of_mem _ hu)
    show V.str z :: row = V.str z :: (row.filterMap strOf).map V.str
    rw [← ih]
theorem filter_strs : ∀ ss : List Str, (ss.map V.str).filterMap strOf = ss
  | [] => rfl
  | z :: r => congrArg (z :: ·) (filter_strs r)
theorem perm_strs {row : List V} {ss : List Str} (pm : row.Perm (ss.map V.str)) : ∃ r : List Str, row = r.map V.str ∧ r.Perm ss := by
  refine ⟨row.filterMap strOf, strs_of fun v hv => pm.subset hv, ?_⟩
  have := pm.filterMap strOf
  rw [filter_strs] at this
  exact this
theorem RowsAt.but {H H' : Hp} {p l : Addr} {ts : List Addr} {rows : List (List Str)} {zs : List V} (h : RowsAt H l ts rows) (s : SameB p H H') (hp : H p = some (.lst zs)) (n : l ≠ p) : RowsAt H' l ts rows :=
  ⟨s _ _ n h.1, h.2.1, fun j t r h1 h2 => (h.2.2 j t r h1 h2).sb s ((h.2.2 j t r h1 h2).ne hp (by intro o q; cases q))⟩
theorem RowsAt.snoc {H : Hp} {l u : Addr} {ts : List Addr} {rows : List (List Str)} {r : List Str} (h : RowsAt H l ts rows) (hu : TupO H u (r.map V.str)) : RowsAt (upd H l (.lst (ts.map V.ref ++ [V.ref u]))) l (ts ++ [u]) (rows ++ [r]) := by
  have keep : ∀ {b : Addr} {xs : List V}, TupO H b xs → TupO (upd H l (.lst (ts.map V.ref ++ [V.ref u]))) b xs := fun {b xs} e => e.up h.1 (by intro o q; cases q)
  refine ⟨?_, ?_, fun j t q h1 h2 => ?_⟩
  · rw [upd_same, List.map_append]
    rfl
  · rw [List.length_append, List.length_append, h.2.1]
    rfl
  · by_cases c : j < ts.length
    · rw [List.getElem?_append_left c] at h1
      rw [List.getElem?_append_left (by rw [← h.2.1]; exact c)] at h2
      exact keep (h.2.2 j t q h1 h2)
    · rw [List.getElem?_append_right (by omega)] at h1
      rw [List.getElem?_append_right (by rw [← h.2.1]; omega), ← h.2.1] at h2
      have ej : j - ts.length = 0 := by
        cases e : j - ts.length with
        | zero => rfl
        | succ n =>
          rw [e] at h1
          cases h1
      rw [ej] at h1 h2
      obtain rfl : u = t := Option.some.inj h1
      obtain rfl : r = q := Option.some.inj h2
      exact keep hu
/-- rows found, in order -/
theorem rowsOk_of {th : List Str} {rows rows' : List (List Str)} (ro : RowOk th) (so : sortedS th = true) (pm : rows'.Perm rows) (nd : rows.Nodup) (ne : rows ≠ []) (h : ∀ r ∈ rows, r.Perm th) (le : rows.length ≤ 24) (srt : rows'.Pairwise fun x y => ltR y x = false) : RowsOk th rows' where
  ok := fun r hr => by
    have q := h r (pm.subset hr)
    exact ⟨ro.perm q, q.symm⟩
  ne := fun e => by
    rw [e] at pm
    exact ne (List.nil_perm.mp pm)
  le := by rw [pm.length_eq]; exact le
  so := so
  pw := by
    refine List.Pairwise.imp₂ (R := fun x y => ltR y x = false) (S := fun x y => x ≠ y) (fun a b h1 h2 => ?_) srt (pm.nodup_iff.mpr nd)
    cases e : ltR a b with
    | true => rfl
    | false => exact absurd (ltR_tri a b e h1) h2
theorem rowsAt_get {H : Hp} {l : Addr} {ts : List Addr} {rows : List (List Str)} (h : RowsAt H l ts rows) {t : Addr} (ht : t ∈ ts) : ∃ r ∈ rows, TupO H t (r.map V.str) := by
  obtain ⟨j, hj, rfl⟩ := List.getElem_of_mem ht
  have hj2 : j < rows.length := by
    rw [← h.2.1]
    exact hj
  exact ⟨rows[j], List.getElem_mem hj2, h.2.2 j _ _ (List.getElem?_eq_getElem hj) (List.getElem?_eq_getElem hj2)⟩
theorem rowsAt_map {H : Hp} {l : Addr} {ts : List Addr} {rows : List (List Str)} (h : RowsAt H l ts rows) : ts.map (rowAt (dn H)) = rows := by
  refine List.ext_getElem? fun i => ?_
  rw [List.getElem?_map]
  cases e : ts[i]? with
  | none =>
    rw [List.getElem?_eq_none_iff] at e
    exact (List.getElem?_eq_none_iff.mpr (by rw [← h.2.1]; exact e)).symm
  | some t =>
    have hi := (List.getElem?_eq_some_iff.mp e).1
    have g : rows[i]? = some (rows[i]'(by rw [← h.2.1]; exact hi)) := List.getElem?_eq_getElem _
    rw [g]
    exact congrArg some (rowAt_of (dn_of (h.2.2 i t _ e g)))
theorem dp_rowsAt {K : PySem.W.Frag} {H : Hp} {l : Addr} {ts : List Addr} {rows : List (List Str)} (h : RowsAt H l ts rows) : Dp K H (.ref l) (.list (rows.map fun x => PyData.tuple (x.map PyData.str))) := .lst (lst_of h.1) (dp_rows h.2.1 h.2.2)
/-- rows of the same things in any order: each once, ascending -/
def spAsc (K : PySem.W.Frag) : Sp := fun vs H Q _ => ∃ (l : Addr) (ts : List Addr) (th : List Str) (rows : List (List Str)), vs = [.ref l] ∧ RowsAt H l ts rows ∧ RowOk th ∧ sortedS th = true ∧ (∀ r ∈ rows, r.Perm th) ∧ rows ≠ [] ∧ rows.length ≤ 24 ∧
  ∀ (l' : Addr) (ts' : List Addr) (rows' : List (List Str)) (H' : Hp), Same H H' → H l' = none → RowsAt H' l' ts' rows' → RowsOk th rows' → (∀ r ∈ rows', r ∈ rows) → rows'.length ≤ rows.length → Q (.ref l') H'
def spRowsJ (K : PySem.W.Frag) : Sp := fun vs H Q _ => ∃ (p t : Addr) (n : Nat) (th : List Str) (m : Int), vs = [.ref p, .ref t, .int m] ∧ Ur H p n ∧ n ≤ 600000000 ∧ SqT K H t (th.map V.str) ∧ RowOk th ∧ sortedS th = true ∧ 0 < m ∧ m ≤ 24 ∧
  ∀ (l : Addr) (ts : List Addr) (rows : List (List Str)) (H' : Hp), SameB p H H' → Ur H' p (n + 300) → RowsAt H' l ts rows → RowsOk th rows → Q (.ref l) H'
section
variable {P : Program} {w : World} {K : PySem.W.Frag} {mg : Str → Option Value} {base : Heap}
theorem ok_l_ascending (T : Tx K mg w) : FnOk P w K mg base CX0 2 T.a_l_ascending T.fd_l_ascending ["_law_rows_here"] (spAsc K) := by
  refine T.F_l_ascending.ok sc_l_ascending (fun vs H Q E h => ?_) (fun cdv A outer s H vs Q E hr h => ?_)
  · obtain ⟨l, ts, th, rows, rfl, _⟩ := h
    rfl
  · obtain ⟨l, ts, th, rows, rfl, ra, ro, so, pm, ne, le, k⟩ := h
    refine ⟨_, (pss_cons (ps_set (i := 1) sc_l_ascending.nd rfl (Or.inl rfl) (pe_lst pa_nil))
      (pss_cons (ps_for PassesOwn.never rfl (pi_list (pe_callB cr_sortedR (by rfl) T.n_sorted (by decide +kernel) (pa_cons (pv 0) pa_nil))) (pg_name (i := 2) sc_l_ascending.nd rfl (Or.inl rfl))
        (pss_one (ps_if (pt_cmpR (op_notInD (u65 hr)) (pv 2) (pv 1) (by rfl))
        (pss_one (ps_expr (pe_bm PySem.F.plainAttrs_list PySem.F.slot_list_append PySem.F.type_list_append mt_append (pv 1) (pa_cons (pv 2) pa_nil))))
        pss_nil)))
      (pss_one (ps_ret (pv 1))))), ?_⟩
    have okr : ∀ x ∈ rows, RowOk x := fun x hx => ro.perm (pm x hx)
    refine ⟨Nat.zero_le _, fun fo nfo => ?_⟩
    have s0 : Same H (upd H fo (.lst [])) := Same.new nfo
    have hf0 : (upd H fo (.lst [])) fo = some (.lst []) := upd_same
    have ra0 := ra.same s0
    have nfl : fo ≠ l := (ne_of_none ra.1 nfo).symm
    generalize upd H fo (.lst []) = H0 at s0 hf0 ra0 ⊢
    refine ⟨_, rfl, l, ts, rowAt (dn H0), rfl, lst_of ra0.1, fun u hu => ?_, fun ts' q pq srt nq => ?_⟩
    · obtain ⟨r, hr, e⟩ := rowsAt_get ra0 hu
      rw [rowAt_of (dn_of e)]
      exact ⟨e.sqt, (okr r hr).ne⟩
    · have er := rowsAt_map ra0
      have pm2 : (ts'.map (rowAt (dn H0))).Perm rows := by
        have := pq.map (rowAt (dn H0))
        rw [er] at this
        exact this
      have sq := Same.new nq (o := .lst (ts'.map V.ref))
      have rq : RowsAt (upd H0 q (.lst (ts'.map V.ref))) q ts' (ts'.map (rowAt (dn H0))) := ⟨upd_same, (List.length_map _).symm, fun j u r h1 h2 => by
        rw [List.getElem?_map, h1] at h2
        have e2 : rowAt (dn H0) u = r := Option.some.inj h2
        obtain ⟨x, _, e⟩ := rowsAt_get ra0 (pq.subset (List.mem_of_getElem? h1))
        rw [rowAt_of (dn_of e)] at e2
        subst e2
        exact e.same sq⟩
      have hf1 := sq _ _ hf0
      have nqf : q ≠ fo := (ne_of_none hf0 nq).symm
      have s1 := s0.trans sq
      generalize ts'.map (rowAt (dn H0)) = rs at srt pm2 rq
      generalize upd H0 q (.lst (ts'.map V.ref)) = H1 at sq rq hf1 s1 ⊢
      clear er
      have le2 : rs.length ≤ 24 := by rw [pm2.length_eq]; exact le
      refine ⟨q, rfl, ⟨_, lst_of rq.1⟩, for_list (K := K) (a := q) (xs := ts'.map V.ref) (fun j σ H' => ∃ (fts : List Addr) (fr : List (List Str)) (v : Option V), σ = [some (.ref l), some (.ref fo), v] ∧ RowsAt H' fo fts fr ∧ RowsAt H' q ts' rs ∧ fr.Sublist (rs.take j) ∧ fr.Nodup ∧ (∀ r ∈ rs.take j, r ∈ fr) ∧ Same H H')
        ⟨[], [], none, rfl, ⟨hf1, rfl, (fun j t r h1 h2 => nomatch h1)⟩, rq, List.nil_sublist _, List.nodup_nil, (fun r hr => absurd hr List.not_mem_nil), s1⟩ (fun j σ H' _ ⟨_, _, _, _, _, e, _⟩ => lst_of e.1) ?_ ?_⟩
      · rintro j x σ H' hx ⟨fts, fr, v, rfl, rf, rq', sub, nd, mem, sh⟩
        rw [List.getElem?_map] at hx
        cases hj : ts'[j]? with
        | none =>
          rw [hj] at hx
          cases hx
        | some u =>
          rw [hj] at hx
          obtain rfl : V.ref u = x := Option.some.inj hx
          have jl : j < rs.length := by
            rw [← rq'.2.1]
            exact (List.getElem?_eq_some_iff.mp hj).1
          have hr : rs[j]? = some rs[j] := List.getElem?_eq_getElem jl
          have hu := rq'.2.2 j u _ hj hr
          have tk : rs.take (j + 1) = rs.take j ++ [rs[j]] := by rw [List.take_add_one, hr]; rfl
          have okf : ∀ x ∈ fr, RowOk x := fun x hx => okr x (pm2.subset (List.mem_of_mem_take (sub.subset hx)))
          have ror : RowOk rs[j] := okr _ (pm2.subset (List.getElem_mem jl))
          rw [tk]
          generalize rs[j] = r at hr hu tk ror ⊢
          refine ⟨_, rfl, _, rfl, _, _, .tup hu.sqt (dp_strs r), dp_rowsAt rf, shaped_strs ror.ok, shaped_rows okf, ?_⟩
          rw [eqv_rows]
          refine ⟨_, rfl, ite2 (fun c => ?_) (fun c => ?_)⟩
          · have nr : r ∉ fr := by simpa using c
            have e8 := rf.1
            have fl : fr.length ≤ 24 := by
              have := sub.length_le
              rw [List.length_take] at this
              omega
            refine ⟨_, rfl, .inl ⟨rfl, _, lst_of e8⟩, _, rfl, fo, _, _, rfl, rfl, e8, lt_line (by rw [List.length_map, rf.2.1]; omega), ?_⟩
            refine ⟨fts ++ [u], fr ++ [r], _, rfl, rf.snoc hu, rq'.but ((SameB.refl fo H').put) e8 nqf, sub.append (List.Sublist.refl _), ?_, ?_, ?_⟩
            · exact List.nodup_append.mpr ⟨nd, List.nodup_cons.mpr ⟨List.not_mem_nil, List.nodup_nil⟩, fun a ha b hb e => nr (by rw [List.mem_singleton.mp hb] at e; rw [← e]; exact ha)⟩
            · intro x hx
              rcases List.mem_append.mp hx with m | m
              · exact List.mem_append_left _ (mem x m)
              · exact List.mem_append_right _ m
            · intro b o e
              rw [upd_ne (ne_of_none e nfo)]
              exact sh _ _ e
          · have nr : r ∈ fr := by simpa using c
            exact ⟨fts, fr, _, rfl, rf, rq', sub.trans (List.sublist_append_left _ _), nd, fun x hx => by
              rcases List.mem_append.mp hx with m | m
              · exact mem x m
              · rw [List.mem_singleton.mp m]; exact nr, sh⟩
      · rintro σ H' ⟨fts, fr, v, rfl, rf, rq', sub, nd, mem, sh⟩
        rw [List.length_map, rq'.2.1, List.take_length] at sub mem
        have fl := sub.length_le
        have ml := pm2.length_eq
        refine ⟨_, rfl, k fo fts fr H' sh nfo rf (rowsOk_of ro so (List.Perm.refl fr) nd (fun e => ?_) (fun r hr => pm r (pm2.subset (sub.subset hr))) (by omega) (srt.sublist sub)) (fun r hr => pm2.subset (sub.subset hr)) (by omega)⟩
        cases rs with
        | nil => exact ne (List.nil_perm.mp pm2)
        | cons a b =>
          have := mem a List.mem_cons_self
          rw [e] at this
          cases this
end
end MH
namespace MH
open PySem PySem.Spec PyProof.Rows L2
theorem iteT {A B : Prop} (a : A) : if true = true then A else B := by
  rw [if_pos rfl]
  exact a
section
variable {P : Program} {w : World} {K : PySem.W.Frag} {mg : Str → Option Value} {base : Heap}
theorem ok_l_rows (T : Tx K mg w) : FnOk P w K mg base CX0 3 T.a_l_rows T.fd_l_rows ["_law_pot_here", "_law_things_here", "_law_most"] (spRowsJ K) := by
  refine T.F_l_rows.ok sc_l_rows (fun vs H Q E h => ?_) (fun cdv A outer s H vs Q E hr h => ?_)
  · obtain ⟨p, t, n, th, m, rfl, _⟩ := h
    rfl
  · obtain ⟨p, t, n, th, m, rfl, u, hn, hT, ro, so, m0, m24, k⟩ := h
    refine ⟨_, (pss_one (ps_ret (pe_call (ok_l_ascending T) (hr.mono (by decide)) rfl T.g_l_ascending T.F_l_ascending.kp T.b_l_ascending .nil pass0 (pa_cons (pe_lc (own := [("_law_turn", 3)]) (g := gName 3) (tt := tYes) rfl sc_l_rows.nd (pi_range1 (by rfl) T.n_range (pa_cons (pe_op op_add pe_int (pe_call (ok_l_draw T) (hr.mono (by decide)) rfl T.g_l_draw T.F_l_draw.kp T.b_l_draw .nil pass0 (pa_cons (pv 0) (pa_cons (pv 2) pa_nil)))) pa_nil)) (blkOk_by (own := [("_law_turn", 3)]) (N := names_l_rows) (sc := defScope st_l_rows) (by decide +kernel)) (fun _ _ _ _ _ => pg_name (i := 3) sc_l_rows.nd rfl (Or.inl rfl)) (fun _ _ _ _ _ => pts_nil) (fun _ _ _ _ _ => (pe_call (ok_l_shuffled T) (hr.mono (by decide)) rfl T.g_l_shuffled T.F_l_shuffled.kp T.b_l_shuffled .nil pass0 (pa_cons (pv 0) (pa_cons (pv 1) pa_nil))))) pa_nil)))), ?_⟩
    refine ⟨_, rfl, _, rfl, p, m, n, rfl, u, by omega, m0, by omega, fun d H1 d0 d1 sb1 u1 => ?_⟩
    have thl := ro.le
    have d2 : d < 24 := by omega
    refine ⟨_, _, rfl, rfl, 1 + d, rfl, by omega, by omega, fun D nD => ?_⟩
    have nDp : D ≠ p := u1.ne nD
    have hT1 : SqT K H1 t (th.map V.str) := u.sqt sb1 hT
    refine lc_it (w := walk_range) (fun i H' => ∃ (ts : List Addr) (rows : List (List Str)), RowsAt H' D ts rows ∧ rows.length = i ∧ (∀ r ∈ rows, r.Perm th) ∧ SameB p H H' ∧ Ur H' p (n + 1 + 10 * i) ∧ SqT K H' t (th.map V.str))
      ⟨[], [], ⟨upd_same, rfl, fun j t r h1 h2 => nomatch h1⟩, rfl, (fun r hr => absurd hr List.not_mem_nil), sb1.new nD, u1.same (Same.new nD), (Same.new nD).sqt hT1⟩ (fun _ _ _ _ => trivial) ?_ ?_
    · rintro i x H2 H3 hi ⟨ts, rows, ra, hl, pm, sb2, u2, hT2⟩ ⟨rfl, rfl⟩
      refine ⟨rfl, ?_⟩
      refine ⟨_, rfl, _, rfl, p, t, n + 1 + 10 * i, _, rfl, u2, by omega, hT2, by rw [List.length_map]; omega, fun row a H4 pmr sb4 u4 ha => ?_⟩
      obtain ⟨r, rfl, pr⟩ := perm_strs pmr
      obtain ⟨_, _, _, hp2, _⟩ := id u2
      have ra4 := ra.but sb4 hp2 nDp
      have e4 := ra4.1
      refine ⟨_, e4, lt_line (by rw [List.length_map, ra4.2.1]; omega), ts ++ [a], rows ++ [r], ra4.snoc ha, by rw [List.length_append, hl]; rfl, fun x hx => ?_, ?_, ?_, ?_⟩
      · rcases List.mem_append.mp hx with m | m
        · exact pm x m
        · rw [List.mem_singleton.mp m]
          exact pr
      · intro b o nb e
        have e1 := sb1 _ _ nb e
        rw [upd_ne (ne_of_none e1 nD)]
        exact sb4 _ _ nb (sb2 _ _ nb e)
      · refine (Ur.put u4 e4 (fun x y z q => ?_)).mono (by rw [List.length_map]; omega)
        have q := HO.lst.inj q
        cases ts with
        | nil => cases q
        | cons a r => cases q
      · exact ((SameB.refl D H4).put).sqt e4 (u2.sqt sb4 hT2)
    · rintro H2 ⟨ts, rows, ra, hl, pm, sb2, u2, hT2⟩
      refine ⟨D, ts, th, rows, rfl, ra, ro, so, pm, ?_, by omega, fun l' ts' rows' H3 s3 _ ra' ok' _ _ => ?_⟩
      · intro e
        rw [e] at hl
        have : ((1 + d).toNat) = 0 := hl.symm
        omega
      · exact k l' ts' rows' H3 (sb2.trans (.of s3)) ((u2.same s3).mono (by omega)) ra' ok'
end
end MH
namespace MH
open PySem PySem.Spec PyProof.Rows L2
def bestOf (ms r : List Str) : Str := (r.filter fun z => decide (z ∈ ms)).headD ""
def takenOf (rs : List (List Str)) (ms : List Str) : List Str := ms.filter fun z => decide (z ∈ rs.map (bestOf ms))
/-- a list or a tuple of these values -/
def SeqV (K : PySem.W.Frag) (H : Hp) (a : Addr) (xs : List V) : Prop := SqL K H a xs ∨ SqT K H a xs
def spTaken (K : PySem.W.Frag) : Sp := fun vs H Q _ => ∃ (l m : Addr) (ts : List Addr) (rs : List (List Str)) (ms : List Str), vs = [.ref l, .ref m] ∧ SqL K H l (ts.map V.ref) ∧ ts.length = rs.length ∧ rs.length ≤ 1000 ∧ (∀ (j : Nat) (t : Addr) (r : List Str), ts[j]? = some t → rs[j]? = some r → SeqV K H t (r.map V.str)) ∧
  SqT K H m (ms.map V.str) ∧ ms.length ≤ 1000 ∧ (∀ r ∈ rs, r.length ≤ 1000 ∧ ∃ z ∈ r, z ∈ ms) ∧ ∀ (t : Addr) (H' : Hp), Same H H' → TupO H' t ((takenOf rs ms).map V.str) → Q (.ref t) H'
section
variable {P : Program} {w : World} {K : PySem.W.Frag} {mg : Str → Option Value} {base : Heap}
theorem ok_l_taken (T : Tx K mg w) : FnOk P w K mg base CX0 1 T.a_l_taken T.fd_l_taken ["_law_rows_here", "_law_menu_here"] (spTaken K) := by
  refine T.F_l_taken.ok sc_l_taken (fun vs H Q E h => ?_) (fun cdv A outer s H vs Q E hr h => ?_)
  · obtain ⟨l, m, ts, rs, ms, rfl, _⟩ := h
    rfl
  · obtain ⟨l, m, ts, rs, ms, rfl, hl, hlen, hle, hr', hm, hmle, hb, k⟩ := h
    refine ⟨_, (pss_cons (ps_set (i := 2) sc_l_taken.nd rfl (Or.inr rfl) (pe_lc (own := [("_law_row", 3)]) (g := gName 3) (tt := tYes) rfl sc_l_taken.nd (pi_list (pv 0)) (blkOk_by (own := [("_law_row", 3)]) (N := names_l_taken) (sc := defScope st_l_taken) (by decide +kernel)) (fun _ _ _ _ _ => pg_name (i := 3) sc_l_taken.nd rfl (Or.inl rfl)) (fun _ _ _ _ _ => pts_nil) (fun _ _ _ _ _ => (pe_ix (r := rIxL K) ix_list (pe_lc (wi := iLT K (tVar 3)) (own := [("_law_thing", 4)]) (g := gName 4) (tt := tTest (tOp (rIn K false) (tVar 4) (tVar 1))) rfl sc_l_taken.nd (pi_lt (pv 3)) (blkOk_by (own := [("_law_thing", 4)]) (N := names_l_taken) (sc := ({ kind := .function, names := [(".0", .local), ("_law_row", .local), ("_law_menu_here", .cell)], isGenerator := false, isCoroutine := false } : Scope)) (by decide +kernel)) (fun _ _ _ _ _ => pg_name (i := 4) sc_l_taken.nd rfl (Or.inl rfl)) (fun _ _ _ _ _ => pts_one (pt_cmpR (r := rIn K false) op_in_seq (pv 4) (pv 1) (by rfl))) (fun _ _ _ _ _ => (pv 4))) pe_int (fun _ _ => rfl)))))
      (pss_one (ps_ret (pe_callTy call_tupF (by rfl) T.n_tuple (by decide +kernel) (pa_cons (pe_lc (own := [("_law_thing", 4)]) (g := gName 4) (tt := tTest (tOp (rIn K false) (tVar 4) (tVar 2))) rfl sc_l_taken.nd (pi_tup (pv 1)) (blkOk_by (own := [("_law_thing", 4)]) (N := names_l_taken) (sc := defScope st_l_taken) (by decide +kernel)) (fun _ _ _ _ _ => pg_name (i := 4) sc_l_taken.nd rfl (Or.inl rfl)) (fun _ _ _ _ _ => pts_one (pt_cmpR op_in_seq (pv 4) (pv 2) (by rfl))) (fun _ _ _ _ _ => (pv 4))) pa_nil))))), ?_⟩
    refine ⟨_, rfl, l, rfl, ⟨_, hl⟩, fun D nD => lcv (walk_list (K := K) (a := l) (xs := ts.map V.ref)) rs (fun r => V.str (bestOf ms r)) (by rw [List.length_map, hlen]) nD (by rw [List.length_map]; omega) (fun H' s => same_sql s hl) (fun _ _ _ _ _ y => by obtain ⟨rfl, _⟩ := y; exact Same.refl _) (fun i r x H1 H' hr s1 y Z hZ => ?_) (fun H1 s1 e1 => ?_)⟩
    · obtain ⟨rfl, hx⟩ := y
      rw [List.getElem?_map] at hx
      cases hj : ts[i]? with
      | none =>
        rw [hj] at hx
        cases hx
      | some t =>
        rw [hj] at hx
        obtain rfl : V.ref t = x := Option.some.inj hx
        obtain ⟨rl, z0, hz0, hzm⟩ := hb r (List.mem_of_getElem? hr)
        obtain ⟨y0, yr, ef⟩ := List.exists_cons_of_ne_nil (l := r.filter fun z => decide (z ∈ ms)) (fun e => by
          have := List.filter_eq_nil_iff.mp e z0 hz0
          simp [hzm] at this)
        refine ⟨rfl, ?_⟩
        rcases hr' i t r hj hr with ht | ht
        · have ht := same_sql s1 ht
          refine .inl ⟨_, rfl, t, rfl, ⟨_, ht⟩, fun D2 nD2 => lcf (walk_list (K := K) (a := t) (xs := r.map V.str)) r V.str (fun z => decide (z ∈ ms)) (List.length_map _).symm nD2 (by rw [List.length_map]; omega) (fun H' s => same_sql s ht) (fun _ _ _ _ _ y => by obtain ⟨rfl, _⟩ := y; exact Same.refl _) (fun j z x H2 H3 hz s2 y Z N hZ hN => ?_) (fun H2 s2 e2 => ?_)⟩
          · obtain ⟨rfl, hx⟩ := y
            rw [List.getElem?_map, hz] at hx
            obtain rfl : V.str z = x := Option.some.inj hx
            refine ⟨rfl, _, rfl, _, rfl, m, _, rfl, .inr ((s1.trans s2).sqt hm), rfl, flat_strs ms, _, rfl, ?_⟩
            rw [inV_strs]
            exact ite2 (fun c => ⟨_, rfl, hZ (by simpa using c) _ (Same.refl _)⟩) (fun c => hN (by simpa using c) _ (Same.refl _))
          · rw [ef] at e2
            have e3 : bestOf ms r = y0 := by
              unfold bestOf
              rw [ef]
              rfl
            rw [e3] at hZ
            exact ⟨D2, _, 0, .str y0, rfl, rfl, lst_of e2, atI_nat (j := 0) rfl, hZ _ s2⟩
        · have ht := s1.sqt ht
          refine .inr ⟨_, rfl, t, rfl, ⟨_, ht⟩, fun D2 nD2 => lcf (walk_tup (K := K) (a := t) (xs := r.map V.str)) r V.str (fun z => decide (z ∈ ms)) (List.length_map _).symm nD2 (by rw [List.length_map]; omega) (fun H' s => s.sqt ht) (fun _ _ _ _ _ y => by obtain ⟨rfl, _⟩ := y; exact Same.refl _) (fun j z x H2 H3 hz s2 y Z N hZ hN => ?_) (fun H2 s2 e2 => ?_)⟩
          · obtain ⟨rfl, hx⟩ := y
            rw [List.getElem?_map, hz] at hx
            obtain rfl : V.str z = x := Option.some.inj hx
            refine ⟨rfl, _, rfl, _, rfl, m, _, rfl, .inr ((s1.trans s2).sqt hm), rfl, flat_strs ms, _, rfl, ?_⟩
            rw [inV_strs]
            exact ite2 (fun c => ⟨_, rfl, hZ (by simpa using c) _ (Same.refl _)⟩) (fun c => hN (by simpa using c) _ (Same.refl _))
          · rw [ef] at e2
            have e3 : bestOf ms r = y0 := by
              unfold bestOf
              rw [ef]
              rfl
            rw [e3] at hZ
            exact ⟨D2, _, 0, .str y0, rfl, rfl, lst_of e2, atI_nat (j := 0) rfl, hZ _ s2⟩
    · have hm1 := s1.sqt hm
      rw [show (rs.map fun r => V.str (bestOf ms r)) = (rs.map (bestOf ms)).map V.str by rw [List.map_map]; rfl] at e1
      refine ⟨_, rfl, m, rfl, ⟨_, hm1⟩, fun D2 nD2 => lcf (walk_tup (K := K) (a := m) (xs := ms.map V.str)) ms V.str (fun z => decide (z ∈ rs.map (bestOf ms))) (List.length_map _).symm nD2 (by rw [List.length_map]; omega) (fun H' s => s.sqt hm1) (fun _ _ _ _ _ y => yat_same y) (fun j z x H2 H3 hz s2 y Z N hZ hN => ?_) (fun H2 s2 e2 => ?_)⟩
      · obtain ⟨rfl, hx⟩ := y
        rw [List.getElem?_map, hz] at hx
        obtain rfl : V.str z = x := Option.some.inj hx
        refine ⟨rfl, _, rfl, _, rfl, D, _, rfl, .inl (lst_of (s2 _ _ e1)), rfl, flat_strs _, _, rfl, ?_⟩
        rw [inV_strs]
        exact ite2 (fun c => ⟨_, rfl, hZ (by simpa using c) _ (Same.refl _)⟩) (fun c => hN (by simpa using c) _ (Same.refl _))
      · refine ⟨D2, _, rfl, .inl ⟨lst_of e2, fun t ot nt dt => ?_⟩⟩
        exact k t _ ((s1.trans s2).new' nt) (tupO_new dt)
end
end MH
namespace MH
open PySem PySem.Spec PyProof.Rows L2
def spMenuJ (K : PySem.W.Frag) : Sp := fun vs H Q _ => ∃ (p t : Addr) (n : Nat) (th : List Str), vs = [.ref p, .ref t] ∧ Ur H p n ∧ n ≤ 900000000 ∧ TupO H t (th.map V.str) ∧ th ≠ [] ∧ th.length ≤ 10 ∧
  ∀ (ms : List Str) (a : Addr) (H' : Hp), ms.Sublist th → ms ≠ [] → SameB p H H' → Ur H' p (n + 12) → TupO H' a (ms.map V.str) → Q (.ref a) H'
section
variable {P : Program} {w : World} {K : PySem.W.Frag} {mg : Str → Option Value} {base : Heap}
theorem ok_l_menu (T : Tx K mg w) : FnOk P w K mg base CX0 2 T.a_l_menu T.fd_l_menu ["_law_pot_here", "_law_things_here"] (spMenuJ K) := by
  refine T.F_l_menu.ok sc_l_menu (fun vs H Q E h => ?_) (fun cdv A outer s H vs Q E hr h => ?_)
  · obtain ⟨p, t, n, th, rfl, _⟩ := h
    rfl
  · obtain ⟨p, t, n, th, rfl, u, hn, hT, ne, le, k⟩ := h
    refine ⟨_, (pss_cons (ps_par3 (i := 2) (j := 3) (l := 4) rfl sc_l_menu.nd rfl rfl rfl (by decide) (by decide) (by decide) rfl rfl rfl (pa_cons (pe_call (ok_l_draw T) (hr.mono (by decide)) rfl T.g_l_draw T.F_l_draw.kp T.b_l_draw .nil pass0 (pa_cons (pv 0) (pa_cons pe_int pa_nil))) (pa_cons (pe_call (ok_l_draw T) (hr.mono (by decide)) rfl T.g_l_draw T.F_l_draw.kp T.b_l_draw .nil pass0 (pa_cons (pv 0) (pa_cons (pe_callB call_len_seq (by rfl) T.n_len (by decide +kernel) (pa_cons (pv 1) pa_nil)) pa_nil))) (pa_cons (pe_lst pa_nil) pa_nil))) (by rfl))
      (pss_cons (ps_for PassesOwn.never rfl (pi_range1 (by rfl) T.n_range (pa_cons (pe_callB call_len_seq (by rfl) T.n_len (by decide +kernel) (pa_cons (pv 1) pa_nil)) pa_nil)) (pg_name (i := 5) sc_l_menu.nd rfl (Or.inl rfl))
        (pss_one (ps_if (PW.pt (pw_or (pt_cmpR op_eq (pe_call (ok_l_draw T) (hr.mono (by decide)) rfl T.g_l_draw T.F_l_draw.kp T.b_l_draw .nil pass0 (pa_cons (pv 0) (pa_cons pe_int pa_nil))) pe_int (nomark _)) (pw_or1 (pt_cmpR op_eq (pv 5) (pv 3) (nomark _)))))
        (pss_one (ps_expr (pe_bm PySem.F.plainAttrs_list PySem.F.slot_list_append PySem.F.type_list_append mt_append (pv 4) (pa_cons (pe_ix ix_tup (pv 1) (pv 5) (fun _ _ => rfl)) pa_nil))))
        pss_nil)))
      (pss_one (ps_ret (pe_ix ix_list (pe_lst (pa_cons (pe_tupF (pa_cons (pe_ix ix_tup (pv 1) (pv 3) (fun _ _ => rfl)) pa_nil)) (pa_cons (pv 1) (pa_cons (pe_callTy call_tupF (by rfl) T.n_tuple (by decide +kernel) (pa_cons (pv 4) pa_nil)) (pa_cons (pe_callTy call_tupF (by rfl) T.n_tuple (by decide +kernel) (pa_cons (pv 4) pa_nil)) pa_nil))))) (pv 2) (fun _ _ => rfl)))))), ?_⟩
    refine ⟨_, rfl, p, 4, n, rfl, u, by omega, by decide, by decide, fun w0 H1 w0' w4 sb1 u1 => ?_⟩
    obtain ⟨x0, y0, c0, hp0, _⟩ := id u
    have ntp : t ≠ p := hT.ne hp0 (by intro o q; cases q)
    have hT1 := hT.sb sb1 ntp
    have lm : (th.map V.str).length = th.length := List.length_map _
    have l0 : 0 < th.length := List.length_pos_iff.mpr ne
    refine ⟨_, rfl, _, rfl, t, _, rfl, .inr hT1.sqt, p, _, n + 1, rfl, u1, by omega, by omega, by omega, fun a0 H2 a0' a1 sb2 u2 => ?_⟩
    refine ⟨Nat.zero_le _, fun kl nk => ⟨_, _, _, rfl, ?_⟩⟩
    obtain ⟨a0, rfl⟩ : ∃ f : Nat, a0 = f := ⟨a0.toNat, by omega⟩
    obtain ⟨w0, rfl⟩ : ∃ f : Nat, w0 = f := ⟨w0.toNat, by omega⟩
    have al : a0 < th.length := by omega
    obtain ⟨x1, y1, c1, hp1, _⟩ := id u1
    have hT2 := hT1.sb sb2 ntp
    have nkp : kl ≠ p := u2.ne nk
    have nkt : t ≠ kl := hT2.no nk
    have sb3 : SameB p H (upd H2 kl (.lst [])) := (sb1.trans sb2).new nk
    have nkH : ∀ b o, b ≠ p → H b = some o → b ≠ kl := fun b o nb e q => by
      have := (sb1.trans sb2) _ _ nb e
      rw [q, nk] at this
      cases this
    have u3 := u2.same (Same.new nk (o := .lst []))
    have hk3 : (upd H2 kl (.lst [])) kl = some (.lst []) := upd_same
    have hT3 : TupO (upd H2 kl (.lst [])) t (th.map V.str) := hT2.upN nk
    generalize upd H2 kl (.lst []) = H3 at sb3 u3 hk3 hT3 ⊢
    refine ⟨_, rfl, t, _, rfl, .inr hT3.sqt, _, rfl, by omega, by omega, for_range (lo := 0) (n := ((((th.map V.str).length : Nat) : Int)).toNat) (fun i σ H' => ∃ (kept : List Str) (v : Option V), σ = [some (.ref p), some (.ref t), some (.int (w0 : Nat)), some (.int (a0 : Nat)), some (.ref kl), v] ∧ H' kl = some (.lst (kept.map V.str)) ∧ kept.Sublist (th.take i) ∧ (a0 < i → kept ≠ []) ∧ SameB p H H' ∧ Ur H' p (n + 2 + i) ∧ TupO H' t (th.map V.str))
      ⟨[], none, rfl, hk3, List.nil_sublist _, fun h => by omega, sb3, u3, hT3⟩ ?_ ?_⟩
    · rintro i σ H4 hi ⟨kept, v, rfl, hk4, sub, hne, sb4, u4, hT4⟩
      have hi : i < th.length := by omega
      refine ⟨_, rfl, p, 2, _, rfl, u4, by omega, by decide, by decide, fun d H5 d0 d2 sb5 u5 => ?_⟩
      have hk5 := sb5 _ _ nkp hk4
      have hT5 := hT4.sb sb5 ntp
      have kl5 : kept.length ≤ i := by
        have := sub.length_le
        rw [List.length_take] at this
        omega
      have hti : th[i]? = some th[i] := List.getElem?_eq_getElem hi
      have tk : th.take (i + 1) = th.take i ++ [th[i]] := by rw [List.take_add_one, hti]; rfl
      have hgi : (th.map V.str)[i]? = some (.str th[i]) := by rw [List.getElem?_map, hti]; rfl
      have put : ∀ σ, σ = [some (.ref p), some (.ref t), some (.int (w0 : Nat)), some (.int (a0 : Nat)), some (.ref kl), some (V.int (0 + (i : Nat)))] → ∃ (kept' : List Str) (v : Option V), σ = [some (.ref p), some (.ref t), some (.int (w0 : Nat)), some (.int (a0 : Nat)), some (.ref kl), v] ∧ (upd H5 kl (.lst (kept.map V.str ++ [V.str th[i]]))) kl = some (.lst (kept'.map V.str)) ∧ kept'.Sublist (th.take (i + 1)) ∧ (a0 < i + 1 → kept' ≠ []) ∧ SameB p H (upd H5 kl (.lst (kept.map V.str ++ [V.str th[i]]))) ∧ Ur (upd H5 kl (.lst (kept.map V.str ++ [V.str th[i]]))) p (n + 2 + (i + 1)) ∧ TupO (upd H5 kl (.lst (kept.map V.str ++ [V.str th[i]]))) t (th.map V.str) := by
        rintro σ rfl
        refine ⟨kept ++ [th[i]], _, rfl, ?_, ?_, fun _ e => ?_, ?_, ?_, hT5.up hk5 (by intro o q; cases q)⟩
        · rw [upd_same, List.map_append]
          rfl
        · rw [tk]
          exact sub.append (List.Sublist.refl _)
        · cases kept <;> cases e
        · intro b o nb e
          rw [upd_ne (nkH b o nb e)]
          exact sb5 _ _ nb (sb4 _ _ nb e)
        · refine (Ur.put u5 hk5 (fun x y z q => ?_)).mono (by omega)
          have q := HO.lst.inj q
          cases kept with
          | nil => cases q
          | cons a r => cases q
      refine ⟨rfl, _, rfl, ite2 (fun c => ?_) (fun c => ?_)⟩
      · refine iteT ?_
        refine ⟨_, rfl, .inl ⟨rfl, _, lst_of hk5⟩, _, rfl, _, rfl, t, _, _, _, rfl, rfl, hT5.sqt, (by rw [Int.zero_add]; exact atI_nat hgi), kl, _, _, rfl, rfl, hk5, lt_line (by rw [List.length_map]; omega), put _ rfl⟩
      · refine ⟨_, rfl, _, rfl, rfl, _, rfl, ite2 (fun c2 => ?_) (fun c2 => ?_)⟩
        · refine ⟨_, rfl, .inl ⟨rfl, _, lst_of hk5⟩, _, rfl, _, rfl, t, _, _, _, rfl, rfl, hT5.sqt, (by rw [Int.zero_add]; exact atI_nat hgi), kl, _, _, rfl, rfl, hk5, lt_line (by rw [List.length_map]; omega), put _ rfl⟩
        · refine ⟨kept, _, rfl, hk5, ?_, fun h => ?_, sb4.trans sb5, u5.mono (by omega), hT5⟩
          · rw [tk]
            exact sub.trans (List.sublist_append_left _ _)
          · have ne2 : i ≠ a0 := fun e => c2 (by rw [e, Int.zero_add]; exact decide_eq_true rfl)
            exact hne (by omega)
    · rintro σ H4 ⟨kept, v, rfl, hk4, sub, hne, sb4, u4, hT4⟩
      have hta : (th.map V.str)[a0]? = some (.str th[a0]) := by rw [List.getElem?_map, List.getElem?_eq_getElem al]; rfl
      refine ⟨_, rfl, _, rfl, t, _, _, _, rfl, rfl, hT4.sqt, atI_nat hta, (by show 1 ≤ sizeLine; decide), fun q1 o1 n1 d1 => ⟨_, rfl, _, rfl, kl, _, rfl, .inl ⟨lst_of (by rw [upd_ne (ne_of_none hk4 n1)]; exact hk4), fun q2 o2 n2 d2 => ⟨_, rfl, kl, _, rfl, .inl ⟨lst_of (by rw [upd_ne (ne_of_none (by rw [upd_ne (ne_of_none hk4 n1)]; exact hk4) n2), upd_ne (ne_of_none hk4 n1)]; exact hk4), fun q3 o3 n3 d3 => ⟨(by show 4 ≤ sizeLine; decide), fun L nL => ?_⟩⟩⟩⟩⟩⟩
      have hne := hne (by rw [List.length_map]; omega)
      rw [show (((th.map V.str).length : Nat) : Int).toNat = th.length by rw [List.length_map]; rfl, List.take_length] at sub
      have t1 : TupO _ q1 [V.str th[a0]] := tupO_new (H := H4) (p := q1) d1
      have hT5 : TupO _ t (th.map V.str) := hT4.upN n1 (v := .frz o1 (.tup [V.str th[a0]]))
      have s5 : Same H4 (upd H4 q1 (.frz o1 (.tup [V.str th[a0]]))) := Same.new n1
      generalize upd H4 q1 (.frz o1 (.tup [V.str th[a0]])) = H5 at t1 hT5 s5 n2 n3 nL ⊢
      have t2 : TupO _ q2 (kept.map V.str) := tupO_new (H := H5) (p := q2) d2
      have t1 := t1.upN n2 (v := .frz o2 (.tup (kept.map V.str)))
      have hT6 := hT5.upN n2 (v := .frz o2 (.tup (kept.map V.str)))
      have s6 := s5.new' n2 (o := .frz o2 (.tup (kept.map V.str)))
      generalize upd H5 q2 (.frz o2 (.tup (kept.map V.str))) = H6 at t1 t2 hT6 s6 n3 nL ⊢
      have t3 : TupO _ q3 (kept.map V.str) := tupO_new (H := H6) (p := q3) d3
      have t1 := t1.upN n3 (v := .frz o3 (.tup (kept.map V.str)))
      have t2 := t2.upN n3 (v := .frz o3 (.tup (kept.map V.str)))
      have hT7 := hT6.upN n3 (v := .frz o3 (.tup (kept.map V.str)))
      have s7 := s6.new' n3 (o := .frz o3 (.tup (kept.map V.str)))
      generalize upd H6 q3 (.frz o3 (.tup (kept.map V.str))) = H7 at t1 t2 t3 hT7 s7 nL ⊢
      have t1 := t1.upN nL (v := .lst [.ref q1, .ref t, .ref q2, .ref q3])
      have t2 := t2.upN nL (v := .lst [.ref q1, .ref t, .ref q2, .ref q3])
      have t3 := t3.upN nL (v := .lst [.ref q1, .ref t, .ref q2, .ref q3])
      have hT8 := hT7.upN nL (v := .lst [.ref q1, .ref t, .ref q2, .ref q3])
      have s8 := s7.new' nL (o := .lst [.ref q1, .ref t, .ref q2, .ref q3])
      have hL : (upd H7 L (.lst [.ref q1, .ref t, .ref q2, .ref q3])) L = some (.lst [.ref q1, .ref t, .ref q2, .ref q3]) := upd_same
      have w4' : w0 < 4 := by omega
      have sb9 := sb4.trans (.of s8)
      have u9 := (u4.same s8).mono (m := n + 12) (by rw [List.length_map]; omega)
      refine ⟨_, rfl, L, _, (w0 : Int), (([.ref q1, .ref t, .ref q2, .ref q3] : List V).getD w0 .non), rfl, rfl, lst_of hL, atI_nat ?_, ?_⟩
      · match w0, w4' with
        | 0, _ => rfl
        | 1, _ => rfl
        | 2, _ => rfl
        | 3, _ => rfl
      · match w0, w4' with
        | 0, _ => exact k [th[a0]] q1 _ (List.singleton_sublist.mpr (List.getElem_mem al)) (by simp) sb9 u9 t1
        | 1, _ => exact k th t _ (List.Sublist.refl _) ne sb9 u9 hT8
        | 2, _ => exact k kept q2 _ sub hne sb9 u9 t2
        | 3, _ => exact k kept q3 _ sub hne sb9 u9 t3
end
end MH
namespace MH
open PySem PySem.Spec PyProof.Rows L2
theorem cut_to (z : Str) (i : Nat) : (cutS z none (some (i : Int))).cps.toList = z.cps.toList.take i := by
  unfold cutS
  show (z.cps.toList.drop (HT.sIx z.length 0 none)).take _ = _
  rw [HT.sIx_none, HT.sIx_nat, List.drop_zero, Nat.sub_zero, len_cps]
  rcases Nat.le_total i z.cps.toList.length with h | h
  · rw [Nat.min_eq_left h]
  · rw [Nat.min_eq_right h, List.take_of_length_le (Nat.le_refl _), List.take_of_length_le h]
theorem cut_behind (z : Str) (i : Nat) : (cutS z (some (i : Int)) none).cps.toList = z.cps.toList.drop i := by
  unfold cutS
  show (z.cps.toList.drop (HT.sIx z.length 0 (some (i : Int)))).take _ = _
  rw [HT.sIx_none, HT.sIx_nat, len_cps, List.take_of_length_le (by rw [List.length_drop]; omega)]
  rcases Nat.le_total i z.cps.toList.length with h | h
  · rw [Nat.min_eq_left h]
  · rw [Nat.min_eq_right h, List.drop_of_length_le (Nat.le_refl _), List.drop_of_length_le h]
def isMk (c : Nat) : Bool := c == 43 || c == 45 || c == 63
/-- signs, so many -/
def MksOk (sg : Str) (n : Nat) : Prop := sg.cps.toList.length = n ∧ ∀ c ∈ sg.cps.toList, isMk c = true
theorem MksOk.snoc {sg : Str} {n c : Nat} (h : MksOk sg n) (hc : isMk c = true) : MksOk (sg ++ (⟨#[c]⟩ : Str)) (n + 1) := by
  refine ⟨by rw [cps_app, List.length_append, h.1]; rfl, fun d hd => ?_⟩
  rw [cps_app] at hd
  rcases List.mem_append.mp hd with m | m
  · exact h.2 d m
  · rw [List.mem_singleton.mp m]
    exact hc
/-- .. not all of them - -/
def MkOk (sg : Str) (n : Nat) : Prop := MksOk sg n ∧ ∃ c ∈ sg.cps.toList, c ≠ 45
theorem best_in {ms r : List Str} (h : ∃ z ∈ r, z ∈ ms) : bestOf ms r ∈ r ∧ bestOf ms r ∈ ms := by
  obtain ⟨z, h1, h2⟩ := h
  obtain ⟨y, ys, e⟩ := List.exists_cons_of_ne_nil (l := r.filter fun z => decide (z ∈ ms)) (fun e => by
    have := List.filter_eq_nil_iff.mp e z h1
    simp [h2] at this)
  have m : y ∈ r.filter fun z => decide (z ∈ ms) := by rw [e]; exact List.mem_cons_self
  have eb : bestOf ms r = y := by unfold bestOf; rw [e]; rfl
  rw [eb]
  have := List.mem_filter.mp m
  exact ⟨this.1, of_decide_eq_true this.2⟩
theorem taken_some {ms : List Str} {rows : List (List Str)} (ne : rows ≠ []) (h : ∀ r ∈ rows, ∃ z ∈ r, z ∈ ms) : ∃ i, i < ms.length ∧ ∃ z, ms[i]? = some z ∧ z ∈ takenOf rows ms := by
  obtain ⟨r, hr⟩ := List.exists_mem_of_ne_nil _ ne
  have b := (best_in (h r hr)).2
  obtain ⟨i, hi⟩ := List.getElem?_of_mem b
  exact ⟨i, (List.getElem?_eq_some_iff.mp hi).1, _, hi, List.mem_filter.mpr ⟨b, decide_eq_true (List.mem_map_of_mem hr)⟩⟩
theorem mk_ok : ∀ e, e < 3 → isMk (("+-?" : Str).cps.toList.getD e 0) = true := by decide +kernel
def spSeen (K : PySem.W.Frag) : Sp := fun vs H Q _ => ∃ (p m l : Addr) (n : Nat) (ms th : List Str) (ts : List Addr) (rows : List (List Str)), vs = [.ref p, .ref m, .ref l] ∧ Ur H p n ∧ n ≤ 900000000 ∧ TupO H m (ms.map V.str) ∧ RowsAt H l ts rows ∧ RowsOk th rows ∧ ms.Sublist th ∧ ms ≠ [] ∧
  ∀ (sg : Str) (H' : Hp), MkOk sg ms.length → SameB p H H' → Ur H' p (n + 10) → Q (.str sg) H'
def spAnyMarks (K : PySem.W.Frag) : Sp := fun vs H Q _ => ∃ (p m : Addr) (n : Nat) (ms : List Str), vs = [.ref p, .ref m] ∧ Ur H p n ∧ n ≤ 900000000 ∧ TupO H m (ms.map V.str) ∧ ms.length ≤ 10 ∧ ms ≠ [] ∧
  ∀ (sg : Str) (H' : Hp), MkOk sg ms.length → SameB p H H' → Ur H' p (n + 10) → Q (.str sg) H'
section
variable {P : Program} {w : World} {K : PySem.W.Frag} {mg : Str → Option Value} {base : Heap}
theorem ok_l_seen (T : Tx K mg w) : FnOk P w K mg base CX0 2 T.a_l_seen T.fd_l_seen ["_law_pot_here", "_law_menu_here", "_law_rows_here"] (spSeen K) := by
  refine T.F_l_seen.ok sc_l_seen (fun vs H Q E h => ?_) (fun cdv A outer s H vs Q E hr h => ?_)
  · obtain ⟨p, m, l, n, ms, th, ts, rows, rfl, _⟩ := h
    rfl
  · obtain ⟨p, m, l, n, ms, th, ts, rows, rfl, u, hn, hM, ra, ro, sub, ne, k⟩ := h
    refine ⟨_, (pss_cons (ps_par (i := 3) (j := 4) rfl sc_l_seen.nd rfl rfl (by decide) rfl rfl (pa_cons (pe_call (ok_l_taken T) (hr.mono (by decide)) rfl T.g_l_taken T.F_l_taken.kp T.b_l_taken .nil pass0 (pa_cons (pv 2) (pa_cons (pv 1) pa_nil))) (pa_cons pe_str pa_nil)) (by rfl))
      (pss_cons (ps_for PassesOwn.never rfl (pi_tup (pv 1)) (pg_name (i := 5) sc_l_seen.nd rfl (Or.inl rfl))
        (pss_one (ps_set (i := 4) sc_l_seen.nd rfl (Or.inl rfl) (pe_op op_add_str (pv 4) (pe_ifExp (pt_cmpR op_eq (pe_call (ok_l_draw T) (hr.mono (by decide)) rfl T.g_l_draw T.F_l_draw.kp T.b_l_draw .nil pass0 (pa_cons (pv 0) (pa_cons pe_int pa_nil))) pe_int (nomark _)) pe_str (pe_ifExp (pt_cmpR op_in_seq (pv 5) (pv 3) (by rfl)) pe_str pe_str))))))
      (pss_one (ps_ret (pv 4))))), ?_⟩
    obtain ⟨x0, y0, c0, hp0, _⟩ := id u
    have nmp : m ≠ p := hM.ne hp0 (by intro o q; cases q)
    have mle : ms.length ≤ 10 := by
      have h1 := sub.length_le
      obtain ⟨r, hr⟩ := List.exists_mem_of_ne_nil _ ro.ne
      have h2 := (ro.ok r hr).2.length_eq
      have h3 := (ro.ok r hr).1.le
      omega
    refine ⟨_, rfl, _, rfl, l, m, ts, rows, ms, rfl, lst_of ra.1, ra.2.1, (by have := ro.le; omega), fun j t r h1 h2 => .inr (ra.2.2 j t r h1 h2).sqt, hM.sqt, by omega, fun r hr => ⟨by have := (ro.ok r hr).1.le; omega, ?_⟩, fun t H1 s1 hT => ?_⟩
    · obtain ⟨z, hz⟩ := List.exists_mem_of_ne_nil _ ne
      exact ⟨z, ((ro.ok r hr).2.subset (sub.subset hz)), hz⟩
    · have hM1 := hM.same s1
      refine ⟨_, _, rfl, ?_⟩
      refine ⟨_, rfl, m, rfl, ⟨_, hM1.sqt⟩, for_tup (K := K) (a := m) (xs := ms.map V.str) (fun j σ H' => ∃ (sg : Str) (v : Option V), σ = [some (.ref p), some (.ref m), some (.ref l), some (.ref t), some (.str sg), v] ∧ MksOk sg j ∧ ((∃ i, i < j ∧ ∃ z, ms[i]? = some z ∧ z ∈ takenOf rows ms) → ∃ c ∈ sg.cps.toList, c ≠ 45) ∧ SameB p H H' ∧ Ur H' p (n + j) ∧ TupO H' m (ms.map V.str) ∧ TupO H' t ((takenOf rows ms).map V.str))
        ⟨"", none, rfl, ⟨rfl, (fun c hc => absurd hc List.not_mem_nil)⟩, (fun ⟨_, h, _⟩ => absurd h (Nat.not_lt_zero _)), .of s1, u.same s1, hM1, hT⟩ (fun j σ H' _ ⟨_, _, _, _, _, _, _, e, _⟩ => e.sqt) ?_ ?_⟩
      · rintro j x σ H' hx ⟨sg, v, rfl, ok, nm, sb, u2, hM2, hT2⟩
        rw [List.getElem?_map] at hx
        obtain ⟨z, hz, rfl⟩ := Option.map_eq_some_iff.mp hx
        have jl : j < ms.length := (List.getElem?_eq_some_iff.mp hz).1
        obtain ⟨x2, y2, c2, hp2, _⟩ := id u2
        have len : sg.length = j := by rw [len_cps]; exact ok.1
        refine ⟨_, rfl, _, rfl, p, 3, _, rfl, u2, by omega, by decide, by decide, fun d H3 d0 d3 sb3 u3 => ?_⟩
        have hM3 := hM2.sb sb3 nmp
        have hT3 := hT2.sb sb3 (hT2.ne hp2 (by intro o q; cases q))
        have fin : ∀ c, isMk c = true → (z ∈ takenOf rows ms → c ≠ 45) → ∃ (sg' : Str) (v : Option V), [some (.ref p), some (.ref m), some (.ref l), some (.ref t), some (.str (sg ++ (⟨#[c]⟩ : Str))), some (V.str z)] = [some (.ref p), some (.ref m), some (.ref l), some (.ref t), some (.str sg'), v] ∧ MksOk sg' (j + 1) ∧ ((∃ i, i < j + 1 ∧ ∃ z, ms[i]? = some z ∧ z ∈ takenOf rows ms) → ∃ c ∈ sg'.cps.toList, c ≠ 45) ∧ SameB p H H3 ∧ Ur H3 p (n + (j + 1)) ∧ TupO H3 m (ms.map V.str) ∧ TupO H3 t ((takenOf rows ms).map V.str) := fun c hc hn => ⟨_, _, rfl, ok.snoc hc, (fun ⟨i, hi, y, hy, ty⟩ => by
          rw [cps_app]
          by_cases e : i < j
          · obtain ⟨c', h1, h2⟩ := nm ⟨i, e, y, hy, ty⟩
            exact ⟨c', List.mem_append_left _ h1, h2⟩
          · obtain rfl : i = j := by omega
            obtain rfl : z = y := Option.some.inj (hz.symm.trans hy)
            exact ⟨c, List.mem_append_right _ (by rw [one_cps]; exact List.mem_cons_self), hn ty⟩), sb.trans sb3, u3, hM3, hT3⟩
        refine ⟨rfl, _, rfl, ite2 (fun c => ?_) (fun c => ?_)⟩
        · exact ⟨sg, _, rfl, rfl, le_line (by show sg.length + 1 ≤ _; omega), fin 63 rfl fun _ => by decide⟩
        · refine ⟨_, rfl, _, rfl, t, _, rfl, .inr hT3.sqt, rfl, flat_strs _, _, rfl, ite2 (fun c => ?_) (fun c => ?_)⟩
          · exact ⟨sg, _, rfl, rfl, le_line (by show sg.length + 1 ≤ _; omega), fin 43 rfl fun _ => by decide⟩
          · exact ⟨sg, _, rfl, rfl, le_line (by show sg.length + 1 ≤ _; omega), fin 45 rfl fun h => absurd (by rw [inV_strs]; exact decide_eq_true h) c⟩
      · rintro σ H' ⟨sg, v, rfl, ok, nm, sb, u2, hM2, hT2⟩
        rw [List.length_map] at ok u2 nm
        exact ⟨_, rfl, k sg H' ⟨ok, nm (taken_some ro.ne fun r hr => by
          obtain ⟨z, hz⟩ := List.exists_mem_of_ne_nil _ ne
          exact ⟨z, (ro.ok r hr).2.subset (sub.subset hz), hz⟩)⟩ sb (u2.mono (by omega))⟩
theorem ok_l_any_marks (T : Tx K mg w) : FnOk P w K mg base CX0 2 T.a_l_any_marks T.fd_l_any_marks ["_law_pot_here", "_law_menu_here"] (spAnyMarks K) := by
  refine T.F_l_any_marks.ok sc_l_any_marks (fun vs H Q E h => ?_) (fun cdv A outer s H vs Q E hr h => ?_)
  · obtain ⟨p, m, n, ms, rfl, _⟩ := h
    rfl
  · obtain ⟨p, m, n, ms, rfl, u, hn, hM, mle, ne, k⟩ := h
    refine ⟨_, (pss_cons (ps_set (i := 2) sc_l_any_marks.nd rfl (Or.inl rfl) pe_str)
      (pss_cons (ps_for PassesOwn.never rfl (pi_tup (pv 1)) (pg_name (i := 3) sc_l_any_marks.nd rfl (Or.inl rfl))
        (pss_one (ps_set (i := 2) sc_l_any_marks.nd rfl (Or.inl rfl) (pe_op op_add_str (pv 2) (pe_ix ix_str pe_str (pe_call (ok_l_draw T) (hr.mono (by decide)) rfl T.g_l_draw T.F_l_draw.kp T.b_l_draw .nil pass0 (pa_cons (pv 0) (pa_cons pe_int pa_nil))) (fun _ _ => rfl))))))
      (pss_one (ps_ret (pe_ifExp (PW.pt (pw_or (pt_cmpR op_in_sign pe_str (pv 2) (by rfl)) (pw_or1 (pt_cmpR op_in_sign pe_str (pv 2) (by rfl))))) (pv 2) (pe_op op_add_str (pe_slice sl_str (pv 2) (po_some pe_int) po_none) pe_str)))))), ?_⟩
    refine ⟨_, rfl, m, rfl, ⟨_, hM.sqt⟩, for_tup (K := K) (a := m) (xs := ms.map V.str) (fun j σ H' => ∃ (sg : Str) (v : Option V), σ = [some (.ref p), some (.ref m), some (.str sg), v] ∧ MksOk sg j ∧ SameB p H H' ∧ Ur H' p (n + j) ∧ TupO H' m (ms.map V.str))
      ⟨"", none, rfl, ⟨rfl, (fun c hc => absurd hc List.not_mem_nil)⟩, SameB.refl p H, u, hM⟩ (fun j σ H' _ ⟨_, _, _, _, _, _, e⟩ => e.sqt) ?_ ?_⟩
    · rintro j x σ H' hx ⟨sg, v, rfl, ok, sb, u2, hM2⟩
      rw [List.getElem?_map] at hx
      obtain ⟨z, hz, rfl⟩ := Option.map_eq_some_iff.mp hx
      have jl : j < ms.length := (List.getElem?_eq_some_iff.mp hz).1
      obtain ⟨x2, y2, c2, hp2, _⟩ := id u2
      have len : sg.length = j := by rw [len_cps]; exact ok.1
      refine ⟨_, rfl, _, rfl, p, 3, _, rfl, u2, by omega, by decide, by decide, fun d H3 d0 d3 sb3 u3 => ?_⟩
      obtain ⟨e, rfl⟩ : ∃ f : Nat, d = f := ⟨d.toNat, by omega⟩
      have h3 : e < 3 := by omega
      have hs : isMk (("+-?" : Str).cps.toList.getD e 0) = true := mk_ok e h3
      have hat : ("+-?" : Str).cps.toList[e]? = some (("+-?" : Str).cps.toList.getD e 0) := by
        rw [List.getD_eq_getElem?_getD, List.getElem?_eq_getElem (by rw [show ("+-?" : Str).cps.toList.length = 3 by decide +kernel]; exact h3)]
        rfl
      refine ⟨"+-?", e, _, rfl, rfl, (by decide +kernel), atI_nat hat, sg, _, rfl, rfl, le_line (by rw [one_len]; omega), ?_⟩
      exact ⟨_, _, rfl, ok.snoc hs, sb.trans sb3, u3, hM2.sb sb3 (hM2.ne hp2 (by intro o q; cases q))⟩
    · rintro σ H' ⟨sg, v, rfl, ok, sb, u2, hM2⟩
      rw [List.length_map] at ok u2
      have u2 := u2.mono (m := n + 10) (by omega)
      have len : sg.length ≤ 10 := by rw [len_cps, ok.1]; exact mle
      refine ⟨_, rfl, 43, sg, rfl, rfl, _, rfl, ite2 (fun c => iteT ?_) (fun c => ?_)⟩
      · exact ⟨_, rfl, k sg H' ⟨ok, 43, by simpa using c, by decide⟩ sb u2⟩
      · refine ⟨_, rfl, 63, sg, rfl, rfl, _, rfl, ite2 (fun c => ?_) (fun c => ?_)⟩
        · exact ⟨_, rfl, k sg H' ⟨ok, 63, by simpa using c, by decide⟩ sb u2⟩
        · refine ⟨_, rfl, 1, rfl, sg, rfl, le_line (by omega), ?_⟩
          have ok1 : MksOk (cutS sg (some ((1 : Nat) : Int)) none) (ms.length - 1) := ⟨by rw [cut_behind, List.length_drop, ok.1], fun c hc => ok.2 c (by rw [cut_behind] at hc; exact List.mem_of_mem_drop hc)⟩
          have l0 : 0 < ms.length := List.length_pos_iff.mpr ne
          have ok2 := ok1.snoc (c := 43) rfl
          rw [show ms.length - 1 + 1 = ms.length by omega] at ok2
          have len2 : (cutS sg (some ((1 : Nat) : Int)) none).length ≤ 10 := by rw [len_cps, ok1.1]; omega
          exact ⟨_, _, rfl, rfl, le_line (by show (cutS sg (some ((1 : Nat) : Int)) none).length + 1 ≤ _; omega), k _ H' ⟨ok2, 43, by rw [cps_app]; exact List.mem_append_right _ (List.mem_cons_self : (43 : Nat) ∈ [43]), by decide⟩ sb u2⟩
end
end MH
namespace MH
open PySem PySem.Spec PyProof.Rows L2
/-- looks: pairs of a menu and its signs -/
def LkAt (H : Hp) (L : Addr) (qs : List Addr) (lks : List (List Str × Str)) : Prop := H L = some (.lst (qs.map V.ref)) ∧ qs.length = lks.length ∧
  ∀ (j : Nat) (q : Addr) (k : List Str × Str), qs[j]? = some q → lks[j]? = some k → ∃ m, TupO H q [.ref m, .str k.2] ∧ TupO H m (k.1.map V.str)
theorem LkAt.same {H H' : Hp} {L : Addr} {qs : List Addr} {lks : List (List Str × Str)} (h : LkAt H L qs lks) (s : Same H H') : LkAt H' L qs lks :=
  ⟨s _ _ h.1, h.2.1, fun j q k h1 h2 => let ⟨m, a, b⟩ := h.2.2 j q k h1 h2; ⟨m, a.same s, b.same s⟩⟩
theorem LkAt.but {H H' : Hp} {p L : Addr} {qs : List Addr} {lks : List (List Str × Str)} {zs : List V} (h : LkAt H L qs lks) (s : SameB p H H') (hp : H p = some (.lst zs)) (n : L ≠ p) : LkAt H' L qs lks :=
  ⟨s _ _ n h.1, h.2.1, fun j q k h1 h2 => let ⟨m, a, b⟩ := h.2.2 j q k h1 h2; ⟨m, a.sb s (a.ne hp (by intro o q; cases q)), b.sb s (b.ne hp (by intro o q; cases q))⟩⟩
theorem LkAt.snoc {H : Hp} {L u m : Addr} {qs : List Addr} {lks : List (List Str × Str)} {k : List Str × Str} (h : LkAt H L qs lks) (hu : TupO H u [.ref m, .str k.2]) (hm : TupO H m (k.1.map V.str)) : LkAt (upd H L (.lst (qs.map V.ref ++ [V.ref u]))) L (qs ++ [u]) (lks ++ [k]) := by
  have keep : ∀ {b : Addr} {xs : List V}, TupO H b xs → TupO (upd H L (.lst (qs.map V.ref ++ [V.ref u]))) b xs := fun {b xs} e => e.up h.1 (by intro o q; cases q)
  refine ⟨?_, ?_, fun j t q h1 h2 => ?_⟩
  · rw [upd_same, List.map_append]
    rfl
  · rw [List.length_append, List.length_append, h.2.1]
    rfl
  · by_cases c : j < qs.length
    · rw [List.getElem?_append_left c] at h1
      rw [List.getElem?_append_left (by rw [← h.2.1]; exact c)] at h2
      obtain ⟨m', a, b⟩ := h.2.2 j t q h1 h2
      exact ⟨m', keep a, keep b⟩
    · rw [List.getElem?_append_right (by omega)] at h1
      rw [List.getElem?_append_right (by rw [← h.2.1]; omega), ← h.2.1] at h2
      have ej : j - qs.length = 0 := by
        cases e : j - qs.length with
        | zero => rfl
        | succ n =>
          rw [e] at h1
          cases h1
      rw [ej] at h1 h2
      obtain rfl : u = t := Option.some.inj h1
      obtain rfl : k = q := Option.some.inj h2
      exact ⟨m, keep hu, keep hm⟩
/-- looks at menus of these things -/
def LksOk (th : List Str) (lks : List (List Str × Str)) : Prop := ∀ k ∈ lks, k.1.Sublist th ∧ k.1 ≠ [] ∧ MkOk k.2 k.1.length
def spLooksJ (K : PySem.W.Frag) : Sp := fun vs H Q _ => ∃ (p t l : Addr) (n : Nat) (th : List Str) (ts : List Addr) (rows : List (List Str)) (m : Int), vs = [.ref p, .ref t, .ref l, .int m] ∧ Ur H p n ∧ n ≤ 500000000 ∧ TupO H t (th.map V.str) ∧ th ≠ [] ∧ th.length ≤ 10 ∧ RowsAt H l ts rows ∧ RowsOk th rows ∧ 0 ≤ m ∧ m ≤ 12 ∧
  ∀ (L : Addr) (qs : List Addr) (lks : List (List Str × Str)) (H' : Hp), SameB p H H' → Ur H' p (n + 400) → LkAt H' L qs lks → LksOk th lks → lks.length ≤ m.toNat → Q (.ref L) H'
section
variable {P : Program} {w : World} {K : PySem.W.Frag} {mg : Str → Option Value} {base : Heap}
theorem ok_l_looks (T : Tx K mg w) : FnOk P w K mg base CX0 3 T.a_l_looks T.fd_l_looks ["_law_pot_here", "_law_things_here", "_law_rows_here", "_law_most"] (spLooksJ K) := by
  refine T.F_l_looks.ok sc_l_looks (fun vs H Q E h => ?_) (fun cdv A outer s H vs Q E hr h => ?_)
  · obtain ⟨p, t, l, n, th, ts, rows, m, rfl, _⟩ := h
    rfl
  · obtain ⟨p, t, l, n, th, ts, rows, m, rfl, u, hn, hT, ne, le, ra, ro, m0, m12, k⟩ := h
    refine ⟨_, (pss_cons (ps_set (i := 4) sc_l_looks.nd rfl (Or.inl rfl) (pe_lst pa_nil))
      (pss_cons (ps_for PassesOwn.never rfl (pi_range1 (by rfl) T.n_range (pa_cons (pe_call (ok_l_draw T) (hr.mono (by decide)) rfl T.g_l_draw T.F_l_draw.kp T.b_l_draw .nil pass0 (pa_cons (pv 0) (pa_cons (pe_op op_add (pv 3) pe_int) pa_nil))) pa_nil)) (pg_name (i := 5) sc_l_looks.nd rfl (Or.inl rfl))
        (pss_cons (ps_par (i := 6) (j := 7) rfl sc_l_looks.nd rfl rfl (by decide) rfl rfl (pa_cons (pe_call (ok_l_menu T) (hr.mono (by decide)) rfl T.g_l_menu T.F_l_menu.kp T.b_l_menu .nil pass0 (pa_cons (pv 0) (pa_cons (pv 1) pa_nil))) (pa_cons (pe_cmpR op_gt (pe_call (ok_l_draw T) (hr.mono (by decide)) rfl T.g_l_draw T.F_l_draw.kp T.b_l_draw .nil pass0 (pa_cons (pv 0) (pa_cons pe_int pa_nil))) pe_int (nomark _)) pa_nil)) (by rfl))
      (pss_one (ps_expr (pe_bm PySem.F.plainAttrs_list PySem.F.slot_list_append PySem.F.type_list_append mt_append (pv 4) (pa_cons (pe_tupF (pa_cons (pv 6) (pa_cons (pe_ifExp (pt_val (pv 7)) (pe_call (ok_l_seen T) (hr.mono (by decide)) rfl T.g_l_seen T.F_l_seen.kp T.b_l_seen .nil pass0 (pa_cons (pv 0) (pa_cons (pv 6) (pa_cons (pv 2) pa_nil)))) (pe_call (ok_l_any_marks T) (hr.mono (by decide)) rfl T.g_l_any_marks T.F_l_any_marks.kp T.b_l_any_marks .nil pass0 (pa_cons (pv 0) (pa_cons (pv 6) pa_nil)))) pa_nil))) pa_nil))))))
      (pss_one (ps_ret (pv 4))))), ?_⟩
    obtain ⟨x0, y0, c0, hp0, _⟩ := id u
    have ntp : t ≠ p := hT.ne hp0 (by intro o q; cases q)
    refine ⟨Nat.zero_le _, fun L nL => ?_⟩
    have nLp : L ≠ p := u.ne nL
    have nlp : l ≠ p := fun e => by
      have h1 := ra.1
      rw [e, hp0] at h1
      have q := HO.lst.inj (Option.some.inj h1)
      cases ts with
      | nil => cases q
      | cons a r => cases q
    have nLl : L ≠ l := (ne_of_none ra.1 nL).symm
    have s0 : Same H (upd H L (.lst [])) := Same.new nL
    have lk0 : LkAt (upd H L (.lst [])) L [] [] := ⟨upd_same, rfl, fun j q k h1 h2 => nomatch h1⟩
    have u0 := u.same s0
    have ra0 := ra.same s0
    have hT0 := hT.same s0
    generalize upd H L (.lst []) = H0 at s0 lk0 u0 ra0 hT0 ⊢
    refine ⟨_, rfl, _, rfl, _, _, rfl, rfl, p, _, n, rfl, u0, by omega, by omega, by omega, fun d H1 d0 d1 sb1 u1 => ⟨_, rfl, by omega, by omega, ?_⟩⟩
    obtain ⟨x1, y1, c1, hp1, _⟩ := id u0
    refine for_range (lo := 0) (n := d.toNat) (fun i σ H' => ∃ (qs : List Addr) (lks : List (List Str × Str)) (v5 v6 v7 : Option V), σ = [some (.ref p), some (.ref t), some (.ref l), some (.int m), some (.ref L), v5, v6, v7] ∧ LkAt H' L qs lks ∧ LksOk th lks ∧ lks.length = i ∧ SameB p H H' ∧ Ur H' p (n + 1 + 30 * i) ∧ RowsAt H' l ts rows ∧ TupO H' t (th.map V.str))
      ⟨[], [], none, none, none, rfl, lk0.but sb1 hp1 nLp, (fun k hk => absurd hk List.not_mem_nil), rfl, (SameB.of s0).trans sb1, u1, ra0.but sb1 hp1 nlp, hT0.sb sb1 ntp⟩ ?_ ?_
    · rintro i σ H2 hi ⟨qs, lks, v5, v6, v7, rfl, lk, lo, hl, sb2, u2, ra2, hT2⟩
      obtain ⟨x2, y2, c2, hp2, _⟩ := id u2
      refine ⟨_, rfl, _, rfl, p, t, _, th, rfl, u2, by omega, hT2, ne, le, fun ms a H3 sub mne sb3 u3 ha => ?_⟩
      have lk3 := lk.but sb3 hp2 nLp
      have ra3 := ra2.but sb3 hp2 nlp
      have hT3 := hT2.sb sb3 ntp
      obtain ⟨x3, y3, c3, hp3, _⟩ := id u3
      have nap : a ≠ p := ha.ne hp3 (by intro o q; cases q)
      refine ⟨_, rfl, p, 6, _, rfl, u3, by omega, by decide, by decide, fun e H4 e0 e6 sb4 u4 => ?_⟩
      have lk4 := lk3.but sb4 hp3 nLp
      have ra4 := ra3.but sb4 hp3 nlp
      have hT4 := hT3.sb sb4 ntp
      have ha4 := ha.sb sb4 nap
      obtain ⟨x4, y4, c4, hp4, _⟩ := id u4
      refine ⟨_, _, rfl, rfl, _, _, rfl, ?_⟩
      have fin5 : ∀ (q : Addr) (H6 : Hp) {sg : Str}, SameB p H4 H6 → Ur H6 p (n + 1 + 30 * i + 12 + 1 + 10) → LkAt H6 L qs lks → LkAt (upd H6 L (.lst (qs.map V.ref ++ [V.ref q]))) L (qs ++ [q]) (lks ++ [(ms, sg)]) → MkOk sg ms.length → RowsAt H6 l ts rows → TupO H6 t (th.map V.str) →
          ∃ (qs' : List Addr) (lks' : List (List Str × Str)) (w5 w6 w7 : Option V), [some (V.ref p), some (.ref t), some (.ref l), some (.int m), some (.ref L), some (.int (0 + (i : Nat))), some (.ref a), some (.bl (decide (0 < e)))] = [some (.ref p), some (.ref t), some (.ref l), some (.int m), some (.ref L), w5, w6, w7] ∧ LkAt (upd H6 L (.lst (qs.map V.ref ++ [V.ref q]))) L qs' lks' ∧ LksOk th lks' ∧ lks'.length = i + 1 ∧ SameB p H (upd H6 L (.lst (qs.map V.ref ++ [V.ref q]))) ∧ Ur (upd H6 L (.lst (qs.map V.ref ++ [V.ref q]))) p (n + 1 + 30 * (i + 1)) ∧ RowsAt (upd H6 L (.lst (qs.map V.ref ++ [V.ref q]))) l ts rows ∧ TupO (upd H6 L (.lst (qs.map V.ref ++ [V.ref q]))) t (th.map V.str) := by
        intro q H6 sg sb6 u6 lk6 lk7 ok ra6 hT6
        refine ⟨_, _, _, _, _, rfl, lk7, fun k hk => ?_, by rw [List.length_append, hl]; rfl, fun b o nb e => ?_, ?_, ra6.but ((SameB.refl L H6).put) lk6.1 nLl.symm, hT6.up lk6.1 (by intro o q; cases q)⟩
        · rcases List.mem_append.mp hk with mk | mk
          · exact lo k mk
          · rw [List.mem_singleton.mp mk]
            exact ⟨sub, mne, ok⟩
        · rw [upd_ne (ne_of_none e nL)]
          exact sb6 _ _ nb (sb4 _ _ nb (sb3 _ _ nb (sb2 _ _ nb e)))
        · refine (Ur.put u6 lk6.1 (fun x y z q => ?_)).mono (by omega)
          have q := HO.lst.inj q
          cases qs with
          | nil => cases q
          | cons a r => cases q
      refine ⟨_, rfl, .inl ⟨rfl, _, lst_of lk4.1⟩, _, rfl, _, rfl, _, rfl, ite2 (fun c => ?_) (fun c => ?_)⟩
      · refine ⟨_, rfl, _, rfl, _, rfl, p, a, l, _, ms, th, ts, rows, rfl, u4, by omega, ha4, ra4, ro, sub, mne, fun sg H5 ok sb5 u5 => ?_⟩
        · refine ⟨(by show 2 ≤ sizeLine; decide), fun q oq nq dq => ?_⟩
          have lk6 := (lk4.but sb5 hp4 nLp).same (Same.new nq (o := .frz oq (.tup [.ref a, .str sg])))
          have hq : TupO (upd H5 q (.frz oq (.tup [.ref a, .str sg]))) q [.ref a, .str sg] := tupO_new dq
          have ha6 := (ha4.sb sb5 nap).upN nq (v := .frz oq (.tup [.ref a, .str sg]))
          have e6 := lk6.1
          refine ⟨L, _, _, rfl, rfl, e6, lt_line (by rw [List.length_map, lk6.2.1]; omega), ?_⟩
          exact fin5 q _ (sb5.new nq) (u5.same (Same.new nq)) lk6 (lk6.snoc (k := (ms, sg)) hq ha6) ok ((ra4.but sb5 hp4 nlp).same (Same.new nq)) ((hT4.sb sb5 ntp).upN nq)
      · refine ⟨_, rfl, _, rfl, p, a, _, ms, rfl, u4, by omega, ha4, (by have := sub.length_le; omega), mne, fun sg H5 ok sb5 u5 => ?_⟩
        · refine ⟨(by show 2 ≤ sizeLine; decide), fun q oq nq dq => ?_⟩
          have lk6 := (lk4.but sb5 hp4 nLp).same (Same.new nq (o := .frz oq (.tup [.ref a, .str sg])))
          have hq : TupO (upd H5 q (.frz oq (.tup [.ref a, .str sg]))) q [.ref a, .str sg] := tupO_new dq
          have ha6 := (ha4.sb sb5 nap).upN nq (v := .frz oq (.tup [.ref a, .str sg]))
          have e6 := lk6.1
          refine ⟨L, _, _, rfl, rfl, e6, lt_line (by rw [List.length_map, lk6.2.1]; omega), ?_⟩
          exact fin5 q _ (sb5.new nq) (u5.same (Same.new nq)) lk6 (lk6.snoc (k := (ms, sg)) hq ha6) ok ((ra4.but sb5 hp4 nlp).same (Same.new nq)) ((hT4.sb sb5 ntp).upN nq)
    · rintro σ H2 ⟨qs, lks, v5, v6, v7, rfl, lk, lo, hl, sb2, u2, ra2, hT2⟩
      exact ⟨_, rfl, k L qs lks H2 sb2 (u2.mono (by omega)) lk lo (by omega)⟩
end
end MH
namespace MH
open PySem PySem.Spec PyProof.Rows L2
/-- the names with their marks behind them -/
def markAt (ms : List Str) (sg : Str) (i : Nat) : Str := ms.getD i "" ++ ⟨#[sg.cps.toList.getD i 0]⟩
def lineOf (ms : List Str) (sg : Str) : Str := Txt.join " " ((List.range ms.length).map (markAt ms sg))
def spText (K : PySem.W.Frag) : Sp := fun vs H Q _ => ∃ (q t : Addr) (ms : List Str) (sg : Str), vs = [.ref q] ∧ SqT K H q [.ref t, .str sg] ∧ SqT K H t (ms.map V.str) ∧ ms.length ≤ 100 ∧ sg.cps.toList.length = ms.length ∧ (∀ z ∈ ms, z.length ≤ 100) ∧ ∀ H', Same H H' → Q (.str (lineOf ms sg)) H'
theorem ms_get {ms : List Str} {i : Nat} (hi : i < ms.length) : (ms.map V.str)[i]? = some (.str (ms.getD i "")) := by
  rw [List.getElem?_map, List.getD_eq_getElem?_getD, List.getElem?_eq_getElem hi]
  rfl
def sgn (c : Nat) : Str := ⟨#[c]⟩
theorem sgn_inj {a b : Nat} (h : sgn a = sgn b) : a = b := (List.cons.inj (congrArg (fun z : Str => z.cps.toList) h)).1
theorem dec_sgn (c d : Nat) : decide (V.str (⟨#[c]⟩ : Str) = V.str (sgn d)) = decide (c = d) := by
  rw [decide_eq_decide]
  constructor
  · intro e
    exact sgn_inj (V.str.inj e)
  · rintro rfl
    rfl
/-- the things of a look with this sign -/
def markedOf (ms : List Str) (sg : Str) (c : Nat) : List Str := ((List.range ms.length).filter fun j => decide (sg.cps.toList.getD j 0 = c)).map fun j => ms.getD j ""
def spMarked (K : PySem.W.Frag) : Sp := fun vs H Q _ => ∃ (q t : Addr) (ms : List Str) (sg : Str) (c : Nat), vs = [.ref q, .str (⟨#[c]⟩ : Str)] ∧ SqT K H q [.ref t, .str sg] ∧ SqT K H t (ms.map V.str) ∧ ms.length ≤ 100 ∧ sg.cps.toList.length = ms.length ∧
  ∀ (a : Addr) (H' : Hp), Same H H' → TupO H' a ((markedOf ms sg c).map V.str) → Q (.ref a) H'
section
variable {P : Program} {w : World} {K : PySem.W.Frag} {mg : Str → Option Value} {base : Heap}
theorem ok_l_look_text (T : Tx K mg w) : FnOk P w K mg base CX0 1 T.a_l_look_text T.fd_l_look_text ["_law_look"] (spText K) := by
  refine T.F_l_look_text.ok sc_l_look_text (fun vs H Q E h => ?_) (fun cdv A outer s H vs Q E hr h => ?_)
  · obtain ⟨q, t, ms, sg, rfl, _⟩ := h
    rfl
  · obtain ⟨q, t, ms, sg, rfl, hq, hT, hl, hsg, hms, k⟩ := h
    refine ⟨_, (pss_one (ps_ret (pe_join pe_str (pe_lc (own := [("_law_k", 1)]) (g := gName 1) (tt := tYes) rfl sc_l_look_text.nd (pi_range1 (by rfl) T.n_range (pa_cons (pe_callB call_len_seq (by rfl) T.n_len (by decide +kernel) (pa_cons (pe_ix ix_tup (pv 0) pe_int (fun _ _ => rfl)) pa_nil)) pa_nil)) (blkOk_by (own := [("_law_k", 1)]) (N := names_l_look_text) (sc := defScope st_l_look_text) (by decide +kernel)) (fun _ _ _ _ _ => pg_name (i := 1) sc_l_look_text.nd rfl (Or.inl rfl)) (fun _ _ _ _ _ => pts_nil) (fun _ _ _ _ _ => (pe_op op_add_str (pe_ix (r := rIxT K) ix_tup (pe_ix (r := rIxT K) ix_tup (pv 0) pe_int (fun _ _ => rfl)) (pv 1) (fun _ _ => rfl)) (pe_ix ix_str (pe_ix (r := rIxT K) ix_tup (pv 0) pe_int (fun _ _ => rfl)) (pv 1) (fun _ _ => rfl)))))))), ?_⟩
    have hl2 : (ms.map V.str).length = ms.length := List.length_map _
    refine ⟨⟨_, rfl⟩, _, rfl, q, _, 0, _, rfl, rfl, hq, rfl, t, _, rfl, .inr hT, _, rfl, ?_, ?_, fun D nD => lc_range (lo := 0) (n := _) (fun i H' => Same H H' ∧ H' D = some (.lst (((List.range i).map (markAt ms sg)).map V.str))) ⟨Same.new nD, upd_same⟩ ?_ ?_⟩
    · omega
    · omega
    · rintro i H1 hi ⟨s1, e1⟩
      have hi : i < ms.length := by omega
      refine ⟨rfl, ?_⟩
      rw [show (0 : Int) + (i : Int) = ((i : Nat) : Int) from Int.zero_add _]
      have g1 : (ms.map V.str)[i]? = some (.str (ms.getD i "")) := by
        rw [List.getElem?_map, List.getD_eq_getElem?_getD, List.getElem?_eq_getElem hi]
        rfl
      have g2 : sg.cps.toList[i]? = some (sg.cps.toList.getD i 0) := by
        rw [List.getD_eq_getElem?_getD, List.getElem?_eq_getElem (by omega)]
        rfl
      have g3 : (ms.getD i "").length ≤ 100 := by
        rw [List.getD_eq_getElem?_getD, List.getElem?_eq_getElem hi]
        exact hms _ (List.getElem_mem hi)
      refine ⟨_, rfl, q, _, 0, _, rfl, rfl, s1.sqt hq, rfl, _, rfl, t, _, _, _, rfl, rfl, s1.sqt hT, atI_nat g1, _, rfl, q, _, 1, _, rfl, rfl, s1.sqt hq, rfl, _, rfl, sg, i, _, rfl, rfl, ?_, atI_nat g2, _, _, rfl, rfl, le_line (by rw [one_len]; omega), ?_⟩
      · rw [len_cps, hsg]
        exact le_line (by omega)
      refine ⟨_, e1, lt_line (by rw [List.length_map, List.length_map, List.length_range]; omega), fun b o e => ?_, ?_⟩
      · rw [upd_ne (ne_of_none e nD)]
        exact s1 _ _ e
      · rw [upd_same, List.range_succ, List.map_append, List.map_append]
        rfl
    · rintro H1 ⟨s1, e1⟩
      have en : ((((ms.map V.str).length : Nat) : Int) - 0).toNat = ms.length := by omega
      refine ⟨" ", D, (List.range ms.length).map (markAt ms sg), rfl, rfl, .inl (lst_of ?_), ?_, k H1 s1⟩
      · rw [e1, show ((((ms.map V.str).length : Nat) : Int)).toNat = ms.length by omega]
      · have q := sum_le (n := 101) ((List.range ms.length).map (markAt ms sg)) fun z hz => by
          obtain ⟨i, hi, rfl⟩ := List.mem_map.mp hz
          have hi := List.mem_range.mp hi
          unfold markAt
          rw [len_app1, List.getD_eq_getElem?_getD, List.getElem?_eq_getElem hi]
          have := hms _ (List.getElem_mem hi)
          show (ms[i]).length + 1 ≤ 101
          omega
        rw [List.length_map, List.length_range] at q ⊢
        have e1 : (" " : Str).length = 1 := by decide +kernel
        rw [e1]
        omega
theorem ok_l_marked (T : Tx K mg w) : FnOk P w K mg base CX0 1 T.a_l_marked T.fd_l_marked ["_law_look", "_law_mark"] (spMarked K) := by
  refine T.F_l_marked.ok sc_l_marked (fun vs H Q E h => ?_) (fun cdv A outer s H vs Q E hr h => ?_)
  · obtain ⟨q, t, ms, sg, c, rfl, _⟩ := h
    rfl
  · obtain ⟨q, t, ms, sg, c, rfl, hq, hT, hle, hsg, k⟩ := h
    refine ⟨_, (pss_one (ps_ret (pe_callTy call_tupF (by rfl) T.n_tuple (by decide +kernel) (pa_cons (pe_lc (own := [("_law_k", 2)]) (g := gName 2) (tt := _) rfl sc_l_marked.nd (pi_range1 (by rfl) T.n_range (pa_cons (pe_callB call_len_seq (by rfl) T.n_len (by decide +kernel) (pa_cons (pe_ix ix_tup (pv 0) pe_int (fun _ _ => rfl)) pa_nil)) pa_nil)) (blkOk_by (own := [("_law_k", 2)]) (N := names_l_marked) (sc := defScope st_l_marked) (by decide +kernel)) (fun _ _ _ _ _ => pg_name (i := 2) sc_l_marked.nd rfl (Or.inl rfl)) (fun _ _ _ _ _ => pts_one (pt_cmpR op_eq (pe_ix ix_str (pe_ix (r := rIxT K) ix_tup (pv 0) pe_int (fun _ _ => rfl)) (pv 2) (fun _ _ => rfl)) (pv 1) (nomark _))) (fun _ _ _ _ _ => (pe_ix (r := rIxT K) ix_tup (pe_ix (r := rIxT K) ix_tup (pv 0) pe_int (fun _ _ => rfl)) (pv 2) (fun _ _ => rfl)))) pa_nil)))), ?_⟩
    have a0 : atI [V.ref t, V.str sg] 0 = some (V.ref t) := rfl
    have a1 : atI [V.ref t, V.str sg] 1 = some (V.str sg) := rfl
    refine ⟨_, rfl, q, _, _, _, rfl, rfl, hq, a0, t, _, rfl, .inr hT, _, rfl, by rw [List.length_map]; omega, by rw [List.length_map]; omega, fun D nD => lcf (n := ((((ms.map V.str).length : Nat) : Int)).toNat) (walk_range (lo := 0)) (List.range ms.length) (fun j => V.str (ms.getD j "")) (fun j => decide (sg.cps.toList.getD j 0 = c)) (by rw [List.length_range, List.length_map]; rfl) nD (by rw [List.length_map]; omega) (fun _ _ => trivial) (fun _ _ _ _ _ y => yfn_same y) (fun j u y H3 H4 hu s3 yy Z N hZ hN => ?_) (fun H3 s3 e3 => ?_)⟩
    · have ey : y = V.int ((j : Nat) : Int) := yy.2.trans (congrArg V.int (Int.zero_add _))
      obtain rfl := yy.1
      subst ey
      obtain ⟨hj, rfl⟩ : j < ms.length ∧ j = u := by
        obtain ⟨h, e⟩ := List.getElem?_eq_some_iff.mp hu
        rw [List.getElem_range] at e
        rw [List.length_range] at h
        exact ⟨h, e⟩
      have g : sg.cps.toList[j]? = some (sg.cps.toList.getD j 0) := by
        rw [List.getD_eq_getElem?_getD, List.getElem?_eq_getElem (by omega)]
        rfl
      refine ⟨rfl, _, rfl, q, _, _, _, rfl, rfl, s3.sqt hq, a1, _, rfl, sg, (j : Int), _, rfl, rfl, le_line (by rw [len_cps]; omega), atI_nat g, _, rfl, rfl, _, rfl, ?_⟩
      have ed : decide (V.str (⟨#[sg.cps.toList.getD j 0]⟩ : Str) = V.str (⟨#[c]⟩ : Str)) = decide (sg.cps.toList.getD j 0 = c) := dec_sgn _ c
      rw [ed]
      refine ite2 (fun c1 => ?_) (fun c1 => ?_)
      · exact ⟨_, rfl, q, _, _, _, rfl, rfl, s3.sqt hq, a0, _, rfl, t, _, _, _, rfl, rfl, s3.sqt hT, atI_nat (ms_get hj), hZ c1 _ (Same.refl _)⟩
      · exact hN (by simpa using c1) _ (Same.refl _)
    · refine ⟨D, _, rfl, .inl ⟨lst_of e3, fun a oa na oda => k a _ (s3.new' na) ?_⟩⟩
      unfold markedOf
      rw [List.map_map]
      exact tupO_new oda
end
end MH
namespace MH
open PySem PySem.Spec PyProof.Rows L2
theorem mem_ld (c : Nat) : decide (c ∈ (letters ++ digits).cps.toList) = (isL c || isD c) := by
  rw [cps_app]
  show decide (c ∈ letters.cps.toList ++ digits.cps.toList) = (decide (c ∈ letters.cps.toList) || decide (c ∈ digits.cps.toList))
  rw [Bool.eq_iff_iff]
  simp
theorem _root_.L2.SqT.ty {K : PySem.W.Frag} {H : Hp} {a : Addr} {xs : List V} (h : SqT K H a xs) : TyX K H (.ref a) (.type "tuple") := by
  rcases h with (h | ⟨o, h⟩) | ⟨o, its, n, h, c, _⟩
  · exact .base (.tup h)
  · exact .fTuple h
  · exact .kTuple h c
theorem ifT {c : Bool} {A B : Prop} (h : c = true) (a : A) : if c = true then A else B := by
  rw [if_pos h]
  exact a
theorem ifF {c : Bool} {A B : Prop} (h : c = false) (b : B) : if c = true then A else B := by
  rw [h, if_neg Bool.false_ne_true]
  exact b
def spIsName : Sp := fun vs H Q _ => ∃ z : Str, vs = [.str z] ∧ z.length ≤ 100000 ∧ ∀ H', Same H H' → Q (.bl (nameOk z)) H'
def spOneOf (K : PySem.W.Frag) : Sp := fun vs H Q _ => ∃ (z : Str) (t : Addr) (ss : List Str), vs = [.str z, .ref t] ∧ SqT K H t (ss.map V.str) ∧ Q (.bl (decide (z ∈ ss))) H
section
variable {P : Program} {w : World} {K : PySem.W.Frag} {mg : Str → Option Value} {base : Heap}
theorem ok_is_name (T : Tx K mg w) : FnOk P w K mg base CX0 1 T.a_is_name T.fd_is_name ["value"] spIsName := by
  refine T.F_is_name.ok sc_is_name (fun vs H Q E h => ?_) (fun cdv A outer s H vs Q E hr h => ?_)
  · obtain ⟨z, rfl, _⟩ := h
    rfl
  · obtain ⟨z, rfl, hz, k⟩ := h
    refine ⟨_, (pss_cons (ps_if (PW.pt (pw_or (pt_not (pt_val (pe_callB call_isi (by rfl) T.n_isinstance (by decide +kernel) (pa_cons (pv 0) (pa_cons (pe_bltn (v := .ty "str") (by rfl) T.n_str (by decide +kernel) rfl) pa_nil))))) (pw_or1 (pt_not (pt_chain op_le op_le pe_int (pe_callB call_len_str (by rfl) T.n_len (by decide +kernel) (pa_cons (pv 0) pa_nil)) (pe_glob (v := .int 8) rfl T.g_LONGEST_NAME.choose_spec ⟨_, rfl⟩))))))
        (pss_one (ps_ret pe_bl))
        pss_nil)
      (pss_one (ps_ret (pe_and (pe_cmpR op_in_sign (pe_ix ix_str (pv 0) pe_int (fun _ _ => rfl)) (pe_glob (v := .str "abcdefghijklmnopqrstuvwxyz") rfl T.g_LETTERS.choose_spec ⟨_, rfl⟩) (by rfl)) (pe_one (pe_callB (cr_all rfl) (by rfl) T.n_all (by decide +kernel) (pa_cons (pe_lc (own := [("sign", 1)]) (g := gName 1) (tt := tYes) rfl sc_is_name.nd (pi_str (pv 0)) (blkOk_by (own := [("sign", 1)]) (N := names_is_name) (sc := defScope st_is_name) (by decide +kernel)) (fun _ _ _ _ _ => pg_name (i := 1) sc_is_name.nd rfl (Or.inl rfl)) (fun _ _ _ _ _ => pts_nil) (fun _ _ _ _ _ => (pe_cmpR op_in_sign (pv 1) (pe_op op_add_str (pe_glob (v := .str "abcdefghijklmnopqrstuvwxyz") rfl T.g_LETTERS.choose_spec ⟨_, rfl⟩) (pe_glob (v := .str "0123456789") rfl T.g_DIGITS.choose_spec ⟨_, rfl⟩)) (by rfl)))) pa_nil))))))), ?_⟩
    refine ⟨_, rfl, _, _, _, _, true, rfl, .ty _, .base (.str z), kit_ty (by decide +kernel), true, rfl, iteF ?_⟩
    refine ⟨_, rfl, z, rfl, le_line hz, _, _, rfl, rfl, _, rfl, ?_⟩
    by_cases h1 : 1 ≤ z.length
    · refine ifT (decide_eq_true (show (1 : Int) ≤ (z.length : Nat) by omega)) ?_
      refine ⟨_, _, rfl, rfl, _, rfl, ?_⟩
      by_cases h2 : z.length ≤ 8
      · refine ifF (by simp; omega) ?_
        have hne : z.cps.toList ≠ [] := fun e => by
          have : z.cps.size = 0 := by rw [← Array.length_toList, e]; rfl
          have e2 : z.length = z.cps.size := rfl
          omega
        obtain ⟨c0, rest, ec⟩ : ∃ c r, z.cps.toList = c :: r := List.exists_cons_of_ne_nil hne
        have en : nameOk z = (isL c0 && z.cps.toList.all fun c => isL c || isD c) := by
          unfold nameOk
          rw [decide_eq_true h1, decide_eq_true h2, ec]
          rfl
        refine ⟨_, rfl, z, 0, c0, rfl, rfl, le_line hz, (by rw [ec]; exact atI_nat (j := 0) rfl), c0, letters, rfl, rfl, isL c0, rfl, ?_⟩
        cases hc : isL c0 with
        | false =>
          refine iteF ?_
          have z0 := k H (Same.refl H)
          rw [en, hc] at z0
          exact z0
        | true =>
          refine iteT ?_
          refine ⟨_, rfl, z, rfl, fun D nD => lc_it (w := walk_str) (fun i H' => Same H H' ∧ H' D = some (.lst ((z.cps.toList.take i).map fun c => V.bl (isL c || isD c)))) ⟨Same.new nD, upd_same⟩ (fun _ _ _ _ => trivial) ?_ ?_⟩
          · rintro i x H1 H2 hi ⟨s1, e1⟩ ⟨rfl, c, hc, rfl⟩
            refine ⟨rfl, ?_⟩
            have done : ∀ b : Bool, b = (isL c || isD c) → ∃ acc, H2 D = some (.lst acc) ∧ acc.length < sizeLine ∧ (Same H (upd H2 D (.lst (acc ++ [V.bl b]))) ∧ (upd H2 D (.lst (acc ++ [V.bl b]))) D = some (.lst ((z.cps.toList.take (i + 1)).map fun c => V.bl (isL c || isD c)))) := fun b hb => by
              refine ⟨_, e1, lt_line ?_, fun q o e => ?_, ?_⟩
              · have : z.cps.toList.length = z.length := rfl
                rw [List.length_map, List.length_take]
                omega
              · rw [upd_ne (ne_of_none e nD)]
                exact s1 _ _ e
              · rw [upd_same, hb]
                have g : z.cps.toList[i]? = some c := by
                  rw [Array.getElem?_toList]
                  exact hc
                rw [List.take_add_one, g, List.map_append]
                rfl
            exact ⟨_, rfl, letters, digits, rfl, rfl, (by decide +kernel), c, letters ++ digits, rfl, rfl, done _ (mem_ld c)⟩
          · rintro H1 ⟨s1, e1⟩
            refine ⟨D, z.cps.toList.map fun c => isL c || isD c, rfl, lst_of ?_, ?_⟩
            · have : z.cps.toList.length ≤ z.cps.size := Nat.le_refl _
              rw [e1, List.take_of_length_le this, List.map_map]
              rfl
            · have z0 := k H1 s1
              rw [en, hc] at z0
              have e3 : (z.cps.toList.map fun c => isL c || isD c).all id = z.cps.toList.all fun c => isL c || isD c := by
                rw [List.all_map]
                rfl
              rw [e3]
              exact z0
      · refine ifT (by simp; omega) ?_
        have z0 := k H (Same.refl H)
        have en : nameOk z = false := by
          unfold nameOk
          rw [decide_eq_false h2]
          simp
        rw [en] at z0
        exact z0
    · refine ifF (decide_eq_false (show ¬ (1 : Int) ≤ (z.length : Nat) by omega)) ?_
      refine ⟨_, rfl, iteT ?_⟩
      have z0 := k H (Same.refl H)
      have en : nameOk z = false := by
        unfold nameOk
        rw [decide_eq_false h1]
        rfl
      rw [en] at z0
      exact z0
theorem ok_is_one_of (T : Tx K mg w) : FnOk P w K mg base CX0 1 T.a_is_one_of T.fd_is_one_of ["value", "things"] (spOneOf K) := by
  refine T.F_is_one_of.ok sc_is_one_of (fun vs H Q E h => ?_) (fun cdv A outer s H vs Q E hr h => ?_)
  · obtain ⟨z, t, ss, rfl, _⟩ := h
    rfl
  · obtain ⟨z, t, ss, rfl, hT, k⟩ := h
    refine ⟨_, (pss_one (ps_ret (pe_and (pe_callB call_isi (by rfl) T.n_isinstance (by decide +kernel) (pa_cons (pv 0) (pa_cons (pe_bltn (v := .ty "str") (by rfl) T.n_str (by decide +kernel) rfl) pa_nil))) (pe_one (pe_cmpR op_in_seq (pv 0) (pv 1) (by rfl)))))), ?_⟩
    refine ⟨_, rfl, _, _, _, _, true, rfl, .ty _, .base (.str z), kit_ty (by decide +kernel), true, rfl, iteT ?_⟩
    refine ⟨_, rfl, _, rfl, t, _, rfl, .inr hT, rfl, flat_strs ss, ?_⟩
    show Q (.bl (inV (.str z) (ss.map V.str))) H
    rw [inV_strs]
    exact k
end
end MH
namespace MH
open PySem PySem.Spec PyProof.Rows L2
def spPart (K : PySem.W.Frag) : Sp := fun vs H Q _ => ∃ (a b : Addr) (xs ys : List Str), vs = [.ref a, .ref b] ∧ SqT K H a (xs.map V.str) ∧ xs.length ≤ 1000 ∧ SeqV K H b (ys.map V.str) ∧ ∀ H', Same H H' → Q (.bl (xs.all fun z => decide (z ∈ ys))) H'
def spBestJ (K : PySem.W.Frag) : Sp := fun vs H Q _ => ∃ (t m : Addr) (r ms : List Str), vs = [.ref t, .ref m] ∧ SqT K H t (r.map V.str) ∧ r.length ≤ 1000 ∧ SqT K H m (ms.map V.str) ∧ (∃ z ∈ r, z ∈ ms) ∧ ∀ H', Same H H' → Q (.str (bestOf ms r)) H'
theorem SeqV.same {K : PySem.W.Frag} {H H' : Hp} {a : Addr} {xs : List V} (h : SeqV K H a xs) (s : Same H H') : SeqV K H' a xs := h.elim (fun e => .inl (same_sql s e)) fun e => .inr (s.sqt e)
section
variable {P : Program} {w : World} {K : PySem.W.Frag} {mg : Str → Option Value} {base : Heap}
theorem ok_is_part (T : Tx K mg w) : FnOk P w K mg base CX0 1 T.a_is_part T.fd_is_part ["names", "others"] (spPart K) := by
  refine T.F_is_part.ok sc_is_part (fun vs H Q E h => ?_) (fun cdv A outer s H vs Q E hr h => ?_)
  · obtain ⟨a, b, xs, ys, rfl, _⟩ := h
    rfl
  · obtain ⟨a, b, xs, ys, rfl, ha, hl, hb, k⟩ := h
    refine ⟨_, (pss_one (ps_ret (pe_callB (cr_all rfl) (by rfl) T.n_all (by decide +kernel) (pa_cons (pe_lc (own := [("name", 2)]) (g := gName 2) (tt := tYes) rfl sc_is_part.nd (pi_tup (pv 0)) (blkOk_by (own := [("name", 2)]) (N := names_is_part) (sc := defScope st_is_part) (by decide +kernel)) (fun _ _ _ _ _ => pg_name (i := 2) sc_is_part.nd rfl (Or.inl rfl)) (fun _ _ _ _ _ => pts_nil) (fun _ _ _ _ _ => (pe_cmpR (r := rIn K false) op_in_seq (pv 2) (pv 1) (by rfl)))) pa_nil)))), ?_⟩
    refine ⟨_, rfl, a, rfl, ⟨_, ha⟩, fun D nD => lcv (walk_tup (K := K) (a := a) (xs := xs.map V.str)) xs (fun z => V.bl (decide (z ∈ ys))) (List.length_map _).symm nD (by rw [List.length_map]; omega) (fun H' s => s.sqt ha) (fun _ _ _ _ _ y => yat_same y) (fun i z x H1 H' hz s1 y Z hZ => ?_) (fun H1 s1 e1 => ?_)⟩
    · obtain ⟨rfl, hx⟩ := y
      rw [List.getElem?_map, hz] at hx
      obtain rfl : V.str z = x := Option.some.inj hx
      refine ⟨rfl, _, rfl, _, rfl, b, _, rfl, hb.same s1, rfl, flat_strs ys, ?_⟩
      rw [inV_strs]
      exact hZ _ (Same.refl _)
    · refine ⟨D, xs.map fun z => decide (z ∈ ys), rfl, lst_of ?_, ?_⟩
      · rw [e1, List.map_map]
        rfl
      · have z0 := k H1 s1
        rw [show (xs.map fun z => decide (z ∈ ys)).all id = xs.all fun z => decide (z ∈ ys) by rw [List.all_map]; rfl]
        exact z0
theorem ok_best (T : Tx K mg w) : FnOk P w K mg base CX0 1 T.a_best T.fd_best ["row", "menu"] (spBestJ K) := by
  refine T.F_best.ok sc_best (fun vs H Q E h => ?_) (fun cdv A outer s H vs Q E hr h => ?_)
  · obtain ⟨t, m, r, ms, rfl, _⟩ := h
    rfl
  · obtain ⟨t, m, r, ms, rfl, ht, hl, hm, ⟨z0, hz0, hzm⟩, k⟩ := h
    refine ⟨_, (pss_one (ps_ret (pe_ix ix_list (pe_lc (own := [("name", 2)]) (g := gName 2) (tt := tTest (tOp (rIn K false) (tVar 2) (tVar 1))) rfl sc_best.nd (pi_tup (pv 0)) (blkOk_by (own := [("name", 2)]) (N := names_best) (sc := defScope st_best) (by decide +kernel)) (fun _ _ _ _ _ => pg_name (i := 2) sc_best.nd rfl (Or.inl rfl)) (fun _ _ _ _ _ => pts_one (pt_cmpR op_in_seq (pv 2) (pv 1) (by rfl))) (fun _ _ _ _ _ => (pv 2))) pe_int (fun _ _ => rfl)))), ?_⟩
    obtain ⟨y0, yr, ef⟩ := List.exists_cons_of_ne_nil (l := r.filter fun z => decide (z ∈ ms)) (fun e => by
      have := List.filter_eq_nil_iff.mp e z0 hz0
      simp [hzm] at this)
    have e3 : bestOf ms r = y0 := by
      unfold bestOf
      rw [ef]
      rfl
    rw [e3] at k
    refine ⟨_, rfl, t, rfl, ⟨_, ht⟩, fun D nD => lcf (walk_tup (K := K) (a := t) (xs := r.map V.str)) r V.str (fun z => decide (z ∈ ms)) (List.length_map _).symm nD (by rw [List.length_map]; omega) (fun H' s => s.sqt ht) (fun _ _ _ _ _ y => yat_same y) (fun j z x H2 H3 hz s2 y Z N hZ hN => ?_) (fun H2 s2 e2 => ?_)⟩
    · obtain ⟨rfl, hx⟩ := y
      rw [List.getElem?_map, hz] at hx
      obtain rfl : V.str z = x := Option.some.inj hx
      refine ⟨rfl, _, rfl, _, rfl, m, _, rfl, .inr (s2.sqt hm), rfl, flat_strs ms, _, rfl, ?_⟩
      rw [inV_strs]
      exact ite2 (fun c => ⟨_, rfl, hZ (by simpa using c) _ (Same.refl _)⟩) (fun c => hN (by simpa using c) _ (Same.refl _))
    · rw [ef] at e2
      exact ⟨D, _, 0, .str y0, rfl, rfl, lst_of e2, atI_nat (j := 0) rfl, k _ s2⟩
end
end MH
namespace MH
open PySem PySem.Spec PyProof.Rows L2
theorem cut_from (xs : List V) (i : Nat) : cutV xs (some (i : Int)) none = xs.drop i := by
  unfold cutV
  rw [HT.sIx_none, HT.sIx_nat]
  rcases Nat.le_total i xs.length with h | h
  · rw [Nat.min_eq_left h, List.take_of_length_le]
    rw [List.length_drop]
    exact Nat.le_refl _
  · rw [Nat.min_eq_right h, Nat.sub_self, List.drop_of_length_le h]
    rfl
/-- a slice of a tuple: itself or a new one -/
theorem slA_of {K : PySem.W.Frag} {H : Hp} {a : Addr} {xs : List V} {lo hi : Option Int} {Q : VK} (h : SqT K H a xs) (k : ∀ p H', Same H H' → SqT K H' p (cutV xs lo hi) → Q (.ref p) H') : rSlA K (.ref a) lo hi H Q := by
  refine ⟨a, xs, rfl, h, fun ⟨e1, e2⟩ => ?_, fun _ p np => k p _ (Same.new np) (tup_of upd_same)⟩
  have e : cutV xs lo hi = xs := by
    unfold cutV
    rw [e1, e2, Nat.sub_zero, List.drop_zero, List.take_of_length_le (Nat.le_refl _)]
  exact k a H (Same.refl H) (by rw [e]; exact h)
def spAscend (K : PySem.W.Frag) : Sp := fun vs H Q _ => ∃ (t : Addr) (ss : List Str), vs = [.ref t] ∧ SqT K H t (ss.map V.str) ∧ ss.length ≤ 1000 ∧ ∀ H', Same H H' → Q (.bl ((ss.zip (ss.drop 1)).all fun x => decide (ltS x.1 x.2))) H'
section
variable {P : Program} {w : World} {K : PySem.W.Frag} {mg : Str → Option Value} {base : Heap}
theorem ok_is_ascending (T : Tx K mg w) : FnOk P w K mg base CX0 1 T.a_is_ascending T.fd_is_ascending ["row"] (spAscend K) := by
  refine T.F_is_ascending.ok sc_is_ascending (fun vs H Q E h => ?_) (fun cdv A outer s H vs Q E hr h => ?_)
  · obtain ⟨t, ss, rfl, _⟩ := h
    rfl
  · obtain ⟨t, ss, rfl, ht, hl, k⟩ := h
    refine ⟨_, (pss_one (ps_ret (pe_callB (cr_all rfl) (by rfl) T.n_all (by decide +kernel) (pa_cons (pe_lc (own := [("one", 1), ("other", 2)]) (g := gTup K 2 (gCons (gName 1) (gCons (gName 2) gNil))) (tt := tYes) rfl sc_is_ascending.nd (RZ.pi_zipA (by rfl) T.n_zip (pa_cons (pv 0) (pa_cons (pe_slice sl_tupA (pv 0) (po_some pe_int) po_none) pa_nil))) (blkOk_by (own := [("one", 1), ("other", 2)]) (N := names_is_ascending) (sc := defScope st_is_ascending) (by decide +kernel)) (fun _ _ _ _ _ => pg_tup rfl (pgs_cons (pg_name (i := 1) sc_is_ascending.nd rfl (Or.inl rfl)) (pgs_cons (pg_name (i := 2) sc_is_ascending.nd rfl (Or.inl rfl)) pgs_nil))) (fun _ _ _ _ _ => pts_nil) (fun _ _ _ _ _ => (pe_cmpR op_lt_str (pv 1) (pv 2) (nomark _)))) pa_nil)))), ?_⟩
    refine ⟨_, rfl, _, rfl, 1, rfl, ?_⟩
    dsimp only [tNoPart]
    refine slA_of (K := K) (lo := some 1) (hi := none) ht fun S H1 s1 hS => ?_
    rw [show (1 : Int) = ((1 : Nat) : Int) from rfl, cut_from, ← List.map_drop] at hS
    have ht1 := s1.sqt ht
    have lz : (ss.zip (ss.drop 1)).length = min (ss.map V.str).length ((ss.drop 1).map V.str).length := by rw [List.length_zip, List.length_map, List.length_map]
    refine ⟨t, S, _, _, rfl, .inr ⟨ht1, hS, fun D nD => lcv (walk_zipT (K := K) (a := t) (b := S) (xs := ss.map V.str) (ys := (ss.drop 1).map V.str) rfl) (ss.zip (ss.drop 1)) (fun x => V.bl (decide (ltS x.1 x.2))) lz nD (by rw [List.length_map]; omega) (fun H' s => ⟨s.sqt ht1, s.sqt hS⟩) (fun _ _ _ _ _ ⟨p, _, _, _, np, e, _, _⟩ => e ▸ Same.new np) (fun i u x H2 H3 hu s2 y Z hZ => ?_) (fun H2 s2 e2 => ?_)⟩⟩
    · obtain ⟨p, y1, y2, rfl, np, rfl, ee1, ee2⟩ := y
      obtain ⟨u1, u2⟩ := u
      obtain ⟨g1, g2⟩ : ss[i]? = some u1 ∧ (ss.drop 1)[i]? = some u2 := by
        have := List.getElem?_zip_eq_some.mp hu
        exact this
      have ee1 : (ss.map V.str)[i]? = some y1 := ee1
      have ee2 : ((ss.drop 1).map V.str)[i]? = some y2 := ee2
      rw [List.getElem?_map, g1] at ee1
      rw [List.getElem?_map, g2] at ee2
      obtain rfl : V.str u1 = y1 := Option.some.inj ee1
      obtain rfl : V.str u2 = y2 := Option.some.inj ee2
      refine ⟨p, _, rfl, tup_of upd_same, rfl, _, _, rfl, _, _, rfl, rfl, rfl, _, rfl, _, rfl, _, _, rfl, rfl, ?_⟩
      exact hZ _ (Same.refl _)
    · refine ⟨D, (ss.zip (ss.drop 1)).map fun x => decide (ltS x.1 x.2), rfl, lst_of ?_, ?_⟩
      · rw [e2, List.map_map]
        rfl
      · have z0 := k H2 (s1.trans s2)
        rw [show ((ss.zip (ss.drop 1)).map fun x => decide (ltS x.1 x.2)).all id = (ss.zip (ss.drop 1)).all fun x => decide (ltS x.1 x.2) by rw [List.all_map]; rfl]
        exact z0
end
end MH
namespace MH
open PySem PySem.Spec PyProof.Rows L2
def ascB (ss : List Str) : Bool := (ss.zip (ss.drop 1)).all fun x => decide (ltS x.1 x.2)
def setB (xs ss : List Str) : Bool := (xs.all fun z => decide (z ∈ ss)) && ascB xs
def spIsSet (K : PySem.W.Frag) : Sp := fun vs H Q _ => ∃ (a t : Addr) (xs ss : List Str), vs = [.ref a, .ref t] ∧ SqT K H a (xs.map V.str) ∧ xs.length ≤ 1000 ∧ SqT K H t (ss.map V.str) ∧ ∀ H', Same H H' → Q (.bl (setB xs ss)) H'
def spIsMenu (K : PySem.W.Frag) : Sp := fun vs H Q _ => ∃ (a t : Addr) (xs ss : List Str), vs = [.ref a, .ref t] ∧ SqT K H a (xs.map V.str) ∧ xs.length ≤ 1000 ∧ SqT K H t (ss.map V.str) ∧ ∀ H', Same H H' → Q (.bl (setB xs ss && decide (0 < xs.length))) H'
section
variable {P : Program} {w : World} {K : PySem.W.Frag} {mg : Str → Option Value} {base : Heap}
theorem ok_is_set (T : Tx K mg w) : FnOk P w K mg base CX0 2 T.a_is_set T.fd_is_set ["value", "things"] (spIsSet K) := by
  refine T.F_is_set.ok sc_is_set (fun vs H Q E h => ?_) (fun cdv A outer s H vs Q E hr h => ?_)
  · obtain ⟨a, t, xs, ss, rfl, _⟩ := h
    rfl
  · obtain ⟨a, t, xs, ss, rfl, ha, hl, ht, k⟩ := h
    refine ⟨_, (pss_one (ps_ret (pe_and (pe_callB call_isi (by rfl) T.n_isinstance (by decide +kernel) (pa_cons (pv 0) (pa_cons (pe_bltn (v := .ty "tuple") (by rfl) T.n_tuple (by decide +kernel) rfl) pa_nil))) (pe_and (pe_callB (cr_all rfl) (by rfl) T.n_all (by decide +kernel) (pa_cons (pe_lc (own := [("name", 2)]) (g := gName 2) (tt := tYes) rfl sc_is_set.nd (pi_tup (pv 0)) (blkOk_by (own := [("name", 2)]) (N := names_is_set) (sc := defScope st_is_set) (by decide +kernel)) (fun _ _ _ _ _ => pg_name (i := 2) sc_is_set.nd rfl (Or.inl rfl)) (fun _ _ _ _ _ => pts_nil) (fun _ _ _ _ _ => (pe_call (ok_is_one_of T) (hr.mono (by decide)) rfl T.g_is_one_of T.F_is_one_of.kp T.b_is_one_of .nil pass0 (pa_cons (pv 2) (pa_cons (pv 1) pa_nil))))) pa_nil)) (pe_one (pe_call (ok_is_ascending T) (hr.mono (by decide)) rfl T.g_is_ascending T.F_is_ascending.kp T.b_is_ascending .nil pass0 (pa_cons (pv 0) pa_nil))))))), ?_⟩
    refine ⟨_, rfl, _, _, _, _, true, rfl, .ty _, ha.ty, kit_ty (by decide +kernel), true, rfl, iteT ?_⟩
    refine ⟨_, rfl, a, rfl, ⟨_, ha⟩, fun D nD => lcv (walk_tup (K := K) (a := a) (xs := xs.map V.str)) xs (fun z => V.bl (decide (z ∈ ss))) (List.length_map _).symm nD (by rw [List.length_map]; omega) (fun H' s => s.sqt ha) (fun _ _ _ _ _ y => yat_same y) (fun i z x H1 H' hz s1 y Z hZ => ?_) (fun H1 s1 e1 => ?_)⟩
    · obtain ⟨rfl, hx⟩ := y
      rw [List.getElem?_map, hz] at hx
      obtain rfl : V.str z = x := Option.some.inj hx
      exact ⟨rfl, _, rfl, _, rfl, z, t, ss, rfl, s1.sqt ht, hZ _ (Same.refl _)⟩
    · refine ⟨D, xs.map fun z => decide (z ∈ ss), rfl, lst_of ?_, ?_⟩
      · rw [e1, List.map_map]
        rfl
      · have ea : (xs.map fun z => decide (z ∈ ss)).all id = xs.all fun z => decide (z ∈ ss) := by rw [List.all_map]; rfl
        rw [ea]
        refine ⟨_, rfl, ite2 (fun c => ?_) (fun c => ?_)⟩
        · refine ⟨_, rfl, a, xs, rfl, s1.sqt ha, hl, fun H2 s2 => ?_⟩
          have z0 := k H2 (s1.trans s2)
          unfold setB at z0
          rw [c, Bool.true_and] at z0
          exact z0
        · have z0 := k H1 s1
          unfold setB at z0
          rw [Bool.eq_false_iff.mpr c, Bool.false_and] at z0
          exact z0
theorem ok_is_menu (T : Tx K mg w) : FnOk P w K mg base CX0 3 T.a_is_menu T.fd_is_menu ["value", "things"] (spIsMenu K) := by
  refine T.F_is_menu.ok sc_is_menu (fun vs H Q E h => ?_) (fun cdv A outer s H vs Q E hr h => ?_)
  · obtain ⟨a, t, xs, ss, rfl, _⟩ := h
    rfl
  · obtain ⟨a, t, xs, ss, rfl, ha, hl, ht, k⟩ := h
    refine ⟨_, (pss_one (ps_ret (pe_and (pe_call (ok_is_set T) (hr.mono (by decide)) rfl T.g_is_set T.F_is_set.kp T.b_is_set .nil pass0 (pa_cons (pv 0) (pa_cons (pv 1) pa_nil))) (pe_one (pe_cmpR op_gt (pe_callB call_len_seq (by rfl) T.n_len (by decide +kernel) (pa_cons (pv 0) pa_nil)) pe_int (nomark _)))))), ?_⟩
    refine ⟨_, rfl, _, rfl, a, t, xs, ss, rfl, ha, hl, ht, fun H1 s1 => ?_⟩
    refine ⟨_, rfl, ite2 (fun c => ?_) (fun c => ?_)⟩
    · refine ⟨_, rfl, a, _, rfl, .inr (s1.sqt ha), _, _, rfl, rfl, ?_⟩
      have z0 := k H1 s1
      rw [c, Bool.true_and] at z0
      show Q (.bl (decide ((0 : Int) < ((xs.map V.str).length : Nat)))) H1
      rw [List.length_map, show decide ((0 : Int) < (xs.length : Nat)) = decide (0 < xs.length) by simp]
      exact z0
    · have z0 := k H1 s1
      rw [Bool.eq_false_iff.mpr c, Bool.false_and] at z0
      exact z0
end
end MH
namespace MH
open PySem PySem.Spec PyProof.Rows L2
/-- good things -/
def ThOk (th : List Str) : Prop := th ≠ [] ∧ th.length ≤ 10 ∧ (∀ z ∈ th, nameOk z = true) ∧ ascB th = true
def spAreThings (K : PySem.W.Frag) : Sp := fun vs H Q _ => ∃ (a : Addr) (th : List Str), vs = [.ref a] ∧ SqT K H a (th.map V.str) ∧ ThOk th ∧ ∀ H', Same H H' → Q (.bl true) H'
section
variable {P : Program} {w : World} {K : PySem.W.Frag} {mg : Str → Option Value} {base : Heap}
theorem ok_are_things (T : Tx K mg w) : FnOk P w K mg base CX0 2 T.a_are_things T.fd_are_things ["value"] (spAreThings K) := by
  refine T.F_are_things.ok sc_are_things (fun vs H Q E h => ?_) (fun cdv A outer s H vs Q E hr h => ?_)
  · obtain ⟨a, th, rfl, _⟩ := h
    rfl
  · obtain ⟨a, th, rfl, ha, ⟨ne, le, ok, asc⟩, k⟩ := h
    refine ⟨_, (pss_cons (ps_if (PW.pt (pw_or (pt_not (pt_val (pe_callB call_isi (by rfl) T.n_isinstance (by decide +kernel) (pa_cons (pv 0) (pa_cons (pe_bltn (v := .ty "tuple") (by rfl) T.n_tuple (by decide +kernel) rfl) pa_nil))))) (pw_or1 (pt_not (pt_chain op_le op_le pe_int (pe_callB call_len_seq (by rfl) T.n_len (by decide +kernel) (pa_cons (pv 0) pa_nil)) (pe_glob (v := .int 10) rfl T.g_MOST_THINGS.choose_spec ⟨_, rfl⟩))))))
        (pss_one (ps_ret pe_bl))
        pss_nil)
      (pss_one (ps_ret (pe_and (pe_callB (cr_all rfl) (by rfl) T.n_all (by decide +kernel) (pa_cons (pe_lc (own := [("name", 1)]) (g := gName 1) (tt := tYes) rfl sc_are_things.nd (pi_tup (pv 0)) (blkOk_by (own := [("name", 1)]) (N := names_are_things) (sc := defScope st_are_things) (by decide +kernel)) (fun _ _ _ _ _ => pg_name (i := 1) sc_are_things.nd rfl (Or.inl rfl)) (fun _ _ _ _ _ => pts_nil) (fun _ _ _ _ _ => (pe_call (ok_is_name T) (hr.mono (by decide)) rfl T.g_is_name T.F_is_name.kp T.b_is_name .nil pass0 (pa_cons (pv 1) pa_nil)))) pa_nil)) (pe_one (pe_call (ok_is_ascending T) (hr.mono (by decide)) rfl T.g_is_ascending T.F_is_ascending.kp T.b_is_ascending .nil pass0 (pa_cons (pv 0) pa_nil))))))), ?_⟩
    have l0 : 0 < th.length := List.length_pos_iff.mpr ne
    refine ⟨_, rfl, _, _, _, _, true, rfl, .ty _, ha.ty, kit_ty (by decide +kernel), true, rfl, iteF ?_⟩
    refine ⟨_, rfl, a, _, rfl, .inr ha, _, _, rfl, rfl, _, rfl, ?_⟩
    refine ifT (decide_eq_true (show (1 : Int) ≤ ((th.map V.str).length : Nat) by rw [List.length_map]; omega)) ?_
    refine ⟨_, _, rfl, rfl, _, rfl, ?_⟩
    refine ifF (by rw [List.length_map]; simp; omega) ?_
    refine ⟨_, rfl, a, rfl, ⟨_, ha⟩, fun D nD => lcv (walk_tup (K := K) (a := a) (xs := th.map V.str)) th (fun z => V.bl (nameOk z)) (List.length_map _).symm nD (by rw [List.length_map]; omega) (fun H' s => s.sqt ha) (fun _ _ _ _ _ y => yat_same y) (fun i z x H1 H' hz s1 y Z hZ => ?_) (fun H1 s1 e1 => ?_)⟩
    · obtain ⟨rfl, hx⟩ := y
      rw [List.getElem?_map, hz] at hx
      obtain rfl : V.str z = x := Option.some.inj hx
      have z8 := (nameOk_iff.mp (ok z (List.mem_of_getElem? hz))).2.1
      exact ⟨rfl, _, rfl, z, rfl, by omega, fun H2 s2 => hZ _ s2⟩
    · refine ⟨D, th.map nameOk, rfl, lst_of ?_, ?_⟩
      · rw [e1, List.map_map]
        rfl
      · have ea : (th.map nameOk).all id = true := by
          rw [List.all_map]
          exact List.all_eq_true.mpr fun z hz => ok z hz
        rw [ea]
        refine ⟨_, rfl, iteT ?_⟩
        refine ⟨_, rfl, a, th, rfl, s1.sqt ha, by omega, fun H2 s2 => ?_⟩
        have z0 := k H2 (s1.trans s2)
        rw [← asc] at z0
        exact z0
end
end MH
namespace MH
open PySem PySem.Spec PyProof.Rows L2
def hasB (rs : List (List Str)) (ms tk ps : List Str) : Bool := (tk.all fun z => decide (z ∈ rs.map (bestOf ms))) && !((rs.map (bestOf ms)).any fun z => decide (z ∈ ps))
def spHasJ (K : PySem.W.Frag) : Sp := fun vs H Q _ => ∃ (l k m t p : Addr) (ts : List Addr) (rs : List (List Str)) (ms tk ps : List Str), vs = [.ref l, .ref k] ∧ SqL K H l (ts.map V.ref) ∧ ts.length = rs.length ∧ rs.length ≤ 1000 ∧ (∀ (j : Nat) (t : Addr) (r : List Str), ts[j]? = some t → rs[j]? = some r → SqT K H t (r.map V.str)) ∧
  SqT K H k [.ref m, .ref t, .ref p] ∧ SqT K H m (ms.map V.str) ∧ SqT K H t (tk.map V.str) ∧ tk.length ≤ 1000 ∧ SqT K H p (ps.map V.str) ∧ (∀ r ∈ rs, r.length ≤ 1000 ∧ ∃ z ∈ r, z ∈ ms) ∧ ∀ H', Same H H' → Q (.bl (hasB rs ms tk ps)) H'
section
variable {P : Program} {w : World} {K : PySem.W.Frag} {mg : Str → Option Value} {base : Heap}
theorem ok_has (T : Tx K mg w) : FnOk P w K mg base CX0 2 T.a_has T.fd_has ["rows", "look"] (spHasJ K) := by
  refine T.F_has.ok sc_has (fun vs H Q E h => ?_) (fun cdv A outer s H vs Q E hr h => ?_)
  · obtain ⟨l, k, m, t, p, ts, rs, ms, tk, ps, rfl, _⟩ := h
    rfl
  · obtain ⟨l, k, m, t, p, ts, rs, ms, tk, ps, rfl, hl, hlen, hle, hr', hk, hm, ht, tl, hp, hb, q⟩ := h
    refine ⟨_, (pss_cons (ps_asg (pv 1) (pg_tup rfl (pgs_cons (pg_name (i := 2) sc_has.nd rfl (Or.inr rfl)) (pgs_cons (pg_name (i := 3) sc_has.nd rfl (Or.inl rfl)) (pgs_cons (pg_name (i := 4) sc_has.nd rfl (Or.inr rfl)) pgs_nil)))))
      (pss_cons (ps_setLc (i := 5) (own := [("row", 6)]) (g := gName 6) (tt := tYes) rfl sc_has.nd rfl rfl (sw_true rfl rfl rfl (by decide +kernel)) (pi_list (pv 0)) (blkOk_by (own := [("row", 6)]) (N := names_has) (sc := defScope st_has) (by decide +kernel)) (fun _ _ _ _ _ => pg_name (i := 6) sc_has.nd rfl (Or.inl rfl)) (fun _ _ _ _ _ => pts_nil) (fun _ _ _ _ _ => (pe_call (ok_best T) (hr.mono (by decide)) rfl T.g_best T.F_best.kp T.b_best .nil pass0 (pa_cons (pv 6) (pa_cons (pv 2) pa_nil)))))
      (pss_one (ps_ret (pe_and (pe_call (ok_is_part T) (hr.mono (by decide)) rfl T.g_is_part T.F_is_part.kp T.b_is_part .nil pass0 (pa_cons (pv 3) (pa_cons (pv 5) pa_nil))) (pe_one (pe_not (pe_callB (cr_any rfl) (by rfl) T.n_any (by decide +kernel) (pa_cons (pe_lc (own := [("thing", 7)]) (g := gName 7) (tt := tYes) rfl sc_has.nd (pi_list (pv 5)) (blkOk_by (own := [("thing", 7)]) (N := names_has) (sc := defScope st_has) (by decide +kernel)) (fun _ _ _ _ _ => pg_name (i := 7) sc_has.nd rfl (Or.inl rfl)) (fun _ _ _ _ _ => pts_nil) (fun _ _ _ _ _ => (pe_cmpR (r := rIn K false) op_in_seq (pv 7) (pv 4) (by rfl)))) pa_nil))))))))), ?_⟩
    refine ⟨_, rfl, k, _, rfl, hk, rfl, _, _, rfl, _, _, rfl, _, _, rfl, rfl, ?_⟩
    refine ⟨_, rfl, l, rfl, ⟨_, hl⟩, fun D nD => lcv (walk_list (K := K) (a := l) (xs := ts.map V.ref)) rs (fun r => V.str (bestOf ms r)) (by rw [List.length_map, hlen]) nD (by rw [List.length_map]; omega) (fun H' s => same_sql s hl) (fun _ _ _ _ _ y => yat_same y) (fun i r x H1 H' hr s1 y Z hZ => ?_) (fun H1 s1 e1 => ?_)⟩
    · obtain ⟨rfl, hx⟩ := y
      rw [List.getElem?_map] at hx
      obtain ⟨u, hj, rfl⟩ := Option.map_eq_some_iff.mp hx
      obtain ⟨rl, hz⟩ := hb r (List.mem_of_getElem? hr)
      exact ⟨rfl, _, rfl, _, rfl, u, m, r, ms, rfl, s1.sqt (hr' i u r hj hr), rl, s1.sqt hm, hz, fun H2 s2 => hZ _ s2⟩
    · rw [show (rs.map fun r => V.str (bestOf ms r)) = (rs.map (bestOf ms)).map V.str by rw [List.map_map]; rfl] at e1
      refine ⟨_, rfl, _, rfl, t, D, tk, rs.map (bestOf ms), rfl, s1.sqt ht, tl, .inl (lst_of e1), fun H2 s2 => ?_⟩
      refine ⟨_, rfl, ite2 (fun c => ?_) (fun c => ?_)⟩
      · have e2 := s2 _ _ e1
        have hp2 := (s1.trans s2).sqt hp
        refine ⟨_, rfl, D, rfl, ⟨_, lst_of e2⟩, fun D2 nD2 => lcv (walk_list (K := K) (a := D) (xs := (rs.map (bestOf ms)).map V.str)) (rs.map (bestOf ms)) (fun z => V.bl (decide (z ∈ ps))) (List.length_map _).symm nD2 (by rw [List.length_map, List.length_map]; omega) (fun H' s => lst_of (s _ _ e2)) (fun _ _ _ _ _ y => yat_same y) (fun i z x H3 H' hz s3 y Z hZ => ?_) (fun H3 s3 e3 => ?_)⟩
        · obtain ⟨rfl, hx⟩ := y
          rw [List.getElem?_map, hz] at hx
          obtain rfl : V.str z = x := Option.some.inj hx
          refine ⟨rfl, _, rfl, _, rfl, p, _, rfl, .inr (s3.sqt hp2), rfl, flat_strs ps, ?_⟩
          rw [inV_strs]
          exact hZ _ (Same.refl _)
        · have z0 := q H3 ((s1.trans s2).trans s3)
          unfold hasB at z0
          rw [c, Bool.true_and] at z0
          refine ⟨D2, (rs.map (bestOf ms)).map fun z => decide (z ∈ ps), rfl, lst_of ?_, _, rfl, ?_⟩
          · rw [e3, List.map_map, List.map_map, List.map_map]
            rfl
          · rw [show ((rs.map (bestOf ms)).map fun z => decide (z ∈ ps)).any id = (rs.map (bestOf ms)).any fun z => decide (z ∈ ps) by rw [List.any_map]; rfl]
            exact z0
      · have z0 := q H2 (s1.trans s2)
        unfold hasB at z0
        rw [Bool.eq_false_iff.mpr c, Bool.false_and] at z0
        exact z0
end
end MH
namespace MH
open PySem PySem.Spec PyProof.Rows L2
/-! ### texts and their parts -/
theorem pre32 (c : Nat) (r : List Nat) : TL.pre [32] (c :: r) = decide (c = 32) := by
  by_cases h : c = 32
  · subst h
    rw [decide_eq_true rfl]
    rfl
  · rw [decide_eq_false h]
    unfold TL.pre
    simp [h]
theorem spl32 : ∀ (l acc : List Nat), TL.joinL [32] (TL.spl [32] 0 acc l) = acc ++ l ∧ TL.spl [32] 0 acc l ≠ [] ∧ ∀ p ∈ TL.spl [32] 0 acc l, p.length ≤ acc.length + l.length ∧ ∀ x ∈ p, x ∈ acc ∨ x ∈ l
  | [], acc => by
    rw [TL.spl_nil]
    refine ⟨by rw [List.append_nil]; rfl, by simp, fun p hp => ?_⟩
    rw [List.mem_singleton.mp hp]
    exact ⟨by simp, fun x hx => .inl hx⟩
  | c :: r, acc => by
    by_cases h : c = 32
    · have e : TL.pre [32] (c :: r) = true := by rw [pre32, decide_eq_true h]
      rw [TL.spl_hit e]
      obtain ⟨h1, h2, h3⟩ := spl32 r []
      have e2 : ([32] : List Nat).length - 1 = 0 := rfl
      rw [e2]
      refine ⟨?_, by simp, fun p hp => ?_⟩
      · generalize TL.spl [32] 0 [] r = L at h1 h2 ⊢
        cases L with
        | nil => exact absurd rfl h2
        | cons q t =>
          show acc ++ ([32] ++ TL.joinL [32] (q :: t)) = _
          rw [h1, h]
          rfl
      · rcases List.mem_cons.mp hp with rfl | hp
        · exact ⟨by simp, fun x hx => .inl hx⟩
        · obtain ⟨a, b⟩ := h3 p hp
          refine ⟨?_, fun x hx => ?_⟩
          · simp only [List.length_nil, List.length_cons] at a ⊢
            omega
          · rcases b x hx with z | z
            · cases z
            · exact .inr (List.mem_cons_of_mem _ z)
    · have e : TL.pre [32] (c :: r) = false := by rw [pre32, decide_eq_false h]
      rw [TL.spl_miss e]
      obtain ⟨h1, h2, h3⟩ := spl32 r (acc ++ [c])
      refine ⟨by rw [h1, List.append_assoc]; rfl, h2, fun p hp => ?_⟩
      obtain ⟨a, b⟩ := h3 p hp
      refine ⟨?_, fun x hx => ?_⟩
      · rw [List.length_append] at a
        simp only [List.length_nil, List.length_cons] at a ⊢
        omega
      · rcases b x hx with z | z
        · rcases List.mem_append.mp z with z | z
          · exact .inl z
          · rw [List.mem_singleton.mp z]
            exact .inr List.mem_cons_self
        · exact .inr (List.mem_cons_of_mem _ z)
theorem blank_tl : TL.tl (" " : Str) = [32] := by decide +kernel
theorem splitB_tl (z : Str) : (Txt.split z " ").map TL.tl = TL.spl [32] 0 [] (TL.tl z) := by
  have q := TL.split_spl z (" " : Str) (by rw [blank_tl]; simp) (TL.kind_ok (by decide +kernel))
  rw [blank_tl] at q
  exact q
theorem splitB_ne (z : Str) : Txt.split z " " ≠ [] := fun e => by
  have q := splitB_tl z
  rw [e] at q
  exact (spl32 (TL.tl z) []).2.1 q.symm
theorem tl_inj {x y : Str} (h : TL.tl x = TL.tl y) : x = y := by
  have : [x].map TL.tl = [y].map TL.tl := by
    rw [List.map_singleton, List.map_singleton, h]
  have q := TL.map_tl_inj this
  exact (List.cons.inj q).1
theorem splitB_mem {z y : Str} (h : y ∈ Txt.split z " ") : y.length ≤ z.length ∧ ∀ c ∈ y.cps.toList, c ∈ z.cps.toList := by
  have m : TL.tl y ∈ TL.spl [32] 0 [] (TL.tl z) := by
    rw [← splitB_tl]
    exact List.mem_map_of_mem h
  obtain ⟨a, b⟩ := (spl32 (TL.tl z) []).2.2 _ m
  refine ⟨?_, fun c hc => ?_⟩
  · have e1 : (TL.tl y).length = y.length := TL.len_tl y
    have e2 : (TL.tl z).length = z.length := TL.len_tl z
    rw [e1, e2] at a
    simpa using a
  · rcases b c hc with q | q
    · cases q
    · exact q
theorem no_blank {z : Str} (h : nameOk z = true) : (32 : Nat) ∉ TL.tl z := by
  intro m
  unfold nameOk at h
  simp only [Bool.and_eq_true, decide_eq_true_eq] at h
  have q := h.2.2.2
  rw [List.all_eq_true] at q
  have w := q 32 m
  revert w
  decide +kernel
def OkC (y : Str) : Prop := ∀ c ∈ y.cps.toList, c < 0x110000
theorem cut_sub {w : Str} {lo hi : Option Int} (h : OkC w) : OkC (cutS w lo hi) := fun c hc => by
  unfold cutS at hc
  have hc : c ∈ ((w.cps.toList.drop (HT.sIx w.length 0 lo)).take (HT.sIx w.length w.length hi - HT.sIx w.length 0 lo)) := by simpa using hc
  exact h c (List.mem_of_mem_drop (List.mem_of_mem_take hc))
theorem OkC.app {x y : Str} (hx : OkC x) (hy : OkC y) : OkC (x ++ y) := fun c hc => by
  rw [cps_app, List.mem_append] at hc
  exact hc.elim (hx c) (hy c)
theorem tl_app1 (z : Str) (c : Nat) : (z ++ (⟨#[c]⟩ : Str)).cps.toList = z.cps.toList ++ [c] := cps_app z ⟨#[c]⟩
theorem cut_init (z : Str) (c : Nat) : cutS (z ++ (⟨#[c]⟩ : Str)) none (some (-1)) = z := by
  unfold cutS
  have l := len_app1 z c
  rw [tl_app1, l]
  have e1 : HT.sIx (z.length + 1) 0 none = 0 := rfl
  have e2 : HT.sIx (z.length + 1) (z.length + 1) (some (-1)) = z.length := by
    unfold HT.sIx
    simp only
    rw [if_pos (by decide)]
    omega
  rw [e1, e2, List.drop_zero, Nat.sub_zero, len_cps, List.take_left]
theorem cut_last (z : Str) (c : Nat) : cutS (z ++ (⟨#[c]⟩ : Str)) (some (-1)) none = ⟨#[c]⟩ := by
  unfold cutS
  have l := len_app1 z c
  rw [tl_app1, l]
  have e1 : HT.sIx (z.length + 1) (z.length + 1) none = z.length + 1 := rfl
  have e2 : HT.sIx (z.length + 1) 0 (some (-1)) = z.length := by
    unfold HT.sIx
    simp only
    rw [if_pos (by decide)]
    omega
  rw [e1, e2, len_cps, List.drop_left, show z.cps.toList.length + 1 - z.cps.toList.length = 1 by omega]
  rfl
theorem range_names (ms : List Str) : (List.range ms.length).map (fun i => ms.getD i "") = ms := by
  refine List.ext_getElem? fun i => ?_
  rw [List.getElem?_map]
  by_cases h : i < ms.length
  · rw [List.getElem?_range h, List.getElem?_eq_getElem h, Option.map_some, List.getD_eq_getElem?_getD, List.getElem?_eq_getElem h]
    rfl
  · rw [List.getElem?_eq_none (by rw [List.length_range]; omega), List.getElem?_eq_none (by omega)]
    rfl
theorem spl_count : ∀ (l acc : List Nat), (TL.spl [32] 0 acc l).length = l.countP (fun c => decide (c = 32)) + 1
  | [], acc => by rw [TL.spl_nil]; rfl
  | c :: r, acc => by
    by_cases h : c = 32
    · have e : TL.pre [32] (c :: r) = true := by rw [pre32, decide_eq_true h]
      rw [TL.spl_hit e]
      have e2 : ([32] : List Nat).length - 1 = 0 := rfl
      rw [e2, List.length_cons, spl_count r [], List.countP_cons, if_pos (decide_eq_true h)]
    · have e : TL.pre [32] (c :: r) = false := by rw [pre32, decide_eq_false h]
      rw [TL.spl_miss e, spl_count r (acc ++ [c]), List.countP_cons, if_neg (by simpa using h)]
/-- how many parts a text has -/
def many (z : Str) : Nat := (Txt.split z " ").length
theorem many_eq (z : Str) : many z = z.cps.toList.countP (fun c => decide (c = 32)) + 1 := by
  have e := congrArg List.length (splitB_tl z)
  rw [List.length_map, spl_count] at e
  exact e
theorem many_app (x y : Str) : many (x ++ y) + 1 = many x + many y := by
  rw [many_eq, many_eq, many_eq, cps_app, List.countP_append]
  omega
theorem many_one (c : Nat) : many (⟨#[c]⟩ : Str) ≤ 2 := by
  rw [many_eq, one_cps, List.countP_cons]
  split <;> simp
theorem okC_one {c : Nat} (h : c < 0x110000) : OkC (⟨#[c]⟩ : Str) := fun d hd => by
  rw [one_cps] at hd
  rw [List.mem_singleton.mp hd]
  exact h
theorem okC_name {z : Str} (h : nameOk z = true) : OkC z := fun c hc => by
  have q := nameOk_str h
  have q : PyData.strOk z = true := q
  unfold PyData.strOk at q
  rw [← Array.all_toList, List.all_eq_true] at q
  exact of_decide_eq_true (q c hc)
/-- a text that may stand in a certificate -/
structure TxOk (z : Str) : Prop where
  c : OkC z
  l : z.length ≤ 1000
  m : many z ≤ 40
theorem str_at {ss : List Str} {i : Nat} {y : V} (h : (ss.map V.str)[i]? = some y) : ∃ z, ss[i]? = some z ∧ y = V.str z := by
  rw [List.getElem?_map] at h
  cases e : ss[i]? with
  | none =>
    rw [e] at h
    cases h
  | some z =>
    rw [e] at h
    exact ⟨z, rfl, (Option.some.inj h).symm⟩
theorem ref_at {as : List Addr} {i : Nat} {y : V} (h : (as.map V.ref)[i]? = some y) : ∃ a, as[i]? = some a ∧ y = V.ref a := by
  rw [List.getElem?_map] at h
  cases e : as[i]? with
  | none =>
    rw [e] at h
    cases h
  | some a =>
    rw [e] at h
    exact ⟨a, rfl, (Option.some.inj h).symm⟩
theorem eqv_strsL (xs ys : List Str) : PyData.eqv (.list (xs.map PyData.str)) (.list (ys.map PyData.str)) = decide (xs = ys) := by
  rw [PyData.eqv]
  exact eqvAll_strs xs ys
theorem shaped_strsL {ss : List Str} (h : ∀ z ∈ ss, nameOk z = true) : SeqAt.shaped (.list (ss.map PyData.str)) = true := shaped_of (d := .list (ss.map PyData.str)) (okDs_strs fun z hz => nameOk_str (h z hz)) (by simp only [PyData.depth, depth_strs]; decide)
theorem tyx_same {K : PySem.W.Frag} {H H' : Hp} {v : V} {t : Value} (h : TyX K H v t) (s : Same H H') : TyX K H' v t := by
  cases h with
  | base b =>
    cases b with
    | non => exact .base .non
    | bl x => exact .base (.bl x)
    | int i => exact .base (.int i)
    | str x => exact .base (.str x)
    | flt x => exact .base (.flt x)
    | lst e => exact .base (.lst (s _ _ e))
    | frz e => exact .base (.frz (s _ _ e))
    | tup e => exact .base (.tup (s _ _ e))
    | dK e => exact .base (.dK (s _ _ e))
    | dT e => exact .base (.dT (s _ _ e))
    | ins e c h1 h2 h3 h4 => exact .base (.ins (s _ _ e) c h1 h2 h3 h4)
  | byt b => exact .byt b
  | set e => exact .set (s _ _ e)
  | kList e c => exact .kList e c
  | kTuple e c => exact .kTuple e c
  | kDict e c => exact .kDict e c
  | fTuple e => exact .fTuple (s _ _ e)
  | fDict e => exact .fDict (s _ _ e)
theorem sql_ty {K : PySem.W.Frag} {H : Hp} {a : Addr} {xs : List V} (h : SqL K H a xs) : TyX K H (.ref a) (.type "list") := by
  rcases h with (h | ⟨o, h⟩) | ⟨o, its, n, h, c, _⟩
  · exact .base (.lst h)
  · exact .base (.frz h)
  · exact .kList h c
theorem joinL_le (S : List Nat) (hS : S.length = 1) : ∀ ps : List (List Nat), (TL.joinL S ps).length ≤ (ps.map List.length).sum + ps.length ∧ (ps ≠ [] → (TL.joinL S ps).length + 1 = (ps.map List.length).sum + ps.length)
  | [] => ⟨Nat.zero_le _, fun h => absurd rfl h⟩
  | [p] => by
    refine ⟨?_, fun _ => ?_⟩
    · show p.length ≤ _
      simp
    · show p.length + 1 = _
      simp
  | p :: q :: r => by
    obtain ⟨_, ih⟩ := joinL_le S hS (q :: r)
    have ih := ih (by simp)
    have e : (TL.joinL S (p :: q :: r)).length = p.length + (S.length + (TL.joinL S (q :: r)).length) := by
      show (p ++ (S ++ TL.joinL S (q :: r))).length = _
      rw [List.length_append, List.length_append]
    have e2 : ((p :: q :: r).map List.length).sum = p.length + ((q :: r).map List.length).sum := by simp
    have e3 : (p :: q :: r).length = (q :: r).length + 1 := rfl
    refine ⟨?_, fun _ => ?_⟩ <;> omega
theorem joinL_sub {S : List Nat} : ∀ {ps : List (List Nat)} {c : Nat}, c ∈ TL.joinL S ps → c ∈ S ∨ ∃ p ∈ ps, c ∈ p
  | [], c, h => by cases h
  | [p], c, h => .inr ⟨p, List.mem_cons_self, h⟩
  | p :: q :: r, c, h => by
    have h : c ∈ p ++ (S ++ TL.joinL S (q :: r)) := h
    rw [List.mem_append, List.mem_append] at h
    rcases h with h | h | h
    · exact .inr ⟨p, List.mem_cons_self, h⟩
    · exact .inl h
    · rcases joinL_sub h with h | ⟨x, hx, h⟩
      · exact .inl h
      · exact .inr ⟨x, List.mem_cons_of_mem _ hx, h⟩
theorem join_tlB (ys : List Str) : (Txt.join " " ys).cps.toList = TL.joinL [32] (ys.map TL.tl) := by
  have q : TL.tl (Txt.join " " ys) = TL.joinL (TL.tl (" " : Str)) (ys.map TL.tl) := by rw [TL.join_eq, TL.tl_join]
  rw [blank_tl] at q
  exact q
theorem sum_tl (ys : List Str) : ((ys.map TL.tl).map List.length).sum = (ys.map fun y => y.length).sum := by
  rw [List.map_map]
  exact congrArg List.sum (List.map_congr_left fun y _ => TL.len_tl y)
theorem join_lenB (ys : List Str) : (Txt.join " " ys).length ≤ (ys.map fun y => y.length).sum + ys.length := by
  have := (joinL_le [32] rfl (ys.map TL.tl)).1
  rw [← join_tlB, sum_tl, List.length_map] at this
  exact this
theorem join_okC {ys : List Str} (h : ∀ y ∈ ys, OkC y) : OkC (Txt.join " " ys) := fun c hc => by
  rw [join_tlB] at hc
  rcases joinL_sub hc with h1 | ⟨p, hp, h1⟩
  · rw [List.mem_singleton.mp h1]
    decide
  · obtain ⟨y, hy, rfl⟩ := List.mem_map.mp hp
    exact h y hy c h1
theorem shaped_texts {ss : List Str} (h : ∀ z ∈ ss, PyData.strOk z = true) : SeqAt.shaped (.list (ss.map PyData.str)) = true := shaped_of (d := .list (ss.map PyData.str)) (okDs_strs h) (by simp only [PyData.depth, depth_strs]; decide)
theorem okC_str {z : Str} (h : OkC z) : PyData.strOk z = true := by
  unfold PyData.strOk
  rw [← Array.all_toList, List.all_eq_true]
  exact fun c hc => decide_eq_true (h c hc)
end MH
namespace MH
open PySem PySem.Spec PyProof.Rows L2
theorem cut_many (z : Str) (a : Nat) : many (cutS z none (some (a : Int))) + many (cutS z (some (a : Int)) none) = many z + 1 := by
  rw [many_eq, many_eq, many_eq, cut_to, cut_behind]
  have e := List.countP_append (p := fun c : Nat => decide (c = 32)) (l₁ := z.cps.toList.take a) (l₂ := z.cps.toList.drop a)
  rw [List.take_append_drop] at e
  omega
theorem cut_many1 (z : Str) (a : Nat) : many (cutS z (some ((a + 1 : Nat) : Int)) none) ≤ many (cutS z (some (a : Int)) none) := by
  rw [many_eq, many_eq, cut_behind, cut_behind, ← List.drop_drop]
  exact Nat.add_le_add_right ((List.drop_sublist 1 _).countP_le) 1
def spBentText : Sp := fun vs H Q _ => ∃ (p : Addr) (n : Nat) (z : Str), vs = [.ref p, .str z] ∧ Ur H p n ∧ n ≤ 900000000 ∧ 1 ≤ z.length ∧ z.length ≤ 5000 ∧ ∀ (y : Str) (H' : Hp), y.length ≤ z.length + 1 → (OkC z → OkC y) → many y ≤ many z + 1 → SameB p H H' → Ur H' p (n + 3) → Q (.str y) H'
section
variable {P : Program} {w : World} {K : PySem.W.Frag} {mg : Str → Option Value} {base : Heap}
theorem ok_l_bent_text (T : Tx K mg w) : FnOk P w K mg base CX0 2 T.a_l_bent_text T.fd_l_bent_text ["_law_pot_here", "_law_text"] spBentText := by
  refine T.F_l_bent_text.ok sc_l_bent_text (fun vs H Q E h => ?_) (fun cdv A outer s H vs Q E hr h => ?_)
  · obtain ⟨p, n, z, rfl, _⟩ := h
    rfl
  · obtain ⟨p, n, z, rfl, u, hn, z1, z2, k⟩ := h
    refine ⟨_, (pss_cons (ps_par (i := 2) (j := 3) rfl sc_l_bent_text.nd rfl rfl (by decide) rfl rfl (pa_cons (pe_call (ok_l_draw T) (hr.mono (by decide)) rfl T.g_l_draw T.F_l_draw.kp T.b_l_draw .nil pass0 (pa_cons (pv 0) (pa_cons (pe_callB call_len_str (by rfl) T.n_len (by decide +kernel) (pa_cons (pv 1) pa_nil)) pa_nil))) (pa_cons (pe_call (ok_l_draw T) (hr.mono (by decide)) rfl T.g_l_draw T.F_l_draw.kp T.b_l_draw .nil pass0 (pa_cons (pv 0) (pa_cons pe_int pa_nil))) pa_nil)) (by rfl))
      (pss_cons (ps_set (i := 4) sc_l_bent_text.nd rfl (Or.inl rfl) (pe_ix ix_str pe_str (pe_call (ok_l_draw T) (hr.mono (by decide)) rfl T.g_l_draw T.F_l_draw.kp T.b_l_draw .nil pass0 (pa_cons (pv 0) (pa_cons pe_int pa_nil))) (fun _ _ => rfl)))
      (pss_cons (ps_if (pt_cmpR op_eq (pv 3) pe_int (nomark _))
        (pss_one (ps_ret (pe_op op_add_str (pe_slice sl_str (pv 1) po_none (po_some (pv 2))) (pe_slice sl_str (pv 1) (po_some (pe_op op_add (pv 2) pe_int)) po_none))))
        pss_nil)
      (pss_one (ps_ret (pe_op op_add_str (pe_op op_add_str (pe_slice sl_str (pv 1) po_none (po_some (pv 2))) (pv 4)) (pe_ifExp (pt_cmpR op_eq (pv 3) pe_int (nomark _)) (pe_slice sl_str (pv 1) (po_some (pv 2)) po_none) (pe_slice sl_str (pv 1) (po_some (pe_op op_add (pv 2) pe_int)) po_none)))))))), ?_⟩
    refine ⟨_, rfl, _, rfl, z, rfl, le_line (by omega), p, _, n, rfl, u, by omega, by omega, by omega, fun a H1 a0 a1 sb1 u1 => ?_⟩
    refine ⟨_, rfl, p, 3, n + 1, rfl, u1, by omega, by decide, by decide, fun wy H2 w0 w3 sb2 u2 => ?_⟩
    refine ⟨_, _, rfl, ?_⟩
    refine ⟨_, rfl, p, 14, n + 2, rfl, u2, by omega, by decide, by decide, fun d H3 d0 d1 sb3 u3 => ?_⟩
    obtain ⟨a, rfl⟩ : ∃ f : Nat, a = f := ⟨a.toNat, by omega⟩
    obtain ⟨e, rfl⟩ : ∃ f : Nat, d = f := ⟨d.toNat, by omega⟩
    have al : a < z.length := by omega
    have sb := (sb1.trans sb2).trans sb3
    have h14 : e < 14 := by omega
    have hat : ("abz019 ;+-?A_\n" : Str).cps.toList[e]? = some (("abz019 ;+-?A_\n" : Str).cps.toList.getD e 0) := by
      rw [List.getD_eq_getElem?_getD, List.getElem?_eq_getElem (by rw [show ("abz019 ;+-?A_\n" : Str).cps.toList.length = 14 by decide +kernel]; exact h14)]
      rfl
    have zl := len_cps z
    have l1 : (cutS z none (some ((a : Nat) : Int))).length = a := by
      rw [len_cps, cut_to, List.length_take]
      omega
    have l2 : (cutS z (some ((a + 1 : Nat) : Int)) none).length = z.length - (a + 1) := by
      rw [len_cps, cut_behind, List.length_drop, zl]
    have l3 : (cutS z (some ((a : Nat) : Int)) none).length = z.length - a := by
      rw [len_cps, cut_behind, List.length_drop, zl]
    have la : ∀ x y : Str, (x ++ y).length = x.length + y.length := fun x y => by rw [len_cps, len_cps, len_cps, cps_app, List.length_append]
    refine ⟨"abz019 ;+-?A_\n", e, _, rfl, rfl, (by decide +kernel), atI_nat hat, ?_⟩
    have hc1 : ("abz019 ;+-?A_\n" : Str).cps.toList.getD e 0 < 0x110000 := (by decide +kernel : ∀ e, e < 14 → ("abz019 ;+-?A_\n" : Str).cps.toList.getD e 0 < 0x110000) e h14
    generalize ("abz019 ;+-?A_\n" : Str).cps.toList.getD e 0 = c at hc1 ⊢
    have ok1 := okC_one hc1
    have m1 := many_one c
    have mz := cut_many z a
    have mz1 := cut_many1 z a
    have mA := fun y : Str => many_app (cutS z none (some ((a : Nat) : Int))) y
    have mB := fun y : Str => many_app (cutS z none (some ((a : Nat) : Int)) ++ (⟨#[c]⟩ : Str)) y
    have lc := one_len c
    refine ⟨_, rfl, rfl, _, rfl, ite2 (fun q => ?_) (fun q => ?_)⟩
    · refine ⟨_, rfl, _, rfl, _, rfl, z, rfl, le_line (by omega), _, rfl, _, rfl, _, _, rfl, rfl, _, rfl, z, rfl, le_line (by omega), _, _, rfl, rfl, ?_⟩
      have l2 : (cutS z (some ((a : Int) + 1)) none).length = z.length - (a + 1) := l2
      exact ⟨le_line (by omega), k _ H3 (by rw [la]; omega) (fun h => (cut_sub h).app (cut_sub h)) (by have := mA (cutS z (some ((a : Int) + 1)) none); have mz1 : many (cutS z (some ((a : Int) + 1)) none) ≤ _ := mz1; omega) sb u3⟩
    · refine ⟨_, rfl, _, rfl, _, rfl, z, rfl, le_line (by omega), _, rfl, _, _, rfl, rfl, le_line (by omega), _, rfl, rfl, _, rfl, ite2 (fun q => ?_) (fun q => ?_)⟩
      · refine ⟨_, rfl, _, rfl, _, rfl, z, rfl, le_line (by omega), _, _, rfl, rfl, ?_⟩
        exact ⟨le_line (by rw [la]; omega), k _ H3 (by rw [la, la]; omega) (fun h => ((cut_sub h).app ok1).app (cut_sub h)) (by have := mA ⟨#[c]⟩; have := mB (cutS z (some ((a : Nat) : Int)) none); omega) sb u3⟩
      · refine ⟨_, rfl, _, rfl, _, _, rfl, rfl, _, rfl, z, rfl, le_line (by omega), _, _, rfl, rfl, ?_⟩
        have l2 : (cutS z (some ((a : Int) + 1)) none).length = z.length - (a + 1) := l2
        exact ⟨le_line (by rw [la]; omega), k _ H3 (by rw [la, la]; omega) (fun h => ((cut_sub h).app ok1).app (cut_sub h)) (by have := mA ⟨#[c]⟩; have := mB (cutS z (some ((a : Int) + 1)) none); have mz1 : many (cutS z (some ((a : Int) + 1)) none) ≤ _ := mz1; omega) sb u3⟩
end
end MH
namespace MH
open PySem PySem.Spec PyProof.Rows L2
/-- a value of a certificate where a text is asked for: a text, or a tuple -/
inductive CtV (K : PySem.W.Frag) (H : Hp) : V → Option Str → Prop
  | str {z : Str} (h : TxOk z) : CtV K H (.str z) (some z)
  | tup {a : Addr} {xs : List V} (h : SqT K H a xs) : CtV K H (.ref a) none
theorem CtV.same {K : PySem.W.Frag} {H H' : Hp} {v : V} {o : Option Str} (h : CtV K H v o) (s : Same H H') : CtV K H' v o := by
  cases h with
  | str h => exact .str h
  | tup h => exact .tup (s.sqt h)
/-- whether a text is one of a row -/
def rowB (z : Str) : Bool := decide ((Txt.split z " ").length ≤ 10) && decide (Txt.split z " ").Nodup && (Txt.split z " ").all nameOk
def rowO : Option Str → Bool
  | some z => rowB z
  | none => false
def spRowOf (K : PySem.W.Frag) : Sp := fun vs H Q _ => ∃ (v : V) (o : Option Str), vs = [v] ∧ CtV K H v o ∧
  (∀ z, o = some z → rowB z = true → ∀ (t : Addr) (H' : Hp), Same H H' → TupO H' t ((Txt.split z " ").map V.str) → Q (.ref t) H') ∧ (rowO o = false → ∀ H', Same H H' → Q .non H')
section
variable {P : Program} {w : World} {K : PySem.W.Frag} {mg : Str → Option Value} {base : Heap}
theorem ok_row_of (T : Tx K mg w) : FnOk P w K mg base CX0 2 T.a_row_of T.fd_row_of ["text"] (spRowOf K) := by
  refine T.F_row_of.ok sc_row_of (fun vs H Q E h => ?_) (fun cdv A outer s H vs Q E hr h => ?_)
  · obtain ⟨v, o, rfl, _⟩ := h
    rfl
  · obtain ⟨v, o, rfl, hv, good, bad⟩ := h
    refine ⟨_, (pss_cons (ps_if (pt_not (pt_val (pe_callB call_isi (by rfl) T.n_isinstance (by decide +kernel) (pa_cons (pv 0) (pa_cons (pe_bltn (v := .ty "str") (by rfl) T.n_str (by decide +kernel) rfl) pa_nil)))))
        (pss_one (ps_ret pe_non))
        pss_nil)
      (pss_cons (ps_set (i := 1) sc_row_of.nd rfl (Or.inl rfl) (pe_callTy call_tupF (by rfl) T.n_tuple (by decide +kernel) (pa_cons (pe_split (pv 0) pe_str) pa_nil)))
      (pss_cons (ps_if (PW.pt (pw_or (pt_cmpR op_gt (pe_callB call_len_seq (by rfl) T.n_len (by decide +kernel) (pa_cons (pv 1) pa_nil)) (pe_glob (v := .int 10) rfl T.g_MOST_THINGS.choose_spec ⟨_, rfl⟩) (nomark _)) (pw_or (pt_cmpR op_lt (pe_lenSetS rfl (by rfl) T.n_len (by rfl) T.n_set (pv 1)) (pe_callB call_len_seq (by rfl) T.n_len (by decide +kernel) (pa_cons (pv 1) pa_nil)) (nomark _)) (pw_or1 (pt_not (pt_val (pe_callB (cr_all rfl) (by rfl) T.n_all (by decide +kernel) (pa_cons (pe_lc (own := [("name", 2)]) (g := gName 2) (tt := tYes) rfl sc_row_of.nd (pi_tup (pv 1)) (blkOk_by (own := [("name", 2)]) (N := names_row_of) (sc := defScope st_row_of) (by decide +kernel)) (fun _ _ _ _ _ => pg_name (i := 2) sc_row_of.nd rfl (Or.inl rfl)) (fun _ _ _ _ _ => pts_nil) (fun _ _ _ _ _ => (pe_call (ok_is_name T) (hr.mono (by decide)) rfl T.g_is_name T.F_is_name.kp T.b_is_name .nil pass0 (pa_cons (pv 2) pa_nil)))) pa_nil))))))))
        (pss_one (ps_ret pe_non))
        pss_nil)
      (pss_one (ps_ret (pv 1)))))), ?_⟩
    cases hv with
    | tup hv =>
      refine ⟨_, rfl, _, _, _, _, false, rfl, .ty _, hv.ty, kit_ty (by decide +kernel), _, rfl, iteT ?_⟩
      exact bad rfl H (Same.refl H)
    | @str z hz =>
      have z1 := hz.l
      have z2 := hz.m
      have z3 : ∀ y ∈ Txt.split z " ", y.length ≤ z.length := fun y hy => (splitB_mem hy).1
      refine ⟨_, rfl, _, _, _, _, true, rfl, .ty _, .base (.str _), kit_ty (by decide +kernel), _, rfl, iteF ?_⟩
      refine ⟨_, rfl, ⟨_, rfl⟩, _, _, rfl, rfl, by decide, le_line (by omega), ?_⟩
      unfold many at z2
      intro l nl
      refine ⟨l, _, rfl, .inl ⟨lst_of upd_same, fun u ou nu od => ?_⟩⟩
      have s1 := (Same.new nl (o := .lst ((Txt.split z " ").map V.str))).new' nu (o := .frz ou (.tup ((Txt.split z " ").map V.str)))
      have hu : TupO (upd (upd H l (.lst ((Txt.split z " ").map V.str))) u (.frz ou (.tup ((Txt.split z " ").map V.str)))) u ((Txt.split z " ").map V.str) := tupO_new od
      generalize upd (upd H l (.lst ((Txt.split z " ").map V.str))) u (.frz ou (.tup ((Txt.split z " ").map V.str))) = H1 at s1 hu ⊢
      have good := good z rfl
      have bad : rowB z = false → ∀ H', Same H H' → Q .non H' := bad
      unfold rowB at bad
      unfold rowB at good
      generalize Txt.split z " " = ps at z2 z3 hu good bad ⊢
      have lp : (ps.map V.str).length = ps.length := List.length_map _
      refine ⟨_, rfl, u, _, rfl, .inr hu.sqt, _, _, rfl, rfl, _, rfl, ?_⟩
      by_cases c1 : 10 < ps.length
      · refine ifT (decide_eq_true (by rw [lp]; omega)) (bad ?_ H1 s1)
        show (decide (ps.length ≤ 10) && _ && _) = false
        rw [decide_eq_false (by omega : ¬ ps.length ≤ 10)]
        rfl
      refine ifF (decide_eq_false (by rw [lp]; omega)) ?_
      have fl := fewS_le ps ps.length
      have fa := fewS_all ps ps.length (Nat.le_refl _)
      rw [List.take_length] at fa
      refine ⟨_, rfl, u, ps, rfl, hu.sqt, by omega, _, rfl, u, _, rfl, .inr hu.sqt, _, _, rfl, rfl, _, rfl, ?_⟩
      by_cases c2 : ps.Nodup
      · refine ifF (decide_eq_false (by have := fa.mpr c2; rw [lp]; omega)) ?_
        have hu1 := hu.sqt (K := K)
        refine ⟨_, rfl, u, rfl, ⟨_, hu1⟩, fun D nD => lcv (walk_tup (K := K) (a := u) (xs := ps.map V.str)) ps (fun z => V.bl (nameOk z)) (List.length_map _).symm nD (by rw [List.length_map]; omega) (fun H' s => s.sqt hu1) (fun _ _ _ _ _ y => yat_same y) (fun i z x H2 H' hz s2 y Z hZ => ?_) (fun H2 s2 e2 => ?_)⟩
        · obtain ⟨rfl, hx⟩ := y
          rw [List.getElem?_map, hz] at hx
          obtain rfl : V.str z = x := Option.some.inj hx
          have z8 := z3 z (List.mem_of_getElem? hz)
          exact ⟨rfl, _, rfl, z, rfl, by omega, fun H3 s3 => hZ _ s3⟩
        · refine ⟨D, ps.map nameOk, rfl, lst_of ?_, ?_⟩
          · rw [e2, List.map_map]
            rfl
          · have ea : (ps.map nameOk).all id = ps.all nameOk := by
              rw [List.all_map]
              rfl
            rw [ea]
            have g0 : (decide (ps.length ≤ 10) && decide ps.Nodup && ps.all nameOk) = ps.all nameOk := by
              rw [decide_eq_true (by omega : ps.length ≤ 10), decide_eq_true c2]
              rfl
            rw [g0] at bad good
            refine ⟨_, rfl, ite2 (fun c3 => ?_) (fun c3 => ?_)⟩
            · exact bad (by simpa using c3) H2 (s1.trans s2)
            · exact ⟨_, rfl, good (by simpa using c3) u H2 (s1.trans s2) (hu.same s2)⟩
      · refine ifT (decide_eq_true (by rw [lp]; have : ¬ fewS ps ps.length = ps.length := fun e => c2 (fa.mp e); omega)) (bad ?_ H1 s1)
        show (_ && decide ps.Nodup && _) = false
        rw [decide_eq_false c2]
        simp
end
end MH
namespace MH
open PySem PySem.Spec PyProof.Rows L2
/-- looks as the program holds them: triples of tuples -/
abbrev Lk3 : Type := List Str × List Str × List Str
def LtAt (K : PySem.W.Frag) (H : Hp) (q : Addr) (k : Lk3) : Prop := ∃ m t p : Addr, SqT K H q [.ref m, .ref t, .ref p] ∧ SqT K H m (k.1.map V.str) ∧ SqT K H t (k.2.1.map V.str) ∧ SqT K H p (k.2.2.map V.str)
theorem LtAt.same {K : PySem.W.Frag} {H H' : Hp} {q : Addr} {k : Lk3} (h : LtAt K H q k) (s : Same H H') : LtAt K H' q k := let ⟨m, t, p, a, b, c, d⟩ := h; ⟨m, t, p, s.sqt a, s.sqt b, s.sqt c, s.sqt d⟩
def LtsAt (K : PySem.W.Frag) (H : Hp) (l : Addr) (qs : List Addr) (ks : List Lk3) : Prop := SqL K H l (qs.map V.ref) ∧ qs.length = ks.length ∧ ∀ (j : Nat) (q : Addr) (k : Lk3), qs[j]? = some q → ks[j]? = some k → LtAt K H q k
theorem LtsAt.same {K : PySem.W.Frag} {H H' : Hp} {l : Addr} {qs : List Addr} {ks : List Lk3} (h : LtsAt K H l qs ks) (s : Same H H') : LtsAt K H' l qs ks := ⟨same_sql s h.1, h.2.1, fun j q k h1 h2 => (h.2.2 j q k h1 h2).same s⟩
def initS (w : Str) : Str := cutS w none (some (-1))
def lastS (w : Str) : Str := cutS w (some (-1)) none
def namesT (z : Str) : List Str := (Txt.split z " ").map initS
def withT (z : Str) (c : Nat) : List Str := ((Txt.split z " ").filter fun y => decide (lastS y = sgn c)).map initS
def markS (m : Str) : Bool := match m.cps.toList with
  | [c] => decide (c ∈ ("+-?" : Str).cps.toList)
  | _ => false
/-- the look that a text tells -/
def lookT (z : Str) (th : List Str) : Option Lk3 := if setB (namesT z) th = true ∧ (Txt.split z " ").all (fun y => markS (lastS y)) = true ∧ withT z 45 ≠ namesT z then some (namesT z, withT z 43, withT z 45) else none
def lookO (o : Option Str) (th : List Str) : Option Lk3 := match o with
  | some z => lookT z th
  | none => none
def spLookOf (K : PySem.W.Frag) : Sp := fun vs H Q _ => ∃ (v : V) (o : Option Str) (t : Addr) (th : List Str), vs = [v, .ref t] ∧ CtV K H v o ∧ SqT K H t (th.map V.str) ∧ ThOk th ∧
  (∀ k, lookO o th = some k → ∀ (q : Addr) (H' : Hp), Same H H' → LtAt K H' q k → Q (.ref q) H') ∧ (lookO o th = none → ∀ H', Same H H' → Q .non H')
theorem last_one {w : Str} (h : initS w ≠ "") : ∃ c, lastS w = sgn c := by
  cases e : w.cps.toList.reverse with
  | nil =>
    have e : w.cps.toList = [] := List.reverse_eq_nil_iff.mp e
    refine absurd ?_ h
    have ew : w = "" := tl_inj (by show w.cps.toList = _; rw [e]; rfl)
    rw [ew]
    decide +kernel
  | cons c r =>
    have e2 : w.cps.toList = r.reverse ++ [c] := by
      have := congrArg List.reverse e
      rw [List.reverse_reverse, List.reverse_cons] at this
      exact this
    have ew : w = (⟨r.reverse.toArray⟩ : Str) ++ (⟨#[c]⟩ : Str) := tl_inj (by show w.cps.toList = _; rw [e2]; show _ = ((⟨r.reverse.toArray⟩ : Str) ++ (⟨#[c]⟩ : Str)).cps.toList; rw [cps_app])
    refine ⟨c, ?_⟩
    unfold lastS
    rw [ew, cut_last]
    rfl
section
variable {P : Program} {w : World} {K : PySem.W.Frag} {mg : Str → Option Value} {base : Heap}
theorem ok_look_of (T : Tx K mg w) : FnOk P w K mg base CX0 4 T.a_look_of T.fd_look_of ["text", "things"] (spLookOf K) := by
  refine T.F_look_of.ok sc_look_of (fun vs H Q E h => ?_) (fun cdv A outer s H vs Q E hr h => ?_)
  · obtain ⟨v, o, t, th, rfl, _⟩ := h
    rfl
  · obtain ⟨v, o, t, th, rfl, hv, hT, tok, good, bad⟩ := h
    refine ⟨_, (pss_cons (ps_if (pt_not (pt_val (pe_callB call_isi (by rfl) T.n_isinstance (by decide +kernel) (pa_cons (pv 0) (pa_cons (pe_bltn (v := .ty "str") (by rfl) T.n_str (by decide +kernel) rfl) pa_nil)))))
        (pss_one (ps_ret pe_non))
        pss_nil)
      (pss_cons (ps_setLc (i := 2) (own := [("part", 5)]) (g := gName 5) (tt := tYes) rfl sc_look_of.nd rfl rfl (sw_true rfl rfl rfl (by decide +kernel)) (pi_list (pe_split (pv 0) pe_str)) (blkOk_by (own := [("part", 5)]) (N := names_look_of) (sc := defScope st_look_of) (by decide +kernel)) (fun _ _ _ _ _ => pg_name (i := 5) sc_look_of.nd rfl (Or.inl rfl)) (fun _ _ _ _ _ => pts_nil) (fun _ _ _ _ _ => (pe_tup (pa_cons (pe_slice sl_str (pv 5) po_none (po_some (pe_un un_neg pe_int))) (pa_cons (pe_slice sl_str (pv 5) (po_some (pe_un un_neg pe_int)) po_none) pa_nil)))))
      (pss_cons (ps_set (i := 3) sc_look_of.nd rfl (Or.inl rfl) (pe_callTy call_tupF (by rfl) T.n_tuple (by decide +kernel) (pa_cons (pe_lc (own := [("name", 6), ("_", 7)]) (g := gTup K 2 (gCons (gName 6) (gCons (gName 7) gNil))) (tt := tYes) rfl sc_look_of.nd (pi_list (pv 2)) (blkOk_by (own := [("name", 6), ("_", 7)]) (N := names_look_of) (sc := defScope st_look_of) (by decide +kernel)) (fun _ _ _ _ _ => pg_tup rfl (pgs_cons (pg_name (i := 6) sc_look_of.nd rfl (Or.inl rfl)) (pgs_cons (pg_name (i := 7) sc_look_of.nd rfl (Or.inl rfl)) pgs_nil))) (fun _ _ _ _ _ => pts_nil) (fun _ _ _ _ _ => (pv 6))) pa_nil)))
      (pss_cons (ps_if (PW.pt (pw_or (pt_not (pt_val (pe_call (ok_is_menu T) (hr.mono (by decide)) rfl T.g_is_menu T.F_is_menu.kp T.b_is_menu .nil pass0 (pa_cons (pv 3) (pa_cons (pv 1) pa_nil))))) (pw_or1 (pt_not (pt_val (pe_callB (cr_all rfl) (by rfl) T.n_all (by decide +kernel) (pa_cons (pe_lc (own := [("_", 7), ("mark", 8)]) (g := gTup K 2 (gCons (gName 7) (gCons (gName 8) gNil))) (tt := tYes) rfl sc_look_of.nd (pi_list (pv 2)) (blkOk_by (own := [("_", 7), ("mark", 8)]) (N := names_look_of) (sc := defScope st_look_of) (by decide +kernel)) (fun _ _ _ _ _ => pg_tup rfl (pgs_cons (pg_name (i := 7) sc_look_of.nd rfl (Or.inl rfl)) (pgs_cons (pg_name (i := 8) sc_look_of.nd rfl (Or.inl rfl)) pgs_nil))) (fun _ _ _ _ _ => pts_nil) (fun _ _ _ _ _ => (pe_cmpR op_in_sign (pv 8) (pe_glob (v := .str "+-?") rfl T.g_MARKS.choose_spec ⟨_, rfl⟩) (by rfl)))) pa_nil)))))))
        (pss_one (ps_ret pe_non))
        pss_nil)
      (pss_cons (ps_set (i := 4) sc_look_of.nd rfl (Or.inl rfl) (pe_callTy call_tupF (by rfl) T.n_tuple (by decide +kernel) (pa_cons (pe_lc (own := [("name", 6), ("mark", 8)]) (g := gTup K 2 (gCons (gName 6) (gCons (gName 8) gNil))) (tt := _) rfl sc_look_of.nd (pi_list (pv 2)) (blkOk_by (own := [("name", 6), ("mark", 8)]) (N := names_look_of) (sc := defScope st_look_of) (by decide +kernel)) (fun _ _ _ _ _ => pg_tup rfl (pgs_cons (pg_name (i := 6) sc_look_of.nd rfl (Or.inl rfl)) (pgs_cons (pg_name (i := 8) sc_look_of.nd rfl (Or.inl rfl)) pgs_nil))) (fun _ _ _ _ _ => pts_one (pt_cmpR op_eq (pv 8) pe_str (nomark _))) (fun _ _ _ _ _ => (pv 6))) pa_nil)))
      (pss_one (ps_ret (pe_ifExp (pt_cmpR (op_eqD hr.units) (pv 4) (pv 3) (nomark _)) pe_non (pe_tup (pa_cons (pv 3) (pa_cons (pe_callTy call_tupF (by rfl) T.n_tuple (by decide +kernel) (pa_cons (pe_lc (own := [("name", 6), ("mark", 8)]) (g := gTup K 2 (gCons (gName 6) (gCons (gName 8) gNil))) (tt := _) rfl sc_look_of.nd (pi_list (pv 2)) (blkOk_by (own := [("name", 6), ("mark", 8)]) (N := names_look_of) (sc := defScope st_look_of) (by decide +kernel)) (fun _ _ _ _ _ => pg_tup rfl (pgs_cons (pg_name (i := 6) sc_look_of.nd rfl (Or.inl rfl)) (pgs_cons (pg_name (i := 8) sc_look_of.nd rfl (Or.inl rfl)) pgs_nil))) (fun _ _ _ _ _ => pts_one (pt_cmpR op_eq (pv 8) pe_str (nomark _))) (fun _ _ _ _ _ => (pv 6))) pa_nil)) (pa_cons (pv 4) pa_nil)))))))))))), ?_⟩
    cases hv with
    | tup hv =>
      refine ⟨_, rfl, _, _, _, _, false, rfl, .ty _, hv.ty, kit_ty (by decide +kernel), _, rfl, iteT ?_⟩
      exact bad rfl H (Same.refl H)
    | @str z hz =>
      have z1 := hz.l
      have z2 : (Txt.split z " ").length ≤ 40 := hz.m
      have z3 : ∀ y ∈ Txt.split z " ", y.length ≤ z.length := fun y hy => (splitB_mem hy).1
      have zne := splitB_ne z
      refine ⟨_, rfl, _, _, _, _, true, rfl, .ty _, .base (.str _), kit_ty (by decide +kernel), _, rfl, iteF ?_⟩
      have bad : lookT z th = none → ∀ H', Same H H' → Q .non H' := bad
      have good : ∀ k, lookT z th = some k → ∀ (q : Addr) (H' : Hp), Same H H' → LtAt K H' q k → Q (.ref q) H' := good
      unfold lookT at bad good
      refine ⟨_, rfl, ⟨_, rfl⟩, _, _, rfl, rfl, by decide, le_line (by omega), ?_⟩
      intro l nl
      have s0 := Same.new nl (o := .lst ((Txt.split z " ").map V.str))
      have e0 : (upd H l (.lst ((Txt.split z " ").map V.str))) l = some (.lst ((Txt.split z " ").map V.str)) := upd_same
      generalize upd H l (.lst ((Txt.split z " ").map V.str)) = H0 at s0 e0 ⊢
      unfold namesT withT at bad good
      generalize Txt.split z " " = ps at z2 z3 zne e0 good bad ⊢
      refine ⟨l, rfl, ⟨_, lst_of e0⟩, fun D nD => lco walk_list (fun i v H' => ∃ (p : Addr) (y : Str), v = V.ref p ∧ ps[i]? = some y ∧ H' p = some (.tup [V.str (initS y), V.str (lastS y)])) nD (by rw [List.length_map]; omega) (fun H' s => lst_of (s _ _ e0)) (fun _ _ _ _ _ y => yat_same y) (fun i v H' H'' ⟨p, y, e1, e2, e3⟩ so => ⟨p, y, e1, e2, so _ _ (fun l q => by cases q) e3⟩) (fun i x H1 H2 hi s1 yy Z hZ => ?_) (fun H1 zs s1 e1 lz hzs => ?_)⟩
      · obtain ⟨rfl, hx⟩ := yy
        obtain ⟨y, hy, rfl⟩ := str_at hx
        have ly := z3 y (List.mem_of_getElem? hy)
        exact ⟨rfl, _, rfl, _, rfl, _, rfl, y, rfl, le_line (by omega), _, rfl, _, rfl, _, rfl, y, rfl, le_line (by omega), (by show 2 ≤ sizeLine; decide), fun p np => hZ _ _ (Same.new np) ⟨p, y, rfl, hy, upd_same⟩⟩
      · rw [List.length_map] at lz
        have at_ : ∀ (i : Nat) (x : V), zs[i]? = some x → ∃ (p : Addr) (y : Str), x = V.ref p ∧ ps[i]? = some y ∧ H1 p = some (.tup [V.str (initS y), V.str (lastS y)]) := hzs
        clear hzs
        have s01 := s0.trans s1
        refine ⟨_, rfl, D, rfl, ⟨_, lst_of e1⟩, fun D2 nD2 => lcv walk_list ps (fun y => V.str (initS y)) lz.symm nD2 (by omega) (fun H' s => lst_of (s _ _ e1)) (fun _ _ _ _ _ y => yat_same y) (fun i u x H2 H3 hu s2 yy Z hZ => ?_) (fun H2 s2 e2 => ?_)⟩
        · obtain ⟨rfl, hx⟩ := yy
          obtain ⟨p, y, rfl, hy, hp⟩ := at_ i x hx
          obtain rfl : y = u := Option.some.inj (hy.symm.trans hu)
          exact ⟨p, _, rfl, tup_of (s2 _ _ hp), rfl, _, _, rfl, _, _, rfl, rfl, rfl, _, rfl, hZ _ (Same.refl _)⟩
        rw [show ps.map (fun y => V.str (initS y)) = (ps.map initS).map V.str by rw [List.map_map]; rfl] at e2
        refine ⟨D2, _, rfl, .inl ⟨lst_of e2, fun m om nm dm => ?_⟩⟩
        have s3 := s2.new' nm (o := .frz om (.tup ((ps.map initS).map V.str)))
        have hM : TupO (upd H2 m (.frz om (.tup ((ps.map initS).map V.str)))) m ((ps.map initS).map V.str) := tupO_new dm
        generalize upd H2 m (.frz om (.tup ((ps.map initS).map V.str))) = H3 at s3 hM ⊢
        have s03 := s01.trans s3
        refine ⟨_, rfl, _, rfl, m, t, ps.map initS, th, rfl, hM.sqt, by rw [List.length_map]; omega, s03.sqt hT, fun H4 s4 => ?_⟩
        have pne : decide (0 < (ps.map initS).length) = true := by
          rw [List.length_map]
          exact decide_eq_true (List.length_pos_iff.mpr zne)
        rw [pne, Bool.and_true]
        refine ⟨_, rfl, ?_⟩
        by_cases c1 : setB (ps.map initS) th = true
        · rw [c1]
          refine ifF rfl ?_
          have inth : ∀ y ∈ ps, initS y ∈ th := fun y hy => by
            have q := (Bool.and_eq_true_iff.mp c1).1
            exact of_decide_eq_true (List.all_eq_true.mp q _ (List.mem_map_of_mem hy))
          have sg : ∀ y ∈ ps, ∃ c, lastS y = sgn c := fun y hy => last_one fun e => by
            have q := tok.2.2.1 _ (inth y hy)
            rw [e] at q
            revert q
            decide +kernel
          have s24 := s3.trans s4
          have s14 := s24
          refine ⟨_, rfl, D, rfl, ⟨_, lst_of (s14 _ _ e1)⟩, fun D3 nD3 => lcv walk_list ps (fun y => V.bl (markS (lastS y))) lz.symm nD3 (by omega) (fun H' s => lst_of (s _ _ (s14 _ _ e1))) (fun _ _ _ _ _ y => yat_same y) (fun i u x H5 H6 hu s5 yy Z hZ => ?_) (fun H5 s5 e5 => ?_)⟩
          · obtain ⟨rfl, hx⟩ := yy
            obtain ⟨p, y, rfl, hy, hp⟩ := at_ i x hx
            obtain rfl : y = u := Option.some.inj (hy.symm.trans hu)
            obtain ⟨c, ec⟩ := sg y (List.mem_of_getElem? hy)
            have em : markS (lastS y) = decide (c ∈ ("+-?" : Str).cps.toList) := by rw [ec]; rfl
            rw [em] at hZ
            exact ⟨p, _, rfl, tup_of (s5 _ _ (s14 _ _ hp)), rfl, _, _, rfl, _, _, rfl, rfl, rfl, _, rfl, c, _, by rw [ec]; rfl, rfl, hZ _ (Same.refl _)⟩
          refine ⟨D3, ps.map fun y => markS (lastS y), rfl, lst_of (by rw [e5, List.map_map]; rfl), ?_⟩
          rw [show (ps.map fun y => markS (lastS y)).all id = ps.all fun y => markS (lastS y) by rw [List.all_map]; rfl]
          have s05 := s03.trans (s4.trans s5)
          refine ⟨_, rfl, ?_⟩
          by_cases c2 : (ps.all fun y => markS (lastS y)) = true
          · rw [c2]
            refine ifF rfl ?_
            have s15 := s14.trans s5
            have dm : ∀ (y : Str) (d : Nat), decide (V.str (lastS y) = V.str (sgn d)) = decide (lastS y = sgn d) := fun y d => by
              rw [decide_eq_decide]
              exact ⟨fun e => V.str.inj e, fun e => by rw [e]⟩
            refine ⟨_, rfl, D, rfl, ⟨_, lst_of (s15 _ _ e1)⟩, fun D4 nD4 => lcf walk_list ps (fun y => V.str (initS y)) (fun y => decide (lastS y = sgn 45)) lz.symm nD4 (by omega) (fun H' s => lst_of (s _ _ (s15 _ _ e1))) (fun _ _ _ _ _ y => yat_same y) (fun i u x H6 H7 hu s6 yy Z N hZ hN => ?_) (fun H6 s6 e6 => ?_)⟩
            · obtain ⟨rfl, hx⟩ := yy
              obtain ⟨p, y, rfl, hy, hp⟩ := at_ i x hx
              obtain rfl : y = u := Option.some.inj (hy.symm.trans hu)
              refine ⟨p, _, rfl, tup_of (s6 _ _ (s15 _ _ hp)), rfl, _, _, rfl, _, _, rfl, rfl, rfl, _, rfl, rfl, _, rfl, ?_⟩
              rw [show decide (V.str (lastS y) = V.str (Str.ofString "-")) = decide (lastS y = sgn 45) from dm y 45]
              exact ite2 (fun c => ⟨_, rfl, hZ c _ (Same.refl _)⟩) (fun c => hN (by simpa using c) _ (Same.refl _))
            refine ⟨D4, _, rfl, .inl ⟨lst_of e6, fun q oq nq dq => ?_⟩⟩
            have s7 := s6.new' nq (o := .frz oq (.tup ((ps.filter fun y => decide (lastS y = sgn 45)).map fun y => V.str (initS y))))
            rw [show ((ps.filter fun y => decide (lastS y = sgn 45)).map fun y => V.str (initS y)) = ((ps.filter fun y => decide (lastS y = sgn 45)).map initS).map V.str by rw [List.map_map]; rfl] at s7 ⊢
            have hq : TupO (upd H6 q (.frz oq (.tup (((ps.filter fun y => decide (lastS y = sgn 45)).map initS).map V.str)))) q (((ps.filter fun y => decide (lastS y = sgn 45)).map initS).map V.str) := tupO_new dq
            generalize upd H6 q (.frz oq (.tup (((ps.filter fun y => decide (lastS y = sgn 45)).map initS).map V.str))) = H7 at s7 hq ⊢
            have s37 := (s4.trans s5).trans s7
            have hM7 := hM.same s37
            have nk : ∀ y ∈ ps.map initS, nameOk y = true := fun y hy => by
              obtain ⟨x, hx, rfl⟩ := List.mem_map.mp hy
              exact tok.2.2.1 _ (inth x hx)
            have nk2 : ∀ y ∈ (ps.filter fun y => decide (lastS y = sgn 45)).map initS, nameOk y = true := fun y hy => by
              obtain ⟨x, hx, rfl⟩ := List.mem_map.mp hy
              exact tok.2.2.1 _ (inth x (List.mem_filter.mp hx).1)
            refine ⟨_, rfl, _, rfl, _, _, .tup hq.sqt (dp_strs _), .tup hM7.sqt (dp_strs _), shaped_strs nk2, shaped_strs nk, ?_⟩
            rw [eqv_strs]
            refine ⟨_, rfl, ?_⟩
            by_cases c3 : (ps.filter fun y => decide (lastS y = sgn 45)).map initS = ps.map initS
            · rw [decide_eq_true c3]
              exact ifT rfl (bad (if_neg fun h => h.2.2 c3) H7 (s03.trans s37))
            · rw [decide_eq_false c3]
              refine ifF rfl ?_
              have s17 := s15.trans s7
              refine ⟨_, rfl, _, rfl, D, rfl, ⟨_, lst_of (s17 _ _ e1)⟩, fun D5 nD5 => lcf walk_list ps (fun y => V.str (initS y)) (fun y => decide (lastS y = sgn 43)) lz.symm nD5 (by omega) (fun H' s => lst_of (s _ _ (s17 _ _ e1))) (fun _ _ _ _ _ y => yat_same y) (fun i u x H8 H9 hu s8 yy Z N hZ hN => ?_) (fun H8 s8 e8 => ?_)⟩
              · obtain ⟨rfl, hx⟩ := yy
                obtain ⟨p, y, rfl, hy, hp⟩ := at_ i x hx
                obtain rfl : y = u := Option.some.inj (hy.symm.trans hu)
                refine ⟨p, _, rfl, tup_of (s8 _ _ (s17 _ _ hp)), rfl, _, _, rfl, _, _, rfl, rfl, rfl, _, rfl, rfl, _, rfl, ?_⟩
                rw [show decide (V.str (lastS y) = V.str (Str.ofString "+")) = decide (lastS y = sgn 43) from dm y 43]
                exact ite2 (fun c => ⟨_, rfl, hZ c _ (Same.refl _)⟩) (fun c => hN (by simpa using c) _ (Same.refl _))
              rw [show ((ps.filter fun y => decide (lastS y = sgn 43)).map fun y => V.str (initS y)) = ((ps.filter fun y => decide (lastS y = sgn 43)).map initS).map V.str by rw [List.map_map]; rfl] at e8
              refine ⟨D5, _, rfl, .inl ⟨lst_of e8, fun r or nr dr => ?_⟩⟩
              have s9 := s8.new' nr (o := .frz or (.tup (((ps.filter fun y => decide (lastS y = sgn 43)).map initS).map V.str)))
              have hr9 : TupO (upd H8 r (.frz or (.tup (((ps.filter fun y => decide (lastS y = sgn 43)).map initS).map V.str)))) r (((ps.filter fun y => decide (lastS y = sgn 43)).map initS).map V.str) := tupO_new dr
              generalize upd H8 r (.frz or (.tup (((ps.filter fun y => decide (lastS y = sgn 43)).map initS).map V.str))) = H9 at s9 hr9 ⊢
              refine ⟨_, rfl, (by show 3 ≤ sizeLine; decide), fun x nx => ?_⟩
              have sx := Same.new nx (o := .tup [.ref m, .ref r, .ref q])
              refine good _ (if_pos ⟨c1, c2, c3⟩) x _ ((s03.trans s37).trans (s9.trans sx)) ⟨m, r, q, tup_of upd_same, ((hM7.same s9).same sx).sqt, (hr9.same sx).sqt, ((hq.same s9).same sx).sqt⟩
          · rw [Bool.eq_false_iff.mpr c2]
            exact ifT rfl (bad (if_neg fun h => c2 h.2.1) H5 s05)
        · rw [Bool.eq_false_iff.mpr c1]
          refine ifT rfl ?_
          exact bad (if_neg fun h => c1 h.1) H4 (s03.trans s4)
end
end MH
namespace MH
open PySem PySem.Spec PyProof.Rows L2
/-- what list(..) tells -/
def rListOf (K : PySem.W.Frag) : List V → Hp → VK → Prop := fun xs H Q => ∃ p ys, xs = [.ref p] ∧ (SqL K H p ys ∨ SqT K H p ys) ∧ ∀ l, H l = none → Q (.ref l) (upd H l (.lst ys))
/-- what a value of a certificate is: a tuple of such values, or no tuple -/
inductive TupV (K : PySem.W.Frag) (H : Hp) : V → Option (List (Option Str)) → Prop
  | tup {a : Addr} {us : List V} {os : List (Option Str)} (h : SqT K H a us) (hl : us.length = os.length) (le : us.length ≤ 2000) (at_ : ∀ (i : Nat) (v : V) (o : Option Str), us[i]? = some v → os[i]? = some o → CtV K H v o) : TupV K H (.ref a) (some os)
  | none {v : V} {T : String} (t : TyX K H v (.type T)) (k : kitB T "tuple" = some false) : TupV K H v none
theorem refs_all {zs : List V} {R : Nat → Addr → Prop} (h : ∀ i v, zs[i]? = some v → ∃ q, v = V.ref q ∧ R i q) : ∃ qs : List Addr, zs = qs.map V.ref ∧ ∀ i q, qs[i]? = some q → R i q := by
  induction zs generalizing R with
  | nil => exact ⟨[], rfl, fun i q e => by simp at e⟩
  | cons v zs ih =>
    obtain ⟨q, rfl, hq⟩ := h 0 v rfl
    obtain ⟨qs, rfl, hqs⟩ := ih (R := fun i => R (i + 1)) fun i v e => h (i + 1) v e
    exact ⟨q :: qs, rfl, fun i x e => match i, e with
      | 0, e => Option.some.inj e ▸ hq
      | i + 1, e => hqs i x e⟩
/-- all of them, if there are all -/
def allO {α : Type} : List (Option α) → Option (List α)
  | [] => some []
  | none :: _ => none
  | some a :: r => (allO r).map (a :: ·)
theorem allO_some {α : Type} : ∀ {l : List (Option α)} {r : List α}, allO l = some r ↔ l = r.map some
  | [], r => by cases r <;> simp [allO]
  | none :: l, r => by cases r <;> simp [allO]
  | some a :: l, r => by
    cases r with
    | nil => simp [allO]
    | cons b r =>
      have ih := allO_some (l := l) (r := r)
      simp only [allO, List.map_cons, List.cons.injEq, Option.some.injEq, Option.map_eq_some_iff]
      constructor
      · rintro ⟨x, hx, rfl, rfl⟩
        exact ⟨rfl, ih.mp hx⟩
      · rintro ⟨rfl, h⟩
        exact ⟨r, ih.mpr h, rfl, rfl⟩
theorem allO_none {α : Type} : ∀ {l : List (Option α)}, allO l = none ↔ none ∈ l
  | [] => by simp [allO]
  | none :: l => by simp [allO]
  | some a :: l => by
    have ih := allO_none (l := l)
    simp [allO, ih]
def looksT (os : List (Option Str)) (th : List Str) : Option (List Lk3) := if os.length ≤ 12 then allO (os.map fun o => lookO o th) else none
def looksO (o : Option (List (Option Str))) (th : List Str) : Option (List Lk3) := match o with
  | some os => looksT os th
  | none => none
theorem LtAt.sameO {K : PySem.W.Frag} {H H' : Hp} {q : Addr} {k : Lk3} (h : LtAt K H q k) (s : SameO H H') : LtAt K H' q k := let ⟨m, t, p, a, b, c, d⟩ := h; ⟨m, t, p, s.sqt a, s.sqt b, s.sqt c, s.sqt d⟩
def dLk (k : Lk3) : PyData := .tuple [.tuple (k.1.map PyData.str), .tuple (k.2.1.map PyData.str), .tuple (k.2.2.map PyData.str)]
def dLkO : Option Lk3 → PyData
  | some k => dLk k
  | none => .none
/-- a look of these things -/
def LkIn (th : List Str) (k : Lk3) : Prop := (∀ z ∈ k.1, z ∈ th) ∧ (∀ z ∈ k.2.1, z ∈ k.1) ∧ (∀ z ∈ k.2.2, z ∈ k.1) ∧ k.1 ≠ [] ∧ k.1.length ≤ 10 ∧ k.2.1.length ≤ 10 ∧ k.2.2.length ≤ 10
theorem LtAt.dp {K : PySem.W.Frag} {H : Hp} {q : Addr} {k : Lk3} (h : LtAt K H q k) : Dp K H (.ref q) (dLk k) := let ⟨m, t, p, a, b, c, d⟩ := h
  .tup a (.cons (.tup b (dp_strs _)) (.cons (.tup c (dp_strs _)) (.cons (.tup d (dp_strs _)) .nil)))
theorem okD_lk {th : List Str} (h : ∀ z ∈ th, nameOk z = true) {k : Lk3} (i : LkIn th k) : okD (dLk k) = true := by
  have a : ∀ l : List Str, (∀ z ∈ l, z ∈ k.1) → okD (.tuple (l.map PyData.str)) = true := fun l hl => okDs_strs fun z hz => nameOk_str (h z (i.1 z (hl z hz)))
  show (okD (.tuple (k.1.map PyData.str)) && (okD (.tuple (k.2.1.map PyData.str)) && (okD (.tuple (k.2.2.map PyData.str)) && true))) = true
  rw [a _ fun _ h => h, a _ i.2.1, a _ i.2.2.1]
  rfl
theorem depth_lk (o : Option Lk3) : PyData.depth (dLkO o) ≤ 2 := by
  cases o with
  | none => decide
  | some k =>
    simp only [dLkO, dLk, PyData.depth, PyData.depthAll, depth_strs]
    decide
theorem shaped_lks {th : List Str} (h : ∀ z ∈ th, nameOk z = true) {os : List (Option Lk3)} (i : ∀ k, some k ∈ os → LkIn th k) : SeqAt.shaped (.list (os.map dLkO)) = true := by
  refine shaped_of (d := .list _) ?_ ?_
  · show okDs (os.map dLkO) = true
    induction os with
    | nil => rfl
    | cons o os ih =>
      have e : okD (dLkO o) = true := by
        cases o with
        | none => rfl
        | some k => exact okD_lk h (i k List.mem_cons_self)
      show (okD (dLkO o) && okDs (os.map dLkO)) = true
      rw [e, ih fun k hk => i k (List.mem_cons_of_mem _ hk)]
      rfl
  · have := depth_all (fun o => depth_lk o) os
    simp only [PyData.depth]
    omega
theorem any_none (os : List (Option Lk3)) : ((os.map dLkO).any fun z => PyData.eqv z .none) = decide (none ∈ os) := by
  induction os with
  | nil => rfl
  | cons o os ih =>
    rw [List.map_cons, List.any_cons, ih]
    cases o with
    | none => simp [dLkO, PyData.eqv]
    | some k => simp [dLkO, dLk, PyData.eqv]
theorem asc_iff : ∀ ss : List Str, ascB ss = true ↔ ss.Pairwise ltS
  | [] => by simp [ascB]
  | [a] => by simp [ascB]
  | a :: b :: r => by
    have ih := asc_iff (b :: r)
    have e : ascB (a :: b :: r) = (decide (ltS a b) && ascB (b :: r)) := rfl
    rw [e, Bool.and_eq_true, ih, List.pairwise_cons (a := a)]
    constructor
    · rintro ⟨h1, h2⟩
      have h1 := of_decide_eq_true h1
      refine ⟨fun x hx => ?_, h2⟩
      rcases List.mem_cons.mp hx with rfl | hx
      · exact h1
      · exact ltS_trans h1 ((List.pairwise_cons.mp h2).1 x hx)
    · rintro ⟨h1, h2⟩
      exact ⟨decide_eq_true (h1 b List.mem_cons_self), h2⟩
theorem asc_nd {ss : List Str} (h : ascB ss = true) : ss.Nodup := ((asc_iff ss).mp h).imp fun {a b} q e => by
  subst e
  exact ltS_irrefl a q
theorem thOk_of {ys : List Str} (l1 : 1 ≤ ys.length) (l10 : ys.length ≤ 10) (nd : ys.Nodup) (so : sortedS ys = true) (ok : ∀ z ∈ ys, nameOk z = true) : ThOk ys :=
  ⟨List.length_pos_iff.mp l1, l10, ok, (asc_iff ys).mpr (sorted_lt nd so)⟩
theorem set_len {xs th : List Str} (h : setB xs th = true) : xs.length ≤ th.length ∧ (∀ z ∈ xs, z ∈ th) ∧ xs.Pairwise ltS := by
  obtain ⟨h1, h2⟩ := Bool.and_eq_true_iff.mp h
  have m : ∀ z ∈ xs, z ∈ th := fun z hz => of_decide_eq_true (List.all_eq_true.mp h1 z hz)
  exact ⟨List.Nodup.length_le_of_subset (asc_nd h2) (fun z hz => m z hz : xs ⊆ th), m, (asc_iff xs).mp h2⟩
theorem lookT_in {z : Str} {th : List Str} {k : Lk3} (tok : ThOk th) (h : lookT z th = some k) : LkIn th k := by
  unfold lookT at h
  split at h
  · rename_i c
    obtain rfl := Option.some.inj h
    have w : ∀ d, ∀ y ∈ withT z d, y ∈ namesT z := fun d y hy => by
      obtain ⟨x, hx, rfl⟩ := List.mem_map.mp hy
      exact List.mem_map_of_mem (List.mem_filter.mp hx).1
    have wl : ∀ d, (withT z d).length ≤ (namesT z).length := fun d => by
      unfold withT namesT
      rw [List.length_map, List.length_map]
      exact List.length_filter_le _ _
    obtain ⟨a, b, _⟩ := set_len c.1
    have l10 := tok.2.1
    exact ⟨b, w 43, w 45, (fun e => splitB_ne z (List.map_eq_nil_iff.mp e)), Nat.le_trans a l10, Nat.le_trans (wl 43) (Nat.le_trans a l10), Nat.le_trans (wl 45) (Nat.le_trans a l10)⟩
  · cases h
theorem lookO_in {o : Option Str} {th : List Str} {k : Lk3} (tok : ThOk th) (h : lookO o th = some k) : LkIn th k := by
  cases o with
  | none => cases h
  | some z => exact lookT_in tok h
theorem dp_all {K : PySem.W.Frag} {H : Hp} {α : Type} {f : α → PyData} : ∀ {zs : List V} {ls : List α}, zs.length = ls.length → (∀ (i : Nat) (v : V) (l : α), zs[i]? = some v → ls[i]? = some l → Dp K H v (f l)) → DpAll K H zs (ls.map f)
  | [], [], _, _ => .nil
  | [], _ :: _, h, _ => by cases h
  | _ :: _, [], h, _ => by cases h
  | v :: zs, l :: ls, h, hd => .cons (hd 0 v l rfl rfl) (dp_all (by simpa using h) fun i v l h1 h2 => hd (i + 1) v l h1 h2)
def spLooksOf (K : PySem.W.Frag) : Sp := fun vs H Q _ => ∃ (v : V) (o : Option (List (Option Str))) (t : Addr) (th : List Str), vs = [v, .ref t] ∧ TupV K H v o ∧ SqT K H t (th.map V.str) ∧ ThOk th ∧
  (∀ ks, looksO o th = some ks → ∀ (l : Addr) (qs : List Addr) (H' : Hp), Same H H' → LtsAt K H' l qs ks → Q (.ref l) H') ∧ (looksO o th = none → ∀ H', Same H H' → Q .non H')
section
variable {P : Program} {w : World} {K : PySem.W.Frag} {mg : Str → Option Value} {base : Heap}
theorem ok_looks_of (T : Tx K mg w) : FnOk P w K mg base CX0 5 T.a_looks_of T.fd_looks_of ["value", "things"] (spLooksOf K) := by
  refine T.F_looks_of.ok sc_looks_of (fun vs H Q E h => ?_) (fun cdv A outer s H vs Q E hr h => ?_)
  · obtain ⟨v, o, t, th, rfl, _⟩ := h
    rfl
  · obtain ⟨v, o, t, th, rfl, hv, hT, tok, good, bad⟩ := h
    refine ⟨_, (pss_cons (ps_if (PW.pt (pw_or (pt_not (pt_val (pe_callB call_isi (by rfl) T.n_isinstance (by decide +kernel) (pa_cons (pv 0) (pa_cons (pe_bltn (v := .ty "tuple") (by rfl) T.n_tuple (by decide +kernel) rfl) pa_nil))))) (pw_or1 (pt_cmpR op_gt (pe_callB call_len_seq (by rfl) T.n_len (by decide +kernel) (pa_cons (pv 0) pa_nil)) (pe_glob (v := .int 12) rfl T.g_MOST_LOOKS.choose_spec ⟨_, rfl⟩) (nomark _)))))
        (pss_one (ps_ret pe_non))
        pss_nil)
      (pss_cons (ps_setLc (i := 2) (own := [("text", 3)]) (g := gName 3) (tt := tYes) rfl sc_looks_of.nd rfl rfl (sw_true rfl rfl rfl (by decide +kernel)) (pi_tup (pv 0)) (blkOk_by (own := [("text", 3)]) (N := names_looks_of) (sc := defScope st_looks_of) (by decide +kernel)) (fun _ _ _ _ _ => pg_name (i := 3) sc_looks_of.nd rfl (Or.inl rfl)) (fun _ _ _ _ _ => pts_nil) (fun _ _ _ _ _ => (pe_call (ok_look_of T) (hr.mono (by decide)) rfl T.g_look_of T.F_look_of.kp T.b_look_of .nil pass0 (pa_cons (pv 3) (pa_cons (pv 1) pa_nil)))))
      (pss_one (ps_ret (pe_ifExp (pt_cmpR (op_inD (u65 hr)) pe_non (pv 2) (by rfl)) pe_non (pv 2)))))), ?_⟩
    cases hv with
    | none ty kt =>
      refine ⟨_, rfl, _, _, _, _, false, rfl, .ty _, ty, kit_ty kt, _, rfl, iteT ?_⟩
      exact bad rfl H (Same.refl H)
    | @tup a us os h hl le at_ =>
      refine ⟨_, rfl, _, _, _, _, true, rfl, .ty _, h.ty, kit_ty (by decide +kernel), _, rfl, iteF ?_⟩
      have bad : looksT os th = none → ∀ H', Same H H' → Q .non H' := bad
      have good : ∀ ks, looksT os th = some ks → ∀ (l : Addr) (qs : List Addr) (H' : Hp), Same H H' → LtsAt K H' l qs ks → Q (.ref l) H' := good
      unfold looksT at bad good
      refine ⟨_, rfl, a, _, rfl, .inr h, _, _, rfl, rfl, _, rfl, ?_⟩
      by_cases c1 : os.length ≤ 12
      · rw [if_pos c1] at bad good
        refine ifF (decide_eq_false (by omega)) ?_
        refine ⟨_, rfl, a, rfl, ⟨_, h⟩, fun D nD => lco walk_tup (fun i v H' => ∃ o, os[i]? = some o ∧ ((∃ k q, lookO o th = some k ∧ v = V.ref q ∧ LtAt K H' q k) ∨ (lookO o th = none ∧ v = V.non))) nD (by omega) (fun H' s => s.sqt h) (fun _ _ _ _ _ y => yat_same y) (fun i v H' H'' ⟨o, ho, r⟩ so => ⟨o, ho, r.imp (fun ⟨k, q, e1, e2, e3⟩ => ⟨k, q, e1, e2, e3.sameO so⟩) id⟩) (fun i x H1 H2 hi s1 yy Z hZ => ?_) (fun H1 zs s1 e1 lz hzs => ?_)⟩
        · obtain ⟨rfl, hx⟩ := yy
          have ho : os[i]? = some (os[i]'(by omega)) := List.getElem?_eq_getElem _
          generalize os[i]'(by omega) = o at ho
          refine ⟨rfl, _, rfl, _, rfl, x, o, t, th, rfl, (at_ i x o hx ho).same s1, s1.sqt hT, tok, fun k hk q H3 s3 hq => ?_, fun hk H3 s3 => ?_⟩
          · exact hZ _ _ s3 ⟨o, ho, .inl ⟨k, q, hk, rfl, hq⟩⟩
          · exact hZ _ _ s3 ⟨o, ho, .inr ⟨hk, rfl⟩⟩
        · have lz2 : zs.length = (os.map fun o => lookO o th).length := by rw [List.length_map]; omega
          refine ⟨_, rfl, _, _, .non, .lst (lst_of e1) (dp_all (f := dLkO) (ls := os.map fun o => lookO o th) lz2 fun i v l h1 h2 => ?_), (by decide), shaped_lks tok.2.2.1 (fun k hk => ?_), ?_⟩
          · obtain ⟨o, ho, r⟩ := hzs i v h1
            rw [List.getElem?_map, ho] at h2
            obtain rfl : lookO o th = l := Option.some.inj h2
            rcases r with ⟨k, q, e1, rfl, e3⟩ | ⟨e1, rfl⟩
            · rw [e1]
              exact e3.dp
            · rw [e1]
              exact .non
          · obtain ⟨o, _, e⟩ := List.mem_map.mp hk
            exact lookO_in tok e
          rw [any_none]
          refine ⟨_, rfl, ?_⟩
          cases hA : allO (os.map fun o => lookO o th) with
          | none =>
            rw [decide_eq_true (allO_none.mp hA)]
            exact ifT rfl (bad hA H1 s1)
          | some ks =>
            rw [decide_eq_false (fun q => by rw [allO_none.mpr q] at hA; cases hA)]
            refine ifF rfl ⟨_, rfl, ?_⟩
            have eks := allO_some.mp hA
            obtain ⟨qs, rfl, hqs⟩ := refs_all (zs := zs) (R := fun i q => ∃ k, ks[i]? = some k ∧ LtAt K H1 q k) fun i v hv => by
              obtain ⟨o, ho, r⟩ := hzs i v hv
              have e2 : (os.map fun o => lookO o th)[i]? = some (lookO o th) := by rw [List.getElem?_map, ho]; rfl
              rw [eks, List.getElem?_map] at e2
              obtain ⟨k, hk, e3⟩ := Option.map_eq_some_iff.mp e2
              rcases r with ⟨k2, q, e4, rfl, e5⟩ | ⟨e4, _⟩
              · rw [e4] at e3
                obtain rfl : k = k2 := Option.some.inj e3
                exact ⟨q, rfl, k, hk, e5⟩
              · rw [e4] at e3
                cases e3
            refine good ks hA D qs H1 s1 ⟨lst_of e1, ?_, fun j q k h1 h2 => ?_⟩
            · rw [List.length_map] at lz2
              rw [lz2, eks, List.length_map]
            · obtain ⟨k2, h3, h4⟩ := hqs j q h1
              obtain rfl : k2 = k := Option.some.inj (h3.symm.trans h2)
              exact h4
      · exact ifT (decide_eq_true (by omega)) (bad (if_neg c1) H (Same.refl H))
end
end MH
namespace MH
open PySem PySem.Spec PyProof.Rows L2
theorem _root_.MH.TupO.so {H H' : Hp} {a : Addr} {xs : List V} (h : TupO H a xs) (s : SameO H H') : TupO H' a xs := let ⟨o, e, d⟩ := h; ⟨o, s _ _ (fun l q => by cases q) e, d⟩
/-- the row that a value tells -/
def rowT : Option Str → Option (List Str)
  | some z => if rowB z = true then some (Txt.split z " ") else none
  | none => none
def dRowO : Option (List Str) → PyData
  | some r => .tuple (r.map PyData.str)
  | none => .none
theorem any_noneR (os : List (Option (List Str))) : ((os.map dRowO).any fun z => PyData.eqv z .none) = decide (none ∈ os) := by
  induction os with
  | nil => rfl
  | cons o os ih =>
    rw [List.map_cons, List.any_cons, ih]
    cases o with
    | none => simp [dRowO, PyData.eqv]
    | some k => simp [dRowO, PyData.eqv]
theorem shaped_rowsO {os : List (Option (List Str))} (i : ∀ r, some r ∈ os → ∀ z ∈ r, nameOk z = true) : SeqAt.shaped (.list (os.map dRowO)) = true := by
  refine shaped_of (d := .list _) ?_ ?_
  · show okDs (os.map dRowO) = true
    induction os with
    | nil => rfl
    | cons o os ih =>
      have e : okD (dRowO o) = true := by
        cases o with
        | none => rfl
        | some k => exact okDs_strs fun z hz => nameOk_str (i k List.mem_cons_self z hz)
      show (okD (dRowO o) && okDs (os.map dRowO)) = true
      rw [e, ih fun k hk => i k (List.mem_cons_of_mem _ hk)]
      rfl
  · have := depth_all (f := dRowO) (m := 1) (fun o => by
      cases o with
      | none => decide
      | some k =>
        simp only [dRowO, PyData.depth, depth_strs]
        decide) os
    simp only [PyData.depth]
    omega
theorem rowT_ok {o : Option Str} {r : List Str} (h : rowT o = some r) : r.length ≤ 10 ∧ r.Nodup ∧ (∀ z ∈ r, nameOk z = true) ∧ ∃ z, o = some z ∧ r = Txt.split z " " := by
  cases o with
  | none => cases h
  | some z =>
    have h : (if rowB z = true then some (Txt.split z " ") else none) = some r := h
    by_cases c : rowB z = true
    · rw [if_pos c] at h
      obtain rfl := Option.some.inj h
      obtain ⟨c1, c3⟩ := Bool.and_eq_true_iff.mp c
      obtain ⟨c1, c2⟩ := Bool.and_eq_true_iff.mp c1
      exact ⟨of_decide_eq_true c1, of_decide_eq_true c2, fun z hz => List.all_eq_true.mp c3 z hz, z, rfl, rfl⟩
    · rw [if_neg c] at h
      cases h
/-- rows in a list -/
def RowsT (K : PySem.W.Frag) (H : Hp) (l : Addr) (ts : List Addr) (rs : List (List Str)) : Prop := SqL K H l (ts.map V.ref) ∧ ts.length = rs.length ∧ ∀ (j : Nat) (t : Addr) (r : List Str), ts[j]? = some t → rs[j]? = some r → SqT K H t (r.map V.str)
theorem RowsT.same {K : PySem.W.Frag} {H H' : Hp} {l : Addr} {ts : List Addr} {rs : List (List Str)} (h : RowsT K H l ts rs) (s : Same H H') : RowsT K H' l ts rs := ⟨same_sql s h.1, h.2.1, fun j t r h1 h2 => s.sqt (h.2.2 j t r h1 h2)⟩
/-- all people have all looks -/
def allHas (rs : List (List Str)) (ks : List Lk3) : Bool := ks.all fun k => hasB rs k.1 k.2.1 k.2.2
/-- the rows of the people that a value tells, where they fit -/
def peopleT (os : List (Option Str)) (th : List Str) (ks : List Lk3) : Option (List (List Str)) := if 1 ≤ os.length ∧ os.length ≤ 130 then
    match allO (os.map rowT) with
    | some rs => if (rs.all fun r => decide (r.Perm th)) = true ∧ allHas rs ks = true then some rs else none
    | none => none
  else none
def peopleO (o : Option (List (Option Str))) (th : List Str) (ks : List Lk3) : Option (List (List Str)) := match o with
  | some os => peopleT os th ks
  | none => none
theorem peopleO_ok {o : Option (List (Option Str))} {th : List Str} {ks : List Lk3} {rs : List (List Str)} (h : peopleO o th ks = some rs) : 1 ≤ rs.length ∧ rs.length ≤ 130 ∧ ∀ r ∈ rs, r.Perm th := by
  cases o with
  | none => cases h
  | some os =>
    have h : peopleT os th ks = some rs := h
    unfold peopleT at h
    split at h
    · rename_i c
      split at h
      · rename_i rs' e
        split at h
        · rename_i c2
          obtain rfl := Option.some.inj h
          have e2 := congrArg List.length (allO_some.mp e)
          rw [List.length_map, List.length_map] at e2
          exact ⟨by omega, by omega, fun r hr => of_decide_eq_true (List.all_eq_true.mp c2.1 r hr)⟩
        · cases h
      · cases h
    · cases h
theorem sort_perm {ys r th : List Str} (p : ys.Perm r) (so : sortedS ys = true) (tok : ThOk th) : ys = th ↔ r.Perm th := by
  have pw := (asc_iff th).mp tok.2.2.2
  constructor
  · rintro rfl
    exact p.symm
  · intro q
    have pq := p.trans q
    exact pq.eq_of_pairwise (le := fun a b => ltS a b) (fun a b _ _ h1 h2 => absurd (ltS_trans h1 h2) (ltS_irrefl _)) (sorted_lt (pq.nodup_iff.mpr (asc_nd tok.2.2.2)) so) pw
def spPeople (K : PySem.W.Frag) : Sp := fun vs H Q _ => ∃ (v : V) (o : Option (List (Option Str))) (t l : Addr) (th : List Str) (qs : List Addr) (ks : List Lk3), vs = [v, .ref t, .ref l] ∧ TupV K H v o ∧ SqT K H t (th.map V.str) ∧ ThOk th ∧ LtsAt K H l qs ks ∧ (∀ k ∈ ks, LkIn th k) ∧ ks.length ≤ 1000 ∧
  (∀ rs, peopleO o th ks = some rs → ∀ (D : Addr) (ts : List Addr) (H' : Hp), Same H H' → RowsT K H' D ts rs → Q (.ref D) H') ∧ (peopleO o th ks = none → ∀ H', Same H H' → Q .non H')
section
variable {P : Program} {w : World} {K : PySem.W.Frag} {mg : Str → Option Value} {base : Heap}
theorem ok_people_who_fit (T : Tx K mg w) : FnOk P w K mg base CX0 3 T.a_people_who_fit T.fd_people_who_fit ["value", "things", "looks"] (spPeople K) := by
  refine T.F_people_who_fit.ok sc_people_who_fit (fun vs H Q E h => ?_) (fun cdv A outer s H vs Q E hr h => ?_)
  · obtain ⟨v, o, t, l, th, qs, ks, rfl, _⟩ := h
    rfl
  · obtain ⟨v, o, t, l, th, qs, ks, rfl, hv, hT, tok, lks, lin, kle, good, bad⟩ := h
    refine ⟨_, (pss_cons (ps_if (PW.pt (pw_or (pt_not (pt_val (pe_callB call_isi (by rfl) T.n_isinstance (by decide +kernel) (pa_cons (pv 0) (pa_cons (pe_bltn (v := .ty "tuple") (by rfl) T.n_tuple (by decide +kernel) rfl) pa_nil))))) (pw_or1 (pt_not (pt_chain op_le op_le pe_int (pe_callB call_len_seq (by rfl) T.n_len (by decide +kernel) (pa_cons (pv 0) pa_nil)) (pe_glob (v := .int 130) rfl T.g_MOST_IN_CERTIFICATES.choose_spec ⟨_, rfl⟩))))))
        (pss_one (ps_ret pe_non))
        pss_nil)
      (pss_cons (ps_set (i := 3) sc_people_who_fit.nd rfl (Or.inr rfl) (pe_lc (own := [("text", 4)]) (g := gName 4) (tt := tYes) rfl sc_people_who_fit.nd (pi_tup (pv 0)) (blkOk_by (own := [("text", 4)]) (N := names_people_who_fit) (sc := defScope st_people_who_fit) (by decide +kernel)) (fun _ _ _ _ _ => pg_name (i := 4) sc_people_who_fit.nd rfl (Or.inl rfl)) (fun _ _ _ _ _ => pts_nil) (fun _ _ _ _ _ => (pe_call (ok_row_of T) (hr.mono (by decide)) rfl T.g_row_of T.F_row_of.kp T.b_row_of .nil pass0 (pa_cons (pv 4) pa_nil)))))
      (pss_cons (ps_if (PW.pt (pw_or (pt_cmpR (op_inD (u65 hr)) pe_non (pv 3) (by rfl)) (pw_or1 (pt_not (pt_val (pe_callB (cr_all rfl) (by rfl) T.n_all (by decide +kernel) (pa_cons (pe_lc (own := [("row", 6)]) (g := gName 6) (tt := tYes) rfl sc_people_who_fit.nd (pi_list (pv 3)) (blkOk_by (own := [("row", 6)]) (N := names_people_who_fit) (sc := defScope st_people_who_fit) (by decide +kernel)) (fun _ _ _ _ _ => pg_name (i := 6) sc_people_who_fit.nd rfl (Or.inl rfl)) (fun _ _ _ _ _ => pts_nil) (fun _ _ _ _ _ => (pe_cmpR (r := rEqD K) (op_eqD hr.units) (pe_callB (r := rSortedU K) cr_sortedU (by rfl) T.n_sorted (by decide +kernel) (pa_cons (pv 6) pa_nil)) (pe_callTy (r := rListOf K) (T := "list") call_list_of (by rfl) T.n_list (by decide +kernel) (pa_cons (pv 1) pa_nil)) (nomark _)))) pa_nil)))))))
        (pss_one (ps_ret pe_non))
        pss_nil)
      (pss_one (ps_ret (pe_ifExp (pt_val (pe_callB (cr_all rfl) (by rfl) T.n_all (by decide +kernel) (pa_cons (pe_lc (own := [("look", 5)]) (g := gName 5) (tt := tYes) rfl sc_people_who_fit.nd (pi_list (pv 2)) (blkOk_by (own := [("look", 5)]) (N := names_people_who_fit) (sc := defScope st_people_who_fit) (by decide +kernel)) (fun _ _ _ _ _ => pg_name (i := 5) sc_people_who_fit.nd rfl (Or.inl rfl)) (fun _ _ _ _ _ => pts_nil) (fun _ _ _ _ _ => (pe_call (ok_has T) (hr.mono (by decide)) rfl T.g_has T.F_has.kp T.b_has .nil pass0 (pa_cons (pv 3) (pa_cons (pv 5) pa_nil))))) pa_nil))) (pv 3) pe_non)))))), ?_⟩
    cases hv with
    | none ty kt =>
      refine ⟨_, rfl, _, _, _, _, false, rfl, .ty _, ty, kit_ty kt, _, rfl, iteT ?_⟩
      exact bad rfl H (Same.refl H)
    | @tup a us os h hl le at_ =>
      refine ⟨_, rfl, _, _, _, _, true, rfl, .ty _, h.ty, kit_ty (by decide +kernel), _, rfl, iteF ?_⟩
      have bad : peopleT os th ks = none → ∀ H', Same H H' → Q .non H' := bad
      have good : ∀ rs, peopleT os th ks = some rs → ∀ (D : Addr) (ts : List Addr) (H' : Hp), Same H H' → RowsT K H' D ts rs → Q (.ref D) H' := good
      unfold peopleT at bad good
      refine ⟨_, rfl, a, _, rfl, .inr h, _, _, rfl, rfl, _, rfl, ?_⟩
      by_cases c0 : 1 ≤ us.length
      · refine ifT (decide_eq_true (by omega)) ?_
        refine ⟨_, _, rfl, rfl, _, rfl, ?_⟩
        by_cases c1 : us.length ≤ 130
        · refine ifF (by simp; omega) ?_
          rw [if_pos (by omega)] at bad good
          refine ⟨_, rfl, a, rfl, ⟨_, h⟩, fun D nD => lco walk_tup (fun i v H' => ∃ o, os[i]? = some o ∧ ((∃ r q, rowT o = some r ∧ v = V.ref q ∧ TupO H' q (r.map V.str)) ∨ (rowT o = none ∧ v = V.non))) nD (by omega) (fun H' s => s.sqt h) (fun _ _ _ _ _ y => yat_same y) (fun i v H' H'' ⟨o, ho, r⟩ so => ⟨o, ho, r.imp (fun ⟨k, q, e1, e2, e3⟩ => ⟨k, q, e1, e2, e3.so so⟩) id⟩) (fun i x H1 H2 hi s1 yy Z hZ => ?_) (fun H1 zs s1 e1 lz hzs => ?_)⟩
          · obtain ⟨rfl, hx⟩ := yy
            have ho : os[i]? = some (os[i]'(by omega)) := List.getElem?_eq_getElem _
            generalize os[i]'(by omega) = o at ho
            refine ⟨rfl, _, rfl, x, o, rfl, (at_ i x o hx ho).same s1, fun z e hz t' H3 s3 hq => ?_, fun hk H3 s3 => ?_⟩
            · subst e
              exact hZ _ _ s3 ⟨_, ho, .inl ⟨_, t', if_pos hz, rfl, hq⟩⟩
            · refine hZ _ _ s3 ⟨o, ho, .inr ⟨?_, rfl⟩⟩
              cases o with
              | none => rfl
              | some z => exact if_neg (by rw [show rowB z = false from hk]; decide)
          · have lz2 : zs.length = (os.map rowT).length := by rw [List.length_map]; omega
            refine ⟨_, rfl, _, _, .non, .lst (lst_of e1) (dp_all (f := dRowO) (ls := os.map rowT) lz2 fun i v l h1 h2 => ?_), (by decide), shaped_rowsO (fun k hk => ?_), ?_⟩
            · obtain ⟨o, ho, r⟩ := hzs i v h1
              rw [List.getElem?_map, ho] at h2
              obtain rfl : rowT o = l := Option.some.inj h2
              rcases r with ⟨k, q, e1, rfl, e3⟩ | ⟨e1, rfl⟩
              · rw [e1]
                exact .tup e3.sqt (dp_strs _)
              · rw [e1]
                exact .non
            · obtain ⟨o, _, e⟩ := List.mem_map.mp hk
              exact (rowT_ok e).2.2.1
            rw [any_noneR]
            refine ⟨_, rfl, ?_⟩
            cases hA : allO (os.map rowT) with
            | none =>
              rw [hA] at bad
              rw [decide_eq_true (allO_none.mp hA)]
              exact ifT rfl (bad rfl H1 s1)
            | some rs =>
              rw [decide_eq_false (fun q => by rw [allO_none.mpr q] at hA; cases hA)]
              refine ifF rfl ?_
              rw [hA] at bad good
              simp only at bad good
              have eks := allO_some.mp hA
              have rok : ∀ r ∈ rs, r.length ≤ 10 ∧ r.Nodup ∧ ∀ z ∈ r, nameOk z = true := fun r hr => by
                have m : some r ∈ os.map rowT := by rw [eks]; exact List.mem_map_of_mem hr
                obtain ⟨o, _, e⟩ := List.mem_map.mp m
                obtain ⟨a1, a2, a3, _⟩ := rowT_ok e
                exact ⟨a1, a2, a3⟩
              obtain ⟨ts, rfl, hts⟩ := refs_all (zs := zs) (R := fun i q => ∃ r, rs[i]? = some r ∧ TupO H1 q (r.map V.str)) fun i v hv => by
                obtain ⟨o, ho, r⟩ := hzs i v hv
                have e2 : (os.map rowT)[i]? = some (rowT o) := by rw [List.getElem?_map, ho]; rfl
                rw [eks, List.getElem?_map] at e2
                obtain ⟨k, hk, e3⟩ := Option.map_eq_some_iff.mp e2
                rcases r with ⟨k2, q, e4, rfl, e5⟩ | ⟨e4, _⟩
                · rw [e4] at e3
                  obtain rfl : k = k2 := Option.some.inj e3
                  exact ⟨q, rfl, k, hk, e5⟩
                · rw [e4] at e3
                  cases e3
              have ltr : ts.length = rs.length := by
                rw [List.length_map, eks, List.length_map] at lz2
                exact lz2
              have rt : RowsT K H1 D ts rs := ⟨lst_of e1, ltr, fun j q r h1 h2 => by
                obtain ⟨r2, h3, h4⟩ := hts j q h1
                obtain rfl : r2 = r := Option.some.inj (h3.symm.trans h2)
                exact h4.sqt⟩
              have lrs : rs.length ≤ 130 := by
                have := congrArg List.length eks
                rw [List.length_map, List.length_map] at this
                omega
              refine ⟨_, rfl, D, rfl, ⟨_, rt.1⟩, fun D2 nD2 => lcv walk_list rs (fun r => V.bl (decide (r.Perm th))) (by rw [List.length_map]; exact ltr.symm) nD2 (by rw [List.length_map]; omega) (fun H' s => same_sql s rt.1) (fun _ _ _ _ _ y => yat_same y) (fun i r x H2 H3 hr2 s2 yy Z hZ => ?_) (fun H2 s2 e2 => ?_)⟩
              · obtain ⟨rfl, hx⟩ := yy
                obtain ⟨q, hq, rfl⟩ := ref_at hx
                have hq2 := s2.sqt (rt.2.2 i q r hq hr2)
                obtain ⟨r1, r2, r3⟩ := rok r (List.mem_of_getElem? hr2)
                refine ⟨rfl, _, rfl, q, r, rfl, hq2, by omega, fun ys p pm so np => ?_⟩
                have s5 := Same.new np (o := .lst (ys.map V.str))
                have hp3 : (upd H3 p (.lst (ys.map V.str))) p = some (.lst (ys.map V.str)) := upd_same
                generalize upd H3 p (.lst (ys.map V.str)) = H4 at s5 hp3 ⊢
                refine ⟨_, rfl, t, _, rfl, .inr (((s1.trans s2).trans s5).sqt hT), fun p0 np0 => ?_⟩
                have s4 := Same.new np0 (o := .lst (th.map V.str))
                refine ⟨_, _, .lst (lst_of (s4 _ _ hp3)) (dp_strs ys), .lst (lst_of upd_same) (dp_strs th), shaped_strsL (fun z hz => r3 z (pm.subset hz)), shaped_strsL tok.2.2.1, ?_⟩
                rw [eqv_strsL, show decide (ys = th) = decide (r.Perm th) from decide_eq_decide.mpr (sort_perm pm so tok)]
                exact hZ _ (s5.trans s4)
              refine ⟨D2, rs.map fun r => decide (r.Perm th), rfl, lst_of (by rw [e2, List.map_map]; rfl), ?_⟩
              rw [show (rs.map fun r => decide (r.Perm th)).all id = rs.all fun r => decide (r.Perm th) by rw [List.all_map]; rfl]
              have s02 := s1.trans s2
              refine ⟨_, rfl, ?_⟩
              by_cases c3 : (rs.all fun r => decide (r.Perm th)) = true
              · rw [c3] at bad good ⊢
                refine ifF rfl ?_
                have rt2 := rt.same s2
                have lk2 := lks.same s02
                have hb : ∀ (k : Lk3), k ∈ ks → ∀ r ∈ rs, r.length ≤ 1000 ∧ ∃ z ∈ r, z ∈ k.1 := fun k hk r hr => by
                  have pr : r.Perm th := of_decide_eq_true (List.all_eq_true.mp c3 r hr)
                  obtain ⟨z, hz⟩ := List.exists_mem_of_ne_nil _ (lin k hk).2.2.2.1
                  exact ⟨by have := (rok r hr).1; omega, z, pr.symm.subset ((lin k hk).1 z hz), hz⟩
                refine ⟨_, rfl, l, rfl, ⟨_, lk2.1⟩, fun D3 nD3 => lcv walk_list ks (fun k => V.bl (hasB rs k.1 k.2.1 k.2.2)) (by rw [List.length_map]; exact lk2.2.1.symm) nD3 (by rw [List.length_map, lk2.2.1]; omega) (fun H' s => same_sql s lk2.1) (fun _ _ _ _ _ y => yat_same y) (fun i k x H4 H5 hk s4 yy Z hZ => ?_) (fun H4 s4 e4 => ?_)⟩
                · obtain ⟨rfl, hx⟩ := yy
                  obtain ⟨q, hq, rfl⟩ := ref_at hx
                  obtain ⟨m, u, p, h1, h2, h3, h4⟩ := (lk2.2.2 i q k hq hk).same s4
                  have mk := List.mem_of_getElem? hk
                  have rt4 := rt2.same s4
                  exact ⟨rfl, _, rfl, _, rfl, D, q, m, u, p, ts, rs, k.1, k.2.1, k.2.2, rfl, rt4.1, rt4.2.1, by omega, rt4.2.2, h1, h2, h3, by have := (lin k mk).2.2.2.2.2.1; omega, h4, hb k mk, fun H6 s6 => hZ _ s6⟩
                refine ⟨D3, ks.map fun k => hasB rs k.1 k.2.1 k.2.2, rfl, lst_of (by rw [e4, List.map_map]; rfl), ?_⟩
                rw [show (ks.map fun k => hasB rs k.1 k.2.1 k.2.2).all id = allHas rs ks by unfold allHas; rw [List.all_map]; rfl]
                have s04 := s02.trans s4
                refine ⟨_, rfl, ?_⟩
                by_cases c4 : allHas rs ks = true
                · rw [c4] at bad good ⊢
                  exact ifT rfl ⟨_, rfl, good rs (if_pos ⟨rfl, rfl⟩) D ts H4 s04 (rt2.same s4)⟩
                · rw [Bool.eq_false_iff.mpr c4]
                  exact ifF rfl (bad (if_neg fun h => c4 h.2) H4 s04)
              · rw [Bool.eq_false_iff.mpr c3]
                exact ifT rfl (bad (if_neg fun h => c3 h.1) H2 s02)
        · refine ifT (by simp; omega) (bad (if_neg (by omega)) H (Same.refl H))
      · refine ifF (decide_eq_false (by omega)) ?_
        exact ⟨_, rfl, iteT (bad (if_neg (by omega)) H (Same.refl H))⟩
end
end MH
namespace MH
open PySem PySem.Spec PyProof.Rows L2
/-! ### looks and people -/
/-- whether texts tell people who fit the looks of other texts -/
def fitsO (ot oc : Option (List (Option Str))) (th : List Str) : Bool := match looksO ot th with
  | some ks => (peopleO oc th ks).isSome
  | none => false
theorem looksO_ok {o : Option (List (Option Str))} {th : List Str} {ks : List Lk3} (tok : ThOk th) (h : looksO o th = some ks) : ks.length ≤ 12 ∧ ∀ k ∈ ks, LkIn th k := by
  cases o with
  | none => cases h
  | some os =>
    have h : (if os.length ≤ 12 then allO (os.map fun o => lookO o th) else none) = some ks := h
    split at h
    · rename_i c
      have e := allO_some.mp h
      have e2 := congrArg List.length e
      rw [List.length_map, List.length_map] at e2
      refine ⟨by omega, fun k hk => ?_⟩
      have m : some k ∈ os.map fun o => lookO o th := by rw [e]; exact List.mem_map_of_mem hk
      obtain ⟨o, _, e3⟩ := List.mem_map.mp m
      exact lookO_in tok e3
    · cases h
theorem TupV.same {K : PySem.W.Frag} {H H' : Hp} {v : V} {o : Option (List (Option Str))} (h : TupV K H v o) (s : Same H H') : TupV K H' v o := by
  cases h with
  | tup h hl le at_ => exact .tup (s.sqt h) hl le fun i v o h1 h2 => (at_ i v o h1 h2).same s
  | none t k => exact .none (tyx_same t s) k
end MH
namespace MH
open PySem PySem.Spec PyProof.Rows L2
/-! ### the looks of the law, as the program reads them -/
/-- a look with its marks, as a triple -/
def tri (k : List Str × Str) : Lk3 := (k.1, markedOf k.1 k.2 43, markedOf k.1 k.2 45)
def GoodLk (th : List Str) (k : List Str × Str) : Prop := k.1.Sublist th ∧ k.1 ≠ [] ∧ MkOk k.2 k.1.length
theorem mk_lt {c : Nat} (h : isMk c = true) : c ≠ 32 ∧ markS (sgn c) = true ∧ c < 0x110000 := by
  unfold isMk at h
  simp only [Bool.or_eq_true, beq_iff_eq] at h
  have t : ∀ c, c = 43 ∨ c = 45 ∨ c = 63 → c ≠ 32 ∧ markS (sgn c) = true ∧ c < 0x110000 := by
    rintro c (rfl | rfl | rfl) <;> decide +kernel
  exact t c (by rcases h with (h | h) | h <;> simp [h])
theorem MkOk.at_ {sg : Str} {n i : Nat} (h : MkOk sg n) (hi : i < n) : sg.cps.toList[i]? = some (sg.cps.toList.getD i 0) ∧ isMk (sg.cps.toList.getD i 0) = true := by
  have l := h.1.1
  have e : sg.cps.toList[i]? = some (sg.cps.toList.getD i 0) := by
    rw [List.getD_eq_getElem?_getD, List.getElem?_eq_getElem (by omega)]
    rfl
  exact ⟨e, h.1.2 _ (List.mem_of_getElem? e)⟩
theorem mark_cut (ms : List Str) (sg : Str) (i : Nat) : initS (markAt ms sg i) = ms.getD i "" ∧ lastS (markAt ms sg i) = sgn (sg.cps.toList.getD i 0) := ⟨cut_init _ _, cut_last _ _⟩
theorem good_ok {th : List Str} {k : List Str × Str} (tok : ThOk th) (g : GoodLk th k) : (∀ z ∈ k.1, nameOk z = true) ∧ k.1.length ≤ 10 := ⟨fun z hz => tok.2.2.1 z (g.1.subset hz), Nat.le_trans g.1.length_le tok.2.1⟩
theorem split_line {th : List Str} {k : List Str × Str} (tok : ThOk th) (g : GoodLk th k) : Txt.split (lineOf k.1 k.2) " " = (List.range k.1.length).map (markAt k.1 k.2) := by
  obtain ⟨ms, sg⟩ := k
  obtain ⟨sub, ne, mk⟩ := g
  refine TL.split_join (s := 32) (S := []) (by decide +kernel) (by decide +kernel) (fun e => ne (List.length_eq_zero_iff.mp (by simpa using congrArg List.length e))) fun z hz => ?_
  obtain ⟨i, hi, rfl⟩ := List.mem_map.mp hz
  have hi : i < ms.length := List.mem_range.mp hi
  intro h
  have h : (32 : Nat) ∈ (ms.getD i "" ++ (⟨#[sg.cps.toList.getD i 0]⟩ : Str)).cps.toList := h
  rw [tl_app1, List.mem_append] at h
  rcases h with h | h
  · have e : ms.getD i "" = ms[i] := by
      rw [List.getD_eq_getElem?_getD, List.getElem?_eq_getElem hi]
      rfl
    rw [e] at h
    exact no_blank (tok.2.2.1 _ (sub.subset (List.getElem_mem hi))) h
  · rw [List.mem_singleton] at h
    exact (mk_lt (mk.at_ hi).2).1 h.symm
theorem names_line {th : List Str} {k : List Str × Str} (tok : ThOk th) (g : GoodLk th k) : namesT (lineOf k.1 k.2) = k.1 := by
  unfold namesT
  rw [split_line tok g, List.map_map]
  conv => rhs; rw [← range_names k.1]
  exact List.map_congr_left fun i _ => (mark_cut k.1 k.2 i).1
theorem with_line {th : List Str} {k : List Str × Str} (tok : ThOk th) (g : GoodLk th k) (c : Nat) : withT (lineOf k.1 k.2) c = markedOf k.1 k.2 c := by
  unfold withT markedOf
  rw [split_line tok g, List.filter_map, List.map_map]
  have e : (List.range k.1.length).filter ((fun y => decide (lastS y = sgn c)) ∘ markAt k.1 k.2) = (List.range k.1.length).filter fun j => decide (k.2.cps.toList.getD j 0 = c) := by
    refine List.filter_congr fun j _ => ?_
    show decide (lastS (markAt k.1 k.2 j) = sgn c) = _
    rw [(mark_cut k.1 k.2 j).2, decide_eq_decide]
    exact ⟨sgn_inj, fun h => by rw [h]⟩
  rw [e]
  exact List.map_congr_left fun i _ => (mark_cut k.1 k.2 i).1
theorem sub_set {xs th : List Str} (tok : ThOk th) (h : xs.Sublist th) : setB xs th = true := by
  unfold setB
  rw [Bool.and_eq_true, List.all_eq_true]
  exact ⟨fun z hz => decide_eq_true (h.subset hz), (asc_iff xs).mpr (((asc_iff th).mp tok.2.2.2).sublist h)⟩
theorem look_line {th : List Str} {k : List Str × Str} (tok : ThOk th) (g : GoodLk th k) : lookT (lineOf k.1 k.2) th = some (tri k) := by
  unfold lookT tri
  rw [names_line tok g, with_line tok g, with_line tok g]
  refine if_pos ⟨sub_set tok g.1, ?_, fun e => ?_⟩
  · rw [split_line tok g, List.all_eq_true]
    intro y hy
    obtain ⟨i, hi, rfl⟩ := List.mem_map.mp hy
    rw [(mark_cut k.1 k.2 i).2]
    exact (mk_lt (g.2.2.at_ (List.mem_range.mp hi)).2).2.1
  · obtain ⟨c, hc, n45⟩ := g.2.2.2
    obtain ⟨i, hi⟩ := List.getElem?_of_mem hc
    have il : i < k.1.length := by
      have := (List.getElem?_eq_some_iff.mp hi).1
      rw [g.2.2.1.1] at this
      exact this
    have e2 := congrArg List.length e
    unfold markedOf at e2
    rw [List.length_map] at e2
    have lt : ((List.range k.1.length).filter fun j => decide (k.2.cps.toList.getD j 0 = 45)).length < (List.range k.1.length).length := by
      refine List.length_filter_lt_length_iff_exists.mpr ⟨i, List.mem_range.mpr il, ?_⟩
      rw [List.getD_eq_getElem?_getD, hi]
      simpa using n45
    rw [List.length_range] at lt
    omega
/-- the texts of looks -/
def linesO (lks : List (List Str × Str)) : Option (List (Option Str)) := some (lks.map fun k => some (lineOf k.1 k.2))
theorem looks_line {th : List Str} {lks : List (List Str × Str)} (tok : ThOk th) (g : ∀ k ∈ lks, GoodLk th k) (l : lks.length ≤ 12) : looksO (linesO lks) th = some (lks.map tri) := by
  show looksT _ th = _
  unfold looksT
  rw [if_pos (by rw [List.length_map]; exact l), allO_some, List.map_map, List.map_map]
  exact List.map_congr_left fun k hk => look_line tok (g k hk)
theorem line_len {th : List Str} {k : List Str × Str} (tok : ThOk th) (g : GoodLk th k) : TxOk (lineOf k.1 k.2) := by
  have sp := split_line tok g
  obtain ⟨nk, l10⟩ := good_ok tok g
  have ge : ∀ i, i < k.1.length → k.1.getD i "" ∈ k.1 := fun i hi => by
    rw [List.getD_eq_getElem?_getD, List.getElem?_eq_getElem hi]
    exact List.getElem_mem hi
  have mo : ∀ y ∈ (List.range k.1.length).map (markAt k.1 k.2), OkC y ∧ y.length ≤ 9 := fun y hy => by
    obtain ⟨i, hi, rfl⟩ := List.mem_map.mp hy
    have hi := List.mem_range.mp hi
    have n1 := nk _ (ge i hi)
    refine ⟨(okC_name n1).app (okC_one (mk_lt (g.2.2.at_ hi).2).2.2), ?_⟩
    unfold markAt
    rw [len_app1]
    have := nameOk_len n1
    omega
  refine ⟨join_okC fun y hy => (mo y hy).1, ?_, ?_⟩
  · have a := join_lenB ((List.range k.1.length).map (markAt k.1 k.2))
    have q := sum_le (n := 9) ((List.range k.1.length).map (markAt k.1 k.2)) fun z hz => (mo z hz).2
    rw [List.length_map, List.length_range] at a q
    have e : (lineOf k.1 k.2).length ≤ _ := a
    have e2 : ((List.range k.1.length).map (markAt k.1 k.2)).map (fun y => y.length) = ((List.range k.1.length).map (markAt k.1 k.2)).map (·.length) := rfl
    omega
  · unfold many
    rw [sp, List.length_map, List.length_range]
    omega
/-! ### who fits, by the law and by the program -/
def permO (th : List Str) : Option Str → Bool
  | some z => decide ((Txt.split z " ").Perm th)
  | none => false
def rowsP (os : List (Option Str)) : List (List Str) := os.map fun o => Txt.split (o.getD "") " "
theorem permO_some {th : List Str} {o : Option Str} (h : permO th o = true) : ∃ z, o = some z ∧ (Txt.split z " ").Perm th := by
  cases o with
  | none => cases h
  | some z => exact ⟨z, rfl, of_decide_eq_true h⟩
theorem rowT_perm {th : List Str} {o : Option Str} (tok : ThOk th) (h : permO th o = true) : rowT o = some (Txt.split (o.getD "") " ") := by
  obtain ⟨z, rfl, p⟩ := permO_some h
  refine if_pos ?_
  unfold rowB
  rw [Bool.and_eq_true, Bool.and_eq_true]
  exact ⟨⟨decide_eq_true (by rw [p.length_eq]; exact tok.2.1), decide_eq_true (p.nodup_iff.mpr (asc_nd tok.2.2.2))⟩, List.all_eq_true.mpr fun y hy => tok.2.2.1 y (p.subset hy)⟩
theorem people_iff {os : List (Option Str)} {th : List Str} {ks : List Lk3} (tok : ThOk th) : (peopleT os th ks).isSome = (decide (1 ≤ os.length ∧ os.length ≤ 130) && os.all (permO th) && allHas (rowsP os) ks) := by
  unfold peopleT
  by_cases c : 1 ≤ os.length ∧ os.length ≤ 130
  · rw [if_pos c, decide_eq_true c, Bool.true_and]
    by_cases c2 : os.all (permO th) = true
    · have c3 := List.all_eq_true.mp c2
      have e : allO (os.map rowT) = some (rowsP os) := by
        rw [allO_some]
        unfold rowsP
        rw [List.map_map]
        exact List.map_congr_left fun o ho => rowT_perm tok (c3 o ho)
      rw [e, c2, Bool.true_and]
      have e3 : ((rowsP os).all fun r => decide (r.Perm th)) = true := List.all_eq_true.mpr fun r hr => by
        obtain ⟨o, ho, rfl⟩ := List.mem_map.mp hr
        obtain ⟨z, rfl, p⟩ := permO_some (c3 o ho)
        exact decide_eq_true p
      show (if _ then _ else _ : Option (List (List Str))).isSome = _
      by_cases c4 : allHas (rowsP os) ks = true
      · rw [if_pos ⟨e3, c4⟩, c4]
        rfl
      · rw [if_neg fun h => c4 h.2, Bool.eq_false_iff.mpr c4]
        rfl
    · rw [Bool.eq_false_iff.mpr c2, Bool.false_and]
      cases hA : allO (os.map rowT) with
      | none => rfl
      | some rs =>
        show (if _ then _ else _ : Option (List (List Str))).isSome = _
        rw [if_neg]
        · rfl
        · rintro ⟨h, _⟩
          refine c2 (List.all_eq_true.mpr fun o ho => ?_)
          have e := allO_some.mp hA
          have m : rowT o ∈ rs.map some := by rw [← e]; exact List.mem_map_of_mem ho
          obtain ⟨r, hr, er⟩ := List.mem_map.mp m
          obtain ⟨_, _, _, z, rfl, rfl⟩ := rowT_ok er.symm
          exact List.all_eq_true.mp h _ hr
  · rw [if_neg c, decide_eq_false c]
    rfl
theorem mem_taken {rs : List (List Str)} {ms : List Str} {z : Str} (h : z ∈ ms) : z ∈ takenOf rs ms ↔ z ∈ rs.map (bestOf ms) := by
  unfold takenOf
  rw [List.mem_filter, decide_eq_true_eq]
  exact ⟨fun q => q.2, fun q => ⟨h, q⟩⟩
theorem marked_in {ms : List Str} {sg : Str} {c : Nat} {z : Str} (h : z ∈ markedOf ms sg c) : z ∈ ms := by
  obtain ⟨j, hj, rfl⟩ := List.mem_map.mp h
  have hj := List.mem_range.mp (List.mem_filter.mp hj).1
  rw [List.getD_eq_getElem?_getD, List.getElem?_eq_getElem hj]
  exact List.getElem_mem hj
/-- a look by the law's words -/
def hasL (rs : List (List Str)) (k : List Str × Str) : Bool := !((markedOf k.1 k.2 43).any fun z => !decide (z ∈ takenOf rs k.1)) && !((markedOf k.1 k.2 45).any fun z => decide (z ∈ takenOf rs k.1))
theorem hasL_eq {rs : List (List Str)} {k : List Str × Str} (h : ∀ r ∈ rs, ∃ z ∈ r, z ∈ k.1) : hasL rs k = hasB rs k.1 (markedOf k.1 k.2 43) (markedOf k.1 k.2 45) := by
  unfold hasL hasB
  congr 1
  · rw [Bool.eq_iff_iff, Bool.not_eq_true', List.any_eq_false, List.all_eq_true]
    refine forall_congr' fun z => forall_congr' fun hz => ?_
    have q := mem_taken (rs := rs) (marked_in hz)
    rw [decide_eq_true_eq, ← q]
    simp
  · congr 1
    rw [Bool.eq_iff_iff, List.any_eq_true, List.any_eq_true]
    constructor
    · rintro ⟨z, hz, ht⟩
      exact ⟨z, (mem_taken (marked_in hz)).mp (of_decide_eq_true ht), decide_eq_true hz⟩
    · rintro ⟨z, hz, hp⟩
      have hp := of_decide_eq_true hp
      exact ⟨z, hp, decide_eq_true ((mem_taken (marked_in hp)).mpr hz)⟩
/-- who fits by the law's words -/
def fitL (o : Option (List (Option Str))) (th : List Str) (lks : List (List Str × Str)) : Bool := match o with
  | some os => decide (1 ≤ os.length ∧ os.length ≤ 130) && os.all (permO th) && lks.all (hasL (rowsP os))
  | none => false
theorem rowsP_perm {os : List (Option Str)} {th : List Str} (h : os.all (permO th) = true) : ∀ r ∈ rowsP os, r.Perm th := fun r hr => by
  obtain ⟨o, ho, rfl⟩ := List.mem_map.mp hr
  obtain ⟨z, rfl, p⟩ := permO_some (List.all_eq_true.mp h o ho)
  exact p
theorem fit_eq {o : Option (List (Option Str))} {th : List Str} {lks : List (List Str × Str)} (tok : ThOk th) (g : ∀ k ∈ lks, GoodLk th k) (l : lks.length ≤ 12) : fitL o th lks = fitsO (linesO lks) o th := by
  unfold fitsO
  rw [looks_line tok g l]
  show fitL o th lks = (peopleO o th (lks.map tri)).isSome
  cases o with
  | none => rfl
  | some os =>
    show _ = (peopleT os th (lks.map tri)).isSome
    rw [people_iff tok]
    show (_ && _ && _) = _
    by_cases c : os.all (permO th) = true
    · rw [c]
      congr 1
      unfold allHas
      rw [List.all_map]
      refine Bool.eq_iff_iff.mpr ?_
      rw [List.all_eq_true, List.all_eq_true]
      refine forall_congr' fun k => forall_congr' fun hk => ?_
      rw [hasL_eq fun r hr => ?_]
      · rfl
      · obtain ⟨z, hz⟩ := List.exists_mem_of_ne_nil _ (g k hk).2.1
        exact ⟨z, (rowsP_perm c r hr).symm.subset ((g k hk).1.subset hz), hz⟩
    · rw [Bool.eq_false_iff.mpr c, Bool.and_false, Bool.false_and, Bool.false_and]
end MH
namespace MH
open PySem PySem.Spec PyProof.Rows L2
def spFit (K : PySem.W.Frag) : Sp := fun vs H Q _ => ∃ (v : V) (o : Option (List (Option Str))) (t L : Addr) (th : List Str) (qs : List Addr) (lks : List (List Str × Str)), vs = [v, .ref t, .ref L] ∧ TupV K H v o ∧ SqT K H t (th.map V.str) ∧ ThOk th ∧ LkAt H L qs lks ∧ (∀ k ∈ lks, GoodLk th k) ∧ lks.length ≤ 12 ∧
  ∀ H', Same H H' → Q (.bl (fitL o th lks)) H'
section
variable {P : Program} {w : World} {K : PySem.W.Frag} {mg : Str → Option Value} {base : Heap}
theorem ok_l_fit (T : Tx K mg w) : FnOk P w K mg base CX0 2 T.a_l_fit T.fd_l_fit ["_law_people", "_law_things_here", "_law_looks_here"] (spFit K) := by
  refine T.F_l_fit.ok sc_l_fit (fun vs H Q E h => ?_) (fun cdv A outer s H vs Q E hr h => ?_)
  · obtain ⟨v, o, t, L, th, qs, lks, rfl, _⟩ := h
    rfl
  · obtain ⟨v, o, t, L, th, qs, lks, rfl, hv, hT, tok, lk, gk, l12, k⟩ := h
    refine ⟨_, (pss_cons (ps_if (PW.pt (pw_or (pt_not (pt_val (pe_callB call_isi (by rfl) T.n_isinstance (by decide +kernel) (pa_cons (pv 0) (pa_cons (pe_bltn (v := .ty "tuple") (by rfl) T.n_tuple (by decide +kernel) rfl) pa_nil))))) (pw_or1 (pt_not (pt_chain op_le op_le pe_int (pe_callB call_len_seq (by rfl) T.n_len (by decide +kernel) (pa_cons (pv 0) pa_nil)) pe_int)))))
        (pss_one (ps_ret pe_bl))
        pss_nil)
      (pss_cons (ps_for PassesOwn.never rfl (pi_tup (pv 0)) (pg_name (i := 3) sc_l_fit.nd rfl (Or.inl rfl))
        (pss_one (ps_if (PW.pt (pw_or (pt_not (pt_val (pe_callB call_isi (by rfl) T.n_isinstance (by decide +kernel) (pa_cons (pv 3) (pa_cons (pe_bltn (v := .ty "str") (by rfl) T.n_str (by decide +kernel) rfl) pa_nil))))) (pw_or1 (pt_cmpR (op_neD hr.units) (pe_callB cr_sortedS (by rfl) T.n_sorted (by decide +kernel) (pa_cons (pe_split (pv 3) pe_str) pa_nil)) (pe_callTy call_list_of (by rfl) T.n_list (by decide +kernel) (pa_cons (pv 1) pa_nil)) (nomark _)))))
        (pss_one (ps_ret pe_bl))
        pss_nil)))
      (pss_cons (ps_setLc (i := 4) (own := [("_law_text", 3)]) (g := gName 3) (tt := tYes) rfl sc_l_fit.nd rfl rfl (sw_true rfl rfl rfl (by decide +kernel)) (pi_tup (pv 0)) (blkOk_by (own := [("_law_text", 3)]) (N := names_l_fit) (sc := defScope st_l_fit) (by decide +kernel)) (fun _ _ _ _ _ => pg_name (i := 3) sc_l_fit.nd rfl (Or.inl rfl)) (fun _ _ _ _ _ => pts_nil) (fun _ _ _ _ _ => (pe_split (pv 3) pe_str)))
      (pss_cons (ps_for PassesOwn.never rfl (pi_list (pv 2)) (pg_name (i := 5) sc_l_fit.nd rfl (Or.inl rfl))
        (pss_cons (ps_set (i := 6) sc_l_fit.nd rfl (Or.inr rfl) (pe_call (ok_l_taken T) (hr.mono (by decide)) rfl T.g_l_taken T.F_l_taken.kp T.b_l_taken .nil pass0 (pa_cons (pv 4) (pa_cons (pe_ix ix_tup (pv 5) pe_int (fun _ _ => rfl)) pa_nil))))
      (pss_cons (ps_if (pt_val (pe_callB (cr_any rfl) (by rfl) T.n_any (by decide +kernel) (pa_cons (pe_lc (own := [("_law_thing", 7)]) (g := gName 7) (tt := tYes) rfl sc_l_fit.nd (pi_tup (pe_call (ok_l_marked T) (hr.mono (by decide)) rfl T.g_l_marked T.F_l_marked.kp T.b_l_marked .nil pass0 (pa_cons (pv 5) (pa_cons pe_str pa_nil)))) (blkOk_by (own := [("_law_thing", 7)]) (N := names_l_fit) (sc := defScope st_l_fit) (by decide +kernel)) (fun _ _ _ _ _ => pg_name (i := 7) sc_l_fit.nd rfl (Or.inl rfl)) (fun _ _ _ _ _ => pts_nil) (fun _ _ _ _ _ => (pe_cmpR (r := rIn K true) op_notIn_seq (pv 7) (pv 6) (by rfl)))) pa_nil)))
        (pss_one (ps_ret pe_bl))
        pss_nil)
      (pss_one (ps_if (pt_val (pe_callB (cr_any rfl) (by rfl) T.n_any (by decide +kernel) (pa_cons (pe_lc (own := [("_law_thing", 7)]) (g := gName 7) (tt := tYes) rfl sc_l_fit.nd (pi_tup (pe_call (ok_l_marked T) (hr.mono (by decide)) rfl T.g_l_marked T.F_l_marked.kp T.b_l_marked .nil pass0 (pa_cons (pv 5) (pa_cons pe_str pa_nil)))) (blkOk_by (own := [("_law_thing", 7)]) (N := names_l_fit) (sc := defScope st_l_fit) (by decide +kernel)) (fun _ _ _ _ _ => pg_name (i := 7) sc_l_fit.nd rfl (Or.inl rfl)) (fun _ _ _ _ _ => pts_nil) (fun _ _ _ _ _ => (pe_cmpR (r := rIn K false) op_in_seq (pv 7) (pv 6) (by rfl)))) pa_nil)))
        (pss_one (ps_ret pe_bl))
        pss_nil)))))
      (pss_one (ps_ret pe_bl)))))), ?_⟩
    cases hv with
    | none ty kt =>
      refine ⟨_, rfl, _, _, _, _, false, rfl, .ty _, ty, kit_ty kt, _, rfl, iteT ?_⟩
      exact k H (Same.refl H)
    | @tup a us os h hl le at_ =>
      refine ⟨_, rfl, _, _, _, _, true, rfl, .ty _, h.ty, kit_ty (by decide +kernel), _, rfl, iteF ?_⟩
      have k : ∀ H', Same H H' → Q (.bl (decide (1 ≤ os.length ∧ os.length ≤ 130) && os.all (permO th) && lks.all (hasL (rowsP os)))) H' := k
      refine ⟨_, rfl, a, _, rfl, .inr h, _, _, rfl, rfl, _, rfl, ?_⟩
      by_cases c0 : 1 ≤ us.length
      · refine ifT (decide_eq_true (by omega)) ?_
        refine ⟨_, _, rfl, rfl, _, rfl, ?_⟩
        by_cases c1 : us.length ≤ 130
        · refine ifF (by simp; omega) ?_
          rw [decide_eq_true (by omega : 1 ≤ os.length ∧ os.length ≤ 130), Bool.true_and] at k
          refine ⟨_, rfl, a, rfl, ⟨_, h⟩, for_tup (K := K) (a := a) (xs := us) (fun i σ H' => Same H H' ∧ (∃ v, σ = [some (.ref a), some (.ref t), some (.ref L), v, none, none, none, none]) ∧ (os.take i).all (permO th) = true) ⟨Same.refl H, ⟨none, rfl⟩, rfl⟩ (fun i σ H' _ s => s.1.sqt h) ?_ ?_⟩
          · rintro i x σ H1 hx ⟨s1, ⟨v, rfl⟩, inv⟩
            have il : i < os.length := by
              have := (List.getElem?_eq_some_iff.mp hx).1
              omega
            have ho : os[i]? = some os[i] := List.getElem?_eq_getElem il
            have ct := (at_ i x _ hx ho).same s1
            have tk : os.take (i + 1) = os.take i ++ [os[i]] := by rw [List.take_add_one, ho]; rfl
            have no : permO th os[i] = false → os.all (permO th) = false := fun e => by
              cases q : os.all (permO th) with
              | false => rfl
              | true => rw [List.all_eq_true.mp q _ (List.getElem_mem il)] at e; cases e
            have yes : permO th os[i] = true → (os.take (i + 1)).all (permO th) = true := fun e => by
              rw [tk, List.all_append, inv, List.all_cons, e]
              rfl
            generalize os[i] = o at ho ct no yes
            cases ct with
            | tup hv =>
              refine ⟨_, rfl, _, _, _, _, false, rfl, .ty _, hv.ty, kit_ty (by decide +kernel), _, rfl, iteT ?_⟩
              rw [no rfl, Bool.false_and] at k
              exact k H1 s1
            | @str z hz =>
              refine ⟨_, rfl, _, _, _, _, true, rfl, .ty _, .base (.str _), kit_ty (by decide +kernel), _, rfl, iteF ?_⟩
              have z1 := hz.l
              have z2 : (Txt.split z " ").length ≤ 40 := hz.m
              have z3 : ∀ y ∈ Txt.split z " ", OkC y := fun y hy c hc => hz.c c ((splitB_mem hy).2 c hc)
              refine ⟨_, rfl, ⟨_, rfl⟩, _, _, rfl, rfl, by decide, le_line (by omega), ?_⟩
              intro l nl
              have s2 := s1.new' nl (o := .lst ((Txt.split z " ").map V.str))
              have e2 : (upd H1 l (.lst ((Txt.split z " ").map V.str))) l = some (.lst ((Txt.split z " ").map V.str)) := upd_same
              generalize upd H1 l (.lst ((Txt.split z " ").map V.str)) = H2 at s2 e2 ⊢
              refine ⟨l, _, rfl, lst_of e2, by omega, fun ys p pm so np => ?_⟩
              have s3 := s2.new' np (o := .lst (ys.map V.str))
              have e3 : (upd H2 p (.lst (ys.map V.str))) p = some (.lst (ys.map V.str)) := upd_same
              generalize upd H2 p (.lst (ys.map V.str)) = H3 at s3 e3 ⊢
              refine ⟨_, rfl, t, _, rfl, .inr (s3.sqt hT), fun p0 np0 => ?_⟩
              have s4 := Same.new np0 (o := .lst (th.map V.str))
              refine ⟨_, _, .lst (lst_of (s4 _ _ e3)) (dp_strs ys), .lst (lst_of upd_same) (dp_strs th), shaped_texts (fun z hz => okC_str (z3 z (pm.subset hz))), shaped_strsL tok.2.2.1, ?_⟩
              rw [eqv_strsL, show decide (ys = th) = permO th (some z) from decide_eq_decide.mpr (sort_perm pm so tok)]
              refine ⟨_, rfl, ?_⟩
              cases q : permO th (some z) with
              | true => exact ifF rfl ⟨s3.trans s4, ⟨_, rfl⟩, yes q⟩
              | false =>
                rw [no q, Bool.false_and] at k
                exact ifT rfl (k _ (s3.trans s4))
          · rintro σ H1 ⟨s1, ⟨v, rfl⟩, inv⟩
            rw [hl, List.take_length] at inv
            rw [inv, Bool.true_and] at k
            have zt : ∀ (i : Nat) (x : V), us[i]? = some x → ∃ z, x = .str z ∧ os[i]? = some (some z) ∧ TxOk z := fun i x hx => by
              have il : i < os.length := by
                have := (List.getElem?_eq_some_iff.mp hx).1
                omega
              have ho : os[i]? = some os[i] := List.getElem?_eq_getElem il
              obtain ⟨z, ez, _⟩ := permO_some (List.all_eq_true.mp inv _ (List.getElem_mem il))
              have ct := at_ i x _ hx ho
              rw [ez] at ho ct
              cases ct with
              | str hz => exact ⟨z, rfl, ho, hz⟩
            have h1 := s1.sqt h
            refine ⟨_, rfl, a, rfl, ⟨_, h1⟩, fun D nD => lc_it (w := walk_tup (K := K) (a := a) (xs := us)) (fun i H' => Same H1 H' ∧ ∃ ts : List Addr, H' D = some (.lst (ts.map V.ref)) ∧ ts.length = i ∧ ∀ (j : Nat) (u : Addr), ts[j]? = some u → u ≠ D ∧ ∃ z, os[j]? = some (some z) ∧ H' u = some (.lst ((Txt.split z " ").map V.str))) ⟨Same.new nD, [], upd_same, rfl, fun j u e => by simp at e⟩ (fun i H' _ s => s.1.sqt h1) ?_ ?_⟩
            · rintro i x H2 H3 hi ⟨s2, ts, e2, le2, hts⟩ ⟨rfl, hx⟩
              obtain ⟨z, rfl, ho, hz⟩ := zt i x hx
              have z1 := hz.l
              have z2 : (Txt.split z " ").length ≤ 40 := hz.m
              refine ⟨rfl, _, rfl, ⟨_, rfl⟩, _, _, rfl, rfl, by decide, le_line (by omega), ?_⟩
              intro l nl
              have sl := Same.new nl (o := .lst ((Txt.split z " ").map V.str))
              have el : (upd H3 l (.lst ((Txt.split z " ").map V.str))) l = some (.lst ((Txt.split z " ").map V.str)) := upd_same
              have nlD : l ≠ D := (ne_of_none e2 nl).symm
              generalize upd H3 l (.lst ((Txt.split z " ").map V.str)) = H4 at sl el ⊢
              refine ⟨_, sl _ _ e2, lt_line (by rw [List.length_map]; omega), fun b o e => ?_, ts ++ [l], by rw [upd_same, List.map_append]; rfl, by rw [List.length_append, le2]; rfl, fun j u hj => ?_⟩
              · rw [upd_ne (ne_of_none e nD)]
                exact sl _ _ (s2 _ _ e)
              · by_cases c : j < ts.length
                · rw [List.getElem?_append_left c] at hj
                  obtain ⟨n1, y, hy, ey⟩ := hts j u hj
                  exact ⟨n1, y, hy, by rw [upd_ne n1]; exact sl _ _ ey⟩
                · obtain ⟨rfl, rfl⟩ : j = i ∧ l = u := by
                    have lj := (List.getElem?_eq_some_iff.mp hj).1
                    rw [List.length_append] at lj
                    have lj : j < ts.length + 1 := lj
                    have ej : j = ts.length := by omega
                    rw [List.getElem?_append_right (by omega), ej, Nat.sub_self] at hj
                    exact ⟨by omega, Option.some.inj hj⟩
                  exact ⟨nlD, z, ho, by rw [upd_ne nlD]; exact el⟩
            · rintro H2 ⟨s2, ts, e2, le2, hts⟩
              have s02 := s1.trans s2
              have lr : (rowsP os).length = os.length := List.length_map _
              have rv : ∀ (j : Nat) (u : Addr) (r : List Str), ts[j]? = some u → (rowsP os)[j]? = some r → H2 u = some (.lst (r.map V.str)) := fun j u r hj hr2 => by
                obtain ⟨_, z, hz, e⟩ := hts j u hj
                have e3 : (rowsP os)[j]? = some (Txt.split z " ") := by
                  unfold rowsP
                  rw [List.getElem?_map, hz]
                  rfl
                obtain rfl : Txt.split z " " = r := Option.some.inj (e3.symm.trans hr2)
                exact e
              have pr := rowsP_perm inv
              have lk2 := lk.same s02
              clear hts
              generalize rowsP os = rs at lr rv pr k
              refine ⟨_, rfl, L, rfl, ⟨_, lst_of lk2.1⟩, for_list (K := K) (a := L) (xs := qs.map V.ref) (fun i σ H' => Same H2 H' ∧ (∃ v5 v6 : Option V, σ = [some (.ref a), some (.ref t), some (.ref L), v, some (.ref D), v5, v6, none]) ∧ (lks.take i).all (hasL rs) = true) ⟨Same.refl H2, ⟨none, none, rfl⟩, rfl⟩ (fun i σ H' _ s => lst_of (s.1 _ _ lk2.1)) ?_ ?_⟩
              · rintro i x σ H3 hx ⟨s3, ⟨v5, v6, rfl⟩, inv3⟩
                obtain ⟨q, hq, rfl⟩ := ref_at hx
                have il : i < lks.length := by
                  rw [← lk2.2.1]
                  exact (List.getElem?_eq_some_iff.mp hq).1
                have hlk : lks[i]? = some lks[i] := List.getElem?_eq_getElem il
                have gi := gk _ (List.getElem_mem il)
                have tk : lks.take (i + 1) = lks.take i ++ [lks[i]] := by rw [List.take_add_one, hlk]; rfl
                have no : hasL rs lks[i] = false → lks.all (hasL rs) = false := fun e => by
                  cases q : lks.all (hasL rs) with
                  | false => rfl
                  | true => rw [List.all_eq_true.mp q _ (List.getElem_mem il)] at e; cases e
                have yes : hasL rs lks[i] = true → (lks.take (i + 1)).all (hasL rs) = true := fun e => by
                  rw [tk, List.all_append, inv3, List.all_cons, e]
                  rfl
                obtain ⟨m, hq2, hm2⟩ := lk2.2.2 i q _ hq hlk
                obtain ⟨nk, l10⟩ := good_ok tok gi
                generalize lks[i] = kk at hlk gi no yes hq2 hm2 nk l10
                obtain ⟨ms, sg⟩ := kk
                have hq3 := (hq2.same s3).sqt (K := K)
                have hm3 := (hm2.same s3).sqt (K := K)
                have l10 : ms.length ≤ 10 := l10
                have sgl : sg.cps.toList.length = ms.length := gi.2.2.1.1
                refine ⟨_, rfl, _, rfl, q, _, _, _, rfl, rfl, hq3, rfl, D, m, ts, rs, ms, rfl, lst_of (s3 _ _ e2), by omega, by omega, fun j u r h1 h2 => .inl (lst_of (s3 _ _ (rv j u r h1 h2))), hm3, by omega, fun r hr2 => ⟨by rw [(pr r hr2).length_eq]; have := tok.2.1; omega, ?_⟩, fun u H4 s4 hu => ?_⟩
                · obtain ⟨z, hz⟩ := List.exists_mem_of_ne_nil _ gi.2.1
                  exact ⟨z, (pr r hr2).symm.subset (gi.1.subset hz), hz⟩
                · refine ⟨_, rfl, q, m, ms, sg, 43, rfl, s4.sqt hq3, s4.sqt hm3, by omega, sgl, fun p H5 s5 hp => ?_⟩
                  have ml : (markedOf ms sg 43).length ≤ 1000 := by
                    unfold markedOf
                    rw [List.length_map]
                    have := List.length_filter_le (fun j => decide (sg.cps.toList.getD j 0 = 43)) (List.range ms.length)
                    rw [List.length_range] at this
                    omega
                  have hu5 := hu.same s5
                  refine ⟨p, rfl, ⟨_, hp.sqt⟩, fun D2 nD2 => lcv walk_tup (markedOf ms sg 43) (fun z => V.bl (!decide (z ∈ takenOf rs ms))) (List.length_map _).symm nD2 (by rw [List.length_map]; omega) (fun H' s => (hp.same s).sqt) (fun _ _ _ _ _ y => yat_same y) (fun j z x H6 H7 hz s6 yy Z hZ => ?_) (fun H6 s6 e6 => ?_)⟩
                  · obtain ⟨rfl, hx⟩ := yy
                    obtain ⟨y, hy, rfl⟩ := str_at hx
                    obtain rfl : y = z := Option.some.inj (hy.symm.trans hz)
                    refine ⟨rfl, _, rfl, _, rfl, u, _, rfl, .inr (hu5.same s6).sqt, rfl, flat_strs _, ?_⟩
                    rw [if_pos rfl, inV_strs]
                    exact hZ _ (Same.refl _)
                  refine ⟨D2, (markedOf ms sg 43).map fun z => !decide (z ∈ takenOf rs ms), rfl, lst_of (by rw [e6, List.map_map]; rfl), _, rfl, ?_⟩
                  rw [show ((markedOf ms sg 43).map fun z => !decide (z ∈ takenOf rs ms)).any id = (markedOf ms sg 43).any fun z => !decide (z ∈ takenOf rs ms) by rw [List.any_map]; rfl]
                  have s26 := s3.trans (s4.trans (s5.trans s6))
                  have eh : hasL rs (ms, sg) = (!((markedOf ms sg 43).any fun z => !decide (z ∈ takenOf rs ms)) && !((markedOf ms sg 45).any fun z => decide (z ∈ takenOf rs ms))) := rfl
                  refine ite2 (fun c4 => ?_) (fun c4 => ?_)
                  · rw [c4] at eh
                    rw [no (by rw [eh]; rfl)] at k
                    exact k H6 (s02.trans s26)
                  · rw [Bool.eq_false_iff.mpr c4] at eh
                    have s36 := s4.trans (s5.trans s6)
                    refine ⟨_, rfl, q, m, ms, sg, 45, rfl, s36.sqt hq3, s36.sqt hm3, by omega, sgl, fun p2 H7 s7 hp2 => ?_⟩
                    have ml2 : (markedOf ms sg 45).length ≤ 1000 := by
                      unfold markedOf
                      rw [List.length_map]
                      have := List.length_filter_le (fun j => decide (sg.cps.toList.getD j 0 = 45)) (List.range ms.length)
                      rw [List.length_range] at this
                      omega
                    have hu7 := (hu5.same s6).same s7
                    refine ⟨p2, rfl, ⟨_, hp2.sqt⟩, fun D3 nD3 => lcv walk_tup (markedOf ms sg 45) (fun z => V.bl (decide (z ∈ takenOf rs ms))) (List.length_map _).symm nD3 (by rw [List.length_map]; omega) (fun H' s => (hp2.same s).sqt) (fun _ _ _ _ _ y => yat_same y) (fun j z x H8 H9 hz s8 yy Z hZ => ?_) (fun H8 s8 e8 => ?_)⟩
                    · obtain ⟨rfl, hx⟩ := yy
                      obtain ⟨y, hy, rfl⟩ := str_at hx
                      obtain rfl : y = z := Option.some.inj (hy.symm.trans hz)
                      refine ⟨rfl, _, rfl, _, rfl, u, _, rfl, .inr (hu7.same s8).sqt, rfl, flat_strs _, ?_⟩
                      rw [if_neg Bool.false_ne_true, inV_strs]
                      exact hZ _ (Same.refl _)
                    refine ⟨D3, (markedOf ms sg 45).map fun z => decide (z ∈ takenOf rs ms), rfl, lst_of (by rw [e8, List.map_map]; rfl), _, rfl, ?_⟩
                    rw [show ((markedOf ms sg 45).map fun z => decide (z ∈ takenOf rs ms)).any id = (markedOf ms sg 45).any fun z => decide (z ∈ takenOf rs ms) by rw [List.any_map]; rfl]
                    have s28 := s26.trans (s7.trans s8)
                    refine ite2 (fun c5 => ?_) (fun c5 => ?_)
                    · rw [c5] at eh
                      rw [no (by rw [eh]; rfl)] at k
                      exact k H8 (s02.trans s28)
                    · rw [Bool.eq_false_iff.mpr c5] at eh
                      exact ⟨s28, ⟨_, _, rfl⟩, yes (by rw [eh]; rfl)⟩
              · rintro σ H3 ⟨s3, ⟨v5, v6, rfl⟩, inv3⟩
                rw [List.length_map, lk2.2.1, List.take_length] at inv3
                rw [inv3] at k
                exact k H3 (s02.trans s3)
        · refine ifT (by simp; omega) ?_
          rw [decide_eq_false (by omega : ¬ (1 ≤ os.length ∧ os.length ≤ 130))] at k
          exact k H (Same.refl H)
      · refine ifF (decide_eq_false (by omega)) ?_
        rw [decide_eq_false (by omega : ¬ (1 ≤ os.length ∧ os.length ≤ 130))] at k
        exact ⟨_, rfl, iteT (k H (Same.refl H))⟩
end
end MH
namespace MH
open PySem PySem.Spec PyProof.Rows L2
theorem catA_of {K : PySem.W.Frag} {H : Hp} {a b : Addr} {xs ys : List V} {Q : VK} (ha : SqT K H a xs) (hb : SqT K H b ys) (hz : xs.length + ys.length ≤ 5000) (k : ∀ p H', Same H H' → SqT K H' p (xs ++ ys) → Q (.ref p) H') : rCatA K (.ref a) (.ref b) H Q := by
  refine ⟨a, b, xs, ys, rfl, rfl, ha, hb, le_line (by omega), fun e => ?_, fun _ e => ?_, fun _ _ p np => k p _ (Same.new np) (tup_of upd_same)⟩
  · subst e
    exact k b H (Same.refl H) hb
  · subst e
    exact k a H (Same.refl H) (by rw [List.append_nil]; exact ha)
theorem cutV_to (xs : List V) (i : Nat) : cutV xs none (some (i : Int)) = xs.take i := by
  unfold cutV
  rw [HT.sIx_none, HT.sIx_nat, List.drop_zero, Nat.sub_zero]
  rcases Nat.le_total i xs.length with h | h
  · rw [Nat.min_eq_left h]
  · rw [Nat.min_eq_right h, List.take_of_length_le (Nat.le_refl _), List.take_of_length_le h]
/-- values of a certificate, side by side -/
inductive CtL (K : PySem.W.Frag) (H : Hp) : List V → List (Option Str) → Prop
  | nil : CtL K H [] []
  | cons {v : V} {o : Option Str} {us : List V} {os : List (Option Str)} : CtV K H v o → CtL K H us os → CtL K H (v :: us) (o :: os)
theorem CtL.append {K : PySem.W.Frag} {H : Hp} {us us' : List V} {os os' : List (Option Str)} (h : CtL K H us os) (h' : CtL K H us' os') : CtL K H (us ++ us') (os ++ os') := by
  induction h with
  | nil => exact h'
  | cons c _ ih => exact .cons c ih
theorem CtL.strs {K : PySem.W.Frag} {H : Hp} : ∀ {zs : List Str}, (∀ z ∈ zs, TxOk z) → CtL K H (zs.map V.str) (zs.map some)
  | [], _ => .nil
  | z :: zs, h => .cons (.str (h z List.mem_cons_self)) (CtL.strs fun y hy => h y (List.mem_cons_of_mem _ hy))
theorem CtL.len {K : PySem.W.Frag} {H : Hp} {us : List V} {os : List (Option Str)} (h : CtL K H us os) : us.length = os.length := by
  induction h with
  | nil => rfl
  | cons _ _ ih => rw [List.length_cons, List.length_cons, ih]
theorem CtL.at_ {K : PySem.W.Frag} {H : Hp} {us : List V} {os : List (Option Str)} (h : CtL K H us os) : ∀ (i : Nat) (v : V) (o : Option Str), us[i]? = some v → os[i]? = some o → CtV K H v o := by
  induction h with
  | nil => intro i v o e; simp at e
  | cons c _ ih =>
    intro i v o h1 h2
    cases i with
    | zero =>
      obtain rfl := Option.some.inj h1
      obtain rfl := Option.some.inj h2
      exact c
    | succ i => exact ih i v o h1 h2
theorem CtL.tup {K : PySem.W.Frag} {H : Hp} {a : Addr} {us : List V} {os : List (Option Str)} (h : CtL K H us os) (s : SqT K H a us) (le : us.length ≤ 2000) : TupV K H (.ref a) (some os) := .tup s h.len le h.at_
/-- a text of a row -/
structure TxS (z : Str) : Prop where
  c : OkC z
  l : z.length ≤ 200
  m : many z ≤ 20
  n : 1 ≤ z.length
theorem TxS.ok {z : Str} (h : TxS z) : TxOk z := ⟨h.c, Nat.le_trans h.l (by decide), Nat.le_trans h.m (by decide)⟩
theorem txS_row {r : List Str} (ro : RowOk r) : TxS (Txt.join " " r) := by
  have sp : Txt.split (Txt.join " " r) " " = r := TL.split_join (s := 32) (S := []) (by decide +kernel) (by decide +kernel) ro.ne fun z hz => no_blank (ro.ok z hz)
  have a := join_lenB r
  have q := sum_le (n := 8) r fun z hz => nameOk_len (ro.ok z hz)
  have l := ro.le
  have e2 : r.map (fun y => y.length) = r.map (·.length) := rfl
  refine ⟨join_okC fun y hy => okC_name (ro.ok y hy), by omega, ?_, ?_⟩
  · unfold many
    rw [sp]
    omega
  · rcases Nat.lt_or_ge 0 (Txt.join " " r).length with h | h
    · exact h
    · exfalso
      have e : Txt.join " " r = "" := tl_inj (List.length_eq_zero_iff.mp (by
        have q : (TL.tl (Txt.join " " r)).length = (Txt.join " " r).length := TL.len_tl _
        show (TL.tl (Txt.join " " r)).length = 0
        omega))
      rw [e, show Txt.split ("" : Str) " " = [("" : Str)] by decide +kernel] at sp
      have q := ro.ok "" (by rw [← sp]; exact List.mem_cons_self)
      revert q
      decide +kernel
end MH
namespace MH
open PySem PySem.Spec PyProof.Rows L2
theorem tyx_but {K : PySem.W.Frag} {H H' : Hp} {p : Addr} {n m : Nat} {v : V} {t : Value} (u : Ur H p n) (u' : Ur H' p m) (h : TyX K H v t) (s : SameB p H H') : TyX K H' v t := by
  obtain ⟨x, y, c, hp, _⟩ := u
  obtain ⟨x', y', c', hp', _⟩ := u'
  cases h with
  | base b =>
    cases b with
    | non => exact .base .non
    | bl x => exact .base (.bl x)
    | int i => exact .base (.int i)
    | str x => exact .base (.str x)
    | flt x => exact .base (.flt x)
    | @lst a xs e =>
      by_cases q : a = p
      · subst q
        exact .base (.lst hp')
      · exact .base (.lst (s _ _ q e))
    | frz e => exact .base (.frz (s _ _ (ne_of e hp (by intro q; cases q)) e))
    | tup e => exact .base (.tup (s _ _ (ne_of e hp (by intro q; cases q)) e))
    | dK e => exact .base (.dK (s _ _ (ne_of e hp (by intro q; cases q)) e))
    | dT e => exact .base (.dT (s _ _ (ne_of e hp (by intro q; cases q)) e))
    | ins e c h1 h2 h3 h4 => exact .base (.ins (s _ _ (ne_of e hp (by intro q; cases q)) e) c h1 h2 h3 h4)
  | byt b => exact .byt b
  | set e => exact .set (s _ _ (ne_of e hp (by intro q; cases q)) e)
  | kList e c => exact .kList e c
  | kTuple e c => exact .kTuple e c
  | kDict e c => exact .kDict e c
  | fTuple e => exact .fTuple (s _ _ (ne_of e hp (by intro q; cases q)) e)
  | fDict e => exact .fDict (s _ _ (ne_of e hp (by intro q; cases q)) e)
theorem TupV.but {K : PySem.W.Frag} {H H' : Hp} {p : Addr} {n m : Nat} {v : V} {o : Option (List (Option Str))} (u : Ur H p n) (u' : Ur H' p m) (h : TupV K H v o) (s : SameB p H H') : TupV K H' v o := by
  cases h with
  | tup h hl le at_ =>
    refine .tup (u.sqt s h) hl le fun i v o h1 h2 => ?_
    cases at_ i v o h1 h2 with
    | str h => exact .str h
    | tup h => exact .tup (u.sqt s h)
  | none t k => exact .none (tyx_but u u' t s) k
end MH
namespace MH
open PySem PySem.Spec PyProof.Rows L2
/-- a need of looks: none, or the place of a look and a thing that it has marked + -/
def NeedAt (K : PySem.W.Frag) (lks : List (List Str × Str)) (H : Hp) (v : V) (o : Option (Nat × Str)) : Prop := (v = .non ∧ o = none) ∨ ∃ (q : Addr) (i : Nat) (z : Str) (k : List Str × Str), v = .ref q ∧ o = some (i, z) ∧ SqT K H q [.int (i : Nat), .str z] ∧ lks[i]? = some k ∧ z ∈ markedOf k.1 k.2 43
theorem NeedAt.same {K : PySem.W.Frag} {lks : List (List Str × Str)} {H H' : Hp} {v : V} {o : Option (Nat × Str)} (h : NeedAt K lks H v o) (s : Same H H') : NeedAt K lks H' v o :=
  h.imp id fun ⟨q, i, z, k, e1, e2, e3, e4, e5⟩ => ⟨q, i, z, k, e1, e2, s.sqt e3, e4, e5⟩
/-- the needs of looks -/
def needsOf (lks : List (List Str × Str)) : List (Nat × Str) := (List.range lks.length).flatMap fun i => (markedOf (lks.getD i ([], "")).1 (lks.getD i ([], "")).2 43).map fun z => (i, z)
def needsL (lks : List (List Str × Str)) : List (Option (Nat × Str)) := if needsOf lks = [] then [none] else (needsOf lks).map some
def NeedsAt (K : PySem.W.Frag) (lks : List (List Str × Str)) (H : Hp) (l : Addr) (ns : List V) : Prop := H l = some (.lst ns) ∧ ns.length = (needsL lks).length ∧ ∀ (i : Nat) (v : V) (o : Option (Nat × Str)), ns[i]? = some v → (needsL lks)[i]? = some o → NeedAt K lks H v o
def needsTo (lks : List (List Str × Str)) (n : Nat) : List (Nat × Str) := (List.range n).flatMap fun i => (markedOf (lks.getD i ([], "")).1 (lks.getD i ([], "")).2 43).map fun z => (i, z)
theorem needsTo_succ (lks : List (List Str × Str)) (n : Nat) : needsTo lks (n + 1) = needsTo lks n ++ (markedOf (lks.getD n ([], "")).1 (lks.getD n ([], "")).2 43).map fun z => (n, z) := by
  unfold needsTo
  rw [List.range_succ, List.flatMap_append]
  simp
theorem marked_len (ms : List Str) (sg : Str) (c : Nat) : (markedOf ms sg c).length ≤ ms.length := by
  unfold markedOf
  rw [List.length_map]
  have := List.length_filter_le (fun j => decide (sg.cps.toList.getD j 0 = c)) (List.range ms.length)
  rw [List.length_range] at this
  exact this
def dNeed (o : Nat × Str) : PyData := .tuple [.int (o.1 : Nat), .str o.2]
theorem shaped_needs {ns : List (Nat × Str)} (h : ∀ o ∈ ns, nameOk o.2 = true ∧ o.1 ≤ 1000) : SeqAt.shaped (.list (ns.map dNeed)) = true := by
  refine shaped_of (d := .list _) ?_ ?_
  · show okDs (ns.map dNeed) = true
    induction ns with
    | nil => rfl
    | cons o os ih =>
      obtain ⟨h1, h2⟩ := h o List.mem_cons_self
      have e : okD (dNeed o) = true := by
        show (decide (((o.1 : Nat) : Int).natAbs < 10 ^ 100) && (PyData.strOk o.2 && true)) = true
        rw [show PyData.strOk o.2 = true from nameOk_str h1, decide_eq_true (by rw [Int.natAbs_natCast]; exact Nat.lt_of_le_of_lt h2 (by decide))]
        rfl
      show (okD (dNeed o) && okDs (os.map dNeed)) = true
      rw [e, ih fun k hk => h k (List.mem_cons_of_mem _ hk)]
      rfl
  · have := depth_all (f := dNeed) (m := 1) (fun o => by simp only [dNeed, PyData.depth, PyData.depthAll]; decide) ns
    simp only [PyData.depth]
    omega
theorem eqvL_nil (ds : List PyData) : PyData.eqv (.list ds) (.list []) = decide (ds = []) := by
  cases ds with
  | nil => simp [PyData.eqv, PyData.eqvAll]
  | cons d ds => simp [PyData.eqv, PyData.eqvAll]
def spNeeds (K : PySem.W.Frag) : Sp := fun vs H Q _ => ∃ (L : Addr) (th : List Str) (qs : List Addr) (lks : List (List Str × Str)), vs = [.ref L] ∧ ThOk th ∧ LkAt H L qs lks ∧ (∀ k ∈ lks, GoodLk th k) ∧ lks.length ≤ 12 ∧
  ∀ (l : Addr) (ns : List V) (H' : Hp), Same H H' → NeedsAt K lks H' l ns → Q (.ref l) H'
section
variable {P : Program} {w : World} {K : PySem.W.Frag} {mg : Str → Option Value} {base : Heap}
theorem ok_l_needs (T : Tx K mg w) : FnOk P w K mg base CX0 2 T.a_l_needs T.fd_l_needs ["_law_looks_here"] (spNeeds K) := by
  refine T.F_l_needs.ok sc_l_needs (fun vs H Q E h => ?_) (fun cdv A outer s H vs Q E hr h => ?_)
  · obtain ⟨L, th, qs, lks, rfl, _⟩ := h
    rfl
  · obtain ⟨L, th, qs, lks, rfl, tok, lk, gk, l12, k⟩ := h
    refine ⟨_, (pss_cons (ps_set (i := 1) sc_l_needs.nd rfl (Or.inl rfl) (pe_lst pa_nil))
      (pss_cons (ps_for PassesOwn.never rfl (pi_range1 (by rfl) T.n_range (pa_cons (pe_callB call_len_seq (by rfl) T.n_len (by decide +kernel) (pa_cons (pv 0) pa_nil)) pa_nil)) (pg_name (i := 2) sc_l_needs.nd rfl (Or.inr rfl))
        (pss_one (ps_set (i := 1) sc_l_needs.nd rfl (Or.inl rfl) (pe_op op_cat (pv 1) (pe_lc (own := [("_law_thing", 3)]) (g := gName 3) (tt := tYes) rfl sc_l_needs.nd (pi_tup (pe_call (ok_l_marked T) (hr.mono (by decide)) rfl T.g_l_marked T.F_l_marked.kp T.b_l_marked .nil pass0 (pa_cons (pe_ix ix_list (pv 0) (pv 2) (fun _ _ => rfl)) (pa_cons pe_str pa_nil)))) (blkOk_by (own := [("_law_thing", 3)]) (N := names_l_needs) (sc := defScope st_l_needs) (by decide +kernel)) (fun _ _ _ _ _ => pg_name (i := 3) sc_l_needs.nd rfl (Or.inl rfl)) (fun _ _ _ _ _ => pts_nil) (fun _ _ _ _ _ => (pe_tup (pa_cons (pv 2) (pa_cons (pv 3) pa_nil)))))))))
      (pss_one (ps_ret (pe_ifExp (pt_cmpR (op_neD hr.units) (pv 1) (pe_lst pa_nil) (nomark _)) (pv 1) (pe_lst (pa_cons pe_non pa_nil))))))), ?_⟩
    have l10 : ∀ i, ((lks.getD i ([], "")).1).length ≤ 10 := fun i => by
      rw [List.getD_eq_getElem?_getD]
      cases e : lks[i]? with
      | none => exact Nat.zero_le _
      | some kk => exact (good_ok tok (gk kk (List.mem_of_getElem? e))).2
    have lq := lk.2.1
    refine ⟨Nat.zero_le _, fun l0 nl0 => ?_⟩
    have s0 := Same.new nl0 (o := .lst [])
    have e0 : (upd H l0 (.lst [])) l0 = some (.lst []) := upd_same
    generalize upd H l0 (.lst []) = H0 at s0 e0 ⊢
    have lk0 := lk.same s0
    refine ⟨_, rfl, L, _, rfl, .inl (lst_of lk0.1), _, rfl, by omega, by rw [List.length_map]; omega, ?_⟩
    refine for_range (lo := 0) (n := (((qs.map V.ref).length : Nat) : Int).toNat) (fun i σ H' => Same H H' ∧ ∃ (l : Addr) (ns : List V) (v2 : Option V), σ = [some (.ref L), some (.ref l), v2, none] ∧ H' l = some (.lst ns) ∧ ns.length = (needsTo lks i).length ∧ ns.length ≤ 10 * i ∧ ∀ (j : Nat) (v : V) (o : Nat × Str), ns[j]? = some v → (needsTo lks i)[j]? = some o → ∃ q, v = .ref q ∧ SqT K H' q [.int (o.1 : Nat), .str o.2] ∧ ∃ kk, lks[o.1]? = some kk ∧ o.2 ∈ markedOf kk.1 kk.2 43)
      ⟨s0, l0, [], none, rfl, e0, rfl, Nat.zero_le _, fun j v o e => by simp at e⟩ ?_ ?_
    · rintro i σ H1 hi ⟨s1, l, ns, v2, rfl, el, ln, lb, hns⟩
      have hi : i < lks.length := by rw [List.length_map] at hi; omega
      rw [show (0 : Int) + (i : Int) = ((i : Nat) : Int) from Int.zero_add _]
      have hq : qs[i]? = some (qs[i]'(by omega)) := List.getElem?_eq_getElem _
      have hk : lks[i]? = some lks[i] := List.getElem?_eq_getElem hi
      have eg : lks.getD i ([], "") = lks[i] := by
        rw [List.getD_eq_getElem?_getD, hk]
        rfl
      have li := l10 i
      rw [needsTo_succ, eg]
      rw [eg] at li
      have gi := gk _ (List.getElem_mem hi)
      obtain ⟨m, hq1, hm1⟩ := (lk.same s1).2.2 i _ _ hq hk
      generalize qs[i]'(by omega) = q at hq hq1
      generalize lks[i] = kk at hk li gi hq1 hm1 ⊢
      obtain ⟨ms, sg⟩ := kk
      have lm := marked_len ms sg 43
      have li : ms.length ≤ 10 := li
      have lk1 := (lk.same s1).1
      have hqi : (qs.map V.ref)[i]? = some (V.ref q) := by rw [List.getElem?_map, hq]; rfl
      refine ⟨_, rfl, _, rfl, _, rfl, L, _, _, _, rfl, rfl, lst_of lk1, atI_nat hqi, q, m, ms, sg, 43, rfl, hq1.sqt, hm1.sqt, by omega, gi.2.2.1.1, fun p H2 s2 hp => ?_⟩
      refine ⟨p, rfl, ⟨_, hp.sqt⟩, fun D nD => lco walk_tup (fun j v H' => ∃ (x : Addr) (z : Str), v = V.ref x ∧ (markedOf ms sg 43)[j]? = some z ∧ H' x = some (.tup [.int (i : Nat), .str z])) nD (by rw [List.length_map]; omega) (fun H' s => (hp.same s).sqt) (fun _ _ _ _ _ y => yat_same y) (fun j v H' H'' ⟨x, z, h1, h2, h3⟩ so => ⟨x, z, h1, h2, so _ _ (fun l q => by cases q) h3⟩) (fun j x H3 H4 hj s3 yy Z hZ => ?_) (fun H3 zs s3 e3 lz hzs => ?_)⟩
      · obtain ⟨rfl, hx⟩ := yy
        obtain ⟨z, hz, rfl⟩ := str_at hx
        exact ⟨rfl, _, rfl, _, rfl, (by show 2 ≤ sizeLine; decide), fun x nx => hZ _ _ (Same.new nx) ⟨x, z, rfl, hz, upd_same⟩⟩
      rw [List.length_map] at lz
      have s23 := s2.trans s3
      have el3 := s23 _ _ el
      refine ⟨l, D, _, _, rfl, rfl, el3, e3, le_line (by omega), fun F nF => ?_⟩
      have sF := Same.new nF (o := .lst (ns ++ zs))
      have eF : (upd H3 F (.lst (ns ++ zs))) F = some (.lst (ns ++ zs)) := upd_same
      generalize upd H3 F (.lst (ns ++ zs)) = H5 at sF eF ⊢
      have s15 := s23.trans sF
      refine ⟨s1.trans s15, F, ns ++ zs, _, rfl, eF, by rw [List.length_append, List.length_append, List.length_map, ln, lz], by rw [List.length_append]; omega, fun j v o h1 h2 => ?_⟩
      by_cases c : j < ns.length
      · rw [List.getElem?_append_left c] at h1
        rw [List.getElem?_append_left (by omega)] at h2
        obtain ⟨x, e1, e2, e3⟩ := hns j v o h1 h2
        exact ⟨x, e1, s15.sqt e2, e3⟩
      · rw [List.getElem?_append_right (by omega)] at h1
        rw [List.getElem?_append_right (by omega), ← ln, List.getElem?_map] at h2
        obtain ⟨x, z, rfl, h3, h4⟩ := hzs _ v h1
        rw [h3] at h2
        obtain rfl : ((i, z) : Nat × Str) = o := Option.some.inj h2
        exact ⟨x, rfl, tup_of (sF _ _ h4), _, hk, List.mem_of_getElem? h3⟩
    · rintro σ H1 ⟨s1, l, ns, v2, rfl, el, ln, lb, hns⟩
      have en : (((qs.map V.ref).length : Nat) : Int).toNat = lks.length := by rw [List.length_map]; omega
      rw [en] at ln lb hns
      have eo : needsTo lks lks.length = needsOf lks := rfl
      rw [eo] at ln hns
      have ok2 : ∀ o ∈ needsOf lks, nameOk o.2 = true ∧ o.1 ≤ 1000 := fun o ho => by
        obtain ⟨j, hj⟩ := List.getElem?_of_mem ho
        have hv : ns[j]? = some (ns[j]'(by have := (List.getElem?_eq_some_iff.mp hj).1; omega)) := List.getElem?_eq_getElem _
        obtain ⟨_, _, _, kk, hk, hm⟩ := hns j _ o hv hj
        have lt := (List.getElem?_eq_some_iff.mp hk).1
        exact ⟨(good_ok tok (gk kk (List.mem_of_getElem? hk))).1 _ (marked_in hm), by omega⟩
      refine ⟨_, rfl, Nat.zero_le _, fun e ne => ?_⟩
      have sE := Same.new ne (o := .lst [])
      have eE : (upd H1 e (.lst [])) e = some (.lst []) := upd_same
      generalize upd H1 e (.lst []) = H2 at sE eE ⊢
      refine ⟨_, _, .lst (lst_of (sE _ _ el)) (dp_all (f := dNeed) (ls := needsOf lks) ln fun j v o h1 h2 => ?_), .lst (lst_of eE) .nil, shaped_needs ok2, by decide, ?_⟩
      · obtain ⟨x, rfl, e2, _⟩ := hns j v o h1 h2
        exact .tup (sE.sqt e2) (.cons (.int _) (.cons (.str _) .nil))
      rw [eqvL_nil]
      refine ⟨_, rfl, ?_⟩
      by_cases c : needsOf lks = []
      · rw [c]
        refine ifF rfl ⟨(by show 1 ≤ sizeLine; decide), fun F nF => ?_⟩
        have sF := Same.new nF (o := .lst [.non])
        refine k F [.non] _ (s1.trans (sE.trans sF)) ⟨upd_same, ?_, fun j v o h1 h2 => ?_⟩
        · unfold needsL
          rw [if_pos c]
          rfl
        · unfold needsL at h2
          rw [if_pos c] at h2
          cases j with
          | zero =>
            obtain rfl := Option.some.inj h1
            obtain rfl := Option.some.inj h2
            exact .inl ⟨rfl, rfl⟩
          | succ j => simp at h1
      · refine ifT ?_ ⟨_, rfl, k l ns H2 (s1.trans sE) ⟨sE _ _ el, ?_, fun j v o h1 h2 => ?_⟩⟩
        · rw [decide_eq_false fun q => c (List.map_eq_nil_iff.mp q)]
          rfl
        · unfold needsL
          rw [if_neg c, List.length_map, ln]
        · unfold needsL at h2
          rw [if_neg c, List.getElem?_map] at h2
          obtain ⟨⟨i, z⟩, h3, rfl⟩ := Option.map_eq_some_iff.mp h2
          obtain ⟨x, e1, e2, kk, h4, h5⟩ := hns j v _ h1 h3
          exact .inr ⟨x, i, z, kk, e1, rfl, sE.sqt e2, h4, h5⟩
end
end MH
namespace MH
open PySem PySem.Spec PyProof.Rows L2
/-- looks as pairs of a menu and what is marked - -/
abbrev Pr2 : Type := List Str × List Str
def PairsQ (K : PySem.W.Frag) (H : Hp) (l : Addr) (qs : List Addr) (ps : List Pr2) : Prop := H l = some (.lst (qs.map V.ref)) ∧ qs.length = ps.length ∧
  ∀ (j : Nat) (q : Addr) (p : Pr2), qs[j]? = some q → ps[j]? = some p → ∃ a b : Addr, SqT K H q [.ref a, .ref b] ∧ SqT K H a (p.1.map V.str) ∧ SqT K H b (p.2.map V.str)
theorem PairsQ.same {K : PySem.W.Frag} {H H' : Hp} {l : Addr} {qs : List Addr} {ps : List Pr2} (h : PairsQ K H l qs ps) (s : Same H H') : PairsQ K H' l qs ps :=
  ⟨s _ _ h.1, h.2.1, fun j q p h1 h2 => let ⟨a, b, e1, e2, e3⟩ := h.2.2 j q p h1 h2; ⟨a, b, s.sqt e1, s.sqt e2, s.sqt e3⟩⟩
def sharpL (lks : List (List Str × Str)) (o : Option (Nat × Str)) : List Pr2 := lks.map (fun k => (k.1, markedOf k.1 k.2 45)) ++ match o with
  | none => []
  | some (i, z) => [((lks.getD i ([], "")).1, (lks.getD i ([], "")).1.filter fun y => !decide (y = z))]
/-- pairs of lists of things -/
def PrOk (th : List Str) (ps : List Pr2) : Prop := ∀ p ∈ ps, (∀ z ∈ p.1, z ∈ th) ∧ (∀ z ∈ p.2, z ∈ th) ∧ p.1.length ≤ 10 ∧ p.2.length ≤ 10
def spSharp (K : PySem.W.Frag) : Sp := fun vs H Q _ => ∃ (L : Addr) (v : V) (o : Option (Nat × Str)) (th : List Str) (qs : List Addr) (lks : List (List Str × Str)), vs = [.ref L, v] ∧ ThOk th ∧ LkAt H L qs lks ∧ (∀ k ∈ lks, GoodLk th k) ∧ lks.length ≤ 12 ∧ NeedAt K lks H v o ∧
  ∀ (l : Addr) (ps : List Addr) (H' : Hp), Same H H' → PairsQ K H' l ps (sharpL lks o) → Q (.ref l) H'
section
variable {P : Program} {w : World} {K : PySem.W.Frag} {mg : Str → Option Value} {base : Heap}
theorem ok_l_sharpened (T : Tx K mg w) : FnOk P w K mg base CX0 2 T.a_l_sharpened T.fd_l_sharpened ["_law_looks_here", "_law_need"] (spSharp K) := by
  refine T.F_l_sharpened.ok sc_l_sharpened (fun vs H Q E h => ?_) (fun cdv A outer s H vs Q E hr h => ?_)
  · obtain ⟨L, v, o, th, qs, lks, rfl, _⟩ := h
    rfl
  · obtain ⟨L, v, o, th, qs, lks, rfl, tok, lk, gk, l12, nv, k⟩ := h
    refine ⟨_, (pss_cons (ps_setLc (i := 2) (own := [("_law_look", 4)]) (g := gName 4) (tt := tYes) rfl sc_l_sharpened.nd rfl rfl (sw_true rfl rfl rfl (by decide +kernel)) (pi_list (pv 0)) (blkOk_by (own := [("_law_look", 4)]) (N := names_l_sharpened) (sc := defScope st_l_sharpened) (by decide +kernel)) (fun _ _ _ _ _ => pg_name (i := 4) sc_l_sharpened.nd rfl (Or.inl rfl)) (fun _ _ _ _ _ => pts_nil) (fun _ _ _ _ _ => (pe_tup (pa_cons (pe_ix (r := rIxT K) ix_tup (pv 4) pe_int (fun _ _ => rfl)) (pa_cons (pe_call (ok_l_marked T) (hr.mono (by decide)) rfl T.g_l_marked T.F_l_marked.kp T.b_l_marked .nil pass0 (pa_cons (pv 4) (pa_cons pe_str pa_nil))) pa_nil)))))
      (pss_cons (ps_if (pt_cmpR op_isN (pv 1) pe_non (nomark _))
        (pss_one (ps_ret (pv 2)))
        pss_nil)
      (pss_cons (ps_set (i := 3) sc_l_sharpened.nd rfl (Or.inl rfl) (pe_ix ix_tup (pe_ix ix_list (pv 0) (pe_ix ix_tup (pv 1) pe_int (fun _ _ => rfl)) (fun _ _ => rfl)) pe_int (fun _ _ => rfl)))
      (pss_one (ps_ret (pe_op op_cat (pv 2) (pe_lst (pa_cons (pe_tup (pa_cons (pv 3) (pa_cons (pe_callTy call_tupF (by rfl) T.n_tuple (by decide +kernel) (pa_cons (pe_lc (own := [("_law_thing", 5)]) (g := gName 5) (tt := _) rfl sc_l_sharpened.nd (pi_tup (pv 3)) (blkOk_by (own := [("_law_thing", 5)]) (N := names_l_sharpened) (sc := defScope st_l_sharpened) (by decide +kernel)) (fun _ _ _ _ _ => pg_name (i := 5) sc_l_sharpened.nd rfl (Or.inl rfl)) (fun _ _ _ _ _ => pts_one (pt_cmpR op_ne (pv 5) (pe_ix (r := rIxT K) ix_tup (pv 1) pe_int (fun _ _ => rfl)) (nomark _))) (fun _ _ _ _ _ => (pv 5))) pa_nil)) pa_nil))) pa_nil)))))))), ?_⟩
    have lq := lk.2.1
    refine ⟨_, rfl, L, rfl, ⟨_, lst_of lk.1⟩, fun D nD => lco walk_list (fun j v H' => ∃ (x : Addr) (kk : List Str × Str) (a b : Addr), v = V.ref x ∧ lks[j]? = some kk ∧ H' x = some (.tup [.ref a, .ref b]) ∧ SqT K H' a (kk.1.map V.str) ∧ SqT K H' b ((markedOf kk.1 kk.2 45).map V.str)) nD (by rw [List.length_map]; omega) (fun H' s => lst_of (s _ _ lk.1)) (fun _ _ _ _ _ y => yat_same y) (fun j v H' H'' ⟨x, kk, a, b, h1, h2, h3, h4, h5⟩ so => ⟨x, kk, a, b, h1, h2, so _ _ (fun l q => by cases q) h3, so.sqt h4, so.sqt h5⟩) (fun j x H3 H4 hj s3 yy Z hZ => ?_) (fun H3 zs s3 e3 lz hzs => ?_)⟩
    · obtain ⟨rfl, hx⟩ := yy
      obtain ⟨q, hq, rfl⟩ := ref_at hx
      have jl : j < lks.length := by
        have := (List.getElem?_eq_some_iff.mp hq).1
        omega
      have hk : lks[j]? = some lks[j] := List.getElem?_eq_getElem jl
      have gi := gk _ (List.getElem_mem jl)
      obtain ⟨m, hq1, hm1⟩ := (lk.same s3).2.2 j q _ hq hk
      generalize lks[j] = kk at hk gi hq1 hm1
      obtain ⟨nk, l10⟩ := good_ok tok gi
      refine ⟨rfl, _, rfl, q, _, _, _, rfl, rfl, hq1.sqt, rfl, _, rfl, q, m, kk.1, kk.2, 45, rfl, hq1.sqt, hm1.sqt, by omega, gi.2.2.1.1, fun p H5 s5 hp => ⟨(by show 2 ≤ sizeLine; decide), fun x nx => ?_⟩⟩
      have sx := Same.new nx (o := .tup [.ref m, .ref p])
      exact hZ _ _ (s5.trans sx) ⟨x, kk, m, p, rfl, hk, upd_same, ((hm1.same s5).same sx).sqt, (hp.same sx).sqt⟩
    rw [List.length_map] at lz
    obtain ⟨ps, rfl, hps⟩ := refs_all (zs := zs) (R := fun j x => ∃ (kk : List Str × Str) (a b : Addr), lks[j]? = some kk ∧ SqT K H3 x [.ref a, .ref b] ∧ SqT K H3 a (kk.1.map V.str) ∧ SqT K H3 b ((markedOf kk.1 kk.2 45).map V.str)) fun j v hv => by
      obtain ⟨x, kk, a, b, h1, h2, h3, h4, h5⟩ := hzs j v hv
      exact ⟨x, h1, kk, a, b, h2, tup_of h3, h4, h5⟩
    rw [List.length_map] at lz
    have pq : PairsQ K H3 D ps (lks.map fun k => (k.1, markedOf k.1 k.2 45)) := ⟨e3, by rw [List.length_map]; omega, fun j q p h1 h2 => by
      obtain ⟨kk, a, b, h3, h4, h5, h6⟩ := hps j q h1
      rw [List.getElem?_map, h3] at h2
      obtain rfl := Option.some.inj h2
      exact ⟨a, b, h4, h5, h6⟩⟩
    clear hps hzs
    rcases nv with ⟨rfl, rfl⟩ | ⟨q, i, z, kk, rfl, rfl, hq, hk, hz⟩
    · refine ⟨_, rfl, rfl, _, rfl, ifT rfl ⟨_, rfl, k D ps H3 s3 ?_⟩⟩
      unfold sharpL
      rw [List.append_nil]
      exact pq
    · refine ⟨_, rfl, rfl, _, rfl, ifF rfl ?_⟩
      have il : i < lks.length := (List.getElem?_eq_some_iff.mp hk).1
      have hq2 : qs[i]? = some (qs[i]'(by omega)) := List.getElem?_eq_getElem _
      have lk3 := lk.same s3
      obtain ⟨m, hq1, hm1⟩ := lk3.2.2 i _ _ hq2 hk
      generalize qs[i]'(by omega) = q2 at hq2 hq1
      obtain ⟨ms, sg⟩ := kk
      have gi := gk _ (List.mem_of_getElem? hk)
      obtain ⟨nk, l10⟩ := good_ok tok gi
      have l10 : ms.length ≤ 10 := l10
      have hqi : (qs.map V.ref)[i]? = some (V.ref q2) := by rw [List.getElem?_map, hq2]; rfl
      have hq3 := s3.sqt hq
      have a0 : atI [V.int ((i : Nat) : Int), V.str z] 0 = some (V.int ((i : Nat) : Int)) := rfl
      have a1 : atI [V.int ((i : Nat) : Int), V.str z] 1 = some (V.str z) := rfl
      have b0 : atI [V.ref m, V.str sg] 0 = some (V.ref m) := rfl
      refine ⟨_, rfl, _, rfl, q, _, _, _, rfl, rfl, hq3, a0, L, _, _, _, rfl, rfl, lst_of lk3.1, atI_nat hqi, q2, _, _, _, rfl, rfl, hq1.sqt, b0, ?_⟩
      refine ⟨_, rfl, _, rfl, _, rfl, m, rfl, ⟨_, hm1.sqt⟩, fun D2 nD2 => lcf walk_tup ms V.str (fun y => !decide (y = z)) (List.length_map _).symm nD2 (by rw [List.length_map]; omega) (fun H' s => (hm1.same s).sqt) (fun _ _ _ _ _ y => yat_same y) (fun j y x H6 H7 hy s6 yy Z N hZ hN => ?_) (fun H6 s6 e6 => ?_)⟩
      · obtain ⟨rfl, hx⟩ := yy
        obtain ⟨y2, hy2, rfl⟩ := str_at hx
        obtain rfl : y2 = y := Option.some.inj (hy2.symm.trans hy)
        refine ⟨rfl, _, rfl, _, rfl, q, _, _, _, rfl, rfl, s6.sqt hq3, a1, rfl, _, rfl, ?_⟩
        have dv : decide (V.str y2 = V.str z) = decide (y2 = z) := by
          rw [decide_eq_decide]
          exact ⟨fun e => V.str.inj e, fun e => by rw [e]⟩
        show if (!decide (V.str y2 = V.str z)) = true then _ else _
        rw [dv]
        exact ite2 (fun c => ⟨_, rfl, hZ c _ (Same.refl _)⟩) (fun c => hN (by simpa using c) _ (Same.refl _))
      have eS : sharpL lks (some (i, z)) = lks.map (fun k => (k.1, markedOf k.1 k.2 45)) ++ [(ms, ms.filter fun y => !decide (y = z))] := by
        unfold sharpL
        simp only
        rw [List.getD_eq_getElem?_getD, hk]
        rfl
      refine ⟨D2, _, rfl, .inl ⟨lst_of e6, fun g og ng dg => ?_⟩⟩
      have s7 := s6.new' ng (o := .frz og (.tup ((ms.filter fun y => !decide (y = z)).map V.str)))
      have hg : SqT K (upd H6 g (.frz og (.tup ((ms.filter fun y => !decide (y = z)).map V.str)))) g ((ms.filter fun y => !decide (y = z)).map V.str) := frz_of upd_same
      generalize upd H6 g (.frz og (.tup ((ms.filter fun y => !decide (y = z)).map V.str))) = H7 at s7 hg ⊢
      refine ⟨(by show 2 ≤ sizeLine; decide), fun x nx => ?_⟩
      have sx := Same.new nx (o := .tup [.ref m, .ref g])
      have hx : SqT K (upd H7 x (.tup [.ref m, .ref g])) x [.ref m, .ref g] := tup_of upd_same
      generalize upd H7 x (.tup [.ref m, .ref g]) = H8 at sx hx ⊢
      refine ⟨(by show 1 ≤ sizeLine; decide), fun y ny => ?_⟩
      have sy := Same.new ny (o := .lst [.ref x])
      have hy : (upd H8 y (.lst [.ref x])) y = some (.lst [.ref x]) := upd_same
      generalize upd H8 y (.lst [.ref x]) = H9 at sy hy ⊢
      have s39 := s7.trans (sx.trans sy)
      refine ⟨D, y, _, _, rfl, rfl, s39 _ _ pq.1, hy, le_line (by rw [List.length_map]; show _ + 1 ≤ 100000; omega), fun F nF => ?_⟩
      have sF := Same.new nF (o := .lst (ps.map V.ref ++ [.ref x]))
      have eF : (upd H9 F (.lst (ps.map V.ref ++ [.ref x]))) F = some (.lst (ps.map V.ref ++ [.ref x])) := upd_same
      have s3F := s39.trans sF
      refine k F (ps ++ [x]) _ (s3.trans s3F) ?_
      rw [eS]
      refine ⟨by rw [eF, List.map_append]; rfl, by rw [List.length_append, List.length_append, List.length_map]; show _ + 1 = _ + 1; omega, fun j q' p' h1 h2 => ?_⟩
      by_cases c : j < ps.length
      · rw [List.getElem?_append_left c] at h1
        rw [List.getElem?_append_left (by rw [List.length_map]; omega)] at h2
        obtain ⟨a, b, c1, c2, c3⟩ := pq.2.2 j q' p' h1 h2
        exact ⟨a, b, s3F.sqt c1, s3F.sqt c2, s3F.sqt c3⟩
      · rw [List.getElem?_append_right (by omega)] at h1
        rw [List.getElem?_append_right (by rw [List.length_map]; omega), List.length_map] at h2
        have ej : j - ps.length = 0 := by
          have := (List.getElem?_eq_some_iff.mp h1).1
          have : j - ps.length < 1 := this
          omega
        have ej2 : j - lks.length = 0 := by omega
        rw [ej] at h1
        rw [ej2] at h2
        obtain rfl : x = q' := Option.some.inj h1
        obtain rfl := Option.some.inj h2
        exact ⟨m, g, ((sy.trans sF).sqt hx), s3F.sqt hm1.sqt, ((sx.trans (sy.trans sF)).sqt hg)⟩
end
end MH
namespace MH
open PySem PySem.Spec PyProof.Rows L2
def spLet (K : PySem.W.Frag) : Sp := fun vs H Q _ => ∃ (t l : Addr) (th : List Str) (qs : List Addr) (ps : List Pr2), vs = [.ref t, .ref l] ∧ SqT K H t (th.map V.str) ∧ ThOk th ∧ PairsQ K H l qs ps ∧ PrOk th ps ∧ ps.length ≤ 1000 ∧
  ∀ (q : Addr) (v : V) (b : Addr) (bs : List Str) (H' : Hp), Same H H' → SqT K H' q [v, .ref b] → SqT K H' b (bs.map V.str) → bs.Sublist th → (v = .non ∧ bs ≠ [] ∨ ∃ (r : Addr) (row : List Str), v = .ref r ∧ TupO H' r (row.map V.str) ∧ RowOk row) → Q (.ref q) H'
section
variable {P : Program} {w : World} {K : PySem.W.Frag} {mg : Str → Option Value} {base : Heap}
theorem ok_l_let (T : Tx K mg w) : FnOk P w K mg base CX0 1 T.a_l_let T.fd_l_let ["_law_things_here", "_law_pairs"] (spLet K) := by
  refine T.F_l_let.ok sc_l_let (fun vs H Q E h => ?_) (fun cdv A outer s H vs Q E hr h => ?_)
  · obtain ⟨t, l, th, qs, ps, rfl, _⟩ := h
    rfl
  · obtain ⟨t, l, th, qs, ps, rfl, hT, tok, pq, po, pl, k⟩ := h
    refine ⟨_, (pss_cons (ps_asg (pe_tup (pa_cons (pe_lst pa_nil) (pa_cons (pe_callTy call_list_of (by rfl) T.n_list (by decide +kernel) (pa_cons (pv 0) pa_nil)) pa_nil))) (pg_tup rfl (pgs_cons (pg_name (i := 2) sc_l_let.nd rfl (Or.inl rfl)) (pgs_cons (pg_name (i := 3) sc_l_let.nd rfl (Or.inr rfl)) pgs_nil))))
      (pss_cons (ps_for PassesOwn.never rfl (pi_tup (pv 0)) (pg_name (i := 4) sc_l_let.nd rfl (Or.inl rfl))
        (pss_cons (ps_set (i := 5) sc_l_let.nd rfl (Or.inr rfl) (pe_lc (own := [("_law_pair", 7)]) (g := gName 7) (tt := _) rfl sc_l_let.nd (pi_list (pv 1)) (blkOk_by (own := [("_law_pair", 7)]) (N := names_l_let) (sc := defScope st_l_let) (by decide +kernel)) (fun _ _ _ _ _ => pg_name (i := 7) sc_l_let.nd rfl (Or.inl rfl)) (fun _ _ _ _ _ => pts_one (pt_val (pe_callB (r := rAll K) (id := "all") (cr_all rfl) (by rfl) T.n_all (by decide +kernel) (pa_cons (pe_lc (wi := iTup K (tOp (rIxT K) (tVar 7) (tC (.int 0)))) (own := [("_law_thing", 8)]) (g := gName 8) (tt := tYes) rfl sc_l_let.nd (pi_tup (pe_ix (r := rIxT K) ix_tup (pv 7) pe_int (fun _ _ => rfl))) (blkOk_by (own := [("_law_thing", 8)]) (N := names_l_let) (sc := ({ kind := .function, names := [(".0", .local), ("_law_pair", .local), ("all", .globalImplicit), ("_law_left", .cell)], isGenerator := false, isCoroutine := false } : Scope)) (by decide +kernel)) (fun _ _ _ _ _ => pg_name (i := 8) sc_l_let.nd rfl (Or.inl rfl)) (fun _ _ _ _ _ => pts_nil) (fun _ _ _ _ _ => (pe_cmpR (r := rIn K false) op_in_seq (pv 8) (pv 3) (by rfl)))) pa_nil)))) (fun _ _ _ _ _ => (pv 7))))
      (pss_cons (ps_set (i := 6) sc_l_let.nd rfl (Or.inr rfl) (pe_lc (own := [("_law_thing", 8)]) (g := gName 8) (tt := _) rfl sc_l_let.nd (pi_list (pv 3)) (blkOk_by (own := [("_law_thing", 8)]) (N := names_l_let) (sc := defScope st_l_let) (by decide +kernel)) (fun _ _ _ _ _ => pg_name (i := 8) sc_l_let.nd rfl (Or.inr rfl)) (fun _ _ _ _ _ => pts_one (pt_not (pt_val (pe_callB (r := rAny K) (id := "any") (cr_any rfl) (by rfl) T.n_any (by decide +kernel) (pa_cons (pe_lc (wi := iList K (tVar 5)) (own := [("_law_pair", 7)]) (g := gName 7) (tt := tYes) rfl sc_l_let.nd (pi_list (pv 5)) (blkOk_by (own := [("_law_pair", 7)]) (N := names_l_let) (sc := ({ kind := .function, names := [(".0", .local), ("_law_thing", .cell), ("any", .globalImplicit), ("_law_open_pairs", .cell)], isGenerator := false, isCoroutine := false } : Scope)) (by decide +kernel)) (fun _ _ _ _ _ => pg_name (i := 7) sc_l_let.nd rfl (Or.inl rfl)) (fun _ _ _ _ _ => pts_nil) (fun _ _ _ _ _ => (pe_cmpR (r := rIn K false) op_in_seq (pv 8) (pe_ix (r := rIxT K) ix_tup (pv 7) pe_int (fun _ _ => rfl)) (by rfl)))) pa_nil))))) (fun _ _ _ _ _ => (pv 8))))
      (pss_cons (ps_if (PW.pt (pw_and (pt_cmpR (op_neD hr.units) (pv 3) (pe_lst pa_nil) (nomark _)) (pw_and1 (pt_cmpR (op_eqD hr.units) (pv 6) (pe_lst pa_nil) (nomark _)))))
        (pss_one (ps_ret (pe_tup (pa_cons pe_non (pa_cons (pe_callTy call_tupF (by rfl) T.n_tuple (by decide +kernel) (pa_cons (pv 3) pa_nil)) pa_nil)))))
        pss_nil)
      (pss_one (ps_asg (pe_tup (pa_cons (pe_op op_cat (pv 2) (pv 6)) (pa_cons (pe_lc (own := [("_law_thing", 8)]) (g := gName 8) (tt := tTest (tOp (rIn K true) (tVar 8) (tVar 6))) rfl sc_l_let.nd (pi_list (pv 3)) (blkOk_by (own := [("_law_thing", 8)]) (N := names_l_let) (sc := defScope st_l_let) (by decide +kernel)) (fun _ _ _ _ _ => pg_name (i := 8) sc_l_let.nd rfl (Or.inl rfl)) (fun _ _ _ _ _ => pts_one (pt_cmpR op_notIn_seq (pv 8) (pv 6) (by rfl))) (fun _ _ _ _ _ => (pv 8))) pa_nil))) (pg_tup rfl (pgs_cons (pg_name (i := 2) sc_l_let.nd rfl (Or.inl rfl)) (pgs_cons (pg_name (i := 3) sc_l_let.nd rfl (Or.inr rfl)) pgs_nil)))))))))
      (pss_one (ps_ret (pe_tup (pa_cons (pe_callTy call_tupF (by rfl) T.n_tuple (by decide +kernel) (pa_cons (pv 2) pa_nil)) (pa_cons (pe_tup pa_nil) pa_nil))))))), ?_⟩
    have nd := asc_nd tok.2.2.2
    have l10 := tok.2.1
    have lq := pq.2.1
    refine ⟨Nat.zero_le _, fun r0 nr0 => ?_⟩
    have s0 := Same.new nr0 (o := .lst [])
    have e0 : (upd H r0 (.lst [])) r0 = some (.lst []) := upd_same
    generalize upd H r0 (.lst []) = H0 at s0 e0 ⊢
    refine ⟨_, rfl, t, _, rfl, .inr (s0.sqt hT), fun f0 nf0 => ?_⟩
    have s1 := s0.trans (Same.new nf0 (o := .lst (th.map V.str)))
    have e1 : (upd H0 f0 (.lst (th.map V.str))) r0 = some (.lst []) := by rw [upd_ne (ne_of_none e0 nf0)]; exact e0
    have f1 : (upd H0 f0 (.lst (th.map V.str))) f0 = some (.lst (th.map V.str)) := upd_same
    generalize upd H0 f0 (.lst (th.map V.str)) = H1 at s1 e1 f1 ⊢
    refine ⟨(by show 2 ≤ sizeLine; decide), fun y0 ny0 => ?_⟩
    have sy := Same.new ny0 (o := .tup [.ref r0, .ref f0])
    have s1 := s1.trans sy
    have e1 := sy _ _ e1
    have f1 := sy _ _ f1
    have hy : (upd H1 y0 (.tup [.ref r0, .ref f0])) y0 = some (.tup [.ref r0, .ref f0]) := upd_same
    generalize upd H1 y0 (.tup [.ref r0, .ref f0]) = H1' at s1 e1 f1 hy ⊢
    refine ⟨y0, _, rfl, tup_of hy, rfl, _, _, rfl, _, _, rfl, rfl, ?_⟩
    refine ⟨_, rfl, t, rfl, ⟨_, s1.sqt hT⟩, for_tup (K := K) (a := t) (xs := th.map V.str) (fun i σ H' => Same H H' ∧ ∃ (r f : Addr) (row left : List Str) (v4 v5 v6 : Option V), σ = [some (.ref t), some (.ref l), some (.ref r), some (.ref f), v4, v5, v6, none, none] ∧ H' r = some (.lst (row.map V.str)) ∧ H' f = some (.lst (left.map V.str)) ∧ (row ++ left).Perm th ∧ left.Sublist th ∧ (0 < i → row ≠ []))
      ⟨s1, r0, f0, [], th, none, none, none, rfl, e1, f1, List.Perm.refl _, List.Sublist.refl _, fun h => absurd h (Nat.lt_irrefl 0)⟩ (fun i σ H' _ s => s.1.sqt hT) ?_ ?_⟩
    · rintro i x σ H2 hx ⟨s2, r, f, row, left, v4, v5, v6, rfl, er, ef, pm, sub, rne⟩
      have pq2 := pq.same s2
      have lle : left.length ≤ 10 := Nat.le_trans sub.length_le l10
      have lz : (qs.zip ps).length = (qs.map V.ref).length := by rw [List.length_zip, List.length_map]; omega
      refine ⟨_, rfl, l, rfl, ⟨_, lst_of pq2.1⟩, fun D1 nD1 => lcf walk_list (qs.zip ps) (fun u => V.ref u.1) (fun u => u.2.1.all fun z => decide (z ∈ left)) lz nD1 (by rw [List.length_map]; omega) (fun H' s => lst_of (s _ _ pq2.1)) (fun _ _ _ _ _ y => yat_same y) (fun j u x H3 H4 hu s3 yy Z N hZ hN => ?_) (fun H3 s3 e3 => ?_)⟩
      · obtain ⟨rfl, hx⟩ := yy
        obtain ⟨q, hq, rfl⟩ := ref_at hx
        obtain ⟨u1, p⟩ := u
        obtain ⟨g1, g2⟩ := List.getElem?_zip_eq_some.mp hu
        obtain rfl : q = u1 := Option.some.inj (hq.symm.trans g1)
        obtain ⟨a, b, h1, h2, h3⟩ := (pq2.same s3).2.2 j q p hq g2
        have a0 : atI [V.ref a, V.ref b] 0 = some (V.ref a) := rfl
        have pl2 := (po p (List.mem_of_getElem? g2)).2.2.1
        have efx := s3 _ _ ef
        refine ⟨rfl, _, rfl, q, _, _, _, rfl, rfl, h1, a0, a, rfl, ⟨_, h2⟩, fun D2 nD2 => lcv walk_tup p.1 (fun z => V.bl (decide (z ∈ left))) (List.length_map _).symm nD2 (by rw [List.length_map]; omega) (fun H' s => s.sqt h2) (fun _ _ _ _ _ y => yat_same y) (fun j2 z x2 H5 H6 hz s5 yy2 Z2 hZ2 => ?_) (fun H5 s5 e5 => ?_)⟩
        · obtain ⟨rfl, hx2⟩ := yy2
          obtain ⟨z2, hz2, rfl⟩ := str_at hx2
          obtain rfl : z2 = z := Option.some.inj (hz2.symm.trans hz)
          refine ⟨rfl, _, rfl, _, rfl, f, _, rfl, .inl (lst_of (s5 _ _ efx)), rfl, flat_strs _, ?_⟩
          rw [if_neg Bool.false_ne_true, inV_strs]
          exact hZ2 _ (Same.refl _)
        refine ⟨D2, p.1.map fun z => decide (z ∈ left), rfl, lst_of (by rw [e5, List.map_map]; rfl), ?_⟩
        rw [show (p.1.map fun z => decide (z ∈ left)).all id = p.1.all fun z => decide (z ∈ left) by rw [List.all_map]; rfl]
        refine ⟨_, rfl, ite2 (fun c => ⟨_, rfl, hZ c _ s5⟩) (fun c => hN (by simpa using c) _ s5)⟩
      have ous : ((qs.zip ps).filter fun u => u.2.1.all fun z => decide (z ∈ left)).length ≤ 1000 := by
        have := List.length_filter_le (fun u : Addr × Pr2 => u.2.1.all fun z => decide (z ∈ left)) (qs.zip ps)
        rw [List.length_map] at lz
        omega
      have oat : ∀ u ∈ (qs.zip ps).filter fun u => u.2.1.all fun z => decide (z ∈ left), ∀ {Hx : Hp}, Same H2 Hx → ∃ a b : Addr, SqT K Hx u.1 [.ref a, .ref b] ∧ SqT K Hx b (u.2.2.map V.str) := fun u hu Hx sx => by
        obtain ⟨j, hj⟩ := List.getElem?_of_mem (List.mem_filter.mp hu).1
        obtain ⟨g1, g2⟩ := List.getElem?_zip_eq_some.mp hj
        obtain ⟨a, b, h1, h2, h3⟩ := (pq2.same sx).2.2 j u.1 u.2 g1 g2
        exact ⟨a, b, h1, h3⟩
      generalize ((qs.zip ps).filter fun u => u.2.1.all fun z => decide (z ∈ left)) = us at e3 ous oat
      have ef3 := s3 _ _ ef
      refine ⟨_, rfl, f, rfl, ⟨_, lst_of ef3⟩, fun D3 nD3 => lcf walk_list left V.str (fun z => !(us.any fun u => decide (z ∈ u.2.2))) (List.length_map _).symm nD3 (by rw [List.length_map]; omega) (fun H' s => lst_of (s _ _ ef3)) (fun _ _ _ _ _ y => yat_same y) (fun j z x H4 H5 hz s4 yy Z N hZ hN => ?_) (fun H4 s4 e4 => ?_)⟩
      · obtain ⟨rfl, hx⟩ := yy
        obtain ⟨z2, hz2, rfl⟩ := str_at hx
        obtain rfl : z2 = z := Option.some.inj (hz2.symm.trans hz)
        have e34 := s4 _ _ e3
        refine ⟨rfl, _, rfl, D1, rfl, ⟨_, lst_of e34⟩, fun D2 nD2 => lcv walk_list us (fun u => V.bl (decide (z2 ∈ u.2.2))) (List.length_map _).symm nD2 (by rw [List.length_map]; omega) (fun H' s => lst_of (s _ _ e34)) (fun _ _ _ _ _ y => yat_same y) (fun j2 u x2 H6 H7 hu s6 yy2 Z2 hZ2 => ?_) (fun H6 s6 e6 => ?_)⟩
        · obtain ⟨rfl, hx2⟩ := yy2
          rw [List.getElem?_map, hu] at hx2
          obtain rfl := Option.some.inj hx2
          obtain ⟨a, b, h1, h2⟩ := oat u (List.mem_of_getElem? hu) ((s3.trans s4).trans s6)
          have a1 : atI [V.ref a, V.ref b] 1 = some (V.ref b) := rfl
          refine ⟨rfl, _, rfl, _, rfl, u.1, _, _, _, rfl, rfl, h1, a1, b, _, rfl, .inr h2, rfl, flat_strs _, ?_⟩
          rw [if_neg Bool.false_ne_true, inV_strs]
          exact hZ2 _ (Same.refl _)
        refine ⟨D2, us.map fun u => decide (z2 ∈ u.2.2), rfl, lst_of (by rw [e6, List.map_map]; rfl), ?_⟩
        rw [show (us.map fun u => decide (z2 ∈ u.2.2)).any id = us.any fun u => decide (z2 ∈ u.2.2) by rw [List.any_map]; rfl]
        refine ⟨_, rfl, ite2 (fun c => ⟨_, rfl, hZ c _ s6⟩) (fun c => hN (by simpa using c) _ s6)⟩
      generalize hfr : (left.filter fun z => !(us.any fun u => decide (z ∈ u.2.2))) = free at e4
      have fsub : free.Sublist left := by rw [← hfr]; exact List.filter_sublist
      have s24 := s3.trans s4
      have ef4 := s24 _ _ ef
      have er4 := s24 _ _ er
      have nkl : ∀ z ∈ left, nameOk z = true := fun z hz => tok.2.2.1 z (sub.subset hz)
      have nkf : ∀ z ∈ free, nameOk z = true := fun z hz => nkl z (fsub.subset hz)
      have fp : (free ++ left.filter fun z => !decide (z ∈ free)).Perm left := by
        have e : (left.filter fun z => !decide (z ∈ free)) = left.filter fun z => !(!(us.any fun u => decide (z ∈ u.2.2))) := by
          refine List.filter_congr fun z hz => ?_
          rw [← hfr]
          congr 1
          rw [Bool.eq_iff_iff, decide_eq_true_eq, List.mem_filter]
          exact ⟨fun h => h.2, fun h => ⟨hz, h⟩⟩
        rw [e, ← hfr]
        exact List.filter_append_perm _ _
      clear hfr oat
      refine ⟨_, rfl, Nat.zero_le _, fun n1 nn1 => ?_⟩
      have t1 := Same.new nn1 (o := .lst [])
      have g1 : (upd H4 n1 (.lst [])) n1 = some (.lst []) := upd_same
      generalize upd H4 n1 (.lst []) = H5 at t1 g1 ⊢
      refine ⟨_, _, .lst (lst_of (t1 _ _ ef4)) (dp_strs left), .lst (lst_of g1) .nil, shaped_strsL nkl, by decide, ?_⟩
      rw [eqvL_nil]
      refine ⟨_, rfl, ?_⟩
      by_cases c1 : left = []
      · have hl : left = [] ∨ free ≠ [] := .inl c1
        refine ifF (by rw [decide_eq_true (by rw [c1]; rfl)]; rfl) ?_
        refine ⟨_, rfl, _, rfl, r, D3, _, _, rfl, rfl, t1 _ _ er4, t1 _ _ e4, le_line (by rw [List.length_map, List.length_map]; have := fsub.length_le; have := pm.length_eq; rw [List.length_append] at this; omega), fun F nF => ?_⟩
        have sF := Same.new nF (o := .lst (row.map V.str ++ free.map V.str))
        have eF : (upd H5 F (.lst (row.map V.str ++ free.map V.str))) F = some (.lst ((row ++ free).map V.str)) := by rw [upd_same, List.map_append]
        generalize upd H5 F (.lst (row.map V.str ++ free.map V.str)) = H8 at sF eF ⊢
        have t8 := t1.trans sF
        have ef8 := t8 _ _ ef4
        have e48 := t8 _ _ e4
        refine ⟨_, rfl, f, rfl, ⟨_, lst_of ef8⟩, fun D4 nD4 => lcf walk_list left V.str (fun z => !decide (z ∈ free)) (List.length_map _).symm nD4 (by rw [List.length_map]; omega) (fun H' s => lst_of (s _ _ ef8)) (fun _ _ _ _ _ y => yat_same y) (fun j z x H9 H10 hz s9 yy Z N hZ hN => ?_) (fun H9 s9 e9 => ?_)⟩
        · obtain ⟨rfl, hx⟩ := yy
          obtain ⟨z2, hz2, rfl⟩ := str_at hx
          obtain rfl : z2 = z := Option.some.inj (hz2.symm.trans hz)
          refine ⟨rfl, _, rfl, _, rfl, D3, _, rfl, .inl (lst_of (s9 _ _ e48)), rfl, flat_strs _, _, rfl, ?_⟩
          rw [if_pos rfl, inV_strs]
          exact ite2 (fun c => ⟨_, rfl, hZ c _ (Same.refl _)⟩) (fun c => hN (by simpa using c) _ (Same.refl _))
        refine ⟨(by show 2 ≤ sizeLine; decide), fun y ny => ?_⟩
        have sy := Same.new ny (o := .tup [.ref F, .ref D4])
        have hy : (upd H9 y (.tup [.ref F, .ref D4])) y = some (.tup [.ref F, .ref D4]) := upd_same
        generalize upd H9 y (.tup [.ref F, .ref D4]) = H10 at sy hy ⊢
        refine ⟨y, _, rfl, tup_of hy, rfl, _, _, rfl, _, _, rfl, rfl, (s2.trans s24).trans (t8.trans (s9.trans sy)), F, D4, row ++ free, left.filter fun z => !decide (z ∈ free), _, _, _, rfl, sy _ _ (s9 _ _ eF), sy _ _ e9, ?_, List.filter_sublist.trans sub, fun _ e => ?_⟩
        · rw [List.append_assoc]
          exact (fp.append_left row).trans pm
        · obtain ⟨e1, e2⟩ := List.append_eq_nil_iff.mp e
          rcases hl with h | h
          · rw [e1, h] at pm
            exact tok.1 (List.nil_perm.mp pm)
          · exact h e2
      · refine ifT (by rw [decide_eq_false (fun q => c1 (List.map_eq_nil_iff.mp q))]; rfl) ?_
        refine ⟨_, rfl, Nat.zero_le _, fun n2 nn2 => ?_⟩
        have t2 := t1.trans (Same.new nn2 (o := .lst []))
        have g2 : (upd H5 n2 (.lst [])) n2 = some (.lst []) := upd_same
        generalize upd H5 n2 (.lst []) = H6 at t2 g2 ⊢
        refine ⟨_, _, .lst (lst_of (t2 _ _ e4)) (dp_strs free), .lst (lst_of g2) .nil, shaped_strsL nkf, by decide, ?_⟩
        rw [eqvL_nil]
        refine ⟨_, rfl, ?_⟩
        by_cases c2 : free = []
        · refine ifT (by rw [c2]; rfl) ?_
          refine ⟨_, rfl, f, _, rfl, .inl ⟨lst_of (t2 _ _ ef4), fun b ob nb db => ?_⟩⟩
          have sb := Same.new nb (o := .frz ob (.tup (left.map V.str)))
          have hb : SqT K (upd H6 b (.frz ob (.tup (left.map V.str)))) b (left.map V.str) := frz_of upd_same
          generalize upd H6 b (.frz ob (.tup (left.map V.str))) = H7 at sb hb ⊢
          refine ⟨(by show 2 ≤ sizeLine; decide), fun q nq => ?_⟩
          have sq := Same.new nq (o := .tup [.non, .ref b])
          exact k q .non b left _ ((s2.trans s24).trans (t2.trans (sb.trans sq))) (tup_of upd_same) (sq.sqt hb) sub (.inl ⟨rfl, c1⟩)
        · have hl : left = [] ∨ free ≠ [] := .inr c2
          refine ifF (decide_eq_false fun q => c2 (List.map_eq_nil_iff.mp q)) ?_
          refine ⟨_, rfl, _, rfl, r, D3, _, _, rfl, rfl, t2 _ _ er4, t2 _ _ e4, le_line (by rw [List.length_map, List.length_map]; have := fsub.length_le; have := pm.length_eq; rw [List.length_append] at this; omega), fun F nF => ?_⟩
          have sF := Same.new nF (o := .lst (row.map V.str ++ free.map V.str))
          have eF : (upd H6 F (.lst (row.map V.str ++ free.map V.str))) F = some (.lst ((row ++ free).map V.str)) := by rw [upd_same, List.map_append]
          generalize upd H6 F (.lst (row.map V.str ++ free.map V.str)) = H8 at sF eF ⊢
          have t8 := t2.trans sF
          have ef8 := t8 _ _ ef4
          have e48 := t8 _ _ e4
          refine ⟨_, rfl, f, rfl, ⟨_, lst_of ef8⟩, fun D4 nD4 => lcf walk_list left V.str (fun z => !decide (z ∈ free)) (List.length_map _).symm nD4 (by rw [List.length_map]; omega) (fun H' s => lst_of (s _ _ ef8)) (fun _ _ _ _ _ y => yat_same y) (fun j z x H9 H10 hz s9 yy Z N hZ hN => ?_) (fun H9 s9 e9 => ?_)⟩
          · obtain ⟨rfl, hx⟩ := yy
            obtain ⟨z2, hz2, rfl⟩ := str_at hx
            obtain rfl : z2 = z := Option.some.inj (hz2.symm.trans hz)
            refine ⟨rfl, _, rfl, _, rfl, D3, _, rfl, .inl (lst_of (s9 _ _ e48)), rfl, flat_strs _, _, rfl, ?_⟩
            rw [if_pos rfl, inV_strs]
            exact ite2 (fun c => ⟨_, rfl, hZ c _ (Same.refl _)⟩) (fun c => hN (by simpa using c) _ (Same.refl _))
          refine ⟨(by show 2 ≤ sizeLine; decide), fun y ny => ?_⟩
          have sy := Same.new ny (o := .tup [.ref F, .ref D4])
          have hy : (upd H9 y (.tup [.ref F, .ref D4])) y = some (.tup [.ref F, .ref D4]) := upd_same
          generalize upd H9 y (.tup [.ref F, .ref D4]) = H10 at sy hy ⊢
          refine ⟨y, _, rfl, tup_of hy, rfl, _, _, rfl, _, _, rfl, rfl, (s2.trans s24).trans (t8.trans (s9.trans sy)), F, D4, row ++ free, left.filter fun z => !decide (z ∈ free), _, _, _, rfl, sy _ _ (s9 _ _ eF), sy _ _ e9, ?_, List.filter_sublist.trans sub, fun _ e => ?_⟩
          · rw [List.append_assoc]
            exact (fp.append_left row).trans pm
          · obtain ⟨e1, e2⟩ := List.append_eq_nil_iff.mp e
            rcases hl with h | h
            · rw [e1, h] at pm
              exact tok.1 (List.nil_perm.mp pm)
            · exact h e2
    · rintro σ H2 ⟨s2, r, f, row, left, v4, v5, v6, rfl, er, ef, pm, sub, rne⟩
      have rn := rne (by rw [List.length_map]; exact List.length_pos_iff.mpr tok.1)
      refine ⟨_, rfl, r, _, rfl, .inl ⟨lst_of er, fun b ob nb db => ?_⟩⟩
      have sb := Same.new nb (o := .frz ob (.tup (row.map V.str)))
      have hb : TupO (upd H2 b (.frz ob (.tup (row.map V.str)))) b (row.map V.str) := tupO_new db
      generalize upd H2 b (.frz ob (.tup (row.map V.str))) = H3 at sb hb ⊢
      refine ⟨Nat.zero_le _, fun e ne => ?_⟩
      have se := Same.new ne (o := .tup [])
      have he : SqT K (upd H3 e (.tup [])) e [] := tup_of upd_same
      generalize upd H3 e (.tup []) = H4 at se he ⊢
      refine ⟨(by show 2 ≤ sizeLine; decide), fun q nq => ?_⟩
      have sq := Same.new nq (o := .tup [.ref b, .ref e])
      have rsub : ∀ z ∈ row, z ∈ th := fun z hz => pm.subset (List.mem_append_left _ hz)
      have rnd : row.Nodup := (List.nodup_append.mp (pm.nodup_iff.mpr nd)).1
      have rle : row.length ≤ 10 := by
        have := pm.length_eq
        rw [List.length_append] at this
        omega
      exact k q (.ref b) e [] _ (s2.trans (sb.trans (se.trans sq))) (tup_of upd_same) (sq.sqt he) (List.nil_sublist _) (.inr ⟨b, row, rfl, (hb.same se).same sq, ⟨rn, rle, rnd, fun z hz => tok.2.2.1 z (rsub z hz)⟩⟩)
end
end MH
namespace MH
open PySem PySem.Spec PyProof.Rows L2
/-- a tuple of so many, or no tuple -/
inductive TupLen (K : PySem.W.Frag) (H : Hp) : V → Option Nat → Prop
  | tup {a : Addr} {us : List V} (h : SqT K H a us) : TupLen K H (.ref a) (some us.length)
  | none {v : V} {T : String} (t : TyX K H v (.type T)) (k : kitB T "tuple" = some false) : TupLen K H v none
def spIsTup (K : PySem.W.Frag) : Sp := fun vs H Q _ => ∃ (v : V) (o : Option Nat) (n : Nat), vs = [v, .int (n : Nat)] ∧ TupLen K H v o ∧ Q (.bl (decide (o = some n))) H
/-- a tuple of values that may be people, or no tuple -/
inductive PpV (K : PySem.W.Frag) (H : Hp) : V → Option (List (Option (List (Option Str)))) → Prop
  | tup {a : Addr} {us : List V} {os : List (Option (List (Option Str)))} (h : SqT K H a us) (hl : us.length = os.length) (le : us.length ≤ 2000) (at_ : ∀ (i : Nat) (v : V) (o : Option (List (Option Str))), us[i]? = some v → os[i]? = some o → TupV K H v o) : PpV K H (.ref a) (some os)
  | none {v : V} {T : String} (t : TyX K H v (.type T)) (k : kitB T "tuple" = some false) : PpV K H v none
theorem PpV.same {K : PySem.W.Frag} {H H' : Hp} {v : V} {o : Option (List (Option (List (Option Str))))} (h : PpV K H v o) (s : Same H H') : PpV K H' v o := by
  cases h with
  | tup h hl le at_ => exact .tup (s.sqt h) hl le fun i v o h1 h2 => (at_ i v o h1 h2).same s
  | none t k => exact .none (tyx_same t s) k
theorem PpV.but {K : PySem.W.Frag} {H H' : Hp} {p : Addr} {n m : Nat} {v : V} {o : Option (List (Option (List (Option Str))))} (u : Ur H p n) (u' : Ur H' p m) (h : PpV K H v o) (s : SameB p H H') : PpV K H' v o := by
  cases h with
  | tup h hl le at_ => exact .tup (u.sqt s h) hl le fun i v o h1 h2 => (at_ i v o h1 h2).but u u' s
  | none t k => exact .none (tyx_but u u' t s) k
def takesB (rs : List (List Str)) (ms : List Str) (z : Str) : Bool := decide (z ∈ rs.map (bestOf ms))
def twoB (a b : Option (List (List Str))) (ms : List Str) (z : Str) : Bool := match a, b with
  | some ra, some rb => takesB ra ms z && !takesB rb ms z
  | _, _ => false
def pairO (op : Option (List (Option (List (Option Str))))) (th : List Str) (ks : List Lk3) (ms : List Str) (z : Str) : Bool := match op with
  | some [a, b] => twoB (peopleO a th ks) (peopleO b th ks) ms z
  | _ => false
def perhapsO (ot : Option (List (Option Str))) (op : Option (List (Option (List (Option Str))))) (th ms : List Str) (z : Str) : Bool := match looksO ot th with
  | some ks => pairO op th ks ms z
  | none => false
theorem row_meets {th ms : List Str} {z : Str} {rs : List (List Str)} (tok : ThOk th) (sub : ms.Sublist th) (hz : z ∈ ms) (h : ∀ r ∈ rs, r.Perm th) : ∀ r ∈ rs, r.length ≤ 1000 ∧ ∃ z ∈ r, z ∈ ms := fun r hr => ⟨by
  have := (h r hr).length_eq
  have := tok.2.1
  omega, z, (h r hr).symm.subset (sub.subset hz), hz⟩
def spTakes (K : PySem.W.Frag) : Sp := fun vs H Q _ => ∃ (l m : Addr) (ts : List Addr) (rs : List (List Str)) (ms : List Str) (z : Str), vs = [.ref l, .ref m, .str z] ∧ RowsT K H l ts rs ∧ rs.length ≤ 1000 ∧ SqT K H m (ms.map V.str) ∧ (∀ r ∈ rs, r.length ≤ 1000 ∧ ∃ z ∈ r, z ∈ ms) ∧ ∀ H', Same H H' → Q (.bl (takesB rs ms z)) H'
def spPerhaps (K : PySem.W.Frag) : Sp := fun vs H Q _ => ∃ (v : V) (o : Option (List (Option (List (Option Str))))) (t l m : Addr) (th ms : List Str) (z : Str) (qs : List Addr) (ks : List Lk3), vs = [.ref t, .ref l, .ref m, .str z, v] ∧ PpV K H v o ∧ SqT K H t (th.map V.str) ∧ ThOk th ∧ LtsAt K H l qs ks ∧ (∀ k ∈ ks, LkIn th k) ∧ ks.length ≤ 1000 ∧ SqT K H m (ms.map V.str) ∧ ms.Sublist th ∧ z ∈ ms ∧
  ∀ H', Same H H' → Q (.bl (pairO o th ks ms z)) H'
def spAccAns (K : PySem.W.Frag) : Sp := fun vs H Q _ => ∃ (t m : Addr) (th ms : List Str) (z : Str) (vt vc : V) (ot : Option (List (Option Str))) (oc : Option (List (Option (List (Option Str))))), vs = [.str "perhaps", .ref t, vt, .ref m, .str z, vc] ∧ SqT K H t (th.map V.str) ∧ ThOk th ∧ TupV K H vt ot ∧ SqT K H m (ms.map V.str) ∧ ms.Sublist th ∧ z ∈ ms ∧ PpV K H vc oc ∧
  ∀ H', Same H H' → Q (.bl (perhapsO ot oc th ms z)) H'
def spAccP (K : PySem.W.Frag) : Sp := fun vs H Q _ => ∃ (c t m : Addr) (th ms : List Str) (z : Str) (vt vc : V) (ot : Option (List (Option Str))) (oc : Option (List (Option (List (Option Str))))), vs = [.ref c, vc] ∧ SqT K H c [.str "perhaps", .ref t, vt, .ref m, .str z] ∧ SqT K H t (th.map V.str) ∧ ThOk th ∧ TupV K H vt ot ∧ SqT K H m (ms.map V.str) ∧ ms.Sublist th ∧ z ∈ ms ∧ PpV K H vc oc ∧
  ∀ H', Same H H' → Q (.bl (perhapsO ot oc th ms z)) H'
section
variable {P : Program} {w : World} {K : PySem.W.Frag} {mg : Str → Option Value} {base : Heap}
theorem ok_is_tuple_of (T : Tx K mg w) : FnOk P w K mg base CX0 1 T.a_is_tuple_of T.fd_is_tuple_of ["value", "many"] (spIsTup K) := by
  refine T.F_is_tuple_of.ok sc_is_tuple_of (fun vs H Q E h => ?_) (fun cdv A outer s H vs Q E hr h => ?_)
  · obtain ⟨v, o, n, rfl, _⟩ := h
    rfl
  · obtain ⟨v, o, n, rfl, hv, k⟩ := h
    refine ⟨_, (pss_one (ps_ret (pe_and (pe_callB call_isi (by rfl) T.n_isinstance (by decide +kernel) (pa_cons (pv 0) (pa_cons (pe_bltn (v := .ty "tuple") (by rfl) T.n_tuple (by decide +kernel) rfl) pa_nil))) (pe_one (pe_cmpR op_eq (pe_callB call_len_seq (by rfl) T.n_len (by decide +kernel) (pa_cons (pv 0) pa_nil)) (pv 1) (nomark _)))))), ?_⟩
    cases hv with
    | none ty kt =>
      exact ⟨_, rfl, _, _, _, _, false, rfl, .ty _, ty, kit_ty kt, _, rfl, ifF rfl k⟩
    | @tup a us h =>
      refine ⟨_, rfl, _, _, _, _, true, rfl, .ty _, h.ty, kit_ty (by decide +kernel), _, rfl, ifT rfl ⟨_, rfl, a, _, rfl, .inr h, _, rfl, rfl, ?_⟩⟩
      rw [show decide (V.int ((us.length : Nat) : Int) = V.int ((n : Nat) : Int)) = decide (some us.length = some n) from decide_eq_decide.mpr ⟨fun e => by rw [Int.ofNat.inj (V.int.inj e)], fun e => by rw [Option.some.inj e]⟩]
      exact k
theorem ok_takes (T : Tx K mg w) : FnOk P w K mg base CX0 2 T.a_takes T.fd_takes ["rows", "menu", "thing"] (spTakes K) := by
  refine T.F_takes.ok sc_takes (fun vs H Q E h => ?_) (fun cdv A outer s H vs Q E hr h => ?_)
  · obtain ⟨l, m, ts, rs, ms, z, rfl, _⟩ := h
    rfl
  · obtain ⟨l, m, ts, rs, ms, z, rfl, rt, rl, hm, hb, k⟩ := h
    refine ⟨_, (pss_one (ps_ret (pe_cmpR op_in_seq (pv 2) (pe_lc (own := [("row", 3)]) (g := gName 3) (tt := tYes) rfl sc_takes.nd (pi_list (pv 0)) (blkOk_by (own := [("row", 3)]) (N := names_takes) (sc := defScope st_takes) (by decide +kernel)) (fun _ _ _ _ _ => pg_name (i := 3) sc_takes.nd rfl (Or.inl rfl)) (fun _ _ _ _ _ => pts_nil) (fun _ _ _ _ _ => (pe_call (ok_best T) (hr.mono (by decide)) rfl T.g_best T.F_best.kp T.b_best .nil pass0 (pa_cons (pv 3) (pa_cons (pv 1) pa_nil))))) (by rfl)))), ?_⟩
    refine ⟨_, rfl, _, rfl, l, rfl, ⟨_, rt.1⟩, fun D nD => lcv walk_list rs (fun r => V.str (bestOf ms r)) (by rw [List.length_map]; exact rt.2.1.symm) nD (by rw [List.length_map, rt.2.1]; omega) (fun H' s => same_sql s rt.1) (fun _ _ _ _ _ y => yat_same y) (fun i r x H1 H' hr1 s1 y Z hZ => ?_) (fun H1 s1 e1 => ?_)⟩
    · obtain ⟨rfl, hx⟩ := y
      obtain ⟨u, hu, rfl⟩ := ref_at hx
      obtain ⟨b1, b2⟩ := hb r (List.mem_of_getElem? hr1)
      exact ⟨rfl, _, rfl, _, rfl, u, m, r, ms, rfl, s1.sqt (rt.2.2 i u r hu hr1), b1, s1.sqt hm, b2, fun H2 s2 => hZ _ s2⟩
    · rw [show (rs.map fun r => V.str (bestOf ms r)) = (rs.map (bestOf ms)).map V.str by rw [List.map_map]; rfl] at e1
      refine ⟨D, _, rfl, .inl (lst_of e1), rfl, flat_strs _, ?_⟩
      rw [if_neg Bool.false_ne_true, inV_strs]
      exact k H1 s1
theorem ok_shows_perhaps (T : Tx K mg w) : FnOk P w K mg base CX0 4 T.a_shows_perhaps T.fd_shows_perhaps ["things", "looks", "menu", "thing", "certificate"] (spPerhaps K) := by
  refine T.F_shows_perhaps.ok sc_shows_perhaps (fun vs H Q E h => ?_) (fun cdv A outer s H vs Q E hr h => ?_)
  · obtain ⟨v, o, t, l, m, th, ms, z, qs, ks, rfl, _⟩ := h
    rfl
  · obtain ⟨v, o, t, l, m, th, ms, z, qs, ks, rfl, hv, hT, tok, lks, lin, kle, hm, sub, hz, k⟩ := h
    refine ⟨_, (pss_cons (ps_if (pt_not (pt_val (pe_call (ok_is_tuple_of T) (hr.mono (by decide)) rfl T.g_is_tuple_of T.F_is_tuple_of.kp T.b_is_tuple_of .nil pass0 (pa_cons (pv 4) (pa_cons pe_int pa_nil)))))
        (pss_one (ps_ret pe_bl))
        pss_nil)
      (pss_cons (ps_set (i := 5) sc_shows_perhaps.nd rfl (Or.inl rfl) (pe_call (ok_people_who_fit T) (hr.mono (by decide)) rfl T.g_people_who_fit T.F_people_who_fit.kp T.b_people_who_fit .nil pass0 (pa_cons (pe_ix ix_tup (pv 4) pe_int (fun _ _ => rfl)) (pa_cons (pv 0) (pa_cons (pv 1) pa_nil)))))
      (pss_cons (ps_set (i := 6) sc_shows_perhaps.nd rfl (Or.inl rfl) (pe_call (ok_people_who_fit T) (hr.mono (by decide)) rfl T.g_people_who_fit T.F_people_who_fit.kp T.b_people_who_fit .nil pass0 (pa_cons (pe_ix ix_tup (pv 4) pe_int (fun _ _ => rfl)) (pa_cons (pv 0) (pa_cons (pv 1) pa_nil)))))
      (pss_cons (ps_if (PW.pt (pw_or (pt_cmpR op_isN (pv 5) pe_non (nomark _)) (pw_or1 (pt_cmpR op_isN (pv 6) pe_non (nomark _)))))
        (pss_one (ps_ret pe_bl))
        pss_nil)
      (pss_one (ps_ret (pe_and (pe_call (ok_takes T) (hr.mono (by decide)) rfl T.g_takes T.F_takes.kp T.b_takes .nil pass0 (pa_cons (pv 5) (pa_cons (pv 2) (pa_cons (pv 3) pa_nil)))) (pe_one (pe_not (pe_call (ok_takes T) (hr.mono (by decide)) rfl T.g_takes T.F_takes.kp T.b_takes .nil pass0 (pa_cons (pv 6) (pa_cons (pv 2) (pa_cons (pv 3) pa_nil))))))))))))), ?_⟩
    cases hv with
    | none ty kt =>
      refine ⟨_, rfl, v, none, 2, rfl, .none ty kt, _, rfl, iteT ?_⟩
      exact k H (Same.refl H)
    | @tup a us os h hl le at_ =>
      refine ⟨_, rfl, .ref a, some us.length, 2, rfl, .tup h, _, rfl, ?_⟩
      by_cases c : us.length = 2
      · refine ifF (by rw [c]; rfl) ?_
        match us, os, hl, c with
        | [v0, v1], [oa, ob], _, _ =>
          have k : ∀ H', Same H H' → Q (.bl (twoB (peopleO oa th ks) (peopleO ob th ks) ms z)) H' := k
          have t0 := at_ 0 v0 oa rfl rfl
          have t1 := at_ 1 v1 ob rfl rfl
          have a0 : atI [v0, v1] 0 = some v0 := rfl
          have a1 : atI [v0, v1] 1 = some v1 := rfl
          refine ⟨_, rfl, a, _, _, _, rfl, rfl, h, a0, _, rfl, _, rfl, v0, oa, t, l, th, qs, ks, rfl, t0, hT, tok, lks, lin, kle, fun ra ea D ts H1 s1 rt => ?_, fun ea H1 s1 => ?_⟩
          · obtain ⟨p1, p2, p3⟩ := peopleO_ok ea
            rw [ea] at k
            refine ⟨_, rfl, a, _, _, _, rfl, rfl, s1.sqt h, a1, _, rfl, _, rfl, v1, ob, t, l, th, qs, ks, rfl, t1.same s1, s1.sqt hT, tok, lks.same s1, lin, kle, fun rb eb D2 ts2 H2 s2 rt2 => ?_, fun eb H2 s2 => ?_⟩
            · obtain ⟨q1, q2, q3⟩ := peopleO_ok eb
              rw [eb] at k
              have s12 := s1.trans s2
              refine ⟨_, rfl, rfl, _, rfl, iteF ⟨_, rfl, rfl, _, rfl, iteF ?_⟩⟩
              have k : ∀ H', Same H H' → Q (.bl (takesB ra ms z && !takesB rb ms z)) H' := k
              refine ⟨_, rfl, _, rfl, _, rfl, D, m, ts, ra, ms, z, rfl, rt.same s2, by omega, s12.sqt hm, row_meets tok sub hz p3, fun H3 s3 => ⟨_, rfl, ite2 (fun c1 => ?_) (fun c1 => ?_)⟩⟩
              · rw [c1, Bool.true_and] at k
                refine ⟨_, rfl, _, rfl, _, rfl, D2, m, ts2, rb, ms, z, rfl, rt2.same s3, by omega, (s12.trans s3).sqt hm, row_meets tok sub hz q3, fun H4 s4 => ⟨_, rfl, k H4 ((s12.trans s3).trans s4)⟩⟩
              · rw [Bool.eq_false_iff.mpr c1, Bool.false_and] at k
                exact k H3 (s12.trans s3)
            · rw [eb] at k
              exact ⟨_, rfl, rfl, _, rfl, iteF ⟨_, rfl, rfl, _, rfl, iteT (k H2 (s1.trans s2))⟩⟩
          · rw [ea] at k
            refine ⟨_, rfl, a, _, _, _, rfl, rfl, s1.sqt h, a1, _, rfl, _, rfl, v1, ob, t, l, th, qs, ks, rfl, t1.same s1, s1.sqt hT, tok, lks.same s1, lin, kle, fun rb eb D2 ts2 H2 s2 rt2 => ?_, fun eb H2 s2 => ?_⟩
            · exact ⟨_, rfl, rfl, _, rfl, iteT (k H2 (s1.trans s2))⟩
            · exact ⟨_, rfl, rfl, _, rfl, iteT (k H2 (s1.trans s2))⟩
      · refine ifT (by rw [decide_eq_false fun e => c (Option.some.inj e)]; rfl) ?_
        have e : pairO (some os) th ks ms z = false := by
          match os, hl with
          | [], _ => rfl
          | [_], _ => rfl
          | [_, _], hl => exact absurd hl c
          | _ :: _ :: _ :: _, _ => rfl
        rw [e] at k
        exact k H (Same.refl H)
theorem ok_accepts_of_answers (T : Tx K mg w) : FnOk P w K mg base CX0 7 T.a_accepts_of_answers T.fd_accepts_of_answers ["word", "things", "texts", "menu", "thing", "certificate"] (spAccAns K) := by
  refine T.F_accepts_of_answers.ok sc_accepts_of_answers (fun vs H Q E h => ?_) (fun cdv A outer s H vs Q E hr h => ?_)
  · obtain ⟨t, m, th, ms, z, vt, vc, ot, oc, rfl, _⟩ := h
    rfl
  · obtain ⟨t, m, th, ms, z, vt, vc, ot, oc, rfl, hT, tok, ht, hm, sub, hz, hc, k⟩ := h
    refine ⟨_, (pss_cons (ps_if (PW.pt (pw_or (pt_not (pt_val (pe_call (ok_are_things T) (hr.mono (by decide)) rfl T.g_are_things T.F_are_things.kp T.b_are_things .nil pass0 (pa_cons (pv 1) pa_nil)))) (pw_or (pt_not (pt_val (pe_call (ok_is_menu T) (hr.mono (by decide)) rfl T.g_is_menu T.F_is_menu.kp T.b_is_menu .nil pass0 (pa_cons (pv 3) (pa_cons (pv 1) pa_nil))))) (pw_or1 (pt_not (pt_val (pe_call (ok_is_one_of T) (hr.mono (by decide)) rfl T.g_is_one_of T.F_is_one_of.kp T.b_is_one_of .nil pass0 (pa_cons (pv 4) (pa_cons (pv 3) pa_nil)))))))))
        (pss_one (ps_ret pe_bl))
        pss_nil)
      (pss_cons (ps_set (i := 6) sc_accepts_of_answers.nd rfl (Or.inl rfl) (pe_call (ok_looks_of T) (hr.mono (by decide)) rfl T.g_looks_of T.F_looks_of.kp T.b_looks_of .nil pass0 (pa_cons (pv 2) (pa_cons (pv 1) pa_nil))))
      (pss_cons (ps_set (i := 7) sc_accepts_of_answers.nd rfl (Or.inl rfl) (pe_ix ix_kdict (pe_glob (v := .ref T.D_OF_ANSWERS) rfl T.g_OF_ANSWERS rfl) (pv 0) (fun _ _ => rfl)))
      (pss_one (ps_ret (pe_and (pe_cmpR op_notN (pv 6) pe_non (nomark _)) (pe_one (pe_callL (i := 7) (ok_shows_perhaps T) (hr.mono (by decide)) rfl (Or.inl rfl) T.F_shows_perhaps.kp T.b_shows_perhaps .nil pass0 (pa_cons (pv 1) (pa_cons (pv 6) (pa_cons (pv 3) (pa_cons (pv 4) (pa_cons (pv 5) pa_nil))))))))))))), ?_⟩
    have l10 := tok.2.1
    have ml := sub.length_le
    refine ⟨_, rfl, t, th, rfl, hT, tok, fun H1 s1 => ⟨_, rfl, iteF ?_⟩⟩
    refine ⟨_, rfl, _, rfl, m, t, ms, th, rfl, s1.sqt hm, by omega, s1.sqt hT, fun H2 s2 => ?_⟩
    rw [sub_set tok sub, decide_eq_true (List.length_pos_iff.mpr (fun e => by rw [e] at hz; cases hz) : 0 < ms.length)]
    have s12 := s1.trans s2
    refine ⟨_, rfl, iteF ?_⟩
    refine ⟨_, rfl, _, rfl, z, m, ms, rfl, s12.sqt hm, ?_⟩
    rw [decide_eq_true hz]
    refine ⟨_, rfl, iteF ?_⟩
    unfold perhapsO at k
    refine ⟨_, rfl, _, rfl, vt, ot, t, th, rfl, ht.same s12, s12.sqt hT, tok, fun ks e l qs H3 s3 hl => ?_, fun e H3 s3 => ?_⟩
    · rw [e] at k
      have s13 := s12.trans s3
      obtain ⟨k12, lin⟩ := looksO_ok tok e
      refine ⟨_, rfl, _, _, .ref T.a_shows_perhaps, rfl, rfl, ⟨_, _, _, T.kd_OF_ANSWERS.at_, T.kd_OF_ANSWERS.lit, T.ki_OF_ANSWERS_perhaps, rfl⟩, ?_⟩
      refine ⟨_, rfl, rfl, _, rfl, ifT rfl ⟨rfl, _, rfl, _, rfl, _, rfl, _, rfl, _, rfl, vc, oc, t, l, m, th, ms, z, qs, ks, rfl, hc.same s13, s13.sqt hT, tok, hl, lin, by omega, s13.sqt hm, sub, hz, fun H4 s4 => k H4 (s13.trans s4)⟩⟩
    · rw [e] at k
      refine ⟨_, rfl, _, _, .ref T.a_shows_perhaps, rfl, rfl, ⟨_, _, _, T.kd_OF_ANSWERS.at_, T.kd_OF_ANSWERS.lit, T.ki_OF_ANSWERS_perhaps, rfl⟩, ?_⟩
      exact ⟨_, rfl, rfl, _, rfl, ifF rfl (k H3 (s12.trans s3))⟩
theorem ok_accepts (T : Tx K mg w) : FnOk P w K mg base CX0 8 T.a_accepts T.fd_accepts ["claim", "certificate"] (spAccP K) := by
  refine T.F_accepts.ok sc_accepts (fun vs H Q E h => ?_) (fun cdv A outer s H vs Q E hr h => ?_)
  · obtain ⟨c, t, m, th, ms, z, vt, vc, ot, oc, rfl, _⟩ := h
    rfl
  · obtain ⟨c, t, m, th, ms, z, vt, vc, ot, oc, rfl, hC, hT, tok, ht, hm, sub, hz, hc, k⟩ := h
    refine ⟨_, (pss_cons (ps_if (PW.pt (pw_or (pt_not (pt_val (pe_callB call_isi (by rfl) T.n_isinstance (by decide +kernel) (pa_cons (pv 0) (pa_cons (pe_bltn (v := .ty "tuple") (by rfl) T.n_tuple (by decide +kernel) rfl) pa_nil))))) (pw_or (pt_cmpR (op_eqT0 hr.units0) (pv 0) (pe_tup pa_nil) (nomark _)) (pw_or1 (pt_not (pt_val (pe_callB call_isi (by rfl) T.n_isinstance (by decide +kernel) (pa_cons (pe_ix ix_tup (pv 0) pe_int (fun _ _ => rfl)) (pa_cons (pe_bltn (v := .ty "str") (by rfl) T.n_str (by decide +kernel) rfl) pa_nil)))))))))
        (pss_one (ps_ret pe_bl))
        pss_nil)
      (pss_cons (ps_set (i := 2) sc_accepts.nd rfl (Or.inl rfl) (pe_ix ix_tup (pv 0) pe_int (fun _ _ => rfl)))
      (pss_cons (ps_if (PW.pt (pw_and (pt_cmpR (op_in_kd T.kd_OF_LOOKS) (pv 2) (pe_glob (v := .ref T.D_OF_LOOKS) rfl T.g_OF_LOOKS rfl) (by rfl)) (pw_and1 (pt_cmpR op_eq (pe_callB call_len_seq (by rfl) T.n_len (by decide +kernel) (pa_cons (pv 0) pa_nil)) pe_int (nomark _)))))
        (pss_one ps_never)
        pss_nil)
      (pss_cons (ps_if (PW.pt (pw_and (pt_cmpR (op_in_kd T.kd_OF_ANSWERS) (pv 2) (pe_glob (v := .ref T.D_OF_ANSWERS) rfl T.g_OF_ANSWERS rfl) (by rfl)) (pw_and1 (pt_cmpR op_eq (pe_callB call_len_seq (by rfl) T.n_len (by decide +kernel) (pa_cons (pv 0) pa_nil)) pe_int (nomark _)))))
        (pss_one (ps_ret (pe_call (ok_accepts_of_answers T) (hr.mono (by decide)) rfl T.g_accepts_of_answers T.F_accepts_of_answers.kp T.b_accepts_of_answers .nil pass0 (pa_cons (pv 2) (pa_cons (pe_ix ix_tup (pv 0) pe_int (fun _ _ => rfl)) (pa_cons (pe_ix ix_tup (pv 0) pe_int (fun _ _ => rfl)) (pa_cons (pe_ix ix_tup (pv 0) pe_int (fun _ _ => rfl)) (pa_cons (pe_ix ix_tup (pv 0) pe_int (fun _ _ => rfl)) (pa_cons (pv 1) pa_nil)))))))))
        pss_nil)
      (pss_cons ps_never
      (pss_one ps_never)))))), ?_⟩
    refine ⟨_, rfl, _, _, _, _, true, rfl, .ty _, hC.ty, kit_ty (by decide +kernel), _, rfl, iteF ?_⟩
    refine ⟨_, rfl, Nat.zero_le _, fun p np => ?_⟩
    have sp := Same.new np (o := .tup [])
    have ep : (upd H p (.tup [])) p = some (.tup []) := upd_same
    generalize upd H p (.tup []) = H0 at sp ep ⊢
    refine ⟨c, p, _, rfl, rfl, sp.sqt hC, tup_of ep, _, rfl, ifF (decide_eq_false (fun e => nomatch e)) ?_⟩
    have hC0 := sp.sqt hC
    refine ⟨_, rfl, c, _, _, _, rfl, rfl, hC0, rfl, _, _, _, _, true, rfl, .ty _, .base (.str _), kit_ty (by decide +kernel), _, rfl, iteF ?_⟩
    refine ⟨_, rfl, c, _, _, _, rfl, rfl, hC0, rfl, ?_⟩
    refine ⟨_, rfl, "perhaps", _, rfl, rfl, T.kn_OF_LOOKS_perhaps, _, rfl, ifF rfl ?_⟩
    refine ⟨_, rfl, "perhaps", _, rfl, rfl, T.ki_OF_ANSWERS_perhaps, _, rfl, ifT rfl ?_⟩
    refine ⟨_, rfl, c, _, rfl, .inr hC0, rfl, _, rfl, ifT (by rw [dec_int]; rfl) ?_⟩
    refine ⟨_, rfl, _, rfl, c, _, _, _, rfl, rfl, hC0, rfl, _, rfl, c, _, _, _, rfl, rfl, hC0, rfl, _, rfl, c, _, _, _, rfl, rfl, hC0, rfl, _, rfl, c, _, _, _, rfl, rfl, hC0, rfl, _, rfl, t, m, th, ms, z, vt, vc, ot, oc, rfl, sp.sqt hT, tok, ht.same sp, sp.sqt hm, sub, hz, hc.same sp, fun H1 s1 => k H1 (sp.trans s1)⟩
/-- a claim about an answer is told as it is due -/
def spTold (K : PySem.W.Frag) : Sp := fun vs H Q _ => ∃ (c t m : Addr) (th ms : List Str) (z : Str) (vt vc : V) (ot : Option (List (Option Str))) (oc : Option (List (Option (List (Option Str))))), vs = [.ref c, vc, .bl (perhapsO ot oc th ms z)] ∧ SqT K H c [.str "perhaps", .ref t, vt, .ref m, .str z] ∧ SqT K H t (th.map V.str) ∧ ThOk th ∧ TupV K H vt ot ∧ SqT K H m (ms.map V.str) ∧ ms.Sublist th ∧ z ∈ ms ∧ PpV K H vc oc ∧
  ∀ H', Same H H' → Q (.bl true) H'
theorem g_l_told (T : Tx K mg w) : FnG P w K mg base 9 T.a_l_told (spTold K) := by
  refine fun_g T.F_l_told sc_l_told T.b_l_told (fun vs H Q E h => ?_) (fun cdv A outer s H vs Q hg hr h => ?_)
  · obtain ⟨c, t, m, th, ms, z, vt, vc, ot, oc, rfl, _⟩ := h
    rfl
  · obtain ⟨c, t, m, th, ms, z, vt, vc, ot, oc, rfl, hC, hT, tok, ht, hm, sub, hz, hc, k⟩ := h
    refine ⟨_, (pss_one (ps_ret (pe_cmpR op_eq (pe_callB (call_reprD hg hr.units) (by rfl) T.n_repr (by decide +kernel) (pa_cons (pe_lst (pa_cons (pe_call (ok_accepts T) (hr.mono (by decide)) rfl T.g_accepts T.F_accepts.kp T.b_accepts .nil pass0 (pa_cons (pv 0) (pa_cons (pv 1) pa_nil))) (pa_cons (pe_callK0 (ok_accepts T) (hr.mono (by decide)) rfl T.g_accepts T.F_accepts.kp T.kb_accepts pass0 (pk_cons (pv 0) (pk_cons (pv 1) pk_nil))) pa_nil))) pa_nil)) (pe_callB (call_reprD hg hr.units) (by rfl) T.n_repr (by decide +kernel) (pa_cons (pe_lst (pa_cons (pv 2) (pa_cons (pv 2) pa_nil))) pa_nil)) (nomark _)))), ?_⟩
    refine ⟨_, rfl, _, rfl, c, t, m, th, ms, z, vt, vc, ot, oc, rfl, hC, hT, tok, ht, hm, sub, hz, hc, fun H1 s1 => ?_⟩
    refine ⟨_, rfl, _, rfl, rfl, c, t, m, th, ms, z, vt, vc, ot, oc, rfl, s1.sqt hC, s1.sqt hT, tok, ht.same s1, s1.sqt hm, sub, hz, hc.same s1, fun H2 s2 => ?_⟩
    have s12 := s1.trans s2
    generalize perhapsO ot oc th ms z = b
    refine ⟨(by show 2 ≤ sizeLine; decide), fun p np => ?_⟩
    have sp := Same.new np (o := .lst [.bl b, .bl b])
    have ep : (upd H2 p (.lst [.bl b, .bl b])) p = some (.lst [.bl b, .bl b]) := upd_same
    generalize upd H2 p (.lst [.bl b, .bl b]) = H3 at sp ep ⊢
    have dp : ∀ (H' : Hp) (q : Addr), H' q = some (.lst [.bl b, .bl b]) → Dp K H' (.ref q) (.list [.bool b, .bool b]) := fun H' q e => .lst (lst_of e) (.cons (.bl b) (.cons (.bl b) .nil))
    have fa : (PyData.list [.bool b, .bool b]).showable = true ∧ (PyData.list [.bool b, .bool b]).hasDict = false ∧ (PyData.list [.bool b, .bool b]).depth ≤ 60 ∧ (PyData.list [.bool b, .bool b]).shown.length ≤ sizeLine := by
      cases b <;> decide +kernel
    obtain ⟨f1, f2, f3, f4⟩ := fa
    refine ⟨p, _, rfl, dp _ _ ep, f1, f2, f3, f4, _, rfl, _, rfl, (by show 2 ≤ sizeLine; decide), fun q nq => ?_⟩
    have sq := Same.new nq (o := .lst [.bl b, .bl b])
    refine ⟨q, _, rfl, dp _ _ upd_same, f1, f2, f3, f4, rfl, ?_⟩
    rw [decide_eq_true rfl]
    exact k _ (s12.trans (sp.trans sq))
end
end MH
namespace MH
open PySem PySem.Spec PyProof.Rows L2
theorem people_some {os : List (Option Str)} {th : List Str} {ks : List Lk3} {rs : List (List Str)} (tok : ThOk th) (h : peopleT os th ks = some rs) : os.all (permO th) = true ∧ rs = rowsP os := by
  have q := people_iff (os := os) (ks := ks) tok
  rw [h] at q
  have q : (decide (1 ≤ os.length ∧ os.length ≤ 130) && os.all (permO th) && allHas (rowsP os) ks) = true := q.symm
  have q2 := (Bool.and_eq_true_iff.mp (Bool.and_eq_true_iff.mp q).1).2
  refine ⟨q2, ?_⟩
  unfold peopleT at h
  split at h
  · have e : allO (os.map rowT) = some (rowsP os) := by
      rw [allO_some]
      unfold rowsP
      rw [List.map_map]
      exact List.map_congr_left fun o ho => rowT_perm tok (List.all_eq_true.mp q2 o ho)
    rw [e] at h
    simp only at h
    split at h
    · exact (Option.some.inj h).symm
    · cases h
  · cases h
/-- rows as lists in a list, all of them apart from D -/
def RowsL (D : Addr) (H : Hp) (A : Addr) (rs : List (List Str)) : Prop := A ≠ D ∧ ∃ ts : List Addr, H A = some (.lst (ts.map V.ref)) ∧ ts.length = rs.length ∧ ∀ (j : Nat) (t : Addr) (r : List Str), ts[j]? = some t → rs[j]? = some r → t ≠ D ∧ H t = some (.lst (r.map V.str))
theorem RowsL.same {D : Addr} {H H' : Hp} {A : Addr} {rs : List (List Str)} (h : RowsL D H A rs) (s : Same H H') : RowsL D H' A rs :=
  let ⟨n, ts, e, l, f⟩ := h
  ⟨n, ts, s _ _ e, l, fun j t r h1 h2 => let ⟨a, b⟩ := f j t r h1 h2; ⟨a, s _ _ b⟩⟩
theorem RowsL.up {D : Addr} {H : Hp} {A : Addr} {rs : List (List Str)} {o : HO} (h : RowsL D H A rs) : RowsL D (upd H D o) A rs :=
  let ⟨n, ts, e, l, f⟩ := h
  ⟨n, ts, by rw [upd_ne n]; exact e, l, fun j t r h1 h2 => let ⟨a, b⟩ := f j t r h1 h2; ⟨a, by rw [upd_ne a]; exact b⟩⟩
def spIsPaper (K : PySem.W.Frag) : Sp := fun vs H Q _ => ∃ (v : V) (o : Option (List (Option (List (Option Str))))) (t L m : Addr) (th ms : List Str) (z : Str) (qs : List Addr) (lks : List (List Str × Str)), vs = [v, .ref t, .ref L, .ref m, .str z] ∧ PpV K H v o ∧ SqT K H t (th.map V.str) ∧ ThOk th ∧ LkAt H L qs lks ∧ (∀ k ∈ lks, GoodLk th k) ∧ lks.length ≤ 12 ∧ SqT K H m (ms.map V.str) ∧ ms.Sublist th ∧ z ∈ ms ∧
  ∀ H', Same H H' → Q (.bl (perhapsO (linesO lks) o th ms z)) H'
section
variable {P : Program} {w : World} {K : PySem.W.Frag} {mg : Str → Option Value} {base : Heap}
theorem ok_l_is_paper (T : Tx K mg w) : FnOk P w K mg base CX0 3 T.a_l_is_paper T.fd_l_is_paper ["_law_paper", "_law_things_here", "_law_looks_here", "_law_menu_here", "_law_thing"] (spIsPaper K) := by
  refine T.F_l_is_paper.ok sc_l_is_paper (fun vs H Q E h => ?_) (fun cdv A outer s H vs Q E hr h => ?_)
  · obtain ⟨v, o, t, L, m, th, ms, z, qs, lks, rfl, _⟩ := h
    rfl
  · obtain ⟨v, o, t, L, m, th, ms, z, qs, lks, rfl, hv, hT, tok, lk, gk, l12, hm, sub, hz, k⟩ := h
    refine ⟨_, (pss_cons (ps_if (PW.pt (pw_or (pt_not (pt_val (pe_callB call_isi (by rfl) T.n_isinstance (by decide +kernel) (pa_cons (pv 0) (pa_cons (pe_bltn (v := .ty "tuple") (by rfl) T.n_tuple (by decide +kernel) rfl) pa_nil))))) (pw_or1 (pt_cmpR op_ne (pe_callB call_len_seq (by rfl) T.n_len (by decide +kernel) (pa_cons (pv 0) pa_nil)) pe_int (nomark _)))))
        (pss_one (ps_ret pe_bl))
        pss_nil)
      (pss_cons (ps_if (PW.pt (pw_or (pt_not (pt_val (pe_call (ok_l_fit T) (hr.mono (by decide)) rfl T.g_l_fit T.F_l_fit.kp T.b_l_fit .nil pass0 (pa_cons (pe_ix ix_tup (pv 0) pe_int (fun _ _ => rfl)) (pa_cons (pv 1) (pa_cons (pv 2) pa_nil)))))) (pw_or1 (pt_not (pt_val (pe_call (ok_l_fit T) (hr.mono (by decide)) rfl T.g_l_fit T.F_l_fit.kp T.b_l_fit .nil pass0 (pa_cons (pe_ix ix_tup (pv 0) pe_int (fun _ _ => rfl)) (pa_cons (pv 1) (pa_cons (pv 2) pa_nil)))))))))
        (pss_one (ps_ret pe_bl))
        pss_nil)
      (pss_cons (ps_setLc (i := 5) (own := [("_law_people", 6)]) (g := gName 6) (tt := tYes) rfl sc_l_is_paper.nd rfl rfl (sw_true rfl rfl rfl (by decide +kernel)) (pi_tup (pv 0)) (blkOk_by (own := [("_law_people", 6)]) (N := names_l_is_paper) (sc := defScope st_l_is_paper) (by decide +kernel)) (fun _ _ _ _ _ => pg_name (i := 6) sc_l_is_paper.nd rfl (Or.inl rfl)) (fun _ _ _ _ _ => pts_nil) (fun _ _ _ _ _ => (pe_lc (wi := iTup K (tVar 6)) (own := [("_law_text", 7)]) (g := gName 7) (tt := tYes) rfl sc_l_is_paper.nd (pi_tup (pv 6)) (blkOk_by (own := [("_law_text", 7)]) (N := names_l_is_paper) (sc := ({ kind := .function, names := [(".0", .local), ("_law_people", .local)], isGenerator := false, isCoroutine := false } : Scope)) (by decide +kernel)) (fun _ _ _ _ _ => pg_name (i := 7) sc_l_is_paper.nd rfl (Or.inl rfl)) (fun _ _ _ _ _ => pts_nil) (fun _ _ _ _ _ => (pe_split (pv 7) pe_str)))))
      (pss_one (ps_ret (pe_and (pe_cmpR op_in_seq (pv 4) (pe_call (ok_l_taken T) (hr.mono (by decide)) rfl T.g_l_taken T.F_l_taken.kp T.b_l_taken .nil pass0 (pa_cons (pe_ix ix_list (pv 5) pe_int (fun _ _ => rfl)) (pa_cons (pv 3) pa_nil))) (by rfl)) (pe_one (pe_cmpR op_notIn_seq (pv 4) (pe_call (ok_l_taken T) (hr.mono (by decide)) rfl T.g_l_taken T.F_l_taken.kp T.b_l_taken .nil pass0 (pa_cons (pe_ix ix_list (pv 5) pe_int (fun _ _ => rfl)) (pa_cons (pv 3) pa_nil))) (by rfl))))))))), ?_⟩
    have eP : perhapsO (linesO lks) o th ms z = pairO o th (lks.map tri) ms z := by
      unfold perhapsO
      rw [looks_line tok gk l12]
    rw [eP] at k
    cases hv with
    | none ty kt =>
      refine ⟨_, rfl, _, _, _, _, false, rfl, .ty _, ty, kit_ty kt, _, rfl, iteT ?_⟩
      exact k H (Same.refl H)
    | @tup a us os h hl le at_ =>
      refine ⟨_, rfl, _, _, _, _, true, rfl, .ty _, h.ty, kit_ty (by decide +kernel), _, rfl, iteF ?_⟩
      refine ⟨_, rfl, a, _, rfl, .inr h, rfl, _, rfl, ?_⟩
      by_cases c : us.length = 2
      · refine ifF (by rw [c]; rfl) ?_
        match us, os, hl, c with
        | [v0, v1], [oa, ob], _, _ =>
          have k : ∀ H', Same H H' → Q (.bl (twoB (peopleO oa th (lks.map tri)) (peopleO ob th (lks.map tri)) ms z)) H' := k
          have t0 := at_ 0 v0 oa rfl rfl
          have t1 := at_ 1 v1 ob rfl rfl
          have a0 : atI [v0, v1] 0 = some v0 := rfl
          have a1 : atI [v0, v1] 1 = some v1 := rfl
          have fa : fitL oa th lks = (peopleO oa th (lks.map tri)).isSome := by
            rw [fit_eq tok gk l12]
            unfold fitsO
            rw [looks_line tok gk l12]
          have fb : fitL ob th lks = (peopleO ob th (lks.map tri)).isSome := by
            rw [fit_eq tok gk l12]
            unfold fitsO
            rw [looks_line tok gk l12]
          refine ⟨_, rfl, a, _, _, _, rfl, rfl, h, a0, _, rfl, _, rfl, v0, oa, t, L, th, qs, lks, rfl, t0, hT, tok, lk, gk, l12, fun H1 s1 => ?_⟩
          rw [fa]
          cases ea : peopleO oa th (lks.map tri) with
          | none =>
            rw [ea] at k
            exact ⟨_, rfl, iteT (k H1 s1)⟩
          | some ra =>
            refine ⟨_, rfl, iteF ?_⟩
            refine ⟨_, rfl, a, _, _, _, rfl, rfl, s1.sqt h, a1, _, rfl, _, rfl, v1, ob, t, L, th, qs, lks, rfl, t1.same s1, s1.sqt hT, tok, lk.same s1, gk, l12, fun H2 s2 => ?_⟩
            rw [fb]
            cases eb : peopleO ob th (lks.map tri) with
            | none =>
              rw [ea, eb] at k
              exact ⟨_, rfl, iteT (k H2 (s1.trans s2))⟩
            | some rb =>
              refine ⟨_, rfl, iteF ?_⟩
              rw [ea, eb] at k
              have k : ∀ H', Same H H' → Q (.bl (takesB ra ms z && !takesB rb ms z)) H' := k
              obtain ⟨osa, rfl⟩ : ∃ x, oa = some x := by
                cases oa with
                | none => cases ea
                | some x => exact ⟨x, rfl⟩
              obtain ⟨osb, rfl⟩ : ∃ x, ob = some x := by
                cases ob with
                | none => cases eb
                | some x => exact ⟨x, rfl⟩
              obtain ⟨pa, rfl⟩ := people_some tok ea
              obtain ⟨pb, rfl⟩ := people_some tok eb
              have s02 := s1.trans s2
              have vat : ∀ (i : Nat) (v : V), [v0, v1][i]? = some v → ∃ os, [osa, osb][i]? = some os ∧ TupV K H v (some os) ∧ os.all (permO th) = true := fun i v hv => by
                match i, hv with
                | 0, hv => exact ⟨osa, rfl, Option.some.inj hv ▸ t0, pa⟩
                | 1, hv => exact ⟨osb, rfl, Option.some.inj hv ▸ t1, pb⟩
                | _ + 2, hv => cases hv
              have h2 := s02.sqt h
              refine ⟨_, rfl, a, rfl, ⟨_, h2⟩, fun D nD => lc_it (w := walk_tup (K := K) (a := a) (xs := [v0, v1])) (fun i H' => Same H2 H' ∧ ∃ As : List Addr, H' D = some (.lst (As.map V.ref)) ∧ As.length = i ∧ ∀ (j : Nat) (A : Addr), As[j]? = some A → ∃ os, [osa, osb][j]? = some os ∧ RowsL D H' A (rowsP os)) ⟨Same.new nD, [], upd_same, rfl, fun j u e => by simp at e⟩ (fun i H' _ s => s.1.sqt h2) ?_ ?_⟩
              · rintro i x H3 H4 hi ⟨s3, As, e3, le3, hAs⟩ ⟨rfl, hx⟩
                obtain ⟨os, ho, tv, po⟩ := vat i x hx
                have tv := tv.same (s02.trans s3)
                cases tv with
                | @tup b us' _ hb hl' le' at' =>
                  refine ⟨rfl, _, rfl, b, rfl, ⟨_, hb⟩, fun D2 nD2 => ?_⟩
                  have nDD : D2 ≠ D := (ne_of_none e3 nD2).symm
                  refine lc_it (w := walk_tup (K := K) (a := b) (xs := us')) (fun j H' => Same H4 H' ∧ ∃ ts : List Addr, H' D2 = some (.lst (ts.map V.ref)) ∧ ts.length = j ∧ ∀ (j2 : Nat) (u : Addr), ts[j2]? = some u → u ≠ D ∧ u ≠ D2 ∧ ∃ z, os[j2]? = some (some z) ∧ H' u = some (.lst ((Txt.split z " ").map V.str))) ⟨Same.new nD2, [], upd_same, rfl, fun j u e => by simp at e⟩ (fun i H' _ s => s.1.sqt hb) ?_ ?_
                  · rintro j y H5 H6 hj ⟨s5, ts, e5, le5, hts⟩ ⟨rfl, hy⟩
                    have il : j < os.length := by omega
                    have hoj : os[j]? = some os[j] := List.getElem?_eq_getElem il
                    obtain ⟨z', ez, _⟩ := permO_some (List.all_eq_true.mp po _ (List.getElem_mem il))
                    have ct := at' j y _ hy hoj
                    rw [ez] at hoj ct
                    cases ct with
                    | str hz' =>
                      have z1 := hz'.l
                      have z2 : (Txt.split z' " ").length ≤ 40 := hz'.m
                      refine ⟨rfl, _, rfl, ⟨_, rfl⟩, _, _, rfl, rfl, by decide, le_line (by omega), ?_⟩
                      intro l nl
                      have sl := Same.new nl (o := .lst ((Txt.split z' " ").map V.str))
                      have el : (upd H6 l (.lst ((Txt.split z' " ").map V.str))) l = some (.lst ((Txt.split z' " ").map V.str)) := upd_same
                      have nlD2 : l ≠ D2 := (ne_of_none e5 nl).symm
                      have nlD : l ≠ D := (ne_of_none (s5 _ _ e3) nl).symm
                      generalize upd H6 l (.lst ((Txt.split z' " ").map V.str)) = H7 at sl el ⊢
                      refine ⟨_, sl _ _ e5, lt_line (by rw [List.length_map]; omega), fun b o e => ?_, ts ++ [l], by rw [upd_same, List.map_append]; rfl, by rw [List.length_append, le5]; rfl, fun j2 u hj2 => ?_⟩
                      · rw [upd_ne (ne_of_none e nD2)]
                        exact sl _ _ (s5 _ _ e)
                      · by_cases c : j2 < ts.length
                        · rw [List.getElem?_append_left c] at hj2
                          obtain ⟨n0, n1, y, hy, ey⟩ := hts j2 u hj2
                          exact ⟨n0, n1, y, hy, by rw [upd_ne n1]; exact sl _ _ ey⟩
                        · obtain ⟨rfl, rfl⟩ : j2 = j ∧ l = u := by
                            have lj := (List.getElem?_eq_some_iff.mp hj2).1
                            rw [List.length_append] at lj
                            have lj : j2 < ts.length + 1 := lj
                            have ej : j2 = ts.length := by omega
                            rw [List.getElem?_append_right (by omega), ej, Nat.sub_self] at hj2
                            exact ⟨by omega, Option.some.inj hj2⟩
                          exact ⟨nlD, nlD2, z', hoj, by rw [upd_ne nlD2]; exact el⟩
                  · rintro H5 ⟨s5, ts, e5, le5, hts⟩
                    have e35 := s5 _ _ e3
                    refine ⟨_, e35, lt_line (by rw [List.length_map]; have : [v0, v1].length = 2 := rfl; omega), fun b o e => ?_, As ++ [D2], by rw [upd_same, List.map_append]; rfl, by rw [List.length_append, le3]; rfl, fun j A hj => ?_⟩
                    · rw [upd_ne (ne_of_none e nD)]
                      exact s5 _ _ (s3 _ _ e)
                    · by_cases c : j < As.length
                      · rw [List.getElem?_append_left c] at hj
                        obtain ⟨os2, h3, h4⟩ := hAs j A hj
                        exact ⟨os2, h3, (h4.same s5).up⟩
                      · obtain ⟨rfl, rfl⟩ : j = i ∧ D2 = A := by
                          have lj := (List.getElem?_eq_some_iff.mp hj).1
                          rw [List.length_append] at lj
                          have lj : j < As.length + 1 := lj
                          have ej : j = As.length := by omega
                          rw [List.getElem?_append_right (by omega), ej, Nat.sub_self] at hj
                          exact ⟨by omega, Option.some.inj hj⟩
                        refine ⟨os, ho, RowsL.up ⟨nDD, ts, e5, ?_, fun j2 u r h1 h2 => ?_⟩⟩
                        · unfold rowsP
                          rw [List.length_map]
                          omega
                        · obtain ⟨n0, n1, y, hy, ey⟩ := hts j2 u h1
                          have e6 : (rowsP os)[j2]? = some (Txt.split y " ") := by
                            unfold rowsP
                            rw [List.getElem?_map, hy]
                            rfl
                          obtain rfl : Txt.split y " " = r := Option.some.inj (e6.symm.trans h2)
                          exact ⟨n0, ey⟩
              · rintro H3 ⟨s3, As, e3, le3, hAs⟩
                match As, le3 with
                | [A0, A1], _ =>
                  obtain ⟨_, ho0, r0⟩ := hAs 0 A0 rfl
                  obtain ⟨_, ho1, r1⟩ := hAs 1 A1 rfl
                  obtain rfl := Option.some.inj ho0
                  obtain rfl := Option.some.inj ho1
                  obtain ⟨_, ts0, w1, w2, w3⟩ := r0
                  obtain ⟨_, ts1, x1, x2, x3⟩ := r1
                  have pka := (peopleO_ok ea)
                  have pkb := (peopleO_ok eb)
                  have ml := sub.length_le
                  have l10 := tok.2.1
                  generalize rowsP osa = rsa at w2 w3 pka k
                  generalize rowsP osb = rsb at x2 x3 pkb k
                  obtain ⟨p1, p2, p3⟩ := pka
                  obtain ⟨q1, q2, q3⟩ := pkb
                  have s03 := s02.trans s3
                  have c0 : atI ([A0, A1].map V.ref) 0 = some (V.ref A0) := rfl
                  have c1 : atI ([A0, A1].map V.ref) 1 = some (V.ref A1) := rfl
                  have tk : ∀ rs : List (List Str), decide (z ∈ takenOf rs ms) = takesB rs ms z := fun rs => decide_eq_decide.mpr (mem_taken hz)
                  refine ⟨_, rfl, _, rfl, D, _, _, _, rfl, rfl, lst_of e3, c0, _, rfl, A0, m, ts0, rsa, ms, rfl, lst_of w1, w2, by omega, fun j u r h1 h2 => .inl (lst_of (w3 j u r h1 h2).2), s03.sqt hm, by omega, row_meets tok sub hz p3, fun u H4 s4 hu => ⟨u, _, rfl, .inr hu.sqt, rfl, flat_strs _, ?_⟩⟩
                  rw [if_neg Bool.false_ne_true, inV_strs, tk]
                  refine ⟨_, rfl, ite2 (fun c2 => ?_) (fun c2 => ?_)⟩
                  · rw [c2] at k
                    refine ⟨_, rfl, _, rfl, D, _, _, _, rfl, rfl, lst_of (s4 _ _ e3), c1, _, rfl, A1, m, ts1, rsb, ms, rfl, lst_of (s4 _ _ x1), x2, by omega, fun j u r h1 h2 => .inl (lst_of (s4 _ _ (x3 j u r h1 h2).2)), (s03.trans s4).sqt hm, by omega, row_meets tok sub hz q3, fun u2 H5 s5 hu2 => ⟨u2, _, rfl, .inr hu2.sqt, rfl, flat_strs _, ?_⟩⟩
                    rw [if_pos rfl, inV_strs, tk]
                    exact k H5 ((s03.trans s4).trans s5)
                  · rw [Bool.eq_false_iff.mpr c2] at k
                    exact k H4 (s03.trans s4)
      · refine ifT ?_ ?_
        · have d : decide (V.int ((us.length : Nat) : Int) = V.int 2) = false := decide_eq_false fun e => c (Int.ofNat.inj (V.int.inj e))
          rw [d]
          rfl
        have e : pairO (some os) th (lks.map tri) ms z = false := by
          match os, hl with
          | [], _ => rfl
          | [_], _ => rfl
          | [_, _], hl => exact absurd hl c
          | _ :: _ :: _ :: _, _ => rfl
        rw [e] at k
        exact k H (Same.refl H)
end
end MH
namespace MH
open PySem PySem.Spec PyProof.Rows L2
theorem PairsQ.cat {K : PySem.W.Frag} {H H' : Hp} {l F x a b : Addr} {qs : List Addr} {ps : List Pr2} {p : Pr2} (h : PairsQ K H l qs ps) (s : Same H H') (eF : H' F = some (.lst (qs.map V.ref ++ [.ref x]))) (hx : SqT K H' x [.ref a, .ref b]) (ha : SqT K H' a (p.1.map V.str)) (hb : SqT K H' b (p.2.map V.str)) : PairsQ K H' F (qs ++ [x]) (ps ++ [p]) := by
  have hl := h.2.1
  refine ⟨by rw [eF, List.map_append]; rfl, by rw [List.length_append, List.length_append, hl]; rfl, fun j q' p' h1 h2 => ?_⟩
  by_cases c : j < qs.length
  · rw [List.getElem?_append_left c] at h1
    rw [List.getElem?_append_left (by omega)] at h2
    exact ((h.same s).2.2 j q' p' h1 h2)
  · rw [List.getElem?_append_right (by omega)] at h1
    rw [List.getElem?_append_right (by omega), ← hl] at h2
    have ej : j - qs.length = 0 := by
      have := (List.getElem?_eq_some_iff.mp h1).1
      have : j - qs.length < 1 := this
      omega
    rw [ej] at h1 h2
    obtain rfl : x = q' := Option.some.inj h1
    obtain rfl : p = p' := Option.some.inj h2
    exact ⟨a, b, hx, ha, hb⟩
theorem sharp_ok {th : List Str} {lks : List (List Str × Str)} (tok : ThOk th) (gk : ∀ k ∈ lks, GoodLk th k) (o : Option (Nat × Str)) : PrOk th (sharpL lks o) := by
  have mk : ∀ ms : List Str, ms.Sublist th → ∀ f : List Str, (∀ z ∈ f, z ∈ ms) → f.length ≤ ms.length → (∀ z ∈ ms, z ∈ th) ∧ (∀ z ∈ f, z ∈ th) ∧ ms.length ≤ 10 ∧ f.length ≤ 10 := fun ms sub f hf lf =>
    have l10 : ms.length ≤ 10 := Nat.le_trans sub.length_le tok.2.1
    ⟨fun z hz => sub.subset hz, fun z hz => sub.subset (hf z hz), l10, Nat.le_trans lf l10⟩
  intro p hp
  unfold sharpL at hp
  rcases List.mem_append.mp hp with hp | hp
  · obtain ⟨k, hk, rfl⟩ := List.mem_map.mp hp
    exact mk k.1 (gk k hk).1 _ (fun z hz => marked_in hz) (marked_len ..)
  · cases o with
    | none => cases hp
    | some o =>
      obtain ⟨i, z⟩ := o
      obtain rfl := List.mem_singleton.mp hp
      rw [List.getD_eq_getElem?_getD]
      cases e : lks[i]? with
      | none => exact mk [] (List.nil_sublist _) _ (fun z hz => absurd hz (by simp)) (by simp)
      | some k => exact mk k.1 (gk k (List.mem_of_getElem? e)).1 _ (fun z hz => (List.mem_filter.mp hz).1) (List.length_filter_le ..)
theorem sharp_len (lks : List (List Str × Str)) (o : Option (Nat × Str)) : (sharpL lks o).length ≤ lks.length + 1 := by
  unfold sharpL
  cases o <;> simp
def spWith (K : PySem.W.Frag) : Sp := fun vs H Q _ => ∃ (t L l m : Addr) (th ms : List Str) (z : Str) (qs ts : List Addr) (lks : List (List Str × Str)) (rows : List (List Str)), vs = [.ref t, .ref L, .ref l, .ref m, .str z] ∧ SqT K H t (th.map V.str) ∧ ThOk th ∧ LkAt H L qs lks ∧ (∀ k ∈ lks, GoodLk th k) ∧ lks.length ≤ 12 ∧ RowsAt H l ts rows ∧ RowsOk th rows ∧ TupO H m (ms.map V.str) ∧ ms.Sublist th ∧ z ∈ ms ∧
  ∀ (a : Addr) (ps : List Str) (H' : Hp), Same H H' → TupO H' a (ps.map V.str) → ps ≠ [] → ps.length ≤ 25 → (∀ z ∈ ps, TxS z) → Q (.ref a) H'
section
variable {P : Program} {w : World} {K : PySem.W.Frag} {mg : Str → Option Value} {base : Heap}
theorem ok_l_with_it (T : Tx K mg w) : FnOk P w K mg base CX0 3 T.a_l_with_it T.fd_l_with_it ["_law_things_here", "_law_looks_here", "_law_rows_here", "_law_menu_here", "_law_thing"] (spWith K) := by
  refine T.F_l_with_it.ok sc_l_with_it (fun vs H Q E h => ?_) (fun cdv A outer s H vs Q E hr h => ?_)
  · obtain ⟨t, L, l, m, th, ms, z, qs, ts, lks, rows, rfl, _⟩ := h
    rfl
  · obtain ⟨t, L, l, m, th, ms, z, qs, ts, lks, rows, rfl, hT, tok, lk, gk, l12, ra, ro, hm, sub, hz, k⟩ := h
    refine ⟨_, (pss_cons (ps_set (i := 5) sc_l_with_it.nd rfl (Or.inl rfl) (pe_callTy call_tupF (by rfl) T.n_tuple (by decide +kernel) (pa_cons (pe_lc (own := [("_law_other", 8)]) (g := gName 8) (tt := tTest (tOp rNe (tVar 8) (tVar 4))) rfl sc_l_with_it.nd (pi_tup (pv 3)) (blkOk_by (own := [("_law_other", 8)]) (N := names_l_with_it) (sc := defScope st_l_with_it) (by decide +kernel)) (fun _ _ _ _ _ => pg_name (i := 8) sc_l_with_it.nd rfl (Or.inl rfl)) (fun _ _ _ _ _ => pts_one (pt_cmpR op_ne (pv 8) (pv 4) (nomark _))) (fun _ _ _ _ _ => (pv 8))) pa_nil)))
      (pss_cons (ps_asg (pe_call (ok_l_let T) (hr.mono (by decide)) rfl T.g_l_let T.F_l_let.kp T.b_l_let .nil pass0 (pa_cons (pv 0) (pa_cons (pe_op op_cat (pe_call (ok_l_sharpened T) (hr.mono (by decide)) rfl T.g_l_sharpened T.F_l_sharpened.kp T.b_l_sharpened .nil pass0 (pa_cons (pv 1) (pa_cons pe_non pa_nil))) (pe_lst (pa_cons (pe_tup (pa_cons (pv 3) (pa_cons (pv 5) pa_nil))) pa_nil))) pa_nil))) (pg_tup rfl (pgs_cons (pg_name (i := 6) sc_l_with_it.nd rfl (Or.inl rfl)) (pgs_cons (pg_name (i := 7) sc_l_with_it.nd rfl (Or.inl rfl)) pgs_nil))))
      (pss_one (ps_ret (pe_callTy call_tupF (by rfl) T.n_tuple (by decide +kernel) (pa_cons (pe_lc (own := [("_law_one", 9)]) (g := gName 9) (tt := tYes) rfl sc_l_with_it.nd (pi_list (pe_op op_cat (pv 2) (pe_ifExp (pt_cmpR op_isN (pv 6) pe_non (nomark _)) (pe_lst pa_nil) (pe_lst (pa_cons (pv 6) pa_nil))))) (blkOk_by (own := [("_law_one", 9)]) (N := names_l_with_it) (sc := defScope st_l_with_it) (by decide +kernel)) (fun _ _ _ _ _ => pg_name (i := 9) sc_l_with_it.nd rfl (Or.inl rfl)) (fun _ _ _ _ _ => pts_nil) (fun _ _ _ _ _ => (pe_joinC (K := K) rfl pe_str (pv 9)))) pa_nil)))))), ?_⟩
    have l10 := tok.2.1
    have ml := sub.length_le
    refine ⟨_, rfl, m, rfl, ⟨_, hm.sqt⟩, fun D nD => lcf walk_tup ms V.str (fun y => !decide (y = z)) (List.length_map _).symm nD (by rw [List.length_map]; omega) (fun H' s => (hm.same s).sqt) (fun _ _ _ _ _ y => yat_same y) (fun j y x H6 H7 hy s6 yy Z N hZ hN => ?_) (fun H6 s6 e6 => ?_)⟩
    · obtain ⟨rfl, hx⟩ := yy
      obtain ⟨y2, hy2, rfl⟩ := str_at hx
      obtain rfl : y2 = y := Option.some.inj (hy2.symm.trans hy)
      refine ⟨rfl, _, rfl, _, rfl, rfl, _, rfl, ?_⟩
      have dv : decide (V.str y2 = V.str z) = decide (y2 = z) := by
        rw [decide_eq_decide]
        exact ⟨fun e => V.str.inj e, fun e => by rw [e]⟩
      show if (!decide (V.str y2 = V.str z)) = true then _ else _
      rw [dv]
      exact ite2 (fun c => ⟨_, rfl, hZ c _ (Same.refl _)⟩) (fun c => hN (by simpa using c) _ (Same.refl _))
    refine ⟨D, _, rfl, .inl ⟨lst_of e6, fun g og ng dg => ?_⟩⟩
    have s7 := s6.new' ng (o := .frz og (.tup ((ms.filter fun y => !decide (y = z)).map V.str)))
    have hg : SqT K (upd H6 g (.frz og (.tup ((ms.filter fun y => !decide (y = z)).map V.str)))) g ((ms.filter fun y => !decide (y = z)).map V.str) := frz_of upd_same
    generalize upd H6 g (.frz og (.tup ((ms.filter fun y => !decide (y = z)).map V.str))) = H7 at s7 hg ⊢
    have lk7 := lk.same s7
    refine ⟨_, rfl, _, rfl, L, .non, none, th, qs, lks, rfl, tok, lk7, gk, l12, .inl ⟨rfl, rfl⟩, fun f fs H8 s8 pq => ?_⟩
    have hm8 := (hm.same s7).same s8
    have hg8 := s8.sqt hg
    refine ⟨_, rfl, _, rfl, (by show 2 ≤ sizeLine; decide), fun x nx => ?_⟩
    have sx := Same.new nx (o := .tup [.ref m, .ref g])
    have hx : SqT K (upd H8 x (.tup [.ref m, .ref g])) x [.ref m, .ref g] := tup_of upd_same
    generalize upd H8 x (.tup [.ref m, .ref g]) = H9 at sx hx ⊢
    refine ⟨(by show 1 ≤ sizeLine; decide), fun y ny => ?_⟩
    have sy := Same.new ny (o := .lst [.ref x])
    have hy : (upd H9 y (.lst [.ref x])) y = some (.lst [.ref x]) := upd_same
    generalize upd H9 y (.lst [.ref x]) = H10 at sy hy ⊢
    have sl := sharp_len lks none
    have pl := pq.2.1
    have s810 := sx.trans sy
    refine ⟨f, y, _, _, rfl, rfl, s810 _ _ pq.1, hy, le_line (by rw [List.length_map]; show _ + 1 ≤ 100000; omega), fun F nF => ?_⟩
    have sF := Same.new nF (o := .lst (fs.map V.ref ++ [.ref x]))
    have eF : (upd H10 F (.lst (fs.map V.ref ++ [.ref x]))) F = some (.lst (fs.map V.ref ++ [.ref x])) := upd_same
    generalize upd H10 F (.lst (fs.map V.ref ++ [.ref x])) = H11 at sF eF ⊢
    have s811 := s810.trans sF
    have pq2 : PairsQ K H11 F (fs ++ [x]) (sharpL lks none ++ [(ms, ms.filter fun y => !decide (y = z))]) := pq.cat s811 eF ((sy.trans sF).sqt hx) (hm8.same s811).sqt (s811.sqt hg8)
    have s011 := s7.trans (s8.trans s811)
    have po : PrOk th (sharpL lks none ++ [(ms, ms.filter fun y => !decide (y = z))]) := fun p hp => by
      rcases List.mem_append.mp hp with hp | hp
      · exact sharp_ok tok gk none p hp
      · obtain rfl := List.mem_singleton.mp hp
        exact ⟨fun y hy => sub.subset hy, fun y hy => sub.subset (List.mem_filter.mp hy).1, by show ms.length ≤ 10; omega, Nat.le_trans (List.length_filter_le ..) (by omega)⟩
    refine ⟨t, F, th, fs ++ [x], _, rfl, s011.sqt hT, tok, pq2, po, by rw [List.length_append]; show _ + 1 ≤ 1000; omega, fun q v b bs H12 s12 hq hb bsub hv => ?_⟩
    refine ⟨q, _, rfl, hq, rfl, _, _, rfl, _, _, rfl, rfl, ?_⟩
    have s012 := s011.trans s12
    have ra12 := ra.same s012
    have rl := ro.le
    have l1 := ra12.2.1
    rcases hv with ⟨rfl, _⟩ | ⟨r, row, rfl, hr2, rok⟩
    · refine ⟨_, rfl, _, rfl, rfl, _, rfl, ifT rfl ⟨Nat.zero_le _, fun e ne => ?_⟩⟩
      have se := Same.new ne (o := .lst [])
      have he : (upd H12 e (.lst [])) e = some (.lst []) := upd_same
      generalize upd H12 e (.lst []) = H13 at se he ⊢
      refine ⟨l, e, _, _, rfl, rfl, se _ _ ra12.1, he, le_line (by rw [List.length_map]; show _ + 0 ≤ 100000; omega), fun G nG => ?_⟩
      have sG12 := se.trans (Same.new nG (o := .lst (ts.map V.ref ++ [])))
      have sG := s012.trans sG12
      have eG : (upd H13 G (.lst (ts.map V.ref ++ []))) G = some (.lst ((ts ++ []).map V.ref)) := by rw [upd_same, List.map_append]; rfl
      generalize upd H13 G (.lst (ts.map V.ref ++ [])) = HG at sG12 sG eG ⊢
      have lG : rows.length = ((ts ++ []).map V.ref).length := by rw [List.length_map, List.append_nil]; exact ra12.2.1.symm
      have okG : ∀ r ∈ rows, RowOk r := fun r hr => (ro.ok r hr).1
      have leG : rows.length ≤ 25 := by omega
      have neG : rows ≠ [] := ro.ne
      have atG : ∀ (j : Nat) (u : Addr) (rr : List Str), ((ts ++ []))[j]? = some u → (rows)[j]? = some rr → SqT K HG u (rr.map V.str) := fun j u r h1 h2 => sG12.sqt ((ra12.2.2 j u r (by rw [List.append_nil] at h1; exact h1) h2).sqt)
      generalize (ts ++ []) = us at eG lG atG
      generalize rows = rws at lG okG leG neG atG
      refine ⟨G, rfl, ⟨_, lst_of eG⟩, fun D2 nD2 => lcv walk_list rws (fun r => V.str (Txt.join " " r)) lG nD2 (by rw [← lG]; omega) (fun H' s => lst_of (s _ _ eG)) (fun _ _ _ _ _ y => yat_same y) (fun i r x H9 H10 hr1 s9 yy Z hZ => ?_) (fun H9 s9 e9 => ?_)⟩
      · obtain ⟨rfl, hx⟩ := yy
        obtain ⟨q, hq, rfl⟩ := ref_at hx
        have h1 := s9.sqt (atG i q r hq hr1)
        have roi := okG r (List.mem_of_getElem? hr1)
        refine ⟨rfl, ⟨_, rfl⟩, _, rfl, " ", q, r, rfl, rfl, .inr h1, ?_, hZ _ (Same.refl _)⟩
        have a1 := sum_le (n := 8) r fun z hz => nameOk_len (roi.ok z hz)
        have e1 : (" " : Str).length = 1 := by decide +kernel
        have := roi.le
        rw [e1]
        omega
      rw [show rws.map (fun r => V.str (Txt.join " " r)) = (rws.map (Txt.join " ")).map V.str by rw [List.map_map]; rfl] at e9
      refine ⟨D2, _, rfl, .inl ⟨lst_of e9, fun a oa na da => ?_⟩⟩
      have sa := s9.new' na (o := .frz oa (.tup ((rws.map (Txt.join " ")).map V.str)))
      refine k a (rws.map (Txt.join " ")) _ (sG.trans sa) (tupO_new da) (fun e => neG (List.map_eq_nil_iff.mp e)) (by rw [List.length_map]; exact leG) fun z hz => ?_
      obtain ⟨r, hr1, rfl⟩ := List.mem_map.mp hz
      exact txS_row (okG r hr1)
    · refine ⟨_, rfl, _, rfl, rfl, _, rfl, ifF rfl ⟨_, rfl, (by show 1 ≤ sizeLine; decide), fun e ne => ?_⟩⟩
      have se := Same.new ne (o := .lst [.ref r])
      have he : (upd H12 e (.lst [.ref r])) e = some (.lst [.ref r]) := upd_same
      generalize upd H12 e (.lst [.ref r]) = H13 at se he ⊢
      refine ⟨l, e, _, _, rfl, rfl, se _ _ ra12.1, he, le_line (by rw [List.length_map]; show _ + 1 ≤ 100000; omega), fun G nG => ?_⟩
      have sG12 := se.trans (Same.new nG (o := .lst (ts.map V.ref ++ [.ref r])))
      have sG := s012.trans sG12
      have eG : (upd H13 G (.lst (ts.map V.ref ++ [.ref r]))) G = some (.lst ((ts ++ [r]).map V.ref)) := by rw [upd_same, List.map_append]; rfl
      generalize upd H13 G (.lst (ts.map V.ref ++ [.ref r])) = HG at sG12 sG eG ⊢
      have lG : (rows ++ [row]).length = ((ts ++ [r]).map V.ref).length := by rw [List.length_map, List.length_append, List.length_append, ra12.2.1]; rfl
      have okG : ∀ r ∈ (rows ++ [row]), RowOk r := fun r hr => (List.mem_append.mp hr).elim (fun h => (ro.ok r h).1) fun h => by rw [List.mem_singleton.mp h]; exact rok
      have leG : (rows ++ [row]).length ≤ 25 := by rw [List.length_append]; show _ + 1 ≤ 25; omega
      have neG : (rows ++ [row]) ≠ [] := by simp
      have atG : ∀ (j : Nat) (u : Addr) (rr : List Str), ((ts ++ [r]))[j]? = some u → ((rows ++ [row]))[j]? = some rr → SqT K HG u (rr.map V.str) := fun j u r2 h1 h2 => by
        have l1 := ra12.2.1
        by_cases c : j < ts.length
        · rw [List.getElem?_append_left c] at h1
          rw [List.getElem?_append_left (by omega)] at h2
          exact sG12.sqt ((ra12.2.2 j u r2 h1 h2).sqt)
        · rw [List.getElem?_append_right (by omega)] at h1
          rw [List.getElem?_append_right (by omega), ← l1] at h2
          have ej : j - ts.length = 0 := by
            have := (List.getElem?_eq_some_iff.mp h1).1
            have : j - ts.length < 1 := this
            omega
          rw [ej] at h1 h2
          obtain rfl : r = u := Option.some.inj h1
          obtain rfl : row = r2 := Option.some.inj h2
          exact sG12.sqt hr2.sqt
      generalize (ts ++ [r]) = us at eG lG atG
      generalize (rows ++ [row]) = rws at lG okG leG neG atG
      refine ⟨G, rfl, ⟨_, lst_of eG⟩, fun D2 nD2 => lcv walk_list rws (fun r => V.str (Txt.join " " r)) lG nD2 (by rw [← lG]; omega) (fun H' s => lst_of (s _ _ eG)) (fun _ _ _ _ _ y => yat_same y) (fun i r x H9 H10 hr1 s9 yy Z hZ => ?_) (fun H9 s9 e9 => ?_)⟩
      · obtain ⟨rfl, hx⟩ := yy
        obtain ⟨q, hq, rfl⟩ := ref_at hx
        have h1 := s9.sqt (atG i q r hq hr1)
        have roi := okG r (List.mem_of_getElem? hr1)
        refine ⟨rfl, ⟨_, rfl⟩, _, rfl, " ", q, r, rfl, rfl, .inr h1, ?_, hZ _ (Same.refl _)⟩
        have a1 := sum_le (n := 8) r fun z hz => nameOk_len (roi.ok z hz)
        have e1 : (" " : Str).length = 1 := by decide +kernel
        have := roi.le
        rw [e1]
        omega
      rw [show rws.map (fun r => V.str (Txt.join " " r)) = (rws.map (Txt.join " ")).map V.str by rw [List.map_map]; rfl] at e9
      refine ⟨D2, _, rfl, .inl ⟨lst_of e9, fun a oa na da => ?_⟩⟩
      have sa := s9.new' na (o := .frz oa (.tup ((rws.map (Txt.join " ")).map V.str)))
      refine k a (rws.map (Txt.join " ")) _ (sG.trans sa) (tupO_new da) (fun e => neG (List.map_eq_nil_iff.mp e)) (by rw [List.length_map]; exact leG) fun z hz => ?_
      obtain ⟨r, hr1, rfl⟩ := List.mem_map.mp hz
      exact txS_row (okG r hr1)
end
end MH
namespace MH
open PySem PySem.Spec PyProof.Rows L2
theorem needsL_ne (lks : List (List Str × Str)) : needsL lks ≠ [] := by
  unfold needsL
  by_cases c : needsOf lks = []
  · rw [if_pos c]
    simp
  · rw [if_neg c]
    simpa using c
section
variable {P : Program} {w : World} {K : PySem.W.Frag} {mg : Str → Option Value} {base : Heap}
theorem ok_l_without_it (T : Tx K mg w) : FnOk P w K mg base CX0 3 T.a_l_without_it T.fd_l_without_it ["_law_things_here", "_law_looks_here", "_law_rows_here", "_law_menu_here", "_law_thing"] (spWith K) := by
  refine T.F_l_without_it.ok sc_l_without_it (fun vs H Q E h => ?_) (fun cdv A outer s H vs Q E hr h => ?_)
  · obtain ⟨t, L, l, m, th, ms, z, qs, ts, lks, rows, rfl, _⟩ := h
    rfl
  · obtain ⟨t, L, l, m, th, ms, z, qs, ts, lks, rows, rfl, hT, tok, lk, gk, l12, ra, ro, hm, sub, hz, k⟩ := h
    refine ⟨_, (pss_cons (ps_set (i := 5) sc_l_without_it.nd rfl (Or.inl rfl) (pe_lst pa_nil))
      (pss_cons (ps_for PassesOwn.never rfl (pi_list (pe_slice sl_list (pe_call (ok_l_needs T) (hr.mono (by decide)) rfl T.g_l_needs T.F_l_needs.kp T.b_l_needs .nil pass0 (pa_cons (pv 1) pa_nil)) po_none (po_some pe_int))) (pg_name (i := 6) sc_l_without_it.nd rfl (Or.inl rfl))
        (pss_cons (ps_asg (pe_call (ok_l_let T) (hr.mono (by decide)) rfl T.g_l_let T.F_l_let.kp T.b_l_let .nil pass0 (pa_cons (pv 0) (pa_cons (pe_op op_cat (pe_call (ok_l_sharpened T) (hr.mono (by decide)) rfl T.g_l_sharpened T.F_l_sharpened.kp T.b_l_sharpened .nil pass0 (pa_cons (pv 1) (pa_cons (pv 6) pa_nil))) (pe_lst (pa_cons (pe_tup (pa_cons (pv 3) (pa_cons (pe_tup (pa_cons (pv 4) pa_nil)) pa_nil))) pa_nil))) pa_nil))) (pg_tup rfl (pgs_cons (pg_name (i := 7) sc_l_without_it.nd rfl (Or.inl rfl)) (pgs_cons (pg_name (i := 8) sc_l_without_it.nd rfl (Or.inl rfl)) pgs_nil))))
      (pss_one (ps_expr (pe_bm PySem.F.plainAttrs_list PySem.F.slot_list_append PySem.F.type_list_append mt_append (pv 5) (pa_cons (pe_ifExp (pt_cmpR op_isN (pv 7) pe_non (nomark _)) (pe_ix ix_list (pv 2) pe_int (fun _ _ => rfl)) (pv 7)) pa_nil))))))
      (pss_one (ps_ret (pe_callTy call_tupF (by rfl) T.n_tuple (by decide +kernel) (pa_cons (pe_lc (own := [("_law_one", 9)]) (g := gName 9) (tt := tYes) rfl sc_l_without_it.nd (pi_list (pv 5)) (blkOk_by (own := [("_law_one", 9)]) (N := names_l_without_it) (sc := defScope st_l_without_it) (by decide +kernel)) (fun _ _ _ _ _ => pg_name (i := 9) sc_l_without_it.nd rfl (Or.inl rfl)) (fun _ _ _ _ _ => pts_nil) (fun _ _ _ _ _ => (pe_joinC (K := K) rfl pe_str (pv 9)))) pa_nil)))))), ?_⟩
    have l10 := tok.2.1
    have ml := sub.length_le
    refine ⟨Nat.zero_le _, fun F nF => ?_⟩
    have sF := Same.new nF (o := .lst [])
    have eF : (upd H F (.lst [])) F = some (.lst []) := upd_same
    generalize upd H F (.lst []) = H1 at sF eF ⊢
    refine ⟨_, rfl, L, th, qs, lks, rfl, tok, lk.same sF, gk, l12, fun n ns H2 s2 hn => ?_⟩
    delta tNoPart
    refine ⟨12, rfl, n, ns, rfl, lst_of hn.1, fun S nS => ?_⟩
    have eF2 := s2 _ _ eF
    have nSF : S ≠ F := (ne_of_none eF2 nS).symm
    have s3 := Same.new nS (o := .lst (cutV ns none (some 12)))
    have ec : cutV ns none (some (12 : Int)) = ns.take 12 := cutV_to ns 12
    rw [ec] at s3 ⊢
    have eS : (upd H2 S (.lst (ns.take 12))) S = some (.lst (ns.take 12)) := upd_same
    have eF3 := s3 _ _ eF2
    have hn3 : ∀ (i : Nat) (v : V), (ns.take 12)[i]? = some v → ∃ o, NeedAt K lks (upd H2 S (.lst (ns.take 12))) v o := fun i v hv => by
      rw [List.getElem?_take] at hv
      split at hv
      · have il := (List.getElem?_eq_some_iff.mp hv).1
        have hl := hn.2.1
        exact ⟨_, (hn.2.2 i v _ hv (List.getElem?_eq_getElem (by omega))).same s3⟩
      · cases hv
    have lne : 1 ≤ (ns.take 12).length ∧ (ns.take 12).length ≤ 12 := by
      rw [List.length_take, hn.2.1]
      have := List.length_pos_iff.mpr (needsL_ne lks)
      omega
    have s03 := (sF.trans s2).trans s3
    change Same H (upd H2 S (.lst (ns.take 12))) at s03
    generalize upd H2 S (.lst (ns.take 12)) = H3 at s03 eS eF3 hn3 ⊢
    generalize ns.take 12 = nl at eS hn3 lne ⊢
    clear hn eF eF2 s3 s2 sF
    have r0 : ∃ (u : Addr) (r : List Str), ts[0]? = some u ∧ rows[0]? = some r := by
      have h1 := List.length_pos_iff.mpr ro.ne
      have h2 := ra.2.1
      exact ⟨ts[0]'(by omega), rows[0], List.getElem?_eq_getElem _, List.getElem?_eq_getElem _⟩
    obtain ⟨u0, row0, hu0, hr0⟩ := r0
    have rok0 := (ro.ok row0 (List.mem_of_getElem? hr0)).1
    refine ⟨S, rfl, ⟨_, lst_of eS⟩, for_list (K := K) (a := S) (xs := nl) (fun i σ H' => Same H H' ∧ SameB F H3 H' ∧ ∃ (us0 : List Addr) (rws0 : List (List Str)) (v6 v7 v8 : Option V), σ = [some (.ref t), some (.ref L), some (.ref l), some (.ref m), some (.str z), some (.ref F), v6, v7, v8, none] ∧ H' F = some (.lst (us0.map V.ref)) ∧ us0.length = rws0.length ∧ i = rws0.length ∧ (∀ r ∈ rws0, RowOk r) ∧ ∀ (j : Nat) (u : Addr) (r : List Str), us0[j]? = some u → rws0[j]? = some r → SqT K H' u (r.map V.str))
      ⟨s03, SameB.refl F H3, [], [], none, none, none, rfl, eF3, rfl, rfl, (fun r hr => absurd hr List.not_mem_nil), fun j u r h1 h2 => by simp at h1⟩ (fun i σ H' _ s => lst_of (s.2.1 _ _ nSF eS)) ?_ ?_⟩
    · rintro i x σ H4 hx ⟨s4, sb4, us0, rws0, v6, v7, v8, rfl, eF4, lus, rfl, rok, uat⟩
      have il := (List.getElem?_eq_some_iff.mp hx).1
      obtain ⟨o, nx⟩ := hn3 _ x hx
      have nx4 : NeedAt K lks H4 x o := nx.imp id fun ⟨q, i, z, k, e1, e2, e3, e4, e5⟩ => ⟨q, i, z, k, e1, e2, sb4.sqt eF3 e3, e4, e5⟩
      have lk4 := lk.same s4
      refine ⟨_, rfl, _, rfl, _, rfl, L, x, o, th, qs, lks, rfl, tok, lk4, gk, l12, nx4, fun f fs H8 s8 pq => ?_⟩
      have hm8 := (hm.same s4).same s8
      refine ⟨_, rfl, _, rfl, (by show 1 ≤ sizeLine; decide), fun g ng => ?_⟩
      have sg := Same.new ng (o := .tup [.str z])
      have hg : SqT K (upd H8 g (.tup [.str z])) g ([z].map V.str) := tup_of upd_same
      generalize upd H8 g (.tup [.str z]) = H9 at sg hg ⊢
      refine ⟨(by show 2 ≤ sizeLine; decide), fun x2 nx2 => ?_⟩
      have sx := Same.new nx2 (o := .tup [.ref m, .ref g])
      have hx2 : SqT K (upd H9 x2 (.tup [.ref m, .ref g])) x2 [.ref m, .ref g] := tup_of upd_same
      generalize upd H9 x2 (.tup [.ref m, .ref g]) = H10 at sx hx2 ⊢
      refine ⟨(by show 1 ≤ sizeLine; decide), fun y ny => ?_⟩
      have sy := Same.new ny (o := .lst [.ref x2])
      have hy : (upd H10 y (.lst [.ref x2])) y = some (.lst [.ref x2]) := upd_same
      generalize upd H10 y (.lst [.ref x2]) = H11 at sy hy ⊢
      have sl := sharp_len lks o
      have pl := pq.2.1
      have s811 := sg.trans (sx.trans sy)
      refine ⟨f, y, _, _, rfl, rfl, s811 _ _ pq.1, hy, le_line (by rw [List.length_map]; show _ + 1 ≤ 100000; omega), fun G nG => ?_⟩
      have sG := Same.new nG (o := .lst (fs.map V.ref ++ [.ref x2]))
      have eG : (upd H11 G (.lst (fs.map V.ref ++ [.ref x2]))) G = some (.lst (fs.map V.ref ++ [.ref x2])) := upd_same
      generalize upd H11 G (.lst (fs.map V.ref ++ [.ref x2])) = H12 at sG eG ⊢
      have s812 := s811.trans sG
      have pq2 : PairsQ K H12 G (fs ++ [x2]) (sharpL lks o ++ [(ms, [z])]) := pq.cat s812 eG ((sy.trans sG).sqt hx2) (hm8.same s812).sqt ((sx.trans (sy.trans sG)).sqt hg)
      have s412 := s8.trans s812
      have po : PrOk th (sharpL lks o ++ [(ms, [z])]) := fun p hp => by
        rcases List.mem_append.mp hp with hp | hp
        · exact sharp_ok tok gk o p hp
        · obtain rfl := List.mem_singleton.mp hp
          exact ⟨fun y hy => sub.subset hy, fun y hy => by rw [List.mem_singleton.mp hy]; exact sub.subset hz, by show ms.length ≤ 10; omega, by show 1 ≤ 10; decide⟩
      refine ⟨t, G, th, fs ++ [x2], _, rfl, (s4.trans s412).sqt hT, tok, pq2, po, by rw [List.length_append]; show _ + 1 ≤ 1000; omega, fun q v b bs H13 s13 hq hb bsub hv => ?_⟩
      refine ⟨q, _, rfl, hq, rfl, _, _, rfl, _, _, rfl, rfl, ?_⟩
      have s413 := s412.trans s13
      have eF13 := s413 _ _ eF4
      have fin : ∀ (u : Addr) (r : List Str) (σ' : L2.St), SqT K H13 u (r.map V.str) → RowOk r → (∃ v6 v7 v8, σ' = [some (.ref t), some (.ref L), some (.ref l), some (.ref m), some (.str z), some (.ref F), v6, v7, v8, none]) →
          Same H (upd H13 F (.lst (us0.map V.ref ++ [V.ref u]))) ∧ SameB F H3 (upd H13 F (.lst (us0.map V.ref ++ [V.ref u]))) ∧ ∃ (us1 : List Addr) (rws1 : List (List Str)) (v6 v7 v8 : Option V), σ' = [some (.ref t), some (.ref L), some (.ref l), some (.ref m), some (.str z), some (.ref F), v6, v7, v8, none] ∧ (upd H13 F (.lst (us0.map V.ref ++ [V.ref u]))) F = some (.lst (us1.map V.ref)) ∧ us1.length = rws1.length ∧ rws0.length + 1 = rws1.length ∧ (∀ r ∈ rws1, RowOk r) ∧ ∀ (j : Nat) (u' : Addr) (r : List Str), us1[j]? = some u' → rws1[j]? = some r → SqT K (upd H13 F (.lst (us0.map V.ref ++ [V.ref u]))) u' (r.map V.str) := by
        rintro u r σ' hu rk ⟨v6, v7, v8, rfl⟩
        have sbu : SameB F H13 (upd H13 F (.lst (us0.map V.ref ++ [V.ref u]))) := (SameB.refl F H13).put
        refine ⟨fun b' o' e' => ?_, ((sb4.trans (SameB.of s413)).trans sbu), us0 ++ [u], rws0 ++ [r], v6, v7, v8, rfl, by rw [upd_same, List.map_append]; rfl, by rw [List.length_append, List.length_append, lus]; rfl, by rw [List.length_append]; rfl, fun r' hr' => (List.mem_append.mp hr').elim (rok r') fun h => by rw [List.mem_singleton.mp h]; exact rk, fun j u' r' h1 h2 => ?_⟩
        · rw [upd_ne (ne_of_none e' nF)]
          exact s413 _ _ (s4 _ _ e')
        · by_cases c : j < us0.length
          · rw [List.getElem?_append_left c] at h1
            rw [List.getElem?_append_left (by omega)] at h2
            exact sbu.sqt eF13 (s413.sqt (uat j u' r' h1 h2))
          · rw [List.getElem?_append_right (by omega)] at h1
            rw [List.getElem?_append_right (by omega), ← lus] at h2
            have ej : j - us0.length = 0 := by
              have := (List.getElem?_eq_some_iff.mp h1).1
              have : j - us0.length < 1 := this
              omega
            rw [ej] at h1 h2
            obtain rfl : u = u' := Option.some.inj h1
            obtain rfl : r = r' := Option.some.inj h2
            exact sbu.sqt eF13 hu
      have ra13 := ra.same (s4.trans s413)
      rcases hv with ⟨rfl, _⟩ | ⟨r, row, rfl, hr2, rk⟩
      · have hv0 : (ts.map V.ref)[0]? = some (V.ref u0) := by rw [List.getElem?_map, hu0]; rfl
        exact ⟨_, rfl, .inl ⟨rfl, _, lst_of eF13⟩, _, rfl, rfl, _, rfl, ifT rfl ⟨_, rfl, l, _, _, _, rfl, rfl, lst_of ra13.1, atI_nat (j := 0) hv0, F, _, _, rfl, rfl, eF13, lt_line (by rw [List.length_map]; omega), fin u0 row0 _ (ra13.2.2 0 u0 row0 hu0 hr0).sqt rok0 ⟨_, _, _, rfl⟩⟩⟩
      · exact ⟨_, rfl, .inl ⟨rfl, _, lst_of eF13⟩, _, rfl, rfl, _, rfl, ifF rfl ⟨_, rfl, F, _, _, rfl, rfl, eF13, lt_line (by rw [List.length_map]; omega), fin r row _ hr2.sqt rk ⟨_, _, _, rfl⟩⟩⟩
    · rintro σ H4 ⟨s4, sb4, us0, rws0, v6, v7, v8, rfl, eF4, lus, lrw, rok, uat⟩
      have sG := s4
      have eG := eF4
      have lr0 : rws0.length = nl.length := lrw.symm
      have lG : rws0.length = (us0.map V.ref).length := by rw [List.length_map]; exact lus.symm
      have okG : ∀ r ∈ rws0, RowOk r := rok
      have leG : rws0.length ≤ 25 := by omega
      have neG : rws0 ≠ [] := fun e => by rw [e] at lrw; have h0 : nl.length = 0 := lrw; omega
      have atG : ∀ (j : Nat) (u : Addr) (rr : List Str), (us0)[j]? = some u → (rws0)[j]? = some rr → SqT K H4 u (rr.map V.str) := uat
      generalize us0 = us at eG lG atG
      generalize rws0 = rws at lG okG leG neG atG
      refine ⟨_, rfl, F, rfl, ⟨_, lst_of eG⟩, fun D2 nD2 => lcv walk_list rws (fun r => V.str (Txt.join " " r)) lG nD2 (by rw [← lG]; omega) (fun H' s => lst_of (s _ _ eG)) (fun _ _ _ _ _ y => yat_same y) (fun i r x H9 H10 hr1 s9 yy Z hZ => ?_) (fun H9 s9 e9 => ?_)⟩
      · obtain ⟨rfl, hx⟩ := yy
        obtain ⟨q, hq, rfl⟩ := ref_at hx
        have h1 := s9.sqt (atG i q r hq hr1)
        have roi := okG r (List.mem_of_getElem? hr1)
        refine ⟨rfl, ⟨_, rfl⟩, _, rfl, " ", q, r, rfl, rfl, .inr h1, ?_, hZ _ (Same.refl _)⟩
        have a1 := sum_le (n := 8) r fun z hz => nameOk_len (roi.ok z hz)
        have e1 : (" " : Str).length = 1 := by decide +kernel
        have := roi.le
        rw [e1]
        omega
      rw [show rws.map (fun r => V.str (Txt.join " " r)) = (rws.map (Txt.join " ")).map V.str by rw [List.map_map]; rfl] at e9
      refine ⟨D2, _, rfl, .inl ⟨lst_of e9, fun a oa na da => ?_⟩⟩
      have sa := s9.new' na (o := .frz oa (.tup ((rws.map (Txt.join " ")).map V.str)))
      refine k a (rws.map (Txt.join " ")) _ (sG.trans sa) (tupO_new da) (fun e => neG (List.map_eq_nil_iff.mp e)) (by rw [List.length_map]; exact leG) fun z hz => ?_
      obtain ⟨r, hr1, rfl⟩ := List.mem_map.mp hz
      exact txS_row (okG r hr1)
end
end MH
namespace MH
open PySem PySem.Spec PyProof.Rows L2
theorem pp2 {K : PySem.W.Frag} {H : Hp} {x : Addr} {v0 v1 : V} {o0 o1 : Option (List (Option Str))} (h : SqT K H x [v0, v1]) (t0 : TupV K H v0 o0) (t1 : TupV K H v1 o1) : PpV K H (.ref x) (some [o0, o1]) := by
  refine .tup h rfl (by show 2 ≤ 2000; decide) fun i v o h1 h2 => ?_
  match i, h1, h2 with
  | 0, h1, h2 =>
    obtain rfl := Option.some.inj h1
    obtain rfl := Option.some.inj h2
    exact t0
  | 1, h1, h2 =>
    obtain rfl := Option.some.inj h1
    obtain rfl := Option.some.inj h2
    exact t1
  | _ + 2, h1, _ => cases h1
theorem pp1 {K : PySem.W.Frag} {H : Hp} {x : Addr} {v0 : V} {o0 : Option (List (Option Str))} (h : SqT K H x [v0]) (t0 : TupV K H v0 o0) : PpV K H (.ref x) (some [o0]) := by
  refine .tup h rfl (by show 1 ≤ 2000; decide) fun i v o h1 h2 => ?_
  match i, h1, h2 with
  | 0, h1, h2 =>
    obtain rfl := Option.some.inj h1
    obtain rfl := Option.some.inj h2
    exact t0
  | _ + 1, h1, _ => cases h1
theorem pp3 {K : PySem.W.Frag} {H : Hp} {x : Addr} {v0 v1 v2 : V} {o0 o1 o2 : Option (List (Option Str))} (h : SqT K H x [v0, v1, v2]) (t0 : TupV K H v0 o0) (t1 : TupV K H v1 o1) (t2 : TupV K H v2 o2) : PpV K H (.ref x) (some [o0, o1, o2]) := by
  refine .tup h rfl (by show 3 ≤ 2000; decide) fun i v o h1 h2 => ?_
  match i, h1, h2 with
  | 0, h1, h2 =>
    obtain rfl := Option.some.inj h1
    obtain rfl := Option.some.inj h2
    exact t0
  | 1, h1, h2 =>
    obtain rfl := Option.some.inj h1
    obtain rfl := Option.some.inj h2
    exact t1
  | 2, h1, h2 =>
    obtain rfl := Option.some.inj h1
    obtain rfl := Option.some.inj h2
    exact t2
  | _ + 3, h1, _ => cases h1
/-- a tuple of texts as such a value: its texts are no tuples -/
theorem pp_strs {K : PySem.W.Frag} {H : Hp} {a : Addr} {ps : List Str} (h : SqT K H a (ps.map V.str)) (l : ps.length ≤ 2000) : PpV K H (.ref a) (some (ps.map fun _ => none)) := by
  refine .tup h (by rw [List.length_map, List.length_map]) (by rw [List.length_map]; exact l) fun i v o h1 h2 => ?_
  obtain ⟨z, hz, rfl⟩ := str_at h1
  rw [List.getElem?_map, hz] at h2
  obtain rfl := Option.some.inj h2
  exact .none (.base (.str z)) (by decide +kernel)
/-- texts of people in a tuple -/
structure PplAt (K : PySem.W.Frag) (H : Hp) (a : Addr) (ps : List Str) : Prop where
  at_ : SqT K H a (ps.map V.str)
  ne : ps ≠ []
  le : ps.length ≤ 25
  tx : ∀ z ∈ ps, TxS z
theorem PplAt.tv {K : PySem.W.Frag} {H : Hp} {a : Addr} {ps : List Str} (h : PplAt K H a ps) : TupV K H (.ref a) (some (ps.map some)) := (CtL.strs fun z hz => (h.tx z hz).ok).tup h.at_ (by rw [List.length_map]; have := h.le; omega)
theorem PplAt.same {K : PySem.W.Frag} {H H' : Hp} {a : Addr} {ps : List Str} (h : PplAt K H a ps) (s : Same H H') : PplAt K H' a ps := ⟨s.sqt h.at_, h.ne, h.le, h.tx⟩
theorem PplAt.but {K : PySem.W.Frag} {H H' : Hp} {p : Addr} {n : Nat} {a : Addr} {ps : List Str} (u : Ur H p n) (h : PplAt K H a ps) (s : SameB p H H') : PplAt K H' a ps := ⟨u.sqt s h.at_, h.ne, h.le, h.tx⟩
def spBent (K : PySem.W.Frag) : Sp := fun vs H Q _ => ∃ (p q t a0 a1 : Addr) (n : Nat) (p0 p1 th : List Str), vs = [.ref p, .ref q, .ref t] ∧ Ur H p n ∧ n ≤ 800000000 ∧ SqT K H q [.ref a0, .ref a1] ∧ PplAt K H a0 p0 ∧ PplAt K H a1 p1 ∧ TupO H t (th.map V.str) ∧ RowOk th ∧
  ∀ (v : V) (o : Option (List (Option (List (Option Str))))) (H' : Hp), PpV K H' v o → SameB p H H' → Ur H' p (n + 60) → Q v H'
section
variable {P : Program} {w : World} {K : PySem.W.Frag} {mg : Str → Option Value} {base : Heap}
theorem ok_l_bent (T : Tx K mg w) : FnOk P w K mg base CX0 3 T.a_l_bent T.fd_l_bent ["_law_pot_here", "_law_paper", "_law_things_here"] (spBent K) := by
  refine T.F_l_bent.ok sc_l_bent (fun vs H Q E h => ?_) (fun cdv A outer s H vs Q E hr h => ?_)
  · obtain ⟨p, q, t, a0, a1, n, p0, p1, th, rfl, _⟩ := h
    rfl
  · obtain ⟨p, q, t, a0, a1, n, p0, p1, th, rfl, u, hn, hq, h0, h1, hT, ro, k⟩ := h
    refine ⟨_, (pss_cons (ps_par (i := 3) (j := 4) rfl sc_l_bent.nd rfl rfl (by decide) rfl rfl (pa_cons (pe_call (ok_l_draw T) (hr.mono (by decide)) rfl T.g_l_draw T.F_l_draw.kp T.b_l_draw .nil pass0 (pa_cons (pv 0) (pa_cons pe_int pa_nil))) (pa_cons (pe_call (ok_l_draw T) (hr.mono (by decide)) rfl T.g_l_draw T.F_l_draw.kp T.b_l_draw .nil pass0 (pa_cons (pv 0) (pa_cons pe_int pa_nil))) pa_nil)) (by rfl))
      (pss_cons (ps_par (i := 5) (j := 6) rfl sc_l_bent.nd rfl rfl (by decide) rfl rfl (pa_cons (pe_ix ix_tup (pv 1) (pv 4) (fun _ _ => rfl)) (pa_cons (pe_join pe_str (pe_call (ok_l_shuffled T) (hr.mono (by decide)) rfl T.g_l_shuffled T.F_l_shuffled.kp T.b_l_shuffled .nil pass0 (pa_cons (pv 0) (pa_cons (pv 2) pa_nil)))) pa_nil)) (by rfl))
      (pss_cons (ps_set (i := 7) sc_l_bent.nd rfl (Or.inl rfl) (pe_call (ok_l_draw T) (hr.mono (by decide)) rfl T.g_l_draw T.F_l_draw.kp T.b_l_draw .nil pass0 (pa_cons (pv 0) (pa_cons (pe_callB call_len_seq (by rfl) T.n_len (by decide +kernel) (pa_cons (pv 5) pa_nil)) pa_nil))))
      (pss_cons (ps_set (i := 8) sc_l_bent.nd rfl (Or.inl rfl) (pe_op op_catA (pe_slice sl_tupA (pv 5) po_none (po_some (pv 7))) (pe_slice sl_tupA (pv 5) (po_some (pe_op op_add (pv 7) pe_int)) po_none)))
      (pss_cons (ps_if (pt_cmpR op_eq (pv 3) pe_int (nomark _))
        (pss_one (ps_ret (pe_backT (pv 1))))
        pss_nil)
      (pss_cons (ps_if (pt_cmpR op_eq (pv 3) pe_int (nomark _))
        (pss_one (ps_ret (pe_callTy call_list_of (by rfl) T.n_list (by decide +kernel) (pa_cons (pv 1) pa_nil))))
        pss_nil)
      (pss_cons (ps_if (pt_cmpR op_eq (pv 3) pe_int (nomark _))
        (pss_one (ps_ret (pe_tup (pa_cons (pv 5) pa_nil))))
        pss_nil)
      (pss_cons (ps_if (pt_cmpR op_eq (pv 3) pe_int (nomark _))
        (pss_one (ps_ret (pe_op op_catA (pv 1) (pe_tup (pa_cons (pv 5) pa_nil)))))
        pss_nil)
      (pss_cons (ps_if (pt_cmpR op_eq (pv 3) pe_int (nomark _))
        (pss_one (ps_ret (pv 5)))
        pss_nil)
      (pss_cons (ps_if (pt_cmpR op_eq (pv 3) pe_int (nomark _))
        (pss_one (ps_set (i := 8) sc_l_bent.nd rfl (Or.inl rfl) (pe_op op_catA (pe_backT (pv 5)) (pe_tup (pa_cons (pv 6) pa_nil)))))
        pss_nil)
      (pss_cons (ps_if (pt_cmpR op_eq (pv 3) pe_int (nomark _))
        (pss_one (ps_set (i := 8) sc_l_bent.nd rfl (Or.inl rfl) (pe_op op_catA (pe_op op_catA (pe_slice sl_tupA (pv 5) po_none (po_some (pv 7))) (pe_tup (pa_cons (pe_call (ok_l_bent_text T) (hr.mono (by decide)) rfl T.g_l_bent_text T.F_l_bent_text.kp T.b_l_bent_text .nil pass0 (pa_cons (pv 0) (pa_cons (pe_ix ix_tup (pv 5) (pv 7) (fun _ _ => rfl)) pa_nil))) pa_nil))) (pe_slice sl_tupA (pv 5) (po_some (pe_op op_add (pv 7) pe_int)) po_none))))
        pss_nil)
      (pss_cons (ps_if (pt_cmpR op_eq (pv 3) pe_int (nomark _))
        (pss_one (ps_set (i := 8) sc_l_bent.nd rfl (Or.inl rfl) (pe_ix ix_list (pe_lst (pa_cons (pe_callTy call_list_of (by rfl) T.n_list (by decide +kernel) (pa_cons (pv 5) pa_nil)) (pa_cons pe_non (pa_cons (pe_ix ix_tup (pv 5) (pv 7) (fun _ _ => rfl)) pa_nil)))) (pe_call (ok_l_draw T) (hr.mono (by decide)) rfl T.g_l_draw T.F_l_draw.kp T.b_l_draw .nil pass0 (pa_cons (pv 0) (pa_cons pe_int pa_nil))) (fun _ _ => rfl))))
        pss_nil)
      (pss_cons (ps_if (pt_cmpR op_eq (pv 3) pe_int (nomark _))
        (pss_one (ps_set (i := 8) sc_l_bent.nd rfl (Or.inl rfl) (pe_slice sl_tupA (pe_op op_repT (pv 5) pe_int) po_none (po_some (pe_op op_add pe_int (pe_call (ok_l_draw T) (hr.mono (by decide)) rfl T.g_l_draw T.F_l_draw.kp T.b_l_draw .nil pass0 (pa_cons (pv 0) (pa_cons pe_int pa_nil))))))))
        pss_nil)
      (pss_one (ps_ret (pe_ifExp (pt_cmpR op_eq (pv 4) pe_int (nomark _)) (pe_tup (pa_cons (pv 8) (pa_cons (pe_ix ix_tup (pv 1) pe_int (fun _ _ => rfl)) pa_nil))) (pe_tup (pa_cons (pe_ix ix_tup (pv 1) pe_int (fun _ _ => rfl)) (pa_cons (pv 8) pa_nil))))))))))))))))))), ?_⟩
    obtain ⟨x0, y0, c0, hp0, _⟩ := id u
    have ntp : t ≠ p := hT.ne hp0 (by intro o q; cases q)
    have rl := ro.le
    refine ⟨_, rfl, p, 11, n, rfl, u, by omega, by decide, by decide, fun wy H1 w0 w1 sb1 u1 => ?_⟩
    refine ⟨_, rfl, p, 2, n + 1, rfl, u1, by omega, by decide, by decide, fun d H2 d0 d1 sb2 u2 => ?_⟩
    obtain ⟨d, rfl⟩ : ∃ f : Nat, d = f := ⟨d.toNat, by omega⟩
    have hq2 := u1.sqt sb2 (u.sqt sb1 hq)
    have h02 := (h0.but u sb1).but u1 sb2
    have h12 := (h1.but u sb1).but u1 sb2
    have hT2 := (hT.sb sb1 ntp).sb sb2 ntp
    obtain ⟨a, ps, hat, ha⟩ : ∃ (a : Addr) (ps : List Str), ([V.ref a0, V.ref a1] : List V)[d]? = some (V.ref a) ∧ PplAt K H2 a ps := by
      match d, d1 with
      | 0, _ => exact ⟨a0, p0, rfl, h02⟩
      | 1, _ => exact ⟨a1, p1, rfl, h12⟩
    refine ⟨_, _, rfl, ?_⟩
    refine ⟨_, rfl, _, rfl, q, _, _, _, rfl, rfl, hq2, atI_nat hat, ⟨_, rfl⟩, _, rfl, _, rfl, p, t, n + 2, th.map V.str, rfl, u2, by omega, hT2.sqt, by rw [List.length_map]; omega, fun row r H3 pm sb3 u3 hr3 => ?_⟩
    obtain ⟨orw, rfl, pm2⟩ := perm_strs pm
    have roo := ro.perm pm2
    have txo := txS_row roo
    refine ⟨" ", r, orw, rfl, rfl, .inr hr3.sqt, ?_, ?_⟩
    · have a1 := sum_le (n := 8) orw fun z hz => nameOk_len (roo.ok z hz)
      have e1 : (" " : Str).length = 1 := by decide +kernel
      have := roo.le
      rw [e1]
      omega
    refine ⟨_, _, rfl, ?_⟩
    have u3 : Ur H3 p (n + 12) := u3.mono (by rw [List.length_map]; omega)
    have ha3 := ha.but u2 sb3
    have h03 := h02.but u2 sb3
    have h13 := h12.but u2 sb3
    have hq3 := u2.sqt sb3 hq2
    generalize Txt.join " " orw = oth at txo ⊢
    have l0 := List.length_pos_iff.mpr ha3.ne
    have l25 := ha3.le
    have lp : (ps.map V.str).length = ps.length := List.length_map _
    refine ⟨_, rfl, _, rfl, a, _, rfl, .inr ha3.at_, p, ((ps.map V.str).length : Nat), _, rfl, u3, (by omega), (by rw [lp]; omega), (by rw [lp]; omega), fun e H4 e0 e1 sb4 u4 => ?_⟩
    obtain ⟨e, rfl⟩ : ∃ f : Nat, e = f := ⟨e.toNat, by omega⟩
    have el : e < ps.length := by omega
    have ha4 := ha3.but u3 sb4
    have h04 := h03.but u3 sb4
    have h14 := h13.but u3 sb4
    have hq4 := u3.sqt sb4 hq3
    have sb04 := sb1.trans (sb2.trans (sb3.trans sb4))
    clear hr3 hT2 hT h02 h12 h03 h13 ha ha3 hq hq2 hq3 h0 h1 sb1 sb2 sb3 sb4 u u1 u2 u3
    have tks : ∀ i, (ps.map V.str).take i = (ps.take i).map V.str := fun i => List.map_take.symm
    have dps : ∀ i, (ps.map V.str).drop i = (ps.drop i).map V.str := fun i => List.map_drop.symm
    have sts : ∀ (H' : Hp) (l : List Str), (∀ z ∈ l, z ∈ ps ∨ TxS z) → CtL K H' (l.map V.str) (l.map some) := fun H' l h => CtL.strs fun z hz => (h z hz).elim (fun q => (ha4.tx z q).ok) fun q => q.ok
    have mt : ∀ i, ∀ z ∈ ps.take i, z ∈ ps := fun i z h => List.mem_of_mem_take h
    have md : ∀ i, ∀ z ∈ ps.drop i, z ∈ ps := fun i z h => List.mem_of_mem_drop h
    have lt : ∀ i, ((ps.take i).map V.str).length ≤ 25 := fun i => by rw [List.length_map, List.length_take]; omega
    have ld : ∀ i, ((ps.drop i).map V.str).length ≤ 25 := fun i => by rw [List.length_map, List.length_drop]; omega
    have fore : ∀ {Hx : Hp} (hx : SqT K Hx a (ps.map V.str)) {R : VK}, (∀ q H', Same Hx H' → SqT K H' q ((ps.take e).map V.str) → R (.ref q) H') → rSlA K (.ref a) none (some (e : Int)) Hx R := @fun Hx hx R h => slA_of hx fun q H' s hq => h q H' s (by rw [cutV_to, tks] at hq; exact hq)
    have back : ∀ {Hx : Hp} (hx : SqT K Hx a (ps.map V.str)) {R : VK}, (∀ q H', Same Hx H' → SqT K H' q ((ps.drop (e + 1)).map V.str) → R (.ref q) H') → rSlA K (.ref a) (some ((e : Int) + 1)) none Hx R := @fun Hx hx R h => slA_of hx fun q H' s hq => h q H' s (by rw [show (e : Int) + 1 = ((e + 1 : Nat) : Int) from rfl, cut_from, dps] at hq; exact hq)
    have hate : atI (ps.map V.str) ((e : Nat) : Int) = some (V.str ps[e]) := atI_nat (by rw [List.getElem?_map, List.getElem?_eq_getElem el]; rfl)
    have txd := ha4.tx _ (List.getElem_mem el)
    generalize ps[e] = zd at hate txd
    have rvs : (ps.map V.str).reverse = ps.reverse.map V.str := List.map_reverse.symm
    refine ⟨_, rfl, ?_⟩
    delta tNoPart
    refine ⟨_, rfl, (e : Int), rfl, fore ha4.at_ fun q1 H5 s5 hq1 => ⟨_, rfl, _, rfl, _, _, rfl, rfl, _, rfl, ?_⟩⟩
    refine back (s5.sqt ha4.at_) fun q2 H6 s6 hq2 => catA_of (s6.sqt hq1) hq2 (by have := lt e; have := ld (e + 1); omega) fun nw H7 s7 hnw => ?_
    have t7 : TupV K H7 (.ref nw) (some ((ps.take e).map some ++ (ps.drop (e + 1)).map some)) := CtL.tup ((sts _ _ fun z hz => .inl (mt e z hz)).append (sts _ _ fun z hz => .inl (md (e + 1) z hz))) hnw (by rw [List.length_append]; have := lt e; have := ld (e + 1); omega)
    have s47 := s5.trans (s6.trans s7)
    have ha7 := ha4.same s47
    have h07 := h04.same s47
    have h17 := h14.same s47
    have hq7 := s47.sqt hq4
    have u7 : Ur H7 p (n + 15) := (u4.same s47).mono (by omega)
    have sb07 := sb04.trans (SameB.of s47)
    generalize ((ps.take e).map some ++ (ps.drop (e + 1)).map some) = on at t7
    clear hq1 hq2 hnw s5 s6 s7 s47 sb04 u4 hq4 h04 h14 ha4
    have b0 : atI [V.ref a0, V.ref a1] 0 = some (V.ref a0) := rfl
    have b1 : atI [V.ref a0, V.ref a1] 1 = some (V.ref a1) := rfl
    have wyo : ∀ m : Int, decide (V.int wy = V.int m) = true → wy = m := fun m c => V.int.inj (of_decide_eq_true c)
    refine ⟨_, rfl, rfl, _, rfl, ite2 (fun c => ?_) (fun c => ?_)⟩
    · refine ⟨_, rfl, q, _, rfl, hq7, fun x nx => ?_⟩
      have sx := Same.new nx (o := .tup [.ref a1, .ref a0])
      exact k _ _ _ (pp2 (tup_of upd_same) (h17.tv.same sx) (h07.tv.same sx)) (sb07.trans (SameB.of sx)) ((u7.same sx).mono (by omega))
    refine ⟨_, rfl, rfl, _, rfl, ite2 (fun c => ?_) (fun c => ?_)⟩
    · refine ⟨_, rfl, q, _, rfl, .inr hq7, fun x nx => ?_⟩
      exact k _ none _ (.none (sql_ty (K := K) (lst_of upd_same)) (by decide +kernel)) (sb07.trans (SameB.of (Same.new nx))) ((u7.same (Same.new nx)).mono (by omega))
    refine ⟨_, rfl, rfl, _, rfl, ite2 (fun c => ?_) (fun c => ?_)⟩
    · refine ⟨_, rfl, (by show 1 ≤ sizeLine; decide), fun x nx => ?_⟩
      have sx := Same.new nx (o := .tup [.ref a])
      exact k _ _ _ (pp1 (tup_of upd_same) (ha7.tv.same sx)) (sb07.trans (SameB.of sx)) ((u7.same sx).mono (by omega))
    refine ⟨_, rfl, rfl, _, rfl, ite2 (fun c => ?_) (fun c => ?_)⟩
    · refine ⟨_, rfl, _, rfl, (by show 1 ≤ sizeLine; decide), fun x nx => ?_⟩
      have sx := Same.new nx (o := .tup [.ref a])
      have hx : SqT K (upd H7 x (.tup [.ref a])) x [.ref a] := tup_of upd_same
      generalize upd H7 x (.tup [.ref a]) = H8 at sx hx ⊢
      refine catA_of (sx.sqt hq7) hx (by show 2 + 1 ≤ 5000; decide) fun y H9 s9 hy => ?_
      have s79 := sx.trans s9
      exact k _ _ _ (pp3 hy (h07.tv.same s79) (h17.tv.same s79) (ha7.tv.same s79)) (sb07.trans (SameB.of s79)) ((u7.same s79).mono (by omega))
    refine ⟨_, rfl, rfl, _, rfl, ite2 (fun c => ?_) (fun c => ?_)⟩
    · exact ⟨_, rfl, k _ _ _ (pp_strs ha7.at_ (by omega)) sb07 (u7.mono (by omega))⟩
    refine ⟨_, rfl, rfl, _, rfl, ite2 (fun c => ?_) (fun c => ?_)⟩
    · obtain rfl := wyo 5 c
      refine ⟨_, rfl, a, _, rfl, ha7.at_, fun x nx => ?_⟩
      have s8 := Same.new nx (o := .tup (ps.map V.str).reverse)
      have hx : SqT K (upd H7 x (.tup (ps.map V.str).reverse)) x (ps.reverse.map V.str) := tup_of (by rw [upd_same, rvs])
      generalize upd H7 x (.tup (ps.map V.str).reverse) = H8 at s8 hx ⊢
      refine ⟨_, rfl, (by show 1 ≤ sizeLine; decide), fun y ny => ?_⟩
      have s9 := Same.new ny (o := .tup [.str oth])
      have hy : SqT K (upd H8 y (.tup [.str oth])) y [.str oth] := tup_of upd_same
      generalize upd H8 y (.tup [.str oth]) = H9 at s9 hy ⊢
      have lr : (ps.reverse.map V.str).length ≤ 25 := by rw [List.length_map, List.length_reverse]; exact l25
      refine catA_of (s9.sqt hx) hy (by show _ + 1 ≤ 5000; omega) fun nv H10 s10 hnv => ?_
      have tv : TupV K H10 (.ref nv) (some (ps.reverse.map some ++ [some oth])) := CtL.tup ((sts _ _ fun z hz => .inl (List.mem_reverse.mp hz)).append (.cons (.str txo.ok) .nil)) hnv (by rw [List.length_append]; show _ + 1 ≤ 2000; omega)
      have sN := s8.trans (s9.trans s10)
      have hqN := sN.sqt hq7
      have h0N := h07.same sN
      have h1N := h17.same sN
      have uN := u7.same sN
      have sbN := sb07.trans (SameB.of sN)
      refine ⟨_, rfl, rfl, _, rfl, ifF (by decide) ?_⟩
      refine ⟨_, rfl, rfl, _, rfl, ifF (by decide) ?_⟩
      refine ⟨_, rfl, rfl, _, rfl, ifF (by decide) ?_⟩
      refine ⟨_, rfl, rfl, _, rfl, ite2 (fun c9 => ?_) (fun c9 => ?_)⟩
      · refine ⟨_, rfl, _, rfl, q, _, _, _, rfl, rfl, hqN, b1, (by show 2 ≤ sizeLine; decide), fun x nx => ?_⟩
        have sx := Same.new nx (o := .tup [.ref nv, .ref a1])
        exact k _ _ _ (pp2 (tup_of upd_same) (tv.same sx) ((h1N).tv.same sx)) (sbN.trans (SameB.of sx)) ((uN.same sx).mono (by omega))
      · refine ⟨_, rfl, q, _, _, _, rfl, rfl, hqN, b0, _, rfl, (by show 2 ≤ sizeLine; decide), fun x nx => ?_⟩
        have sx := Same.new nx (o := .tup [.ref a0, .ref nv])
        exact k _ _ _ (pp2 (tup_of upd_same) ((h0N).tv.same sx) (tv.same sx)) (sbN.trans (SameB.of sx)) ((uN.same sx).mono (by omega))
    refine ⟨_, rfl, rfl, _, rfl, ite2 (fun c => ?_) (fun c => ?_)⟩
    · obtain rfl := wyo 6 c
      refine ⟨_, rfl, ?_⟩
      refine ⟨_, rfl, (e : Int), rfl, fore ha7.at_ fun q1 H8 s8 hq1 => ⟨_, rfl, _, rfl, _, rfl, a, _, _, _, rfl, rfl, s8.sqt ha7.at_, hate, p, _, zd, rfl, u7.same s8, by omega, txd.n, by have := txd.l; omega, fun y H9 ly okY my sb9 u9 => ?_⟩⟩
      have hA9 := (u7.same s8).sqt sb9 (s8.sqt ha7.at_)
      have hq9 := (u7.same s8).sqt sb9 hq1
      have toky : TxOk y := ⟨okY txd.c, by have := txd.l; omega, by have := txd.m; omega⟩
      refine ⟨(by show 1 ≤ sizeLine; decide), fun x nx => ?_⟩
      have sx := Same.new nx (o := .tup [.str y])
      have hx : SqT K (upd H9 x (.tup [.str y])) x [.str y] := tup_of upd_same
      generalize upd H9 x (.tup [.str y]) = H10 at sx hx ⊢
      refine catA_of (sx.sqt hq9) hx (by have := lt e; show _ + 1 ≤ 5000; omega) fun w2 H11 s11 hw => ⟨_, rfl, _, rfl, _, _, rfl, rfl, _, rfl, ?_⟩
      refine back ((sx.trans s11).sqt hA9) fun q2 H12 s12 hq2 => catA_of (s12.sqt hw) hq2 (by have := lt e; have := ld (e + 1); rw [List.length_append]; show _ + 1 + _ ≤ 5000; omega) fun nv H13 s13 hnv => ?_
      have tv : TupV K H13 (.ref nv) (some (((ps.take e).map some ++ [some y]) ++ (ps.drop (e + 1)).map some)) := CtL.tup (((sts _ _ fun z hz => .inl (mt e z hz)).append (.cons (.str toky) .nil)).append (sts _ _ fun z hz => .inl (md (e + 1) z hz))) hnv (by rw [List.length_append, List.length_append]; have := lt e; have := ld (e + 1); show _ + 1 + _ ≤ 2000; omega)
      have sN := sx.trans (s11.trans (s12.trans s13))
      have u8 := u7.same s8
      have hqN := sN.sqt (u8.sqt sb9 (s8.sqt hq7))
      have h0N := ((h07.same s8).but u8 sb9).same sN
      have h1N := ((h17.same s8).but u8 sb9).same sN
      have uN := u9.same sN
      have sbN := ((sb07.trans (SameB.of s8)).trans sb9).trans (SameB.of sN)
      refine ⟨_, rfl, rfl, _, rfl, ifF (by decide) ?_⟩
      refine ⟨_, rfl, rfl, _, rfl, ifF (by decide) ?_⟩
      refine ⟨_, rfl, rfl, _, rfl, ite2 (fun c9 => ?_) (fun c9 => ?_)⟩
      · refine ⟨_, rfl, _, rfl, q, _, _, _, rfl, rfl, hqN, b1, (by show 2 ≤ sizeLine; decide), fun x nx => ?_⟩
        have sx := Same.new nx (o := .tup [.ref nv, .ref a1])
        exact k _ _ _ (pp2 (tup_of upd_same) (tv.same sx) ((h1N).tv.same sx)) (sbN.trans (SameB.of sx)) ((uN.same sx).mono (by omega))
      · refine ⟨_, rfl, q, _, _, _, rfl, rfl, hqN, b0, _, rfl, (by show 2 ≤ sizeLine; decide), fun x nx => ?_⟩
        have sx := Same.new nx (o := .tup [.ref a0, .ref nv])
        exact k _ _ _ (pp2 (tup_of upd_same) ((h0N).tv.same sx) (tv.same sx)) (sbN.trans (SameB.of sx)) ((uN.same sx).mono (by omega))
    refine ⟨_, rfl, rfl, _, rfl, ite2 (fun c => ?_) (fun c => ?_)⟩
    · obtain rfl := wyo 7 c
      refine ⟨_, rfl, a, _, rfl, .inr ha7.at_, fun l nl => ?_⟩
      have s8 := Same.new nl (o := .lst (ps.map V.str))
      have hl : (upd H7 l (.lst (ps.map V.str))) l = some (.lst (ps.map V.str)) := upd_same
      generalize upd H7 l (.lst (ps.map V.str)) = H8 at s8 hl ⊢
      refine ⟨_, rfl, _, rfl, a, _, _, _, rfl, rfl, s8.sqt ha7.at_, hate, (by show 3 ≤ sizeLine; decide), fun M nM => ?_⟩
      have s9 := Same.new nM (o := .lst [.ref l, .non, .str zd])
      have hM : (upd H8 M (.lst [.ref l, .non, .str zd])) M = some (.lst [.ref l, .non, .str zd]) := upd_same
      have hl9 := s9 _ _ hl
      have u9 := (u7.same s8).same s9
      have nMp : M ≠ p := (u7.same s8).ne nM
      have nlp : l ≠ p := u7.ne nl
      have s79 := s8.trans s9
      generalize upd H8 M (.lst [.ref l, .non, .str zd]) = H9 at s9 s79 hM hl9 u9 ⊢
      refine ⟨_, rfl, p, 3, _, rfl, u9, by omega, by decide, by decide, fun f H10 f0 f1 sb10 u10 => ?_⟩
      obtain ⟨f, rfl⟩ : ∃ g : Nat, f = g := ⟨f.toNat, by omega⟩
      have hM10 := sb10 _ _ nMp hM
      have hl10 := sb10 _ _ nlp hl9
      obtain ⟨vn, hvt, tv⟩ : ∃ vn : V, ([.ref l, .non, .str zd] : List V)[f]? = some vn ∧ TupV K H10 vn none := by
        have hf : f < 3 := by omega
        match f, hf with
        | 0, _ => exact ⟨_, rfl, .none (sql_ty (K := K) (lst_of hl10)) (by decide +kernel)⟩
        | 1, _ => exact ⟨_, rfl, .none (.base .non) (by decide +kernel)⟩
        | 2, _ => exact ⟨_, rfl, .none (.base (.str _)) (by decide +kernel)⟩
      refine ⟨M, _, _, _, rfl, rfl, lst_of hM10, atI_nat hvt, ?_⟩
      have hqN := u9.sqt sb10 (s79.sqt hq7)
      have h0N := (h07.same s79).but u9 sb10
      have h1N := (h17.same s79).but u9 sb10
      have sbN := (sb07.trans (SameB.of s79)).trans sb10
      refine ⟨_, rfl, rfl, _, rfl, ifF (by decide) ?_⟩
      refine ⟨_, rfl, rfl, _, rfl, ite2 (fun c9 => ?_) (fun c9 => ?_)⟩
      · refine ⟨_, rfl, _, rfl, q, _, _, _, rfl, rfl, hqN, b1, (by show 2 ≤ sizeLine; decide), fun x nx => ?_⟩
        have sx := Same.new nx (o := .tup [vn, .ref a1])
        exact k _ _ _ (pp2 (tup_of upd_same) (tv.same sx) ((h1N).tv.same sx)) (sbN.trans (SameB.of sx)) ((u10.same sx).mono (by omega))
      · refine ⟨_, rfl, q, _, _, _, rfl, rfl, hqN, b0, _, rfl, (by show 2 ≤ sizeLine; decide), fun x nx => ?_⟩
        have sx := Same.new nx (o := .tup [.ref a0, vn])
        exact k _ _ _ (pp2 (tup_of upd_same) ((h0N).tv.same sx) (tv.same sx)) (sbN.trans (SameB.of sx)) ((u10.same sx).mono (by omega))
    refine ⟨_, rfl, rfl, _, rfl, ite2 (fun c => ?_) (fun c => ?_)⟩
    · refine ⟨_, rfl, a, 130, _, rfl, rfl, ha7.at_, (fun e => ha7.ne (List.map_eq_nil_iff.mp e)), by decide, by decide, by omega, fun x nx => ?_⟩
      have s8 := Same.new nx (o := .tup (List.replicate (130 : Int).toNat (ps.map V.str)).flatten)
      have hx : SqT K (upd H7 x (.tup (List.replicate (130 : Int).toNat (ps.map V.str)).flatten)) x (((List.replicate 130 ps).flatten).map V.str) := tup_of (by
        rw [upd_same, List.map_flatten, List.map_replicate]
        rfl)
      generalize upd H7 x (.tup (List.replicate (130 : Int).toNat (ps.map V.str)).flatten) = H8 at s8 hx ⊢
      refine ⟨_, rfl, p, 2, _, rfl, u7.same s8, by omega, by decide, by decide, fun f H9 f0 f1 sb9 u9 => ?_⟩
      obtain ⟨f, rfl⟩ : ∃ g : Nat, f = g := ⟨f.toNat, by omega⟩
      refine ⟨_, _, rfl, rfl, _, rfl, ?_⟩
      have hx9 := (u7.same s8).sqt sb9 hx
      refine slA_of (K := K) (lo := none) (hi := some (((130 + f : Nat)) : Int)) hx9 fun nv H10 s10 hnv => ?_
      rw [cutV_to, ← List.map_take] at hnv
      have tv : TupV K H10 (.ref nv) (some (((List.replicate 130 ps).flatten.take (130 + f)).map some)) := CtL.tup (CtL.strs fun z hz => by
        obtain ⟨l, hl, hz2⟩ := List.mem_flatten.mp (List.mem_of_mem_take hz)
        rw [List.eq_of_mem_replicate hl] at hz2
        exact (ha7.tx z hz2).ok) hnv (by rw [List.length_map, List.length_take]; omega)
      have u8 := u7.same s8
      have hqN := s10.sqt (u8.sqt sb9 (s8.sqt hq7))
      have h0N := ((h07.same s8).but u8 sb9).same s10
      have h1N := ((h17.same s8).but u8 sb9).same s10
      have uN := u9.same s10
      have sbN := ((sb07.trans (SameB.of s8)).trans sb9).trans (SameB.of s10)
      refine ⟨_, rfl, rfl, _, rfl, ite2 (fun c9 => ?_) (fun c9 => ?_)⟩
      · refine ⟨_, rfl, _, rfl, q, _, _, _, rfl, rfl, hqN, b1, (by show 2 ≤ sizeLine; decide), fun x nx => ?_⟩
        have sx := Same.new nx (o := .tup [.ref nv, .ref a1])
        exact k _ _ _ (pp2 (tup_of upd_same) (tv.same sx) ((h1N).tv.same sx)) (sbN.trans (SameB.of sx)) ((uN.same sx).mono (by omega))
      · refine ⟨_, rfl, q, _, _, _, rfl, rfl, hqN, b0, _, rfl, (by show 2 ≤ sizeLine; decide), fun x nx => ?_⟩
        have sx := Same.new nx (o := .tup [.ref a0, .ref nv])
        exact k _ _ _ (pp2 (tup_of upd_same) ((h0N).tv.same sx) (tv.same sx)) (sbN.trans (SameB.of sx)) ((uN.same sx).mono (by omega))
    refine ⟨_, rfl, rfl, _, rfl, ite2 (fun c9 => ?_) (fun c9 => ?_)⟩
    · refine ⟨_, rfl, _, rfl, q, _, _, _, rfl, rfl, hq7, b1, (by show 2 ≤ sizeLine; decide), fun x nx => ?_⟩
      have sx := Same.new nx (o := .tup [.ref nw, .ref a1])
      exact k _ _ _ (pp2 (tup_of upd_same) (t7.same sx) ((h17).tv.same sx)) (sb07.trans (SameB.of sx)) ((u7.same sx).mono (by omega))
    · refine ⟨_, rfl, q, _, _, _, rfl, rfl, hq7, b0, _, rfl, (by show 2 ≤ sizeLine; decide), fun x nx => ?_⟩
      have sx := Same.new nx (o := .tup [.ref a0, .ref nw])
      exact k _ _ _ (pp2 (tup_of upd_same) ((h07).tv.same sx) (t7.same sx)) (sb07.trans (SameB.of sx)) ((u7.same sx).mono (by omega))
end
end MH
namespace MH
open PySem PySem.Spec PyProof.Rows L2
theorem tyx_l {K : PySem.W.Frag} {H H' : Hp} {p : Addr} {xs ys : List V} {v : V} {t : Value} (hp : H p = some (.lst xs)) (hp' : H' p = some (.lst ys)) (h : TyX K H v t) (s : SameB p H H') : TyX K H' v t := by
  cases h with
  | base b =>
    cases b with
    | non => exact .base .non
    | bl x => exact .base (.bl x)
    | int i => exact .base (.int i)
    | str x => exact .base (.str x)
    | flt x => exact .base (.flt x)
    | @lst a zs e =>
      by_cases q : a = p
      · subst q
        exact .base (.lst hp')
      · exact .base (.lst (s _ _ q e))
    | frz e => exact .base (.frz (s _ _ (ne_of e hp (by intro q; cases q)) e))
    | tup e => exact .base (.tup (s _ _ (ne_of e hp (by intro q; cases q)) e))
    | dK e => exact .base (.dK (s _ _ (ne_of e hp (by intro q; cases q)) e))
    | dT e => exact .base (.dT (s _ _ (ne_of e hp (by intro q; cases q)) e))
    | ins e c h1 h2 h3 h4 => exact .base (.ins (s _ _ (ne_of e hp (by intro q; cases q)) e) c h1 h2 h3 h4)
  | byt b => exact .byt b
  | set e => exact .set (s _ _ (ne_of e hp (by intro q; cases q)) e)
  | kList e c => exact .kList e c
  | kTuple e c => exact .kTuple e c
  | kDict e c => exact .kDict e c
  | fTuple e => exact .fTuple (s _ _ (ne_of e hp (by intro q; cases q)) e)
  | fDict e => exact .fDict (s _ _ (ne_of e hp (by intro q; cases q)) e)
theorem TupV.l {K : PySem.W.Frag} {H H' : Hp} {p : Addr} {xs ys : List V} {v : V} {o : Option (List (Option Str))} (hp : H p = some (.lst xs)) (hp' : H' p = some (.lst ys)) (h : TupV K H v o) (s : SameB p H H') : TupV K H' v o := by
  cases h with
  | tup h hl le at_ =>
    refine .tup (s.sqt hp h) hl le fun i v o h1 h2 => ?_
    cases at_ i v o h1 h2 with
    | str h => exact .str h
    | tup h => exact .tup (s.sqt hp h)
  | none t k => exact .none (tyx_l hp hp' t s) k
theorem PpV.l {K : PySem.W.Frag} {H H' : Hp} {p : Addr} {xs ys : List V} {v : V} {o : Option (List (Option (List (Option Str))))} (hp : H p = some (.lst xs)) (hp' : H' p = some (.lst ys)) (h : PpV K H v o) (s : SameB p H H') : PpV K H' v o := by
  cases h with
  | tup h hl le at_ => exact .tup (s.sqt hp h) hl le fun i v o h1 h2 => (at_ i v o h1 h2).l hp hp' s
  | none t k => exact .none (tyx_l hp hp' t s) k
def spRight (K : PySem.W.Frag) : Sp := fun vs H Q _ => ∃ p, vs = [.ref p] ∧ Ur H p 0 ∧ ∀ H', SameB p H H' → Q (.bl true) H'
section
variable {P : Program} {w : World} {K : PySem.W.Frag} {mg : Str → Option Value} {base : Heap}
theorem g_l_right (T : Tx K mg w) : FnG P w K mg base 10 T.a_l_right (spRight K) := by
  refine fun_g T.F_l_right sc_l_right T.b_l_right (fun vs H Q E h => ?_) (fun cdv A outer s H vs Q hg hr h => ?_)
  · obtain ⟨p, rfl, _⟩ := h
    rfl
  · obtain ⟨p, rfl, u, k⟩ := h
    refine ⟨_, (pss_cons (ps_set (i := 1) sc_l_right.nd rfl (Or.inr rfl) (pe_call (ok_l_things T) (hr.mono (by decide)) rfl T.g_l_things T.F_l_things.kp T.b_l_things .nil pass0 (pa_cons (pv 0) pa_nil)))
      (pss_cons (ps_set (i := 2) sc_l_right.nd rfl (Or.inl rfl) (pe_call (ok_l_rows T) (hr.mono (by decide)) rfl T.g_l_rows T.F_l_rows.kp T.b_l_rows .nil pass0 (pa_cons (pv 0) (pa_cons (pv 1) (pa_cons pe_int pa_nil)))))
      (pss_cons (ps_set (i := 3) sc_l_right.nd rfl (Or.inl rfl) (pe_call (ok_l_looks T) (hr.mono (by decide)) rfl T.g_l_looks T.F_l_looks.kp T.b_l_looks .nil pass0 (pa_cons (pv 0) (pa_cons (pv 1) (pa_cons (pv 2) (pa_cons (pe_ix ix_list (pe_lst (pa_cons pe_int (pa_cons pe_int pa_nil))) (pe_call (ok_l_draw T) (hr.mono (by decide)) rfl T.g_l_draw T.F_l_draw.kp T.b_l_draw .nil pass0 (pa_cons (pv 0) (pa_cons pe_int pa_nil))) (fun _ _ => rfl)) pa_nil))))))
      (pss_cons (ps_set (i := 4) sc_l_right.nd rfl (Or.inl rfl) (pe_callTy call_tupF (by rfl) T.n_tuple (by decide +kernel) (pa_cons (pe_lc (own := [("_law_look", 11)]) (g := gName 11) (tt := tYes) rfl sc_l_right.nd (pi_list (pv 3)) (blkOk_by (own := [("_law_look", 11)]) (N := names_l_right) (sc := defScope st_l_right) (by decide +kernel)) (fun _ _ _ _ _ => pg_name (i := 11) sc_l_right.nd rfl (Or.inl rfl)) (fun _ _ _ _ _ => pts_nil) (fun _ _ _ _ _ => (pe_call (ok_l_look_text T) (hr.mono (by decide)) rfl T.g_l_look_text T.F_l_look_text.kp T.b_l_look_text .nil pass0 (pa_cons (pv 11) pa_nil)))) pa_nil)))
      (pss_cons (ps_for PassesOwn.never rfl (pi_range1 (by rfl) T.n_range (pa_cons pe_int pa_nil)) (pg_name (i := 5) sc_l_right.nd rfl (Or.inl rfl))
        (pss_cons (ps_set (i := 6) sc_l_right.nd rfl (Or.inl rfl) (pe_call (ok_l_menu T) (hr.mono (by decide)) rfl T.g_l_menu T.F_l_menu.kp T.b_l_menu .nil pass0 (pa_cons (pv 0) (pa_cons (pv 1) pa_nil))))
      (pss_cons (ps_set (i := 7) sc_l_right.nd rfl (Or.inl rfl) (pe_ix ix_tup (pv 6) (pe_call (ok_l_draw T) (hr.mono (by decide)) rfl T.g_l_draw T.F_l_draw.kp T.b_l_draw .nil pass0 (pa_cons (pv 0) (pa_cons (pe_callB call_len_seq (by rfl) T.n_len (by decide +kernel) (pa_cons (pv 6) pa_nil)) pa_nil))) (fun _ _ => rfl)))
      (pss_cons (ps_set (i := 8) sc_l_right.nd rfl (Or.inr rfl) (pe_tup (pa_cons (pe_call (ok_l_with_it T) (hr.mono (by decide)) rfl T.g_l_with_it T.F_l_with_it.kp T.b_l_with_it .nil pass0 (pa_cons (pv 1) (pa_cons (pv 3) (pa_cons (pv 2) (pa_cons (pv 6) (pa_cons (pv 7) pa_nil)))))) (pa_cons (pe_call (ok_l_without_it T) (hr.mono (by decide)) rfl T.g_l_without_it T.F_l_without_it.kp T.b_l_without_it .nil pass0 (pa_cons (pv 1) (pa_cons (pv 3) (pa_cons (pv 2) (pa_cons (pv 6) (pa_cons (pv 7) pa_nil)))))) pa_nil))))
      (pss_one (ps_for PassesOwn.never rfl (pi_list (pe_op op_cat (pe_lst (pa_cons (pv 8) pa_nil)) (pe_lc (own := [("_law_again", 12)]) (g := gName 12) (tt := tYes) rfl sc_l_right.nd (pi_range1 (by rfl) T.n_range (pa_cons pe_int pa_nil)) (blkOk_by (own := [("_law_again", 12)]) (N := names_l_right) (sc := defScope st_l_right) (by decide +kernel)) (fun _ _ _ _ _ => pg_name (i := 12) sc_l_right.nd rfl (Or.inl rfl)) (fun _ _ _ _ _ => pts_nil) (fun _ _ _ _ _ => (pe_call (ok_l_bent T) (hr.mono (by decide)) rfl T.g_l_bent T.F_l_bent.kp T.b_l_bent .nil pass0 (pa_cons (pv 0) (pa_cons (pv 8) (pa_cons (pv 1) pa_nil)))))))) (pg_name (i := 9) sc_l_right.nd rfl (Or.inl rfl))
        (pss_cons (ps_set (i := 10) sc_l_right.nd rfl (Or.inl rfl) (pe_call (ok_l_is_paper T) (hr.mono (by decide)) rfl T.g_l_is_paper T.F_l_is_paper.kp T.b_l_is_paper .nil pass0 (pa_cons (pv 9) (pa_cons (pv 1) (pa_cons (pv 3) (pa_cons (pv 6) (pa_cons (pv 7) pa_nil)))))))
      (pss_one (ps_if (pt_not (pt_val (pe_callg (g_l_told T) hg (hr.mono (by decide)) rfl T.g_l_told T.F_l_told.kp (pa_cons (pe_tup (pa_cons pe_str (pa_cons (pv 1) (pa_cons (pv 4) (pa_cons (pv 6) (pa_cons (pv 7) pa_nil)))))) (pa_cons (pv 9) (pa_cons (pv 10) pa_nil))))))
        (pss_one (ps_ret pe_bl))
        pss_nil)))))))))
      (pss_one (ps_ret pe_bl))))))), ?_⟩
    refine ⟨_, rfl, p, 0, rfl, u, by decide, fun th t H1 l1 l10 nd so ok sb1 u1 hT => ?_⟩
    have tok := thOk_of l1 l10 nd so ok
    have ro : RowOk th := ⟨List.length_pos_iff.mp l1, l10, nd, ok⟩
    obtain ⟨x1, y1, c1, hp1, _⟩ := id u1
    have ntp : t ≠ p := hT.ne hp1 (by intro o q; cases q)
    refine ⟨_, rfl, _, rfl, p, t, _, th, 3, rfl, u1, by omega, hT.sqt, ro, so, by decide, by decide, fun l ts rows H3 sb3 u3 ra rok => ?_⟩
    have hT3 := hT.sb sb3 ntp
    obtain ⟨x3, y3, c3, hp3, _⟩ := id u3
    have nlp : l ≠ p := fun q => by
      have h1 := ra.1
      rw [q, hp3] at h1
      have q := HO.lst.inj (Option.some.inj h1)
      cases ts with
      | nil => cases q
      | cons a r => cases q
    refine ⟨_, rfl, _, rfl, _, rfl, (by show 2 ≤ sizeLine; decide), fun M nM => ?_⟩
    have nMp : M ≠ p := u3.ne nM
    have sM := Same.new nM (o := .lst [.int 2, .int 6])
    have hM : (upd H3 M (.lst [.int 2, .int 6])) M = some (.lst [.int 2, .int 6]) := upd_same
    have u3' := u3.same sM
    have hT3' := hT3.same sM
    have ra3 := ra.same sM
    have sb3' := sb3.trans (SameB.of sM)
    generalize upd H3 M (.lst [.int 2, .int 6]) = H3' at hM u3' hT3' ra3 sb3' ⊢
    obtain ⟨x3', y3', c3', hp3', _⟩ := id u3'
    refine ⟨_, rfl, p, 2, _, rfl, u3', by omega, by decide, by decide, fun f H4 f0 f1 sb4 u4 => ?_⟩
    obtain ⟨f, rfl⟩ : ∃ g : Nat, f = g := ⟨f.toNat, by omega⟩
    have hM4 := sb4 _ _ nMp hM
    have hT4 := hT3'.sb sb4 ntp
    have ra4 := ra3.but sb4 hp3' nlp
    obtain ⟨mn, hmt, mn12⟩ : ∃ mn : Nat, ([.int 2, .int 6] : List V)[f]? = some (.int (mn : Nat)) ∧ mn ≤ 6 := by
      have hf : f < 2 := by omega
      match f, hf with
      | 0, _ => exact ⟨2, rfl, by omega⟩
      | 1, _ => exact ⟨6, rfl, by omega⟩
    obtain ⟨x4, y4, c4, hp4, _⟩ := id u4
    refine ⟨M, _, _, _, rfl, rfl, lst_of hM4, atI_nat hmt, p, t, l, _, th, ts, rows, (mn : Int), rfl, u4, by omega, hT4, ro.ne, l10, ra4, rok, by omega, by omega, fun Lk qs lks H5 sb5 u5 lk lo ll => ?_⟩
    have gk : ∀ k ∈ lks, GoodLk th k := lo
    have lk12 : lks.length ≤ 12 := by omega
    have hT5 := hT4.sb sb5 ntp
    have ra5 := ra4.but sb5 hp4 nlp
    have sb05 : SameB p H H5 := sb1.trans (sb3'.trans (sb4.trans sb5))
    clear hM hM4 hp1 hp3 hp3' hp4 hT hT3 hT3' hT4 ra ra3 ra4 sb1 sb3 sb3' sb4 sb5 u u1 u3 u3' u4 sM
    refine ⟨_, rfl, Lk, rfl, ⟨_, lst_of lk.1⟩, fun D nD => lcv walk_list lks (fun k => V.str (lineOf k.1 k.2)) (by rw [List.length_map]; exact lk.2.1.symm) nD (by rw [List.length_map, lk.2.1]; omega) (fun H' s => lst_of (s _ _ lk.1)) (fun _ _ _ _ _ y => yat_same y) (fun i kk x H6 H7 hk s6 yy Z hZ => ?_) (fun H6 s6 e6 => ?_)⟩
    · obtain ⟨rfl, hx⟩ := yy
      obtain ⟨q, hq, rfl⟩ := ref_at hx
      obtain ⟨m, h1, h2⟩ := (lk.same s6).2.2 i q kk hq hk
      have gi := gk kk (List.mem_of_getElem? hk)
      obtain ⟨nk, l10'⟩ := good_ok tok gi
      exact ⟨rfl, _, rfl, q, m, kk.1, kk.2, rfl, h1.sqt, h2.sqt, by omega, gi.2.2.1.1, fun z hz => by have := nameOk_len (nk z hz); omega, fun H8 s8 => hZ _ s8⟩
    rw [show lks.map (fun k => V.str (lineOf k.1 k.2)) = (lks.map fun k => lineOf k.1 k.2).map V.str by rw [List.map_map]; rfl] at e6
    refine ⟨D, _, rfl, .inl ⟨lst_of e6, fun g og ng dg => ?_⟩⟩
    have s7 := s6.new' ng (o := .frz og (.tup ((lks.map fun k => lineOf k.1 k.2).map V.str)))
    have hg7 : SqT K (upd H6 g (.frz og (.tup ((lks.map fun k => lineOf k.1 k.2).map V.str)))) g ((lks.map fun k => lineOf k.1 k.2).map V.str) := frz_of upd_same
    generalize upd H6 g (.frz og (.tup ((lks.map fun k => lineOf k.1 k.2).map V.str))) = H7 at s7 hg7 ⊢
    have tg : ∀ H', SqT K H' g ((lks.map fun k => lineOf k.1 k.2).map V.str) → TupV K H' (.ref g) (linesO lks) := fun H' h => by
      have c : CtL K H' ((lks.map fun k => lineOf k.1 k.2).map V.str) ((lks.map fun k => lineOf k.1 k.2).map some) := CtL.strs fun z hz => by
        obtain ⟨kk, hk, rfl⟩ := List.mem_map.mp hz
        exact line_len tok (gk kk hk)
      have q := c.tup h (by rw [List.length_map, List.length_map]; omega)
      rw [List.map_map] at q
      exact q
    have lk7 := lk.same s7
    have hT7 := hT5.same s7
    have ra7 := ra5.same s7
    have u7 := u5.same s7
    have sb07 := sb05.trans (SameB.of s7)
    have rl := rok.le
    clear s6 s7 e6 lk hT5 ra5 u5 sb05
    obtain ⟨x7, y7, c7, hp7, _⟩ := id u7
    have nLkp : Lk ≠ p := fun q => by
      have h1 := lk7.1
      rw [q, hp7] at h1
      have q := HO.lst.inj (Option.some.inj h1)
      cases qs with
      | nil => cases q
      | cons a r => cases q
    have u7 : Ur H7 p 3000 := u7.mono (by omega)
    refine ⟨_, rfl, by decide, by decide, ?_⟩
    refine for_range (lo := 0) (n := 2) (fun i σ H' => (∃ v5 v6 v7 v8 v9 v10 : Option V, σ = [some (.ref p), some (.ref t), some (.ref l), some (.ref Lk), some (.ref g), v5, v6, v7, v8, v9, v10, none, none]) ∧ SameB p H7 H' ∧ Ur H' p (3000 + 1000 * i))
      ⟨⟨none, none, none, none, none, none, rfl⟩, SameB.refl p H7, u7⟩ ?_ ?_
    · rintro i σ H8 hi ⟨⟨v5, v6, v7, v8, v9, v10, rfl⟩, sb8, u8⟩
      have hT8 := hT7.sb sb8 ntp
      have lk8 := lk7.but sb8 hp7 nLkp
      have ra8 := ra7.but sb8 hp7 nlp
      have hg8 := u7.sqt sb8 hg7
      refine ⟨_, rfl, _, rfl, p, t, _, th, rfl, u8, by omega, hT8, ro.ne, l10, fun ms m H9 sub mne sb9 u9 hm9 => ?_⟩
      obtain ⟨x8, y8, c8, hp8, _⟩ := id u8
      have hT9 := hT8.sb sb9 ntp
      have lk9 := lk8.but sb9 hp8 nLkp
      have ra9 := ra8.but sb9 hp8 nlp
      have hg9 := u8.sqt sb9 hg8
      obtain ⟨x9, y9, c9, hp9, _⟩ := id u9
      have nmp : m ≠ p := hm9.ne hp9 (by intro o q; cases q)
      have lm := List.length_pos_iff.mpr mne
      have ml := sub.length_le
      have lmm : (ms.map V.str).length = ms.length := List.length_map _
      refine ⟨_, rfl, _, rfl, _, rfl, m, _, rfl, .inr hm9.sqt, p, ((ms.map V.str).length : Nat), _, rfl, u9, (by omega), (by rw [lmm]; omega), (by rw [lmm]; omega), fun d H10 d0 d1 sb10 u10 => ?_⟩
      obtain ⟨d, rfl⟩ : ∃ f : Nat, d = f := ⟨d.toNat, by omega⟩
      have dl : d < ms.length := by omega
      have hm10 := hm9.sb sb10 nmp
      have hT10 := hT9.sb sb10 ntp
      have lk10 := lk9.but sb10 hp9 nLkp
      have ra10 := ra9.but sb10 hp9 nlp
      have hg10 := u9.sqt sb10 hg9
      have hdat : (ms.map V.str)[d]? = some (V.str ms[d]) := by rw [List.getElem?_map, List.getElem?_eq_getElem dl]; rfl
      have zm : ms[d] ∈ ms := List.getElem_mem dl
      generalize ms[d] = z at hdat zm
      refine ⟨m, _, _, _, rfl, rfl, hm10.sqt, atI_nat hdat, ?_⟩
      have sb810 := sb8.trans (sb9.trans sb10)
      clear hT8 hT9 lk8 lk9 ra8 ra9 hg8 hg9 hm9 u8 u9 sb8 sb9 sb10 hp8 hp9
      refine ⟨_, rfl, _, rfl, _, rfl, _, rfl, _, rfl, t, Lk, l, m, th, ms, z, qs, ts, lks, rows, rfl, hT10.sqt, tok, lk10, gk, lk12, ra10, rok, hm10, sub, zm, fun a0 p0 H11 s11 ha0 ne0 le0 tx0 => ?_⟩
      have lk11 := lk10.same s11
      have ra11 := ra10.same s11
      have hT11 := hT10.same s11
      have hm11 := hm10.same s11
      refine ⟨_, rfl, _, rfl, _, rfl, _, rfl, _, rfl, t, Lk, l, m, th, ms, z, qs, ts, lks, rows, rfl, hT11.sqt, tok, lk11, gk, lk12, ra11, rok, hm11, sub, zm, fun a1 p1 H12 s12 ha1 ne1 le1 tx1 => ?_⟩
      refine ⟨(by show 2 ≤ sizeLine; decide), fun q nq => ?_⟩
      have sq := Same.new nq (o := .tup [.ref a0, .ref a1])
      have hq : SqT K (upd H12 q (.tup [.ref a0, .ref a1])) q [.ref a0, .ref a1] := tup_of upd_same
      have h0 : PplAt K (upd H12 q (.tup [.ref a0, .ref a1])) a0 p0 := ⟨((ha0.same s12).same sq).sqt, ne0, le0, tx0⟩
      have h1 : PplAt K (upd H12 q (.tup [.ref a0, .ref a1])) a1 p1 := ⟨(ha1.same sq).sqt, ne1, le1, tx1⟩
      have s13 := s11.trans (s12.trans sq)
      change tSeq _ _ _ _ (upd H12 q (.tup [.ref a0, .ref a1]))
      generalize upd H12 q (.tup [.ref a0, .ref a1]) = H13 at hq h0 h1 s13 ⊢
      have lk13 := lk10.same s13
      have hT13 := hT10.same s13
      have hm13 := hm10.same s13
      have hg13 := s13.sqt hg10
      have u13 := u10.same s13
      have sb13 := sb810.trans (SameB.of s13)
      clear lk11 ra11 hT11 hm11 ha0 ha1 s11 s12 sq lk10 ra10 hT10 hm10 hg10 u10 sb810 s13
      change tSeq _ _ _ [some (.ref p), some (.ref t), some (.ref l), some (.ref Lk), some (.ref g), some (.int (0 + (i : Int))), some (.ref m), some (.str z), some (.ref q), v9, v10, none, none] H13
      refine ⟨_, rfl, (by show 1 ≤ sizeLine; decide), fun A nA => ?_⟩
      have sA := Same.new nA (o := .lst [.ref q])
      have hA : (upd H13 A (.lst [.ref q])) A = some (.lst [.ref q]) := upd_same
      generalize upd H13 A (.lst [.ref q]) = H14 at sA hA ⊢
      have u14 := u13.same sA
      have nAp : A ≠ p := u13.ne nA
      refine ⟨3, rfl, by decide, by decide, fun D nD => ?_⟩
      have nDp : D ≠ p := u14.ne nD
      refine lc_it (w := walk_range) (fun j H' => SameB p H14 H' ∧ Ur H' p (3000 + 1000 * i + 13 + 60 * j) ∧ ∃ vs : List V, H' D = some (.lst vs) ∧ vs.length = j ∧ ∀ v ∈ vs, ∃ o, PpV K H' v o)
        ⟨SameB.of (Same.new nD), (u14.same (Same.new nD)).mono (by omega), [], upd_same, rfl, fun v hv => absurd hv List.not_mem_nil⟩ (fun _ _ _ _ => trivial) ?_ ?_
      · rintro j x H15 H16 hj ⟨sb15, u15, vs, eD, lv, hvs⟩ ⟨rfl, rfl⟩
        refine ⟨rfl, ?_⟩
        have hqj := u14.sqt sb15 (sA.sqt hq)
        have h0j := (h0.same sA).but u14 sb15
        have h1j := (h1.same sA).but u14 sb15
        have hTj := (hT13.same sA).sb sb15 ntp
        obtain ⟨x15, y15, c15, hp15, _⟩ := id u15
        refine ⟨_, rfl, _, rfl, _, rfl, p, q, t, a0, a1, _, p0, p1, th, rfl, u15, by omega, hqj, h0j, h1j, hTj, ro, fun v o H17 pv sb17 u17 => ?_⟩
        have eD17 := sb17 _ _ nDp eD
        have sbD : Same H17 H17 := Same.refl _
        refine ⟨_, eD17, lt_line (by omega), ?_, ?_, vs ++ [v], upd_same, by rw [List.length_append, lv]; rfl, fun v' hv' => ?_⟩
        · intro b' o' nb e'
          rw [upd_ne (ne_of_none e' nD)]
          exact sb17 _ _ nb (sb15 _ _ nb e')
        · obtain ⟨x17, y17, c17, hp17, g17⟩ := u17
          exact Ur.mono ⟨x17, y17, c17, by rw [upd_ne nDp.symm]; exact hp17, g17⟩ (by omega)
        · have sbu : SameB D H17 (upd H17 D (.lst (vs ++ [v]))) := (SameB.refl D H17).put
          rcases List.mem_append.mp hv' with h | h
          · obtain ⟨o', pv'⟩ := hvs v' h
            exact ⟨o', (pv'.but u15 u17 sb17).l eD17 upd_same sbu⟩
          · rw [List.mem_singleton.mp h]
            exact ⟨o, pv.l eD17 upd_same sbu⟩
      · rintro H15 ⟨sb15, u15, vs, eD, lv, hvs⟩
        have lv : vs.length = 3 := lv
        have hA15 := sb15 _ _ nAp hA
        refine ⟨A, D, _, _, rfl, rfl, hA15, eD, le_line (by rw [lv]; show 1 + 3 ≤ 100000; decide), fun F nF => ?_⟩
        have sF := Same.new nF (o := .lst ([V.ref q] ++ vs))
        have hF : (upd H15 F (.lst ([V.ref q] ++ vs))) F = some (.lst ([V.ref q] ++ vs)) := upd_same
        have hq15 := u14.sqt sb15 (sA.sqt hq)
        have h015 := (h0.same sA).but u14 sb15
        have h115 := (h1.same sA).but u14 sb15
        have tv : ∀ v ∈ [V.ref q] ++ vs, ∃ o, PpV K (upd H15 F (.lst ([V.ref q] ++ vs))) v o := fun v hv => by
          rcases List.mem_append.mp hv with h | h
          · rw [List.mem_singleton.mp h]
            exact ⟨_, (pp2 hq15 h015.tv h115.tv).same sF⟩
          · obtain ⟨o, pv⟩ := hvs v h
            exact ⟨o, pv.same sF⟩
        have lF : ([V.ref q] ++ vs).length ≤ 4 := by rw [List.length_append, lv]; exact Nat.le_refl 4
        have hTF := (((hT13.same sA).sb sb15 ntp).same sF).sqt (K := K)
        obtain ⟨x14, y14, c14, hp14, _⟩ := id u14
        have lkF := ((lk13.same sA).but sb15 hp14 nLkp).same sF
        have hmF := (((hm13.same sA).sb sb15 nmp).same sF).sqt (K := K)
        have hgF := sF.sqt (u14.sqt sb15 (sA.sqt hg13))
        have uF := u15.same sF
        have sbF := ((sb13.trans (SameB.of sA)).trans sb15).trans (SameB.of sF)
        generalize [V.ref q] ++ vs = ws at hF tv lF sF hTF lkF hmF hgF uF sbF ⊢
        generalize upd H15 F (.lst ws) = HF at hF tv hTF lkF hmF hgF uF sbF ⊢
        refine ⟨F, rfl, ⟨_, lst_of hF⟩, for_list (K := K) (a := F) (xs := ws) (fun j σ H' => (∃ v9 v10 : Option V, σ = [some (.ref p), some (.ref t), some (.ref l), some (.ref Lk), some (.ref g), some (.int (0 + (i : Int))), some (.ref m), some (.str z), some (.ref q), v9, v10, none, none]) ∧ Same HF H') ⟨⟨v9, v10, rfl⟩, Same.refl HF⟩ (fun j σ H' _ s => lst_of (s.2 _ _ hF)) ?_ ?_⟩
        · rintro j x σ H16 hx ⟨⟨w9, w10, rfl⟩, s16⟩
          obtain ⟨o, pv⟩ := tv x (List.mem_of_getElem? hx)
          refine ⟨_, rfl, _, rfl, _, rfl, _, rfl, _, rfl, x, o, t, Lk, m, th, ms, z, qs, lks, rfl, pv.same s16, s16.sqt hTF, tok, lkF.same s16, gk, lk12, s16.sqt hmF, sub, zm, fun H17 s17 => ?_⟩
          have s1617 := s16.trans s17
          refine ⟨_, rfl, _, rfl, _, rfl, _, rfl, (by show 5 ≤ sizeLine; decide), fun c nc => ?_⟩
          have sc := Same.new nc (o := .tup [.str "perhaps", .ref t, .ref g, .ref m, .str z])
          have s18 := s1617.trans sc
          exact ⟨_, rfl, _, rfl, c, t, m, th, ms, z, .ref g, x, linesO lks, o, rfl, tup_of upd_same, s18.sqt hTF, tok, tg _ (s18.sqt hgF), s18.sqt hmF, sub, zm, pv.same s18, fun H19 s19 => ⟨_, rfl, iteF ⟨⟨_, _, rfl⟩, s18.trans s19⟩⟩⟩
        · rintro σ H16 ⟨⟨w9, w10, rfl⟩, s16⟩
          exact ⟨⟨_, _, _, _, _, _, rfl⟩, sbF.trans (SameB.of s16), (uF.same s16).mono (by omega)⟩
    · rintro σ H8 ⟨⟨v5, v6, v7, v8, v9, v10, rfl⟩, sb8, u8⟩
      exact k H8 (sb07.trans sb8)
end
end MH
namespace MH
open PySem PySem.Spec PyProof.Rows L2
theorem txOk_of {z : Str} (h : (z.cps.toList.all (fun c => decide (c < 0x110000)) && (decide (z.length ≤ 1000) && decide (many z ≤ 40))) = true) : TxOk z := by
  simp only [Bool.and_eq_true, decide_eq_true_eq, List.all_eq_true] at h
  exact ⟨h.1, h.2.1, h.2.2⟩
theorem tupS {K : PySem.W.Frag} {H : Hp} {x : Addr} {zs : List Str} (h : SqT K H x (zs.map V.str)) (t : ∀ z ∈ zs, TxOk z) (l : zs.length ≤ 100) : TupV K H (.ref x) (some (zs.map some)) := (CtL.strs t).tup h (by rw [List.length_map]; omega)
theorem thOk_by {th : List Str} (h : (!decide (th = []) && (decide (th.length ≤ 10) && (th.all nameOk && ascB th))) = true) : ThOk th := by
  simp only [Bool.and_eq_true, decide_eq_true_eq, List.all_eq_true, Bool.not_eq_true', decide_eq_false_iff_not] at h
  exact ⟨h.1, h.2.1, h.2.2.1, h.2.2.2⟩
theorem tx_all {zs : List Str} (h : (zs.all fun z => z.cps.toList.all (fun c => decide (c < 0x110000)) && (decide (z.length ≤ 1000) && decide (many z ≤ 40))) = true) : ∀ z ∈ zs, TxOk z := fun z hz => txOk_of (List.all_eq_true.mp h z hz)
def thA : List Str := ["a", "b", "c"]
def lkA : List Str := ["a+ b+ c-"]
def mA : List Str := ["a", "c"]
def w1A : List Str := ["a b c", "b c a"]
def w2A : List Str := ["a b c", "b a c"]
def O1 : Option (List (Option Str)) := some (w1A.map some)
def O2 : Option (List (Option Str)) := some (w2A.map some)
def dueA (o : Option (List (Option (List (Option Str))))) : Bool := perhapsO (some (lkA.map some)) o thA mA "c"
theorem due_yes : dueA (some [O1, O2]) = true := by decide +kernel
theorem due_no : dueA (some [O2, O1]) = false ∧ dueA (some [O1, O1]) = false ∧ dueA (some [O2, O2]) = false ∧ dueA (some [O1]) = false ∧ dueA (some [O1, some []]) = false ∧ dueA none = false ∧ dueA (some [O1, some ([("a b c" : Str)].map some)]) = false ∧ dueA (some [some ([("b c a" : Str)].map some), O2]) = false ∧ dueA (some [O1, O2, O1]) = false := by decide +kernel
theorem thA_ok : ThOk thA := thOk_by (by decide +kernel)
theorem mA_sub : mA.Sublist thA := by decide +kernel
theorem c_mA : ("c" : Str) ∈ mA := by decide +kernel
def spLaw (K : PySem.W.Frag) : Sp := fun vs H Q _ => ∃ (a : Addr) (ns : List Int), vs = [.ref a] ∧ SqL K H a (ns.map V.int) ∧ ns.length ≤ 63 ∧ ∀ H', Q (.bl true) H'
section
variable {P : Program} {w : World} {K : PySem.W.Frag} {mg : Str → Option Value} {base : Heap}
theorem g_law (T : Tx K mg w) : FnG P w K mg base 11 T.a_law (spLaw K) := by
  refine fun_g T.F_law sc_law T.b_law (fun vs H Q E h => ?_) (fun cdv A outer s H vs Q hg hr h => ?_)
  · obtain ⟨a, ns, rfl, _⟩ := h
    rfl
  · obtain ⟨a, ns, rfl, hS, hlen, k⟩ := h
    refine ⟨_, (pss_cons (ps_set (i := 1) sc_law.nd rfl (Or.inl rfl) (pe_tup (pa_cons pe_str (pa_cons (pe_tup (pa_cons pe_str (pa_cons pe_str (pa_cons pe_str pa_nil)))) (pa_cons (pe_tup (pa_cons pe_str pa_nil)) (pa_cons (pe_tup (pa_cons pe_str (pa_cons pe_str pa_nil))) (pa_cons pe_str pa_nil)))))))
      (pss_cons (ps_asg (pe_tup (pa_cons (pe_tup (pa_cons pe_str (pa_cons pe_str pa_nil))) (pa_cons (pe_tup (pa_cons pe_str (pa_cons pe_str pa_nil))) pa_nil))) (pg_tup rfl (pgs_cons (pg_name (i := 2) sc_law.nd rfl (Or.inl rfl)) (pgs_cons (pg_name (i := 3) sc_law.nd rfl (Or.inl rfl)) pgs_nil))))
      (pss_cons (ps_if (pt_not (pt_val (pe_callg (g_l_told T) hg (hr.mono (by decide)) rfl T.g_l_told T.F_l_told.kp (pa_cons (pv 1) (pa_cons (pe_tup (pa_cons (pv 2) (pa_cons (pv 3) pa_nil))) (pa_cons pe_bl pa_nil))))))
        (pss_one (ps_ret pe_bl))
        pss_nil)
      (pss_cons (ps_set (i := 4) sc_law.nd rfl (Or.inl rfl) (pe_lst (pa_cons (pe_tup (pa_cons (pv 3) (pa_cons (pv 2) pa_nil))) (pa_cons (pe_tup (pa_cons (pv 2) (pa_cons (pv 2) pa_nil))) (pa_cons (pe_tup (pa_cons (pv 3) (pa_cons (pv 3) pa_nil))) (pa_cons (pe_tup (pa_cons (pv 2) pa_nil)) (pa_cons (pe_tup (pa_cons (pv 2) (pa_cons (pe_tup pa_nil) pa_nil))) (pa_cons pe_non pa_nil))))))))
      (pss_cons (ps_set (i := 4) sc_law.nd rfl (Or.inl rfl) (pe_op op_cat (pv 4) (pe_lst (pa_cons (pe_lst (pa_cons (pv 2) (pa_cons (pv 3) pa_nil))) (pa_cons (pe_tup (pa_cons (pv 2) (pa_cons (pe_tup (pa_cons pe_str pa_nil)) pa_nil))) (pa_cons (pe_tup (pa_cons (pe_tup (pa_cons pe_str pa_nil)) (pa_cons (pv 3) pa_nil))) pa_nil))))))
      (pss_cons (ps_for PassesOwn.never rfl (pi_list (pe_op op_cat (pv 4) (pe_lst (pa_cons (pe_tup (pa_cons (pv 2) (pa_cons (pv 3) (pa_cons (pv 2) pa_nil)))) pa_nil)))) (pg_name (i := 5) sc_law.nd rfl (Or.inl rfl))
        (pss_one (ps_if (pt_not (pt_val (pe_callg (g_l_told T) hg (hr.mono (by decide)) rfl T.g_l_told T.F_l_told.kp (pa_cons (pv 1) (pa_cons (pv 5) (pa_cons pe_bl pa_nil))))))
        (pss_one (ps_ret pe_bl))
        pss_nil)))
      (pss_one (ps_ret (pe_callB (cr_all rfl) (by rfl) T.n_all (by decide +kernel) (pa_cons (pe_lc (own := [("_law_k", 6)]) (g := gName 6) (tt := tYes) rfl sc_law.nd (pi_range1 (by rfl) T.n_range (pa_cons (pe_callB (call_max2 rfl) (by rfl) T.n_max (by decide +kernel) (pa_cons pe_int (pa_cons (pe_callB (call_min2 rfl) (by rfl) T.n_min (by decide +kernel) (pa_cons (pe_callB call_len_seq (by rfl) T.n_len (by decide +kernel) (pa_cons (pv 0) pa_nil)) (pa_cons pe_int pa_nil))) pa_nil))) pa_nil)) (blkOk_by (own := [("_law_k", 6)]) (N := names_law) (sc := defScope st_law) (by decide +kernel)) (fun _ _ _ _ _ => pg_name (i := 6) sc_law.nd rfl (Or.inl rfl)) (fun _ _ _ _ _ => pts_nil) (fun _ _ _ _ _ => (pe_callg (g_l_right T) hg (hr.mono (by decide)) rfl T.g_l_right T.F_l_right.kp (pa_cons (pe_call (ok_l_pot T) (hr.mono (by decide)) rfl T.g_l_pot T.F_l_pot.kp T.b_l_pot .nil pass0 (pa_cons (pv 0) (pa_cons (pv 6) pa_nil))) pa_nil)))) pa_nil)))))))))), ?_⟩
    have l3 : ∀ n, n ≤ 10 → n ≤ sizeLine := fun n h => Nat.le_trans h (by decide)
    refine ⟨l3 3 (by decide), fun t nt => ?_⟩
    have st := Same.new nt (o := .tup [V.str "a", V.str "b", V.str "c"])
    have ht : SqT K (upd H t (.tup [V.str "a", V.str "b", V.str "c"])) t [V.str "a", V.str "b", V.str "c"] := tup_of upd_same
    generalize upd H t (.tup [V.str "a", V.str "b", V.str "c"]) = G1 at st ht ⊢
    have S := st
    refine ⟨l3 1 (by decide), fun gl ngl => ?_⟩
    have sgl := Same.new ngl (o := .tup [V.str "a+ b+ c-"])
    have hgl : SqT K (upd G1 gl (.tup [V.str "a+ b+ c-"])) gl [V.str "a+ b+ c-"] := tup_of upd_same
    generalize upd G1 gl (.tup [V.str "a+ b+ c-"]) = G2 at sgl hgl ⊢
    have ht := sgl.sqt ht
    have S := S.trans sgl
    refine ⟨l3 2 (by decide), fun m nm => ?_⟩
    have sm := Same.new nm (o := .tup [V.str "a", V.str "c"])
    have hm : SqT K (upd G2 m (.tup [V.str "a", V.str "c"])) m [V.str "a", V.str "c"] := tup_of upd_same
    generalize upd G2 m (.tup [V.str "a", V.str "c"]) = G3 at sm hm ⊢
    have ht := sm.sqt ht
    have hgl := sm.sqt hgl
    have S := S.trans sm
    refine ⟨l3 5 (by decide), fun c nc => ?_⟩
    have sc := Same.new nc (o := .tup [V.str "perhaps", .ref t, .ref gl, .ref m, V.str "c"])
    have hc : SqT K (upd G3 c (.tup [V.str "perhaps", .ref t, .ref gl, .ref m, V.str "c"])) c [V.str "perhaps", .ref t, .ref gl, .ref m, V.str "c"] := tup_of upd_same
    generalize upd G3 c (.tup [V.str "perhaps", .ref t, .ref gl, .ref m, V.str "c"]) = G4 at sc hc ⊢
    have ht := sc.sqt ht
    have hgl := sc.sqt hgl
    have hm := sc.sqt hm
    have S := S.trans sc
    refine ⟨l3 2 (by decide), fun w1 nw1 => ?_⟩
    have sw1 := Same.new nw1 (o := .tup [V.str "a b c", V.str "b c a"])
    have hw1 : SqT K (upd G4 w1 (.tup [V.str "a b c", V.str "b c a"])) w1 [V.str "a b c", V.str "b c a"] := tup_of upd_same
    generalize upd G4 w1 (.tup [V.str "a b c", V.str "b c a"]) = G5 at sw1 hw1 ⊢
    have ht := sw1.sqt ht
    have hgl := sw1.sqt hgl
    have hm := sw1.sqt hm
    have hc := sw1.sqt hc
    have S := S.trans sw1
    refine ⟨l3 2 (by decide), fun w2 nw2 => ?_⟩
    have sw2 := Same.new nw2 (o := .tup [V.str "a b c", V.str "b a c"])
    have hw2 : SqT K (upd G5 w2 (.tup [V.str "a b c", V.str "b a c"])) w2 [V.str "a b c", V.str "b a c"] := tup_of upd_same
    generalize upd G5 w2 (.tup [V.str "a b c", V.str "b a c"]) = G6 at sw2 hw2 ⊢
    have ht := sw2.sqt ht
    have hgl := sw2.sqt hgl
    have hm := sw2.sqt hm
    have hc := sw2.sqt hc
    have hw1 := sw2.sqt hw1
    have S := S.trans sw2
    refine ⟨l3 2 (by decide), fun w0 nw0 => ?_⟩
    have sw0 := Same.new nw0 (o := .tup [.ref w1, .ref w2])
    have hw0 : SqT K (upd G6 w0 (.tup [.ref w1, .ref w2])) w0 [.ref w1, .ref w2] := tup_of upd_same
    generalize upd G6 w0 (.tup [.ref w1, .ref w2]) = G7 at sw0 hw0 ⊢
    have ht := sw0.sqt ht
    have hgl := sw0.sqt hgl
    have hm := sw0.sqt hm
    have hc := sw0.sqt hc
    have hw1 := sw0.sqt hw1
    have hw2 := sw0.sqt hw2
    have S := S.trans sw0
    refine ⟨w0, _, rfl, hw0, rfl, _, _, rfl, _, _, rfl, rfl, ?_⟩
    refine ⟨_, rfl, _, rfl, _, rfl, l3 2 (by decide), fun p1 np1 => ?_⟩
    have sp1 := Same.new np1 (o := .tup [.ref w1, .ref w2])
    have hp1 : SqT K (upd G7 p1 (.tup [.ref w1, .ref w2])) p1 [.ref w1, .ref w2] := tup_of upd_same
    generalize upd G7 p1 (.tup [.ref w1, .ref w2]) = G8 at sp1 hp1 ⊢
    have ht := sp1.sqt ht
    have hgl := sp1.sqt hgl
    have hm := sp1.sqt hm
    have hc := sp1.sqt hc
    have hw1 := sp1.sqt hw1
    have hw2 := sp1.sqt hw2
    have hw0 := sp1.sqt hw0
    have S := S.trans sp1
    have tx1 : ∀ z ∈ w1A, TxOk z := tx_all (by decide +kernel)
    have tx2 : ∀ z ∈ w2A, TxOk z := tx_all (by decide +kernel)
    have txl : ∀ z ∈ lkA, TxOk z := tx_all (by decide +kernel)
    have tt1 : ∀ Hx, SqT K Hx w1 [V.str "a b c", V.str "b c a"] → TupV K Hx (.ref w1) O1 := fun Hx h => tupS (zs := w1A) h tx1 (by decide)
    have tt2 : ∀ Hx, SqT K Hx w2 [V.str "a b c", V.str "b a c"] → TupV K Hx (.ref w2) O2 := fun Hx h => tupS (zs := w2A) h tx2 (by decide)
    have tl : ∀ Hx, SqT K Hx gl [V.str "a+ b+ c-"] → TupV K Hx (.ref gl) (some (lkA.map some)) := fun Hx h => tupS (zs := lkA) h txl (by decide)
    refine ⟨c, t, m, thA, mA, "c", .ref gl, .ref p1, some (lkA.map some), some [O1, O2], congrArg (fun b => [V.ref c, V.ref p1, V.bl b]) due_yes.symm, hc, ht, thA_ok, tl _ hgl, hm, mA_sub, c_mA, pp2 hp1 (tt1 _ hw1) (tt2 _ hw2), fun K1 r1 => ⟨_, rfl, iteF ?_⟩⟩
    have ht := r1.sqt ht
    have hgl := r1.sqt hgl
    have hm := r1.sqt hm
    have hc := r1.sqt hc
    have hw1 := r1.sqt hw1
    have hw2 := r1.sqt hw2
    have hw0 := r1.sqt hw0
    have hp1 := r1.sqt hp1
    have S := S.trans r1
    refine ⟨_, rfl, _, rfl, l3 2 (by decide), fun q1 nq1 => ?_⟩
    have sq1 := Same.new nq1 (o := .tup [.ref w2, .ref w1])
    have hq1 : SqT K (upd K1 q1 (.tup [.ref w2, .ref w1])) q1 [.ref w2, .ref w1] := tup_of upd_same
    generalize upd K1 q1 (.tup [.ref w2, .ref w1]) = G9 at sq1 hq1 ⊢
    have ht := sq1.sqt ht
    have hgl := sq1.sqt hgl
    have hm := sq1.sqt hm
    have hc := sq1.sqt hc
    have hw1 := sq1.sqt hw1
    have hw2 := sq1.sqt hw2
    have hw0 := sq1.sqt hw0
    have hp1 := sq1.sqt hp1
    have S := S.trans sq1
    refine ⟨_, rfl, _, rfl, l3 2 (by decide), fun q2 nq2 => ?_⟩
    have sq2 := Same.new nq2 (o := .tup [.ref w1, .ref w1])
    have hq2 : SqT K (upd G9 q2 (.tup [.ref w1, .ref w1])) q2 [.ref w1, .ref w1] := tup_of upd_same
    generalize upd G9 q2 (.tup [.ref w1, .ref w1]) = G10 at sq2 hq2 ⊢
    have ht := sq2.sqt ht
    have hgl := sq2.sqt hgl
    have hm := sq2.sqt hm
    have hc := sq2.sqt hc
    have hw1 := sq2.sqt hw1
    have hw2 := sq2.sqt hw2
    have hw0 := sq2.sqt hw0
    have hp1 := sq2.sqt hp1
    have hq1 := sq2.sqt hq1
    have S := S.trans sq2
    refine ⟨_, rfl, _, rfl, l3 2 (by decide), fun q3 nq3 => ?_⟩
    have sq3 := Same.new nq3 (o := .tup [.ref w2, .ref w2])
    have hq3 : SqT K (upd G10 q3 (.tup [.ref w2, .ref w2])) q3 [.ref w2, .ref w2] := tup_of upd_same
    generalize upd G10 q3 (.tup [.ref w2, .ref w2]) = G11 at sq3 hq3 ⊢
    have ht := sq3.sqt ht
    have hgl := sq3.sqt hgl
    have hm := sq3.sqt hm
    have hc := sq3.sqt hc
    have hw1 := sq3.sqt hw1
    have hw2 := sq3.sqt hw2
    have hw0 := sq3.sqt hw0
    have hp1 := sq3.sqt hp1
    have hq1 := sq3.sqt hq1
    have hq2 := sq3.sqt hq2
    have S := S.trans sq3
    refine ⟨_, rfl, l3 1 (by decide), fun q4 nq4 => ?_⟩
    have sq4 := Same.new nq4 (o := .tup [.ref w1])
    have hq4 : SqT K (upd G11 q4 (.tup [.ref w1])) q4 [.ref w1] := tup_of upd_same
    generalize upd G11 q4 (.tup [.ref w1]) = G12 at sq4 hq4 ⊢
    have ht := sq4.sqt ht
    have hgl := sq4.sqt hgl
    have hm := sq4.sqt hm
    have hc := sq4.sqt hc
    have hw1 := sq4.sqt hw1
    have hw2 := sq4.sqt hw2
    have hw0 := sq4.sqt hw0
    have hp1 := sq4.sqt hp1
    have hq1 := sq4.sqt hq1
    have hq2 := sq4.sqt hq2
    have hq3 := sq4.sqt hq3
    have S := S.trans sq4
    refine ⟨_, rfl, l3 0 (by decide), fun e5 ne5 => ?_⟩
    have se5 := Same.new ne5 (o := .tup [])
    have he5 : SqT K (upd G12 e5 (.tup [])) e5 [] := tup_of upd_same
    generalize upd G12 e5 (.tup []) = G13 at se5 he5 ⊢
    have ht := se5.sqt ht
    have hgl := se5.sqt hgl
    have hm := se5.sqt hm
    have hc := se5.sqt hc
    have hw1 := se5.sqt hw1
    have hw2 := se5.sqt hw2
    have hw0 := se5.sqt hw0
    have hp1 := se5.sqt hp1
    have hq1 := se5.sqt hq1
    have hq2 := se5.sqt hq2
    have hq3 := se5.sqt hq3
    have hq4 := se5.sqt hq4
    have S := S.trans se5
    refine ⟨l3 2 (by decide), fun q5 nq5 => ?_⟩
    have sq5 := Same.new nq5 (o := .tup [.ref w1, .ref e5])
    have hq5 : SqT K (upd G13 q5 (.tup [.ref w1, .ref e5])) q5 [.ref w1, .ref e5] := tup_of upd_same
    generalize upd G13 q5 (.tup [.ref w1, .ref e5]) = G14 at sq5 hq5 ⊢
    have ht := sq5.sqt ht
    have hgl := sq5.sqt hgl
    have hm := sq5.sqt hm
    have hc := sq5.sqt hc
    have hw1 := sq5.sqt hw1
    have hw2 := sq5.sqt hw2
    have hw0 := sq5.sqt hw0
    have hp1 := sq5.sqt hp1
    have hq1 := sq5.sqt hq1
    have hq2 := sq5.sqt hq2
    have hq3 := sq5.sqt hq3
    have hq4 := sq5.sqt hq4
    have he5 := sq5.sqt he5
    have S := S.trans sq5
    refine ⟨l3 6 (by decide), fun P1 nP1 => ?_⟩
    have sP1 := Same.new nP1 (o := .lst [.ref q1, .ref q2, .ref q3, .ref q4, .ref q5, .non])
    have eP1 : (upd G14 P1 (.lst [.ref q1, .ref q2, .ref q3, .ref q4, .ref q5, .non])) P1 = some (.lst [.ref q1, .ref q2, .ref q3, .ref q4, .ref q5, .non]) := upd_same
    generalize upd G14 P1 (.lst [.ref q1, .ref q2, .ref q3, .ref q4, .ref q5, .non]) = G15 at sP1 eP1 ⊢
    have ht := sP1.sqt ht
    have hgl := sP1.sqt hgl
    have hm := sP1.sqt hm
    have hc := sP1.sqt hc
    have hw1 := sP1.sqt hw1
    have hw2 := sP1.sqt hw2
    have hw0 := sP1.sqt hw0
    have hp1 := sP1.sqt hp1
    have hq1 := sP1.sqt hq1
    have hq2 := sP1.sqt hq2
    have hq3 := sP1.sqt hq3
    have hq4 := sP1.sqt hq4
    have he5 := sP1.sqt he5
    have hq5 := sP1.sqt hq5
    have S := S.trans sP1
    refine ⟨_, rfl, _, rfl, _, rfl, l3 2 (by decide), fun L7 nL7 => ?_⟩
    have sL7 := Same.new nL7 (o := .lst [.ref w1, .ref w2])
    have eL7 : (upd G15 L7 (.lst [.ref w1, .ref w2])) L7 = some (.lst [.ref w1, .ref w2]) := upd_same
    generalize upd G15 L7 (.lst [.ref w1, .ref w2]) = G16 at sL7 eL7 ⊢
    have ht := sL7.sqt ht
    have hgl := sL7.sqt hgl
    have hm := sL7.sqt hm
    have hc := sL7.sqt hc
    have hw1 := sL7.sqt hw1
    have hw2 := sL7.sqt hw2
    have hw0 := sL7.sqt hw0
    have hp1 := sL7.sqt hp1
    have hq1 := sL7.sqt hq1
    have hq2 := sL7.sqt hq2
    have hq3 := sL7.sqt hq3
    have hq4 := sL7.sqt hq4
    have he5 := sL7.sqt he5
    have hq5 := sL7.sqt hq5
    have eP1 := sL7 _ _ eP1
    have S := S.trans sL7
    refine ⟨_, rfl, l3 1 (by decide), fun x8 nx8 => ?_⟩
    have sx8 := Same.new nx8 (o := .tup [V.str "a b c"])
    have hx8 : SqT K (upd G16 x8 (.tup [V.str "a b c"])) x8 [V.str "a b c"] := tup_of upd_same
    generalize upd G16 x8 (.tup [V.str "a b c"]) = G17 at sx8 hx8 ⊢
    have ht := sx8.sqt ht
    have hgl := sx8.sqt hgl
    have hm := sx8.sqt hm
    have hc := sx8.sqt hc
    have hw1 := sx8.sqt hw1
    have hw2 := sx8.sqt hw2
    have hw0 := sx8.sqt hw0
    have hp1 := sx8.sqt hp1
    have hq1 := sx8.sqt hq1
    have hq2 := sx8.sqt hq2
    have hq3 := sx8.sqt hq3
    have hq4 := sx8.sqt hq4
    have he5 := sx8.sqt he5
    have hq5 := sx8.sqt hq5
    have eP1 := sx8 _ _ eP1
    have eL7 := sx8 _ _ eL7
    have S := S.trans sx8
    refine ⟨l3 2 (by decide), fun q8 nq8 => ?_⟩
    have sq8 := Same.new nq8 (o := .tup [.ref w1, .ref x8])
    have hq8 : SqT K (upd G17 q8 (.tup [.ref w1, .ref x8])) q8 [.ref w1, .ref x8] := tup_of upd_same
    generalize upd G17 q8 (.tup [.ref w1, .ref x8]) = G18 at sq8 hq8 ⊢
    have ht := sq8.sqt ht
    have hgl := sq8.sqt hgl
    have hm := sq8.sqt hm
    have hc := sq8.sqt hc
    have hw1 := sq8.sqt hw1
    have hw2 := sq8.sqt hw2
    have hw0 := sq8.sqt hw0
    have hp1 := sq8.sqt hp1
    have hq1 := sq8.sqt hq1
    have hq2 := sq8.sqt hq2
    have hq3 := sq8.sqt hq3
    have hq4 := sq8.sqt hq4
    have he5 := sq8.sqt he5
    have hq5 := sq8.sqt hq5
    have eP1 := sq8 _ _ eP1
    have eL7 := sq8 _ _ eL7
    have hx8 := sq8.sqt hx8
    have S := S.trans sq8
    refine ⟨l3 1 (by decide), fun x9 nx9 => ?_⟩
    have sx9 := Same.new nx9 (o := .tup [V.str "b c a"])
    have hx9 : SqT K (upd G18 x9 (.tup [V.str "b c a"])) x9 [V.str "b c a"] := tup_of upd_same
    generalize upd G18 x9 (.tup [V.str "b c a"]) = G19 at sx9 hx9 ⊢
    have ht := sx9.sqt ht
    have hgl := sx9.sqt hgl
    have hm := sx9.sqt hm
    have hc := sx9.sqt hc
    have hw1 := sx9.sqt hw1
    have hw2 := sx9.sqt hw2
    have hw0 := sx9.sqt hw0
    have hp1 := sx9.sqt hp1
    have hq1 := sx9.sqt hq1
    have hq2 := sx9.sqt hq2
    have hq3 := sx9.sqt hq3
    have hq4 := sx9.sqt hq4
    have he5 := sx9.sqt he5
    have hq5 := sx9.sqt hq5
    have eP1 := sx9 _ _ eP1
    have eL7 := sx9 _ _ eL7
    have hx8 := sx9.sqt hx8
    have hq8 := sx9.sqt hq8
    have S := S.trans sx9
    refine ⟨_, rfl, l3 2 (by decide), fun q9 nq9 => ?_⟩
    have sq9 := Same.new nq9 (o := .tup [.ref x9, .ref w2])
    have hq9 : SqT K (upd G19 q9 (.tup [.ref x9, .ref w2])) q9 [.ref x9, .ref w2] := tup_of upd_same
    generalize upd G19 q9 (.tup [.ref x9, .ref w2]) = G20 at sq9 hq9 ⊢
    have ht := sq9.sqt ht
    have hgl := sq9.sqt hgl
    have hm := sq9.sqt hm
    have hc := sq9.sqt hc
    have hw1 := sq9.sqt hw1
    have hw2 := sq9.sqt hw2
    have hw0 := sq9.sqt hw0
    have hp1 := sq9.sqt hp1
    have hq1 := sq9.sqt hq1
    have hq2 := sq9.sqt hq2
    have hq3 := sq9.sqt hq3
    have hq4 := sq9.sqt hq4
    have he5 := sq9.sqt he5
    have hq5 := sq9.sqt hq5
    have eP1 := sq9 _ _ eP1
    have eL7 := sq9 _ _ eL7
    have hx8 := sq9.sqt hx8
    have hq8 := sq9.sqt hq8
    have hx9 := sq9.sqt hx9
    have S := S.trans sq9
    refine ⟨l3 3 (by decide), fun P2 nP2 => ?_⟩
    have sP2 := Same.new nP2 (o := .lst [.ref L7, .ref q8, .ref q9])
    have eP2 : (upd G20 P2 (.lst [.ref L7, .ref q8, .ref q9])) P2 = some (.lst [.ref L7, .ref q8, .ref q9]) := upd_same
    generalize upd G20 P2 (.lst [.ref L7, .ref q8, .ref q9]) = G21 at sP2 eP2 ⊢
    have ht := sP2.sqt ht
    have hgl := sP2.sqt hgl
    have hm := sP2.sqt hm
    have hc := sP2.sqt hc
    have hw1 := sP2.sqt hw1
    have hw2 := sP2.sqt hw2
    have hw0 := sP2.sqt hw0
    have hp1 := sP2.sqt hp1
    have hq1 := sP2.sqt hq1
    have hq2 := sP2.sqt hq2
    have hq3 := sP2.sqt hq3
    have hq4 := sP2.sqt hq4
    have he5 := sP2.sqt he5
    have hq5 := sP2.sqt hq5
    have eP1 := sP2 _ _ eP1
    have eL7 := sP2 _ _ eL7
    have hx8 := sP2.sqt hx8
    have hq8 := sP2.sqt hq8
    have hx9 := sP2.sqt hx9
    have hq9 := sP2.sqt hq9
    have S := S.trans sP2
    refine ⟨P1, P2, _, _, rfl, rfl, eP1, eP2, l3 9 (by decide), fun P3 nP3 => ?_⟩
    have sP3 := Same.new nP3 (o := .lst ([V.ref q1, V.ref q2, V.ref q3, V.ref q4, V.ref q5, V.non] ++ [V.ref L7, V.ref q8, V.ref q9]))
    have eP3 : (upd G21 P3 (.lst ([V.ref q1, V.ref q2, V.ref q3, V.ref q4, V.ref q5, V.non] ++ [V.ref L7, V.ref q8, V.ref q9]))) P3 = some (.lst ([V.ref q1, V.ref q2, V.ref q3, V.ref q4, V.ref q5, V.non] ++ [V.ref L7, V.ref q8, V.ref q9])) := upd_same
    generalize upd G21 P3 (.lst ([V.ref q1, V.ref q2, V.ref q3, V.ref q4, V.ref q5, V.non] ++ [V.ref L7, V.ref q8, V.ref q9])) = G22 at sP3 eP3 ⊢
    have ht := sP3.sqt ht
    have hgl := sP3.sqt hgl
    have hm := sP3.sqt hm
    have hc := sP3.sqt hc
    have hw1 := sP3.sqt hw1
    have hw2 := sP3.sqt hw2
    have hw0 := sP3.sqt hw0
    have hp1 := sP3.sqt hp1
    have hq1 := sP3.sqt hq1
    have hq2 := sP3.sqt hq2
    have hq3 := sP3.sqt hq3
    have hq4 := sP3.sqt hq4
    have he5 := sP3.sqt he5
    have hq5 := sP3.sqt hq5
    have eP1 := sP3 _ _ eP1
    have eL7 := sP3 _ _ eL7
    have hx8 := sP3.sqt hx8
    have hq8 := sP3.sqt hq8
    have hx9 := sP3.sqt hx9
    have hq9 := sP3.sqt hq9
    have eP2 := sP3 _ _ eP2
    have S := S.trans sP3
    refine ⟨_, rfl, _, rfl, _, rfl, _, rfl, l3 3 (by decide), fun q10 nq10 => ?_⟩
    have sq10 := Same.new nq10 (o := .tup [.ref w1, .ref w2, .ref w1])
    have hq10 : SqT K (upd G22 q10 (.tup [.ref w1, .ref w2, .ref w1])) q10 [.ref w1, .ref w2, .ref w1] := tup_of upd_same
    generalize upd G22 q10 (.tup [.ref w1, .ref w2, .ref w1]) = G23 at sq10 hq10 ⊢
    have ht := sq10.sqt ht
    have hgl := sq10.sqt hgl
    have hm := sq10.sqt hm
    have hc := sq10.sqt hc
    have hw1 := sq10.sqt hw1
    have hw2 := sq10.sqt hw2
    have hw0 := sq10.sqt hw0
    have hp1 := sq10.sqt hp1
    have hq1 := sq10.sqt hq1
    have hq2 := sq10.sqt hq2
    have hq3 := sq10.sqt hq3
    have hq4 := sq10.sqt hq4
    have he5 := sq10.sqt he5
    have hq5 := sq10.sqt hq5
    have eP1 := sq10 _ _ eP1
    have eL7 := sq10 _ _ eL7
    have hx8 := sq10.sqt hx8
    have hq8 := sq10.sqt hq8
    have hx9 := sq10.sqt hx9
    have hq9 := sq10.sqt hq9
    have eP2 := sq10 _ _ eP2
    have eP3 := sq10 _ _ eP3
    have S := S.trans sq10
    refine ⟨l3 1 (by decide), fun P4 nP4 => ?_⟩
    have sP4 := Same.new nP4 (o := .lst [.ref q10])
    have eP4 : (upd G23 P4 (.lst [.ref q10])) P4 = some (.lst [.ref q10]) := upd_same
    generalize upd G23 P4 (.lst [.ref q10]) = G24 at sP4 eP4 ⊢
    have ht := sP4.sqt ht
    have hgl := sP4.sqt hgl
    have hm := sP4.sqt hm
    have hc := sP4.sqt hc
    have hw1 := sP4.sqt hw1
    have hw2 := sP4.sqt hw2
    have hw0 := sP4.sqt hw0
    have hp1 := sP4.sqt hp1
    have hq1 := sP4.sqt hq1
    have hq2 := sP4.sqt hq2
    have hq3 := sP4.sqt hq3
    have hq4 := sP4.sqt hq4
    have he5 := sP4.sqt he5
    have hq5 := sP4.sqt hq5
    have eP1 := sP4 _ _ eP1
    have eL7 := sP4 _ _ eL7
    have hx8 := sP4.sqt hx8
    have hq8 := sP4.sqt hq8
    have hx9 := sP4.sqt hx9
    have hq9 := sP4.sqt hq9
    have eP2 := sP4 _ _ eP2
    have eP3 := sP4 _ _ eP3
    have hq10 := sP4.sqt hq10
    have S := S.trans sP4
    refine ⟨P3, P4, _, _, rfl, rfl, eP3, eP4, l3 10 (by decide), fun P5 nP5 => ?_⟩
    have sP5 := Same.new nP5 (o := .lst (([V.ref q1, V.ref q2, V.ref q3, V.ref q4, V.ref q5, V.non] ++ [V.ref L7, V.ref q8, V.ref q9]) ++ [V.ref q10]))
    have eP5 : (upd G24 P5 (.lst (([V.ref q1, V.ref q2, V.ref q3, V.ref q4, V.ref q5, V.non] ++ [V.ref L7, V.ref q8, V.ref q9]) ++ [V.ref q10]))) P5 = some (.lst (([V.ref q1, V.ref q2, V.ref q3, V.ref q4, V.ref q5, V.non] ++ [V.ref L7, V.ref q8, V.ref q9]) ++ [V.ref q10])) := upd_same
    generalize upd G24 P5 (.lst (([V.ref q1, V.ref q2, V.ref q3, V.ref q4, V.ref q5, V.non] ++ [V.ref L7, V.ref q8, V.ref q9]) ++ [V.ref q10])) = G25 at sP5 eP5 ⊢
    have ht := sP5.sqt ht
    have hgl := sP5.sqt hgl
    have hm := sP5.sqt hm
    have hc := sP5.sqt hc
    have hw1 := sP5.sqt hw1
    have hw2 := sP5.sqt hw2
    have hw0 := sP5.sqt hw0
    have hp1 := sP5.sqt hp1
    have hq1 := sP5.sqt hq1
    have hq2 := sP5.sqt hq2
    have hq3 := sP5.sqt hq3
    have hq4 := sP5.sqt hq4
    have he5 := sP5.sqt he5
    have hq5 := sP5.sqt hq5
    have eP1 := sP5 _ _ eP1
    have eL7 := sP5 _ _ eL7
    have hx8 := sP5.sqt hx8
    have hq8 := sP5.sqt hq8
    have hx9 := sP5.sqt hx9
    have hq9 := sP5.sqt hq9
    have eP2 := sP5 _ _ eP2
    have eP3 := sP5 _ _ eP3
    have hq10 := sP5.sqt hq10
    have eP4 := sP5 _ _ eP4
    have S := S.trans sP5
    have tv : ∀ v ∈ ([V.ref q1, V.ref q2, V.ref q3, V.ref q4, V.ref q5, V.non] ++ [V.ref L7, V.ref q8, V.ref q9]) ++ [V.ref q10], ∃ o, PpV K G25 v o ∧ dueA o = false := by
      obtain ⟨d1, d2, d3, d4, d5, d6, d7, d8, d9⟩ := due_no
      intro v hv
      simp only [List.cons_append, List.nil_append, List.mem_cons, List.not_mem_nil, or_false] at hv
      rcases hv with rfl | rfl | rfl | rfl | rfl | rfl | rfl | rfl | rfl | rfl
      · exact ⟨_, pp2 hq1 (tt2 _ hw2) (tt1 _ hw1), d1⟩
      · exact ⟨_, pp2 hq2 (tt1 _ hw1) (tt1 _ hw1), d2⟩
      · exact ⟨_, pp2 hq3 (tt2 _ hw2) (tt2 _ hw2), d3⟩
      · exact ⟨_, pp1 hq4 (tt1 _ hw1), d4⟩
      · exact ⟨_, pp2 hq5 (tt1 _ hw1) (tupS (zs := []) he5 (fun z hz => absurd hz List.not_mem_nil) (by decide)), d5⟩
      · exact ⟨_, .none (.base .non) (by decide +kernel), d6⟩
      · exact ⟨_, .none (sql_ty (K := K) (lst_of eL7)) (by decide +kernel), d6⟩
      · exact ⟨_, pp2 hq8 (tt1 _ hw1) (tupS (zs := [("a b c" : Str)]) hx8 (tx_all (by decide +kernel)) (by decide)), d7⟩
      · exact ⟨_, pp2 hq9 (tupS (zs := [("b c a" : Str)]) hx9 (tx_all (by decide +kernel)) (by decide)) (tt2 _ hw2), d8⟩
      · exact ⟨_, pp3 hq10 (tt1 _ hw1) (tt2 _ hw2) (tt1 _ hw1), d9⟩
    generalize ([V.ref q1, V.ref q2, V.ref q3, V.ref q4, V.ref q5, V.non] ++ [V.ref L7, V.ref q8, V.ref q9]) ++ [V.ref q10] = vs at eP5 tv ⊢
    refine ⟨P5, rfl, ⟨_, lst_of eP5⟩, for_list (K := K) (a := P5) (xs := vs) (fun i σ H' => Same G25 H' ∧ ∃ v w3 w4 w5, σ = [some (.ref a), some (.ref c), w3, w4, w5, v, none]) ⟨Same.refl _, none, _, _, _, rfl⟩ (fun i σ H' _ s => lst_of (s.1 _ _ eP5)) ?_ ?_⟩
    · rintro i x σ K3 hx ⟨s4, v, w3, w4, w5, rfl⟩
      obtain ⟨o, tvo, fo⟩ := tv x (List.mem_of_getElem? hx)
      exact ⟨_, rfl, _, rfl, c, t, m, thA, mA, "c", .ref gl, x, some (lkA.map some), o, congrArg (fun b => [V.ref c, x, V.bl b]) fo.symm, s4.sqt hc, s4.sqt ht, thA_ok, tl _ (s4.sqt hgl), s4.sqt hm, mA_sub, c_mA, tvo.same s4, fun K4 s5 => ⟨_, rfl, iteF ⟨s4.trans s5, _, _, _, _, rfl⟩⟩⟩
    rintro σ H5 ⟨s4, v, w3, w4, w5, rfl⟩
    have hS := (S.trans s4).sql hS
    have hl : (ns.map V.int).length = ns.length := List.length_map _
    clear tv eP5
    refine ⟨_, rfl, a, _, rfl, .inl hS, _, _, rfl, _, _, rfl, _, rfl, ?_, ?_, fun D nD => lc_range (lo := 0) (n := _) (fun i H' => Same H5 H' ∧ H' D = some (.lst (List.replicate i (V.bl true)))) ⟨Same.new nD, upd_same⟩ ?_ ?_⟩
    · omega
    · omega
    · rintro i H1 hi ⟨s1, e1⟩
      have hi : i < 100 := by omega
      refine ⟨rfl, ?_⟩
      rw [show (0 : Int) + (i : Int) = ((i : Nat) : Int) from Int.zero_add _]
      refine ⟨_, rfl, _, rfl, a, ns, i, rfl, s1.sql hS, hlen, by omega, fun H2 p s2 np pu => ⟨p, rfl, pu, fun H3 sb => ?_⟩⟩
      have nDp : D ≠ p := fun e => by
        rw [e, np] at e1
        cases e1
      have e3 := sb _ _ nDp (s2 _ _ e1)
      refine ⟨_, e3, lt_line (by rw [List.length_replicate]; omega), fun b o e => ?_, ?_⟩
      · rw [upd_ne (ne_of_none e nD)]
        have h1 := s1 _ _ e
        exact sb _ _ (ne_of_none h1 np) (s2 _ _ h1)
      · rw [upd_same, List.replicate_succ']
    · rintro H1 ⟨s1, e1⟩
      refine ⟨D, List.replicate _ true, rfl, lst_of (by rw [e1, List.map_replicate]), ?_⟩
      have e : ∀ n : Nat, (List.replicate n true).all id = true := fun n => List.all_eq_true.mpr fun b hb => List.eq_of_mem_replicate hb
      rw [e]
      exact k _
end
section
variable {P : Program} {w : World} {K : PySem.W.Frag} {mg : Str → Option Value} {base : Heap}
theorem walk0 {l : PySem.W.OpenLaw} {q : Program} {loose : List Str} {XP : (Str → Option Value) → Heap → Prop} {YP : World → Heap → Prop} {d : DefRec} {K : Params → PySem.W.Frag}
    (hn : l.most = some 63) (hdf : d.params.defaults = []) (hd : d.name = "law") (hY : ∀ (w : World) (h : Heap), YP w h → (K w.params).In h)
    (F : ∀ (w : World) (mg : Str → Option Value) (fa : Addr) (h : Heap), (K w.params).In h → h.Ns mainGlobals mg → mg "law" = some (.ref fa) → ∃ T : Tx (K w.params) mg w, T.a_law = fa) : PySem.W.WalkO q loose XP YP l.row.toRowW d [] (fun f vs => PySem.call f vs) := by
  refine walk_g (sp := spLaw) (k := 11) hn (by decide) hdf ⟨rfl, by decide, by decide⟩ hY (fun w mg fa h KX G hmg base hb hg => ?_) fun K H a ns hl hS => ⟨a, ns, rfl, hS, hl, fun _ => rfl⟩
  rw [hd] at hmg
  obtain ⟨T, rfl⟩ := F w mg fa h KX G hmg
  exact g_law T
end
end MH
open PySem PySem.W PySem.Calls PyProof.Rows in
set_option maxRecDepth 100000 in
set_option maxHeartbeats 0 in
theorem PySem.Challenge.cw_menuhouses_k72_two_peoples_judged_holds : PySem.Challenge.rw_menuhouses_k72_two_peoples_judged.Holds := by
  w_on; o_law
  refine holds_open (r := MHead.R0) (q := MHead.view0) (loose := MHead.loose0) (Xt := MHead.X0) (XP := XL MHead.view0 []) (YP := Hook.says (kHook MHead.K0 MHead.as0 MHead.as0_eq)) MHead.left0 (Hook.of _) (Hook.keeps _) (fun s e => xl_of s (Bool.and_eq_true_iff.mp e).1) XL.keeps (by rfl) (by rfl) (by rfl) (fun s e => recFacts_of (Bool.and_eq_true_iff.mp e).2) (by rfl) (by first | assumption | decide +kernel) (by decide +kernel) ⟨rfl, rfl, rfl, rfl, rfl, by decide +kernel⟩ ?hw ?hc
  case hw => w_witness2
  k_fill
  refine MH.walk0 (l := PySem.Challenge.rw_menuhouses_k72_two_peoples_judged) rfl rfl rfl (fun w h Y => PySem.W.kIn_of Y) ?F
  case F =>
    intro w mg fa h KX G hmg
    refine' MH.tx_of KX G hmg ?a_is_tuple_of ?l_is_tuple_of ?c_is_tuple_of ?k_is_tuple_of ?a_is_name ?l_is_name ?c_is_name ?k_is_name ?a_is_one_of ?l_is_one_of ?c_is_one_of ?k_is_one_of ?a_is_ascending ?l_is_ascending ?c_is_ascending ?k_is_ascending ?a_is_part ?l_is_part ?c_is_part ?k_is_part ?a_are_things ?l_are_things ?c_are_things ?k_are_things ?a_is_set ?l_is_set ?c_is_set ?k_is_set ?a_is_menu ?l_is_menu ?c_is_menu ?k_is_menu ?a_row_of ?l_row_of ?c_row_of ?k_row_of ?a_look_of ?l_look_of ?c_look_of ?k_look_of ?a_looks_of ?l_looks_of ?c_looks_of ?k_looks_of ?a_best ?l_best ?c_best ?k_best ?a_takes ?l_takes ?c_takes ?k_takes ?a_has ?l_has ?c_has ?k_has ?a_people_who_fit ?l_people_who_fit ?c_people_who_fit ?k_people_who_fit ?a_shows_perhaps ?l_shows_perhaps ?c_shows_perhaps ?k_shows_perhaps ?a_accepts_of_answers ?l_accepts_of_answers ?c_accepts_of_answers ?k_accepts_of_answers ?a_accepts ?l_accepts ?c_accepts ?k_accepts ?a_l_pot ?l_l_pot ?c_l_pot ?k_l_pot ?a_l_draw ?l_l_draw ?c_l_draw ?k_l_draw ?a_l_names ?l_l_names ?c_l_names ?k_l_names ?a_l_things ?l_l_things ?c_l_things ?k_l_things ?a_l_shuffled ?l_l_shuffled ?c_l_shuffled ?k_l_shuffled ?a_l_ascending ?l_l_ascending ?c_l_ascending ?k_l_ascending ?a_l_rows ?l_l_rows ?c_l_rows ?k_l_rows ?a_l_taken ?l_l_taken ?c_l_taken ?k_l_taken ?a_l_menu ?l_l_menu ?c_l_menu ?k_l_menu ?a_l_seen ?l_l_seen ?c_l_seen ?k_l_seen ?a_l_any_marks ?l_l_any_marks ?c_l_any_marks ?k_l_any_marks ?a_l_looks ?l_l_looks ?c_l_looks ?k_l_looks ?a_l_look_text ?l_l_look_text ?c_l_look_text ?k_l_look_text ?a_l_marked ?l_l_marked ?c_l_marked ?k_l_marked ?a_l_fit ?l_l_fit ?c_l_fit ?k_l_fit ?a_l_needs ?l_l_needs ?c_l_needs ?k_l_needs ?a_l_sharpened ?l_l_sharpened ?c_l_sharpened ?k_l_sharpened ?a_l_let ?l_l_let ?c_l_let ?k_l_let ?a_l_bent_text ?l_l_bent_text ?c_l_bent_text ?k_l_bent_text ?a_l_told ?l_l_told ?c_l_told ?k_l_told ?a_l_is_paper ?l_l_is_paper ?c_l_is_paper ?k_l_is_paper ?a_l_with_it ?l_l_with_it ?c_l_with_it ?k_l_with_it ?a_l_without_it ?l_l_without_it ?c_l_without_it ?k_l_without_it ?a_l_bent ?l_l_bent ?c_l_bent ?k_l_bent ?a_l_right ?l_l_right ?c_l_right ?k_l_right ?a_law ?l_law ?c_law ?k_law ?v_MOST_THINGS ?v_MOST_PEOPLE ?v_MOST_LOOKS ?v_LETTERS ?v_DIGITS ?v_LONGEST_NAME ?v_MARKS ?v_MOST_IN_CERTIFICATES ?v_OF_LOOKS ?kdl_OF_LOOKS ?kdk_OF_LOOKS ?kds_OF_LOOKS ?kdi_OF_LOOKS_fits ?kdi_OF_LOOKS_unfit ?kdn_OF_LOOKS_never ?kdn_OF_LOOKS_surely ?kdn_OF_LOOKS_perhaps ?v_OF_ANSWERS ?kdl_OF_ANSWERS ?kdk_OF_ANSWERS ?kds_OF_ANSWERS ?kdi_OF_ANSWERS_never ?kdi_OF_ANSWERS_surely ?kdi_OF_ANSWERS_perhaps ?kdn_OF_ANSWERS_fits ?kdn_OF_ANSWERS_unfit ?z_len ?z_isinstance ?z_all ?z_any ?z_enumerate ?z_tuple ?z_sorted ?z_abs ?z_int ?z_divmod ?z_range ?z_list ?z_repr ?z_max ?z_min ?z_str ?z_bool ?z_zip ?z_set
    (case a_is_tuple_of => k_is)
    (case l_is_tuple_of => k_is)
    (case c_is_tuple_of => k_is)
    (case k_is_tuple_of => k_is)
    (case a_is_name => k_is)
    (case l_is_name => k_is)
    (case c_is_name => k_is)
    (case k_is_name => k_is)
    (case a_is_one_of => k_is)
    (case l_is_one_of => k_is)
    (case c_is_one_of => k_is)
    (case k_is_one_of => k_is)
    (case a_is_ascending => k_is)
    (case l_is_ascending => k_is)
    (case c_is_ascending => k_is)
    (case k_is_ascending => k_is)
    (case a_is_part => k_is)
    (case l_is_part => k_is)
    (case c_is_part => k_is)
    (case k_is_part => k_is)
    (case a_are_things => k_is)
    (case l_are_things => k_is)
    (case c_are_things => k_is)
    (case k_are_things => k_is)
    (case a_is_set => k_is)
    (case l_is_set => k_is)
    (case c_is_set => k_is)
    (case k_is_set => k_is)
    (case a_is_menu => k_is)
    (case l_is_menu => k_is)
    (case c_is_menu => k_is)
    (case k_is_menu => k_is)
    (case a_row_of => k_is)
    (case l_row_of => k_is)
    (case c_row_of => k_is)
    (case k_row_of => k_is)
    (case a_look_of => k_is)
    (case l_look_of => k_is)
    (case c_look_of => k_is)
    (case k_look_of => k_is)
    (case a_looks_of => k_is)
    (case l_looks_of => k_is)
    (case c_looks_of => k_is)
    (case k_looks_of => k_is)
    (case a_best => k_is)
    (case l_best => k_is)
    (case c_best => k_is)
    (case k_best => k_is)
    (case a_takes => k_is)
    (case l_takes => k_is)
    (case c_takes => k_is)
    (case k_takes => k_is)
    (case a_has => k_is)
    (case l_has => k_is)
    (case c_has => k_is)
    (case k_has => k_is)
    (case a_people_who_fit => k_is)
    (case l_people_who_fit => k_is)
    (case c_people_who_fit => k_is)
    (case k_people_who_fit => k_is)
    (case a_shows_perhaps => k_is)
    (case l_shows_perhaps => k_is)
    (case c_shows_perhaps => k_is)
    (case k_shows_perhaps => k_is)
    (case a_accepts_of_answers => k_is)
    (case l_accepts_of_answers => k_is)
    (case c_accepts_of_answers => k_is)
    (case k_accepts_of_answers => k_is)
    (case a_accepts => k_is)
    (case l_accepts => k_is)
    (case c_accepts => k_is)
    (case k_accepts => k_is)
    (case a_l_pot => k_is)
    (case l_l_pot => k_is)
    (case c_l_pot => k_is)
    (case k_l_pot => k_is)
    (case a_l_draw => k_is)
    (case l_l_draw => k_is)
    (case c_l_draw => k_is)
    (case k_l_draw => k_is)
    (case a_l_names => k_is)
    (case l_l_names => k_is)
    (case c_l_names => k_is)
    (case k_l_names => k_is)
    (case a_l_things => k_is)
    (case l_l_things => k_is)
    (case c_l_things => k_is)
    (case k_l_things => k_is)
    (case a_l_shuffled => k_is)
    (case l_l_shuffled => k_is)
    (case c_l_shuffled => k_is)
    (case k_l_shuffled => k_is)
    (case a_l_ascending => k_is)
    (case l_l_ascending => k_is)
    (case c_l_ascending => k_is)
    (case k_l_ascending => k_is)
    (case a_l_rows => k_is)
    (case l_l_rows => k_is)
    (case c_l_rows => k_is)
    (case k_l_rows => k_is)
    (case a_l_taken => k_is)
    (case l_l_taken => k_is)
    (case c_l_taken => k_is)
    (case k_l_taken => k_is)
    (case a_l_menu => k_is)
    (case l_l_menu => k_is)
    (case c_l_menu => k_is)
    (case k_l_menu => k_is)
    (case a_l_seen => k_is)
    (case l_l_seen => k_is)
    (case c_l_seen => k_is)
    (case k_l_seen => k_is)
    (case a_l_any_marks => k_is)
    (case l_l_any_marks => k_is)
    (case c_l_any_marks => k_is)
    (case k_l_any_marks => k_is)
    (case a_l_looks => k_is)
    (case l_l_looks => k_is)
    (case c_l_looks => k_is)
    (case k_l_looks => k_is)
    (case a_l_look_text => k_is)
    (case l_l_look_text => k_is)
    (case c_l_look_text => k_is)
    (case k_l_look_text => k_is)
    (case a_l_marked => k_is)
    (case l_l_marked => k_is)
    (case c_l_marked => k_is)
    (case k_l_marked => k_is)
    (case a_l_fit => k_is)
    (case l_l_fit => k_is)
    (case c_l_fit => k_is)
    (case k_l_fit => k_is)
    (case a_l_needs => k_is)
    (case l_l_needs => k_is)
    (case c_l_needs => k_is)
    (case k_l_needs => k_is)
    (case a_l_sharpened => k_is)
    (case l_l_sharpened => k_is)
    (case c_l_sharpened => k_is)
    (case k_l_sharpened => k_is)
    (case a_l_let => k_is)
    (case l_l_let => k_is)
    (case c_l_let => k_is)
    (case k_l_let => k_is)
    (case a_l_bent_text => k_is)
    (case l_l_bent_text => k_is)
    (case c_l_bent_text => k_is)
    (case k_l_bent_text => k_is)
    (case a_l_told => k_is)
    (case l_l_told => k_is)
    (case c_l_told => k_is)
    (case k_l_told => k_is)
    (case a_l_is_paper => k_is)
    (case l_l_is_paper => k_is)
    (case c_l_is_paper => k_is)
    (case k_l_is_paper => k_is)
    (case a_l_with_it => k_is)
    (case l_l_with_it => k_is)
    (case c_l_with_it => k_is)
    (case k_l_with_it => k_is)
    (case a_l_without_it => k_is)
    (case l_l_without_it => k_is)
    (case c_l_without_it => k_is)
    (case k_l_without_it => k_is)
    (case a_l_bent => k_is)
    (case l_l_bent => k_is)
    (case c_l_bent => k_is)
    (case k_l_bent => k_is)
    (case a_l_right => k_is)
    (case l_l_right => k_is)
    (case c_l_right => k_is)
    (case k_l_right => k_is)
    (case a_law => k_is)
    (case l_law => k_is)
    (case c_law => k_is)
    (case k_law => k_is)
    (case v_MOST_THINGS => k_is)
    (case v_MOST_PEOPLE => k_is)
    (case v_MOST_LOOKS => k_is)
    (case v_LETTERS => k_is)
    (case v_DIGITS => k_is)
    (case v_LONGEST_NAME => k_is)
    (case v_MARKS => k_is)
    (case v_MOST_IN_CERTIFICATES => k_is)
    (case v_OF_LOOKS => k_is)
    (case kdl_OF_LOOKS => first | k_is | rfl | decide +kernel)
    (case kdk_OF_LOOKS => first | rfl | decide +kernel)
    (case kds_OF_LOOKS => first | k_is | rfl | decide +kernel)
    (case kdi_OF_LOOKS_fits => first | k_is | rfl | decide +kernel)
    (case kdi_OF_LOOKS_unfit => first | k_is | rfl | decide +kernel)
    (case kdn_OF_LOOKS_never => first | k_is | rfl | decide +kernel)
    (case kdn_OF_LOOKS_surely => first | k_is | rfl | decide +kernel)
    (case kdn_OF_LOOKS_perhaps => first | k_is | rfl | decide +kernel)
    (case v_OF_ANSWERS => k_is)
    (case kdl_OF_ANSWERS => first | k_is | rfl | decide +kernel)
    (case kdk_OF_ANSWERS => first | rfl | decide +kernel)
    (case kds_OF_ANSWERS => first | k_is | rfl | decide +kernel)
    (case kdi_OF_ANSWERS_never => first | k_is | rfl | decide +kernel)
    (case kdi_OF_ANSWERS_surely => first | k_is | rfl | decide +kernel)
    (case kdi_OF_ANSWERS_perhaps => first | k_is | rfl | decide +kernel)
    (case kdn_OF_ANSWERS_fits => first | k_is | rfl | decide +kernel)
    (case kdn_OF_ANSWERS_unfit => first | k_is | rfl | decide +kernel)
    (case z_len => k_is)
    (case z_isinstance => k_is)
    (case z_all => k_is)
    (case z_any => k_is)
    (case z_enumerate => k_is)
    (case z_tuple => k_is)
    (case z_sorted => k_is)
    (case z_abs => k_is)
    (case z_int => k_is)
    (case z_divmod => k_is)
    (case z_range => k_is)
    (case z_list => k_is)
    (case z_repr => k_is)
    (case z_max => k_is)
    (case z_min => k_is)
    (case z_str => k_is)
    (case z_bool => k_is)
    (case z_zip => k_is)
    (case z_set => k_is)
