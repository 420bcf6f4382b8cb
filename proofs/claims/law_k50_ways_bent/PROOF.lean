import PyProof.Rows.All
import Wide.All
import OpenK.AllK
import Wide.FinOn
import KE.KStateDown
import Lean
import HandS.ForMost
import HandS.More
import HandS.Conv
import HandS.Flow
import HandS.Style
import HandS.Strs
import HandS.Codes
import HandS.SetFor
import HandS.SortInts
import HandS.TupLe
import HandS.TupAny
import HandS.IsInst
import HandS.RevTup
import HandS.Rev
import HandS.Zip
import KE.GoesEnum
import KE.GoesMore
import KE.GoesZip
import HandS.Walk
import HandS.SetKeys
import HandS.Defaults
import HandS.Wide
import HandS.Lambda
import HandS.GenOver
import HandS.DictComp
import HandS.AnyAll
import HandS.Head0
import HandS.Head1
import HandS.Head2
import HandS.HeadEnd
import HandS.HeadHook1
import HandS.HeadHook2
import HandS.HeadHook3
import HandS.HeadHook4
import HandS.EndTab
import HandS.HeadWalk
import KE.DatumOrd
import HandS.TupMul
import KE.KTupSum
import HandS.SetBool
import HandS.ExcIs
import HandS.TryMany
import HandS.TryOnly
import HandS.ExcOwn
import HandS.Exc
import PySem.Challenge.RW_fewforests_k50_ways_bent
set_option Elab.async false
set_option linter.all false
set_option maxRecDepth 100000
set_option maxHeartbeats 0
namespace FF
open PySem PySem.Spec PyProof.Rows L2
/-! ### list(reversed(xs)) -/
section
variable {prog : Program} {w : World} {A : Around} {E : Value → Shared → Prop} {s : Shared}
theorem extRev {itr src : Addr} {its : Array Value} {R : Result → Shared → Prop} (calm : A.handled = none) (S : Addr) (res : Value) (c0 : Nat)
    (hS : s.heap.get? S = some { cls := .type "list", data := .seq #[] c0 }) (hit : s.heap.IsRevIter itr src ((its.size : Int) - 1)) (hl : s.heap.IsList src its) (hne : src ≠ itr) (hSi : S ≠ itr) (hSl : S ≠ src) (hn : its.size ≤ sizeLine)
    (fin : ∀ h' tk acc c, (∀ b o, b ≠ itr → b ≠ S → s.heap.get? b = some o → h'.get? b = some o) → h'.get? S = some { cls := .type "list", dict := none, data := .seq acc c, slots := #[] } →
      ItemsOf (fun i v => its[its.size - 1 - i]? = some v) acc its.size → R (.ok (.ret res)) { s with heap := h', toks := tk }) :
    wpAny (model prog w) A.in1 (Builtin.List.listExtendWith (.ref S) (.ref itr) res)
      (fun f s' => match f with | .done z => R (.ok z) s' | .again c' => c'.quiet = true ∧ codeAny (model prog w) A c' R s') (fun e s' => R (.error e) s') s := by
  have W := (Walks.listRev (prog := prog) (w := w) (A := A.in1) calm itr src hne its).toS
  have hT : s.TypeIs (.ref itr) "list_reverseiterator" := hit.typeIs
  have h1 : Builtin.List.listSameRef (.ref S) (.ref itr) = false := by simp [Builtin.List.listSameRef, hSi]
  unfold Builtin.List.listExtendWith
  refine wpAny_bind (wpAny_typeOf hT ?_)
  rw [if_neg (by rw [h1]; decide)]
  refine wpAny_bind (wpAny_pyIter_revIter hit ?_)
  refine wpAny_bind (wpAny_holding ?_)
  unfold Builtin.List.listLengthHint
  refine wpAny_bind (wpAny_specialOf hT RT.nolen_lri ?_)
  show wpAny _ A.in1 (specialOf (Value.ref itr) (Str.ofString "__length_hint__") >>= _) _ _ _
  refine wpAny_bind (wpAny_specialOf hT RT.hint_lri ?_)
  generalize hid : ("list_reverseiterator.__length_hint__" : String) = hint
  wp_delta
  rw [show splitId hint = some ("list_reverseiterator", "__length_hint__") from by subst hid; decide +kernel]
  subst hid
  refine wpAny_bind (wpAny_isInstance (b := true) hT (by rw [isSubtype_type]; kernel_rfl) ?_)
  refine wpAny_pure ?_
  rw [if_neg (by decide)]
  have e0 : ((its.size : Nat) : Int) - 1 - ((0 : Nat) : Int) = (its.size : Int) - 1 := by omega
  have hSf : S ∉ [itr, src] := by simp only [List.mem_cons, List.not_mem_nil, or_false, not_or]; exact ⟨hSi, hSl⟩
  refine wpAny_pure ⟨plainId_quiet F.plain_extend_loop _, codeAny_extend_loopS W hn S hSf _ its.size 0 _ _ _ rfl (Nat.zero_le _) ⟨Nat.zero_le _, by rw [e0]; exact hit, hl⟩ hS (ItemsOf.nil _) fun s' acc c hm hS' hacc => ?_⟩
  rw [Moved.eq_with hm]
  refine fin s'.heap s'.toks acc c (fun b o hb hb2 e => hm.heap b o (fun z => ?_) e) hS' hacc
  rcases List.mem_cons.mp z with z | z
  · exact hb2 z
  · exact hb (List.mem_singleton.mp z)
theorem initRev {itr src : Addr} {its : Array Value} {R : Result → Shared → Prop} (calm : A.handled = none) (S : Addr)
    (hS : s.heap.get? S = some { cls := .type "list", data := .seq #[] }) (hit : s.heap.IsRevIter itr src ((its.size : Int) - 1)) (hl : s.heap.IsList src its) (hne : src ≠ itr) (hSi : S ≠ itr) (hSl : S ≠ src) (hn : its.size ≤ sizeLine)
    (fin : ∀ h' tk acc c, (∀ b o, b ≠ itr → b ≠ S → s.heap.get? b = some o → h'.get? b = some o) → h'.get? S = some { cls := .type "list", dict := none, data := .seq acc c, slots := #[] } →
      ItemsOf (fun i v => its[its.size - 1 - i]? = some v) acc its.size → R (.ok (.ret .none)) { s with heap := h', toks := tk }) :
    wpAny (model prog w) A.in1 (Builtin.«list.__init__» ⟨[.ref S, .ref itr], []⟩)
      (fun f s' => match f with | .done z => R (.ok z) s' | .again c' => c'.quiet = true ∧ codeAny (model prog w) A c' R s') (fun e s' => R (.error e) s') s := by
  show wpAny _ _ (do let old ← Builtin.List.listItems (.ref S); Builtin.List.listUpdate (.ref S) (fun _ => #[]); letGo old.toList.reverse; Builtin.List.listExtendWith (.ref S) (.ref itr) .none) _ _ s
  refine wpAny_bind ?_
  unfold Builtin.List.listItems
  refine wpAny_bind (wpAny_seqItems hS rfl (wpAny_pure ?_))
  show wpAny _ _ (updateSeq S (fun _ => #[]) >>= fun _ => letGo (#[] : Array Value).toList.reverse >>= fun _ => Builtin.List.listExtendWith (.ref S) (.ref itr) .none) _ _ s
  refine wpAny_bind (wpAny_updateSeq hS rfl ?_)
  have hS2 := Heap.get?_update_self (Obj.mapSeq (fun _ => (#[] : Array Value))) hS rfl
  have oth : ∀ b o, b ≠ S → s.heap.get? b = some o → (s.heap.update S (Obj.mapSeq (fun _ => (#[] : Array Value)))).get? b = some o :=
    fun b o hb e => (Heap.get?_update_other _ _ (Ne.symm hb)).trans e
  refine wpAny_bind (wpAny_letGo ?_)
  obtain ⟨oi, hoi, ri⟩ := hit
  obtain ⟨ol, hol, rl⟩ := hl
  refine extRev (its := its) calm S .none _ hS2 ⟨oi, oth _ _ (Ne.symm hSi) hoi, ri⟩ ⟨ol, oth _ _ (Ne.symm hSl) hol, rl⟩ hne hSi hSl hn fun h' tk acc c hk hS' hacc => ?_
  exact fin h' tk acc c (fun b o hb hb2 e => hk b o hb hb2 (oth b o hb2 e)) hS' hacc
theorem listRev {itr src : Addr} {its : Array Value} {Q : Value → Shared → Prop} (calm : A.handled = none) (hit : s.heap.IsRevIter itr src ((its.size : Int) - 1)) (hl : s.heap.IsList src its) (hne : src ≠ itr) (hn : its.size ≤ sizeLine)
    (fin : ∀ h' tk acc c, (∀ b o, b ≠ itr → s.heap.get? b = some o → h'.get? b = some o) → h'.get? s.heap.objs.size = some { cls := .type "list", dict := none, data := .seq acc c, slots := #[] } →
      ItemsOf (fun i v => its[its.size - 1 - i]? = some v) acc its.size → Q (.ref s.heap.objs.size) { s with heap := h', toks := tk }) :
    wpAny (model prog w) A (call (.type "list") [.ref itr]) Q E s := by
  refine callType_codes (Q₁ := fun obj t => obj = .ref s.heap.objs.size ∧ t = { s with heap := s.heap.push { cls := .type "list", data := .seq #[] } }) F.called_list (F.typeCall_list_1 _) F.entry_list_init
    (code_list_new _ ⟨rfl, rfl⟩) fun obj t ht => ?_
  obtain ⟨rfl, rfl⟩ := ht
  have hS : (s.heap.push { cls := .type "list", data := .seq #[] }).get? s.heap.objs.size = some { cls := .type "list", data := .seq #[] } := Heap.get?_push_size _ rfl
  obtain ⟨oi, hoi, ri⟩ := hit
  obtain ⟨ol, hol, rl⟩ := hl
  refine ⟨⟨_, hS, rfl⟩, F.args_list_init_2 _ _, initRev (its := its) (A := A.in1) calm _ hS ⟨oi, Heap.get?_push_of_some _ hoi, ri⟩ ⟨ol, Heap.get?_push_of_some _ hol, rl⟩ hne (Nat.ne_of_gt (Heap.lt_size hoi)) (Nat.ne_of_gt (Heap.lt_size hol)) hn fun h' tk acc c hk hS' hacc => ?_⟩
  exact ⟨rfl, fin h' tk acc c (fun b o hb e => hk b o hb (Nat.ne_of_lt (Heap.lt_size e)) (Heap.get?_push_of_some _ e)) hS' hacc⟩
end
section
variable {X : Cx}
def tLstRev (K : PySem.W.Frag) (te : TE) : TE := fun σ H Q => te σ H fun v H1 => ∃ (a : Addr) (xs : List V), v = .ref a ∧ SqL K H1 a xs ∧ ∀ q, H1 q = none → Q (.ref q) (upd H1 q (.lst xs.reverse))
theorem pe_listRev {e : Expr} {te : TE} {p p2 pos pos2 : Pos} (hc : X.calm = true) (hg : Gl X "list") (hm : X.mg "list" = none) (hg2 : Gl X "reversed") (hm2 : X.mg "reversed" = none) (he : PE X e te)
    (hs : starEach [e] X.env = (false, eval e X.env) :: starEach [] X.env := by rfl)
    (hs2 : starEach [.Call (.Name "reversed" p2) [e] [] pos2] X.env = (false, eval (.Call (.Name "reversed" p2) [e] [] pos2) X.env) :: starEach [] X.env := by rfl) :
    PE X (.Call (.Name "list" p) [.Call (.Name "reversed" p2) [e] [] pos2] [] pos) (tLstRev X.K te) := by
  refine ⟨fun pins s σ H Q I h => ?_⟩
  refine Call_ (ld_blt I hg hm boot_list (PyProof.Rows.callWith_type1 (args_cons (Call_ (ld_blt I hg2 hm2 PyProof.Rows.boot_reversed (PyProof.Rows.callWith_type1 (args_cons (thn (he.run pins s σ H _ I h) fun u s1 ⟨v, H1, I1, r1, q1⟩ => args_nil ?_) hs) hs rfl))) hs2) hs2 rfl))
  obtain ⟨a, xs, ev, hq, q⟩ := q1
  subst ev
  obtain rfl : u = Value.ref a := r1
  obtain ⟨its, rv, pl, hz⟩ := I1.list hq
  refine call_reversed_list pl.isList (args_nil ?_)
  have I2 : Inv X pins σ H1 { s1 with heap := s1.heap.push (revObj a ((its.toArray.size : Int) - 1)) } := I1.kept (t' := s1.toks) fun b o e => Heap.get?_push_of_some _ e
  obtain ⟨f0, f1, f2, f3, f4, f5⟩ := I1.fpOk (H' := H1) (b := s1.heap.objs.size) (Nat.le_refl _) (I1.hok.fresh (Nat.le_refl _))
  have hl := pl.isList
  obtain ⟨ol, hol, _⟩ := id hl
  have hn : its.toArray.size ≤ sizeLine := by rw [List.size_toArray, ← rv.length]; exact hz
  refine listRev (s := { s1 with heap := s1.heap.push (revObj a ((its.toArray.size : Int) - 1)) }) (I1.ok.hd hc) ⟨_, Heap.get?_push_size _ rfl, rfl, rfl⟩ (hl.push _) (Nat.ne_of_lt (Heap.lt_size hol)) hn fun h' tk acc c hk hS hi => ?_
  have hfr : H1 (s1.heap.push (revObj a ((its.toArray.size : Int) - 1))).objs.size = none := I2.hok.fresh (Nat.le_refl _)
  have J := I2.step (H' := upd H1 (s1.heap.push (revObj a ((its.toArray.size : Int) - 1))).objs.size (.lst xs.reverse)) (h' := h') (g' := s1.gens) (d' := s1.drawn) (t' := tk) (ch := [s1.heap.objs.size])
    (fun b hb => by rw [List.mem_singleton.mp hb]; exact ⟨f3, f1, f4, f5⟩)
    (fun b o _ _ hc e _ => hk b o (fun z => hc (by rw [z]; exact List.mem_singleton.mpr rfl)) e)
    (fun b o _ _ hc e _ => ⟨o.slots, hk b o (fun z => hc (by rw [z]; exact List.mem_singleton.mpr rfl)) e⟩)
    (fun b o _ e n => by rw [upd_ne (Nat.ne_of_lt (Heap.lt_size e))]; exact n)
    (fun b o hc e => ⟨o, hk b o (fun z => hc (by rw [z]; exact List.mem_singleton.mpr rfl)) e⟩)
    (fun b ys e => by rw [upd_ne (ne_of_none e hfr)]; exact e) (fun b o ys e => by rw [upd_ne (ne_of_none e hfr)]; exact e) (fun b ps e => ⟨#[], by rw [upd_ne (ne_of_none e hfr), e]; simp⟩)
    (fun m hm => by
      obtain ⟨o, es, ep, ho, r⟩ := hm
      exact ⟨o, es, ep, hk _ o (Ne.symm f1) ho, r⟩)
    (fun b u e => by
      by_cases hb : b = (s1.heap.push (revObj a ((its.toArray.size : Int) - 1))).objs.size
      · rw [hb, upd_same] at e
        cases e
        rw [hb]
        exact ⟨by rw [List.length_reverse]; exact hz, acc.toList, c, RT.vals_rev rv hi, by rw [Array.toArray_toList]; exact hS⟩
      · rw [upd_ne hb] at e
        refine (I2.hok b u e).stay (fun d v hd q => hk d v ?_ q) (fun d q => by rw [upd_ne (ne_of_none q hfr)]; exact q) fun d ys q => by rw [upd_ne (ne_of_none q hfr)]; exact q
        rcases hd with rfl | hd
        · exact fun z => by rw [z, f0] at e; cases e
        · exact fun z => by rw [z, f0] at hd; cases hd) I2.bare
  exact ⟨.ref _, _, J, rfl, q _ hfr⟩
end
end FF
namespace FF
open PySem PySem.Spec PyProof.Rows L2
/-! ### len(set(xs)), sorted(set(xs)) of ints -/
def nub (ns : List Int) : List Int := ns.foldl step_dedup []
theorem met_nub (ns : List Int) : firstMet (fun i => ns.getD i 0) ns.length = nub ns := by
  unfold firstMet nub
  have e : (List.range ns.length).map (fun i => ns.getD i 0) = ns := by
    apply List.ext_getElem
    · simp
    · intro i h1 h2
      simp [List.getElem?_eq_getElem h2]
  rw [e]
theorem nub_length (ns : List Int) : (nub ns).length ≤ ns.length := by
  rw [← met_nub]
  exact firstMet_length_le _ _
section
variable {X : Cx}
def tLenSetL (K : PySem.W.Frag) (ta : TE) : TE := fun σ H Q => ta σ H fun x H1 => ∃ (l : Addr) (ns : List Int), x = V.ref l ∧ SqL K H1 l (ns.map V.int) ∧ ns.length ≤ 1000 ∧ Q (.int (nub ns).length) H1
theorem pe_lenSetL {a : Expr} {ta : TE} {p p2 q pos : Pos} (hg : Gl X "len") (hm : X.mg "len" = none) (hg2 : Gl X "set") (hm2 : X.mg "set" = none) (ha : PE X a ta) (hc : X.calm = true := by rfl)
    (na : starEach [a] X.env = (false, eval a X.env) :: starEach [] X.env := by rfl) : PE X (.Call (.Name "len" p) [.Call (.Name "set" p2) [a] [] q] [] pos) (tLenSetL X.K ta) := by
  refine ⟨fun pins s σ H Q I h => Call_ (ld_blt I hg hm boot_len (PyProof.Rows.callWith_builtin1 (PyProof.Rows.args_cons (Call_ (ld_blt I hg2 hm2 boot_set ?_)) rfl) rfl rfl))⟩
  refine PyProof.Rows.callWith_type1 (PyProof.Rows.args_cons (thn (ha.run pins s σ H _ I h) fun v t ⟨x, G, J, rx, qx⟩ => PyProof.Rows.args_nil ?_) na) na rfl
  obtain ⟨l, ns, rfl, hq, hl, qx⟩ := qx
  cases rx
  obtain ⟨its, r, pl, hz⟩ := J.list hq
  have hlen : its.toArray.size = ns.length := by rw [List.size_toArray, ← r.length, List.length_map]
  refine call_set_list (J.ok.hd hc) pl.isList (by simpa using RZ.intsAre_vals r) (by rw [hlen]; unfold scanBound; omega) fun h' tk hS hk => PyProof.Rows.args_nil ?_
  rw [hlen, met_nub] at hS
  obtain ⟨o, es, ep, tb, ho, hex, hd, _, _, _, hf, hn⟩ := hS
  have J2 : Inv X pins σ G { t with heap := h', toks := tk } := J.kept fun b o e => hk b o (Heap.lt_size e) e
  have hnub := nub_length ns
  exact call_len_set ho hex hd hf (by rw [hn]; omega) ⟨.int (nub ns).length, G, J2.tok _, ⟨_, by rw [hn]⟩, qx⟩
end
section
variable {P : Program} {w : World} {A : Around} {E : Value → Shared → Prop} {s : Shared}
abbrev emptySet (w : World) : Obj := { cls := .type "set", dict := none, data := .set #[] 0 (.fresh 0 0 (!w.params.followText "set-order")) }
set_option maxHeartbeats 3200000 in
theorem setOfList {l : Addr} {its : Array Value} (ns : List Int) {Q : Value → Shared → Prop} (calm : A.handled = none) (hl : s.heap.IsList l its) (hit : IntsAre its.toList ns) (hb : ns.length + 1 < scanBound)
    (fin : ∀ (h' : Heap) (tk c : Nat), SetR w h' s.heap.objs.size (fun j => decide (j ∈ ns)) c → c ≤ ns.length → (∀ b o, s.heap.get? b = some o → h'.get? b = some o) → Q (.ref s.heap.objs.size) { s with heap := h', toks := tk }) :
    wpAny (model P w) A (call (.type "set") [.ref l]) Q E s := by
  have hsz : its.size = ns.length := by
    have q := IntsAre.length hit
    rw [Array.length_toList] at q
    exact q
  obtain ⟨cm, tl, hmro⟩ := F.called_set.mro
  have hmade := F.called_set.made
  have hsub := F.called_set.sub
  refine wpAny_call (codeAny_of_tree ?_)
  show wpAny _ _ (callAny (.type "set") _) _ _ _
  refine wpAny_pure ⟨Code.quiet_builtin _ (by decide +kernel), codeAny_builtin F.entry_type_call ?_⟩
  rw [Around.under_plain (weight_type_call_type "set" [.ref l] []) rfl]
  have h1 := F.called_set.notType
  have h2 := F.called_set.canCreate
  have hct := F.typeCall_set_1 (.ref l)
  repeat (any_goals (first | assumption | wp_step))
  refine codeAny_mono (code_set_led1 (.ref l) (E := E) (Q₁ := fun obj t => obj = .ref s.heap.objs.size ∧ t = { s with heap := s.heap.push (emptySet w) }) ⟨rfl, rfl⟩) fun r t hr => ?_
  cases r with
  | error e => exact hr
  | ok fl =>
    cases fl with
    | ret obj =>
      obtain ⟨rfl, rfl⟩ := hr
      have hS : (s.heap.push (emptySet w)).get? s.heap.objs.size = some (emptySet w) := Heap.get?_push_size _ rfl
      have hT : Shared.TypeIs { s with heap := s.heap.push (emptySet w) } (.ref s.heap.objs.size) "set" := ⟨_, hS, rfl⟩
      have hli := F.called_set.init.lookup
      have hbi := F.called_set.init.bind (.ref s.heap.objs.size)
      repeat (any_goals (first | assumption | wp_step))
      refine codeAny_mono (codeAny_call_builtin (R := wants (fun r t => r = .none ∧ ∃ h' tk c, t = { s with heap := h', toks := tk } ∧ SetR w h' s.heap.objs.size (fun j => decide (j ∈ ns)) c ∧ c ≤ ns.length ∧
          (∀ b o, s.heap.get? b = some o → h'.get? b = some o)) E) F.called_set.init.plain F.entry_set_init (check_set_init_1 hT ?_)) fun r2 s2 hr2 => ?_
      · obtain ⟨ol, hol, hcl, nl, hdl⟩ := hl
        obtain ⟨ocls, odict, odata, oslots⟩ := ol
        simp only at hcl hdl
        subst hcl; subst hdl
        have hol1 : (s.heap.push (emptySet w)).get? l = some { cls := .type "list", dict := odict, data := .seq its nl, slots := oslots } := Heap.get?_push_of_some _ hol
        have hsls := F.sub_list_set
        have hslf := F.sub_list_frozenset
        have hne : (Value.type "list" == Value.type "dict") = false := by decide
        have hl1 : (s.heap.push (emptySet w)).IsList l its := ⟨_, hol1, rfl, nl, rfl⟩
        unfold Builtin.«set.__init__» noKeywords Builtin.Frozenset.updateFrom
        generalize hPI : pyIter = PI
        wp_walk
        subst hPI
        refine wpAny_pyIter_list hl1 ?_
        refine wpAny_bind (wpAny_runValue ?_)
        have hlS : l < s.heap.objs.size := Heap.lt_size hol
        have hh3 : A.in1.in1.in1.handled = none := by simp [calm]
        have hneI : l ≠ (s.heap.push (emptySet w)).objs.size := by
          rw [Heap.size_push]; exact Nat.ne_of_lt (Nat.lt_succ_of_lt hlS)
        have hSf : s.heap.objs.size ∉ [(s.heap.push (emptySet w)).objs.size, l] := by
          rw [Heap.size_push]; simp only [List.mem_cons, List.mem_singleton, List.not_mem_nil, or_false, not_or]
          exact ⟨Nat.ne_of_lt (Nat.lt_succ_self _), Nat.ne_of_gt hlS⟩
        have hval : ∀ (i : Nat) (v : Value), its[i]? = some v → ∃ k t, ns[i]? = some k ∧ v = .int k t := fun i v hv => by
          have hi : i < ns.length := by rw [← hsz]; exact (Array.getElem?_eq_some_iff.mp hv).1
          obtain ⟨t, e⟩ := PyProof.Rows.IntsAre.int_at hit i v (by rw [Array.getElem?_toList]; exact hv)
          refine ⟨ns[i], t, List.getElem?_eq_getElem hi, ?_⟩
          rw [e, List.getD_eq_getElem?_getD, List.getElem?_eq_getElem hi] <;> rfl
        refine set_update_ints ((Walks.list hh3 _ l hneI its).toS) s.heap.objs.size
          hSf ns hsz hb hval (its.size - 0) 0 _ (by omega) (Nat.zero_le _)
          ⟨⟨_, Heap.get?_push_size _ rfl, rfl, rfl⟩, (hl1.push _)⟩ ?hS0 ?hR
        case hS0 => exact ⟨0, Nat.le_refl 0, setR_new_at (Heap.get?_push_of_some _ hS)⟩
        case hR =>
          intro t' c' hm hc' hS'
          obtain ⟨h', g2, d', tk', os'⟩ := t'
          have eg : g2 = s.gens := hm.gens
          have ed : d' = s.drawn := hm.drawn
          have eo : os' = s.os := hm.os
          subst eg; subst ed; subst eo
          show wpAny _ _ _ _ _ _
          refine wpAny_pure ?_
          show wpAny _ _ (ret Value.none) _ _ _
          rw [hsz] at hc'
          refine wpAny_pure ⟨rfl, h', tk', c', rfl, hS', hc', fun b o e => ?_⟩
          have hb0 : b < s.heap.objs.size := Heap.lt_size e
          have hb2 : b ≠ (s.heap.push (emptySet w)).objs.size := by
            rw [Heap.size_push]; exact Nat.ne_of_lt (Nat.lt_succ_of_lt hb0)
          exact hm.heap b o (by simp only [List.mem_cons, List.mem_singleton, List.not_mem_nil, or_false, not_or]; exact ⟨Nat.ne_of_lt hb0, hb2⟩) (Heap.get?_push_of_some _ (Heap.get?_push_of_some _ e))
      · cases r2 with
        | error e => exact hr2
        | ok fl2 =>
          cases fl2 with
          | ret r =>
            obtain ⟨rfl, h', tk, c', rfl, hS', hc', hk'⟩ := hr2
            repeat (any_goals (first | assumption | wp_step))
            exact fin _ _ _ hS' hc' hk'
          | _ => exact hr2.elim
    | _ => exact hr.elim
end
section
variable {X : Cx}
/-- set(xs), xs a list of ints -/
def rSetL (K : PySem.W.Frag) (w : World) : List V → Hp → VK → Prop := fun xs H Q => ∃ (l : Addr) (ns : List Int), xs = [V.ref l] ∧ SqL K H l (ns.map V.int) ∧ ns.length ≤ 1000 ∧
  ∀ p c, H p = none → c ≤ ns.length → Q (.ref p) (upd H p (SetO w p (fun j => decide (j ∈ ns)) c))
theorem cr_setL (hc : X.calm = true) : CallR X (.type "set") (rSetL X.K X.w) := by
  intro pins s σ H xs us Q I r h
  obtain ⟨l, ns, rfl, hl, hb, q⟩ := h
  rw [Vals.ref1 r]
  obtain ⟨its, rv, pl, hz⟩ := I.list hl
  refine setOfList (P := X.prog) (w := X.w) ns (I.ok.hd hc) pl.isList (by simpa using RZ.intsAre_vals rv) (by unfold scanBound; omega) fun h' tk c R hcn k => ?_
  exact ⟨.ref s.heap.objs.size, _, I.laid (t' := tk) k (Nat.le_refl _) (setO_new R), rfl, q _ c (I.hok.fresh (Nat.le_refl _)) hcn⟩
end
end FF
namespace FF
open PySem PySem.Spec PyProof.Rows L2
/-! ### generator expressions: a turn, the frame, the protocol -/
section
variable {α : Type}
/-- what a generator expression is made of: its syntax, its frame's context, its iterator, the consumer's objects and what they hold -/
structure GxD (α : Type) where
  Z : Cx
  elt : Expr
  tg : Expr
  iter : Expr
  ifs : List Expr
  scope : Scope
  pos : Pos
  it : Addr
  fp : List Addr
  tn : Nat → Heap → Prop
  J : It
  prot : List Addr
  Acc : α → Heap → Prop
  W : Nat → Nat → α → Hp → Prop
  Yl : α → V → Hp → (α → Hp → Prop) → Prop
  Dn : α → Hp → Prop
  σ0 : L2.St
  vs : List Nat
abbrev GxD.expr (D : GxD α) : Expr := .GeneratorExp D.elt [⟨D.tg, D.iter, D.ifs, 0⟩] D.scope D.pos
abbrev GxD.loop (D : GxD α) : Code := .compLoop D.expr 0 (.ref D.it) .none D.Z.env
abbrev GxD.begin (D : GxD α) : Code := .compStart D.expr 0 (.ref D.it) .none D.Z.env
/-- the frame's invariant, the consumer's objects pinned as they stand -/
def GxD.Inv (D : GxD α) (pins : List (Addr × Obj)) (H : Hp) (s : Shared) : Prop :=
  pins.map (·.1) = D.prot ∧ L2.Inv D.Z pins D.σ0 H s ∧ ∀ b ∈ D.fp, FpOk D.Z pins H b
def GxD.Y (D : GxD α) : Protocol := fun _ s₀ v s kap => ∃ (i : Nat) (a : α) (pins : List (Addr × Obj)) (H : Hp) (x : V) (Nx : α → Hp → Prop),
  RelV x v ∧ s₀.gens.size ≤ s.gens.size ∧ D.Acc a s₀.heap ∧ (∀ p ∈ pins, s₀.heap.get? p.1 = some p.2) ∧ D.Inv pins H s ∧ D.tn (i + 1) s.heap ∧ D.Yl a x H Nx ∧
  ∀ (s' : Shared) (pins' : List (Addr × Obj)) (H' : Hp) (a' : α), D.Inv pins' H' s' → D.tn (i + 1) s'.heap → D.Acc a' s'.heap → Nx a' H' → kap (.send .none) s'
def GxD.P (D : GxD α) : Nat → Shared → Shared → Prop := fun _ s₀ s => ∃ (a : α) (pins : List (Addr × Obj)) (H : Hp),
  D.Acc a s₀.heap ∧ (∀ p ∈ pins, s₀.heap.get? p.1 = some p.2) ∧ D.Inv pins H s ∧ D.Dn a H
abbrev GxD.R (D : GxD α) : GenEnd := fun n s₀ r s => r = .ok .next ∧ D.P n s₀ s
/-- the syntax keeps to its rules; what a turn does -/
structure GxD.Ok (D : GxD α) (g : TG) (tt : TT) (te : TE) : Prop where
  calm : D.Z.calm = true
  xe : D.Z.xe = fun _ _ => False
  co : D.Z.env.scope.isCoroutine = false
  turn : Turn D.Z.prog D.Z.w D.Z.K D.tg D.J D.fp D.it D.tn
  pg : PG D.Z D.tg g
  pt : PTs D.Z D.ifs tt
  pe : PE D.Z D.elt te
  step : ∀ i m a H, D.W i m a H → (D.J.stop i H ∧ D.Dn a H) ∨ (D.J.go i H ∧ ∃ Nx : α → Hp → Prop, (∀ a' H', Nx a' H' → ∃ m', m' < m ∧ D.W (i + 1) m' a' H') ∧
    ∀ x H1, D.J.yld i H x H1 → g x D.σ0 H1 fun σ2 H2 => wipe σ2 D.vs = D.σ0 ∧ tt σ2 H2 fun b H3 => if b = true then te σ2 H3 fun y H4 => D.Yl a y H4 Nx else Nx a H3)
theorem gx_seg {D : GxD α} {g : TG} {tt : TT} {te : TE} (ok : D.Ok g tt te) {A : Around} (hA : A.over D.loop [] = D.Z.A) :
    ∀ (m i n : Nat) (s₀ s : Shared) (pins : List (Addr × Obj)) (H : Hp) (a : α), m < n → s₀.gens.size ≤ s.gens.size → D.Inv pins H s → D.tn i s.heap → D.Acc a s₀.heap → (∀ p ∈ pins, s₀.heap.get? p.1 = some p.2) → D.W i m a H →
      Seg (model D.Z.prog D.Z.w) A D.R D.Y n s₀ D.loop ((model D.Z.prog D.Z.w).den D.loop) [] s := by
  intro m
  induction m using Nat.strongRecOn with
  | _ m ih =>
    intro i n s₀ s pins H a hmn hz GI ht hacc hp0 hw
    obtain ⟨hpr, I, hf⟩ := GI
    have T := ok.turn
    show Seg _ A _ _ _ s₀ _ ((compTurn D.expr 0 (.ref D.it) .none D.Z.env).onRaise (leaving D.Z.env)) [] s
    rw [compTurn_gen, Sem.onRaise_eq_wrap]
    refine seg_bind_wrap (wpAny_standAt ?_)
    rcases ok.step i m a H hw with ⟨stop, dn⟩ | ⟨go, Nx, hNx, st⟩
    · refine seg_bind_wrap ?_
      rw [hA]
      refine thnF (T.done D.Z rfl rfl rfl ok.calm i pins s D.σ0 H (fun _ _ => False) I hf ht stop) fun r t ⟨hr, J⟩ => ?_
      subst hr
      exact seg_end (.ok .next) ⟨rfl, a, pins, H, hacc, hp0, ⟨hpr, J, hf⟩, dn⟩
    · refine seg_bind_wrap ?_
      rw [hA]
      refine GenW.wpAny_gsz hz (thnF (T.item D.Z rfl rfl rfl ok.calm i pins s D.σ0 H (fun _ _ => False) I hf ht go) fun r t ⟨u, hr, h1⟩ z0 => ?_)
      subst hr
      refine seg_bind_wrap ?_
      rw [hA]
      refine GenW.wpAny_gsz z0 (thnF h1 fun _ t1 ⟨x, H1, I1, r1, y1, tn1, n1⟩ z1 => ?_)
      have f1 : ∀ b ∈ D.fp, FpOk D.Z pins H1 b := fun b hb => ⟨n1 b hb, (hf b hb).2⟩
      have I1p := I1.pinned f1 (T.obj _ _ tn1)
      have hpg := ok.pg.run _ t1 D.σ0 H1 x u _ I1p r1 (st x H1 y1)
      rw [ok.xe] at hpg
      refine seg_bind_wrap ?_
      rw [hA]
      refine GenW.wpAny_gsz z1 (thnF hpg fun _ t2 ⟨σ2, H2, I2, w2, q2⟩ z2 => ?_)
      have hpt := ok.pt.run _ t2 σ2 H2 _ I2 q2
      rw [ok.xe] at hpt
      refine seg_bind_wrap ?_
      rw [hA]
      refine GenW.wpAny_gsz z2 (thnF hpt fun b t3 ⟨H3, I3, q3⟩ z3 => ?_)
      -- what holds at the turn's end
      have fin : ∀ {t' : Shared} {H' : Hp}, L2.Inv D.Z (pins ++ pinsAt D.fp t1.heap) σ2 H' t' → D.Inv pins H' t' ∧ D.tn (i + 1) t'.heap := fun {t' H'} J => by
        have pin' : ∀ b ∈ D.fp, ∀ o, t1.heap.get? b = some o → t'.heap.get? b = some o ∧ H' b = none := fun b hb o e =>
          let z := J.pin (b, o) (List.mem_append_right _ (List.mem_append_right _ (mem_pinsAt hb e)))
          ⟨z.1, z.2.1⟩
        have hl : D.σ0.length = σ2.length := by rw [← w2, wipe_length]
        refine ⟨⟨hpr, J.unpinned.weak hl (fun j v e => by rw [← w2] at e; exact (wipe_some e).1), fun b hb => ?_⟩, T.keep _ _ _ tn1 fun b hb o e => (pin' b hb o e).1⟩
        obtain ⟨o, e, _⟩ := T.obj _ _ tn1 b hb
        exact ⟨(pin' b hb o e).2, (hf b hb).2⟩
      cases b with
      | false =>
        simp only [Bool.false_eq_true, if_false] at q3 ⊢
        obtain ⟨m', hm', w'⟩ := hNx a H3 q3
        obtain ⟨G3, tn3⟩ := fin I3
        exact seg_again rfl (ih m' hm' (i + 1) n s₀ t3 pins H3 a (by omega) z3 G3 tn3 hacc hp0 w')
      | true =>
        simp only [if_true] at q3 ⊢
        have hy : ∀ v, yieldOut D.Z.env v = yieldValue v := fun v => by simp only [yieldOut, ok.co, Bool.false_eq_true, if_false]
        simp only [hy]
        rw [Sem.bind_eq_wrap', Sem.bind_eq_wrap', Sem.wrap_wrap, Sem.wrap_wrap]
        have hpe := ok.pe.run _ t3 σ2 H3 _ I3 q3
        rw [ok.xe] at hpe
        refine seg_wrap ?_
        rw [hA]
        refine GenW.wpAny_gsz z3 (thnF hpe fun y t4 ⟨z, H4, I4, r4, q4⟩ z4 => ?_)
        obtain ⟨n', rfl⟩ : ∃ n', n = n' + 1 := ⟨n - 1, by omega⟩
        obtain ⟨G4, tn4⟩ := fin I4
        refine seg_at (seg_yield rfl rfl rfl ⟨i, a, pins, H4, z, Nx, r4, z4, hacc, hp0, G4, tn4, q4, fun t' pins' H' a' G' tn' hacc' nx => ?_⟩)
        obtain ⟨m', hm', w'⟩ := hNx a' H' nx
        exact seg_again rfl (ih m' hm' (i + 1) n' t' t' pins' H' a' (by omega) (Nat.le_refl _) G' tn' hacc' (fun p hp => (G'.2.1.pin p (List.mem_append_right _ hp)).1) w')
theorem gx_begin {D : GxD α} {g : TG} {tt : TT} {te : TE} (ok : D.Ok g tt te) {A : Around} (hA : A.over D.loop [] = D.Z.A) {m n : Nat} {s : Shared} {pins : List (Addr × Obj)} {H : Hp} {a : α}
    (hmn : m < n) (G : D.Inv pins H s) (ht : D.tn 0 s.heap) (hacc : D.Acc a s.heap) (hw : D.W 0 m a H) :
    Seg (model D.Z.prog D.Z.w) A D.R D.Y n s D.begin ((model D.Z.prog D.Z.w).den D.begin) [] s := by
  have loop := gx_seg ok hA m 0 n s s pins H a hmn (Nat.le_refl _) G ht hacc (fun p hp => (G.2.1.pin p (List.mem_append_right _ hp)).1) hw
  show Seg _ A _ _ _ s _ ((compStart D.expr 0 (.ref D.it) .none D.Z.env).onRaise (leaving D.Z.env)) [] s
  unfold compStart
  rw [Sem.onRaise_eq_wrap]
  show Seg _ A _ _ _ s _ ((ask >>= _).wrap _ _ _ _) [] s
  refine seg_bind_wrap (wpAny_askSetting ?_)
  split
  · exact seg_again rfl loop
  · first
      | exact seg_bind_wrap (wpAny_rule (seg_bind_wrap (wpAny_standAt (seg_bind_wrap (ok.turn.self _ 0 s _ _ ht (seg_again rfl loop))))))
      | (refine seg_bind_wrap (wpAny_rule ?_); show Seg _ A _ _ _ s _ ((standAt D.iter.pos >>= _).wrap _ _ _ _) [] s; exact seg_bind_wrap (wpAny_standAt (seg_bind_wrap (ok.turn.self _ 0 s _ _ ht (seg_again rfl loop)))))
end
end FF
namespace FF
open PySem PySem.Spec PyProof.Rows L2
/-! ### generator expressions: the consumer's side -/
section
variable {α : Type}
theorem Inv.gens {X : Cx} {pins : List (Addr × Obj)} {σ : L2.St} {H : Hp} {s : Shared} (I : L2.Inv X pins σ H s) {G : Array GenState} (hG : AllBare G) : L2.Inv X pins σ H { s with gens := G } :=
  ⟨I.ok, I.os, hG, I.base, I.loc, I.cell, I.free, I.freeC, I.pin, I.hok, I.len⟩
theorem bare_set {G : Array GenState} {g : Nat} {x : GenState} (h : AllBare G) (hx : x.bare = true) : AllBare (G.setIfInBounds g x) := fun y hy => by
  obtain ⟨i, hi, rfl⟩ := Array.mem_iff_getElem.mp hy
  rw [Array.getElem_setIfInBounds (by simpa using hi)]
  split
  · exact hx
  · exact h _ (Array.getElem_mem _)
theorem GxD.Inv.setGen {D : GxD α} {pins : List (Addr × Obj)} {H : Hp} {s : Shared} (G : D.Inv pins H s) {g : Nat} {x : GenState} (hx : x.bare = true) : D.Inv pins H (s.setGen g x) :=
  ⟨G.1, Inv.gens G.2.1 (bare_set G.2.1.bare hx), G.2.2⟩
/-- the generator g at ga sleeps; n: more than it will hand out; a: what the consumer has -/
structure GxD.Live (D : GxD α) (A : Around) (ga : Addr) (g n : Nat) (a : α) (s : Shared) : Prop where
  mem : ga ∈ D.prot
  isg : s.heap.IsGen ga g
  acc : D.Acc a s.heap
  inv : ∃ pins H, D.Inv pins H s
  go : ∃ gs, s.gens[g]? = some gs ∧ gs.Goes (model D.Z.prog D.Z.w) A.in1 D.R D.Y n (.send .none) (s.setGen g .running)
/-- it has handed out x, the heap is H; where the consumer comes to Nx it lives on -/
structure GxD.Told (D : GxD α) (A : Around) (ga : Addr) (g n : Nat) (a : α) (x : V) (H : Hp) (Nx : α → Hp → Prop) (s : Shared) : Prop where
  inv : ∃ pins, D.Inv pins H s
  acc : D.Acc a s.heap
  yl : D.Yl a x H Nx
  isg : s.heap.IsGen ga g
  on : ∃ i, D.tn (i + 1) s.heap ∧ ∀ (s' : Shared) (pins' : List (Addr × Obj)) (H' : Hp) (a' : α), s'.gens = s.gens → s'.heap.IsGen ga g → D.Inv pins' H' s' → D.tn (i + 1) s'.heap → D.Acc a' s'.heap → Nx a' H' → ∃ n', n = n' + 1 ∧ D.Live A ga g n' a' s'
theorem pins_same {D : GxD α} {pins : List (Addr × Obj)} {H : Hp} {s s₀ : Shared} (G : D.Inv pins H s) (h0 : ∀ p ∈ pins, s₀.heap.get? p.1 = some p.2) {b : Addr} (hb : b ∈ D.prot) : s.heap.get? b = s₀.heap.get? b := by
  rw [← G.1] at hb
  obtain ⟨p, hp, e⟩ := List.mem_map.mp hb
  rw [← e, (G.2.1.pin p (List.mem_append_right _ hp)).1, h0 p hp]
theorem gx_next {D : GxD α} {A : Around} {ga : Addr} {g n : Nat} {a : α} {s : Shared} {Q : Option Value → Shared → Prop} {E : Value → Shared → Prop} (calm : A.handled = none) (room : A.depth < recursionLimit)
    (hfun : ∀ a a' h, D.Acc a h → D.Acc a' h → a = a') (hpr : ∀ a h h', (∀ b ∈ D.prot, h'.get? b = h.get? b) → D.Acc a h → D.Acc a h') (L : D.Live A ga g n a s)
    (some_ : ∀ v x H Nx t, RelV x v → D.Told A ga g n a x H Nx t → Q (some v) t)
    (none_ : ∀ pins H t, D.Inv pins H t → D.Dn a H → Q none t) :
    wpAny (model D.Z.prog D.Z.w) A (pyNext (.ref ga)) Q E s := by
  obtain ⟨pins0, H0, G0⟩ := L.inv
  obtain ⟨gs, hgs, hgo⟩ := L.go
  refine wpAny_pyNext_genexpQ (P := D.P) (Y := D.Y) (n := n) calm G0.2.1.nolimit room L.isg hgs hgo (fun v t gs' hb hv => ?_) (fun t hp h' hk => ?_)
  · obtain ⟨i, a1, pins, H, x, Nx, rx, hz, hacc, h0, G, htn, hyl, kap⟩ := hv
    have ea : a1 = a := hfun _ _ _ hacc L.acc
    subst ea
    have same : ∀ b ∈ D.prot, t.heap.get? b = s.heap.get? b := fun b hb' => pins_same G h0 hb'
    have isg : t.heap.IsGen ga g := by
      obtain ⟨o, nm, qn, ho, r⟩ := L.isg
      exact ⟨o, nm, qn, (same ga L.mem).trans ho, r⟩
    refine some_ v x H Nx _ rx ⟨⟨pins, G.setGen hb⟩, hpr _ _ _ same hacc, hyl, isg, i, htn, fun s' pins' H' a' hge isg' G' htn' hacc' nx => ?_⟩
    have kp := kap (s'.setGen g .running) pins' H' a' (G'.setGen rfl) htn' hacc' nx
    cases n with
    | zero => exact kp.elim
    | succ n' =>
    refine ⟨n', rfl, L.mem, isg', hacc', ⟨_, _, G'⟩, gs', ?_, kp⟩
    rw [hge]
    · have hlt : g < t.gens.size := by
        have h1 : g < s.gens.size := (Array.getElem?_eq_some_iff.mp hgs).1
        have h2 : (s.setGen g .running).gens.size = s.gens.size := by simp [Shared.setGen]
        omega
      simp [Shared.setGen, hlt]
  · obtain ⟨a1, pins, H, hacc, h0, G, hdn⟩ := hp
    have ea : a1 = a := hfun _ _ _ hacc L.acc
    subst ea
    exact none_ pins H _ ⟨G.1, Inv.gens (G := (t.setGen g .finished).gens) (G.2.1.kept (t' := t.toks) hk) (bare_set G.2.1.bare rfl), G.2.2⟩ hdn
theorem GxD.Told.stay {D : GxD α} {A : Around} {ga : Addr} {g n : Nat} {a a' : α} {x : V} {H : Hp} {Nx : α → Hp → Prop} {s : Shared} (T : D.Told A ga g n a x H Nx s) (tk : Nat) (nx : Nx a' H) (ha : D.Acc a' s.heap) :
    ∃ n', n = n' + 1 ∧ D.Live A ga g n' a' { s with toks := tk } := by
  obtain ⟨pins, G⟩ := T.inv
  obtain ⟨i, ht, on⟩ := T.on
  exact on { s with toks := tk } pins H a' rfl T.isg ⟨G.1, G.2.1.tok tk, G.2.2⟩ ht ha nx
/-- any(..), all(..): where k is not yet, the next; where it is, the end -/
def ylAll (stop : Bool) (Fl : Hp → Prop) : Unit → V → Hp → (Unit → Hp → Prop) → Prop := fun _ x H Nx => ∃ k, x = .bl k ∧ if k = stop then Fl H else Nx () H
theorem unit_fun {D : GxD Unit} : ∀ a a' h, D.Acc a h → D.Acc a' h → a = a' := fun _ _ _ _ _ => rfl
theorem all_loop {D : GxD Unit} {A : Around} {ga : Addr} {g : Nat} {R : Result → Shared → Prop} {Fl : Hp → Prop} (calm : A.handled = none) (room : A.depth < recursionLimit) (hyl : D.Yl = ylAll false Fl) (hac : D.Acc = fun _ _ => True)
    (yes : ∀ pins H t, D.Inv pins H t → D.Dn () H → R (.ok (.ret (.bool true))) t) (no : ∀ pins H t, D.Inv pins H t → Fl H → R (.ok (.ret (.bool false))) t) :
    ∀ n s, D.Live A.in1 ga g n () s → codeAny (model D.Z.prog D.Z.w) A (.builtin "all.loop" ⟨[.ref ga], []⟩) R s := by
  intro n
  induction n using Nat.strongRecOn with
  | _ n ih =>
    intro s L
    refine codeAny_builtin F.entry_all_loop ?_
    rw [Around.under_plainId F.plain_all_loop _]
    show wpAny _ A.in1 (pyNext (.ref ga) >>= _) _ _ s
    refine wpAny_bind (gx_next (A := A.in1) calm room unit_fun (fun _ _ _ _ _ => by rw [hac]; trivial) L (fun v x H Nx t rx T => ?_) (fun pins H t G dn => ?_))
    · have yl := T.yl
      rw [hyl] at yl
      obtain ⟨k, rfl, q⟩ := yl
      obtain rfl : v = .bool k := rx
      refine wpAny_bind (wpAny_holding (wpAny_truthy_bool (wpAny_bind (wpAny_letGo ?_))))
      cases k with
      | true =>
        simp only [Bool.true_eq_false, if_false] at q
        simp only [if_true]
        obtain ⟨n', rfl, L'⟩ := T.stay (a' := ()) t.toks q (by rw [hac]; trivial)
        exact wpAny_pure ⟨plainId_quiet F.plain_all_loop _, ih n' (Nat.lt_succ_self _) t L'⟩
      | false =>
        simp only [if_true] at q
        simp only [Bool.false_eq_true, if_false]
        obtain ⟨pins, G⟩ := T.inv
        exact wpAny_bind (wpAny_rule (wpAny_pure (no pins H t G q)))
    · exact wpAny_bind (wpAny_rule (wpAny_pure (yes pins H t G dn)))
theorem any_loop {D : GxD Unit} {A : Around} {ga : Addr} {g : Nat} {R : Result → Shared → Prop} {Fl : Hp → Prop} (calm : A.handled = none) (room : A.depth < recursionLimit) (hyl : D.Yl = ylAll true Fl) (hac : D.Acc = fun _ _ => True)
    (no : ∀ pins H t, D.Inv pins H t → D.Dn () H → R (.ok (.ret (.bool false))) t) (yes : ∀ pins H t, D.Inv pins H t → Fl H → R (.ok (.ret (.bool true))) t) :
    ∀ n s, D.Live A.in1 ga g n () s → codeAny (model D.Z.prog D.Z.w) A (.builtin "any.loop" ⟨[.ref ga], []⟩) R s := by
  intro n
  induction n using Nat.strongRecOn with
  | _ n ih =>
    intro s L
    refine codeAny_builtin F.entry_any_loop ?_
    rw [Around.under_plainId F.plain_any_loop _]
    show wpAny _ A.in1 (pyNext (.ref ga) >>= _) _ _ s
    refine wpAny_bind (gx_next (A := A.in1) calm room unit_fun (fun _ _ _ _ _ => by rw [hac]; trivial) L (fun v x H Nx t rx T => ?_) (fun pins H t G dn => ?_))
    · have yl := T.yl
      rw [hyl] at yl
      obtain ⟨k, rfl, q⟩ := yl
      obtain rfl : v = .bool k := rx
      refine wpAny_bind (wpAny_holding (wpAny_truthy_bool (wpAny_bind (wpAny_letGo ?_))))
      cases k with
      | false =>
        simp only [Bool.false_eq_true, if_false] at q
        simp only [Bool.false_eq_true, if_false]
        obtain ⟨n', rfl, L'⟩ := T.stay (a' := ()) t.toks q (by rw [hac]; trivial)
        exact wpAny_pure ⟨plainId_quiet F.plain_any_loop _, ih n' (Nat.lt_succ_self _) t L'⟩
      | true =>
        simp only [if_true] at q
        simp only [if_true]
        obtain ⟨pins, G⟩ := T.inv
        exact wpAny_bind (wpAny_rule (wpAny_pure (yes pins H t G q)))
    · exact wpAny_bind (wpAny_rule (wpAny_pure (no pins H t G dn)))
/-- the consumer's own object at S is written anew -/
structure GxD.Own (D : GxD α) (ga S : Addr) : Prop where
  prot : D.prot = [ga, S]
  ne : S ≠ ga
  young : D.Z.s_0.heap.objs.size ≤ S
  loc : S ≠ D.Z.env.locals
  cel : ∀ x c, D.Z.env.cells.lookup x = some c → c ≠ S
  pn : D.Z.pn = []
theorem GxD.Told.write {D : GxD α} {A : Around} {ga S : Addr} {g n : Nat} {a a' : α} {x : V} {H : Hp} {Nx : α → Hp → Prop} {s : Shared} (T : D.Told A ga g n a x H Nx s) (hT : ∀ i h h', D.tn i h → (∀ b ∈ D.fp, ∀ o, h.get? b = some o → h'.get? b = some o) → D.tn i h')
    (ow : D.Own ga S) {h' : Heap} {o : Obj} (tk : Nat) (hk : ∀ b u, b ≠ S → s.heap.get? b = some u → h'.get? b = some u) (hS : h'.get? S = some o) (hcell : ∀ v, o.data ≠ .cell v) (nx : Nx a' H) (ha : D.Acc a' h') :
    ∃ n', n = n' + 1 ∧ D.Live A ga g n' a' { s with heap := h', toks := tk } := by
  obtain ⟨pins, hpr, I, hf⟩ := T.inv
  obtain ⟨i, ht, on⟩ := T.on
  obtain ⟨hgp, hSp⟩ : ga ∈ D.prot ∧ S ∈ D.prot := by rw [ow.prot]; simp
  have pinOf : ∀ b ∈ D.prot, ∃ p ∈ pins, p.1 = b := fun b hb => by
    rw [← hpr] at hb
    obtain ⟨p, hp, e⟩ := List.mem_map.mp hb
    exact ⟨p, hp, e⟩
  obtain ⟨pg, hpg, epg⟩ := pinOf ga hgp
  obtain ⟨pS, hpS, epS⟩ := pinOf S hSp
  have nfp : ∀ b ∈ D.fp, b ≠ S := fun b hb z => by
    have := (hf b hb).2.2.2.2.2 pS (List.mem_append_right _ hpS)
    rw [epS] at this
    exact this z.symm
  obtain ⟨gE, gN, gL, gF, gC⟩ := I.pin pg (List.mem_append_right _ hpg)
  obtain ⟨sE, sN, sL, sF, sC⟩ := I.pin pS (List.mem_append_right _ hpS)
  rw [epg] at gE gN gL gF
  rw [epS] at sE sN sL sF
  have I0 : L2.Inv D.Z [] D.σ0 H s := I.pins_of fun p hp => nomatch hp
  have nt : ∀ b u, H b = some u → b ≠ S := fun b u e z => by rw [z, sN] at e; cases e
  have J0 : L2.Inv D.Z [] D.σ0 H { s with heap := h', toks := tk } := by
    refine I0.step (h' := h') (g' := s.gens) (d' := s.drawn) (t' := tk) (ch := [S]) (fun b hb => ?_) (fun b u _ _ hc e _ => hk b u (fun z => hc (by rw [z]; exact List.mem_singleton.mpr rfl)) e)
      (fun b u _ _ hc e _ => ⟨u.slots, hk b u (fun z => hc (by rw [z]; exact List.mem_singleton.mpr rfl)) e⟩) (fun _ _ _ _ e => e) (fun b u hc e => ⟨u, hk b u (fun z => hc (by rw [z]; exact List.mem_singleton.mpr rfl)) e⟩)
      (fun _ _ e => e) (fun _ _ _ e => e) (fun b ps e => ⟨#[], by rw [e]; simp⟩) (fun m hm => ?_) (fun b u e => ?_) I0.bare
    · rw [List.mem_singleton.mp hb]
      refine ⟨.inr ow.young, ow.loc, ow.cel, fun p hp => ?_⟩
      rw [ow.pn] at hp
      exact nomatch hp
    · obtain ⟨ob, es, ep, ho, r⟩ := hm
      exact ⟨ob, es, ep, hk _ ob (Ne.symm ow.loc) ho, r⟩
    · refine (I0.hok b u e).stay (fun c v hc q => hk c v ?_ q) (fun _ q => q) fun _ _ q => q
      rcases hc with rfl | hc
      · exact nt _ _ e
      · exact nt _ _ hc
  have gE' : h'.get? ga = some pg.2 := hk _ _ (Ne.symm ow.ne) gE
  have J : L2.Inv D.Z [(ga, pg.2), (S, o)] D.σ0 H { s with heap := h', toks := tk } := J0.pins_of fun p hp => by
    rcases List.mem_cons.mp hp with rfl | hp
    · exact ⟨gE', gN, gL, gF, gC⟩
    · rw [List.mem_singleton.mp hp]
      exact ⟨hS, sN, sL, sF, hcell⟩
  have isg : h'.IsGen ga g := by
    obtain ⟨ob, nm, qn, ho, r⟩ := T.isg
    exact ⟨ob, nm, qn, hk _ _ (Ne.symm ow.ne) ho, r⟩
  refine on { s with heap := h', toks := tk } _ H a' rfl isg ⟨by rw [ow.prot]; rfl, J, fun b hb => ?_⟩ (hT _ _ _ ht fun b hb u e => hk b u (nfp b hb) e) ha nx
  obtain ⟨f0, f1, f2, f3, f4, f5⟩ := hf b hb
  refine ⟨f0, f1, f2, f3, f4, fun p hp => ?_⟩
  rw [ow.pn] at hp
  rcases List.mem_cons.mp (show p ∈ [(ga, pg.2), (S, o)] from hp) with rfl | hp
  · have := f5 pg (List.mem_append_right _ hpg)
    rw [epg] at this
    exact this
  · rw [List.mem_singleton.mp hp]
    exact (nfp b hb).symm
def accSum (S : Addr) : Int → Heap → Prop := fun k h => ∃ t c, h.get? S = some { cls := .type "list", dict := none, data := .seq #[.int k t] c, slots := #[] }
def ylSum : Int → V → Hp → (Int → Hp → Prop) → Prop := fun k x H Nx => ∃ j, x = .int j ∧ (-(2 ^ 62) ≤ k ∧ k < 2 ^ 62) ∧ (-(2 ^ 62) ≤ j ∧ j < 2 ^ 62) ∧ Nx (k + j) H
theorem sum_loop {D : GxD Int} {A : Around} {ga S : Addr} {g : Nat} {R : Result → Shared → Prop} (calm : A.handled = none) (room : A.depth < recursionLimit) (hT : ∀ i h h', D.tn i h → (∀ b ∈ D.fp, ∀ o, h.get? b = some o → h'.get? b = some o) → D.tn i h')
    (ow : D.Own ga S) (hyl : D.Yl = ylSum) (hac : D.Acc = accSum S) (fin : ∀ pins H t k tk, D.Inv pins H t → D.Dn k H → R (.ok (.ret (.int k tk))) t) :
    ∀ n s k, D.Live A.in1 ga g n k s → codeAny (model D.Z.prog D.Z.w) A (.builtin "sum.loop" ⟨[.ref ga, .ref S, rawInt 0, rawInt 0], []⟩) R s := by
  have hS : S ∈ D.prot := by rw [ow.prot]; simp
  have hfun : ∀ a a' h, D.Acc a h → D.Acc a' h → a = a' := by
    intro a a' h h1 h2
    rw [hac] at h1 h2
    obtain ⟨t, c, e⟩ := h1
    obtain ⟨t', c', e'⟩ := h2
    rw [e] at e'
    injection e' with e1
    injection e1 with _ _ e2
    injection e2 with e3
    have := congrArg (fun z : Array Value => z[0]?) e3
    injection this with e4
    injection e4
  have hpr : ∀ a h h', (∀ b ∈ D.prot, h'.get? b = h.get? b) → D.Acc a h → D.Acc a h' := by
    intro a h h' e h1
    rw [hac] at h1 ⊢
    obtain ⟨t, c, q⟩ := h1
    exact ⟨t, c, (e S hS).trans q⟩
  intro n
  induction n using Nat.strongRecOn with
  | _ n ih =>
    intro s k L
    have a0 := L.acc
    rw [hac] at a0
    obtain ⟨t0, c0, e0⟩ := a0
    refine codeAny_builtin F.entry_sum_loop ?_
    rw [Around.under_plainId F.plain_sum_loop _]
    show wpAny _ A.in1 (seqItems? (.ref S) >>= _) _ _ s
    refine wpAny_bind (wpAny_seqItems e0 rfl ?_)
    show wpAny _ A.in1 (tryCatch (pyNext (.ref ga)) _ >>= _) _ _ s
    refine wpAny_bind (wpAny_tryCatch (gx_next (A := A.in1) calm room hfun hpr L (fun v x H Nx t rx T => ?_) (fun pins H t G dn => ?_)))
    · have yl := T.yl
      rw [hyl] at yl
      obtain ⟨j, rfl, ⟨b1, b2⟩, ⟨b3, b4⟩, q⟩ := yl
      obtain ⟨tj, rfl⟩ := rx
      have a1 := T.acc
      rw [hac] at a1
      obtain ⟨t1, c1, e1⟩ := a1
      have hc : ((decide (-(2 ^ 63) ≤ j) && decide (j < 2 ^ 63)) && (decide (-(2 ^ 63) ≤ k + j) && decide (k + j < 2 ^ 63))) = true := by
        simp only [Bool.and_eq_true, decide_eq_true_eq]
        omega
      show wpAny _ A.in1 (if (_ : Bool) = true then (mkInt (k + j) >>= _) else _) _ _ _
      split
      · refine wpAny_bind (wpAny_mkInt ?_)
        show wpAny _ A.in1 (updateSeq S (fun _ => #[.int (k + j) t.toks]) >>= _) _ _ _
        refine wpAny_bind (wpAny_updateSeq e1 rfl ?_)
        have e2 := Heap.get?_update_self (Obj.mapSeq (fun _ => #[Value.int (k + j) t.toks])) e1 rfl
        obtain ⟨n', rfl, L'⟩ := T.write (a' := k + j) hT ow (t.toks + 1) (fun b u hb e => (Heap.get?_update_other _ _ (Ne.symm hb)).trans e) e2 (fun v z => by cases z) q (by rw [hac]; exact ⟨_, _, e2⟩)
        exact wpAny_pure ⟨plainId_quiet F.plain_sum_loop _, ih n' (Nat.lt_succ_self _) _ _ L'⟩
      · rename_i hneg
        exact absurd hc hneg
    · exact wpAny_pure (fin pins H t k t0 G dn)
end
end FF
namespace FF
open PySem PySem.Spec PyProof.Rows L2
/-! ### generator expressions: made -/
/-- the context of a generator expression's frame -/
abbrev gcx (X : Cx) (A : Around) (N : List Str) (s : Shared) (H : Hp) (cenv : Env) (fp : List Addr) : Cx :=
  { X with A := A, N := N, s_0 := s, H_0 := H, env := cenv, outer := X.stack, stack := cenv :: X.stack, ex := fp, fn := fun _ => false, calm := true, pn := [], xe := fun _ _ => False }
/-- its names: own ones, and those that the def (names XN) has as cells; src tells where these stand there -/
structure GxS (XN : List Str) (xsc scope : Scope) (N : List Str) (src : List (Option Nat)) : Prop where
  kind : scope.kind = .function
  co : scope.isCoroutine = false
  cell : ∀ y ∈ scope.names, y.2 ≠ .cell
  dot : scope.names.lookup (".0" : Str) = some NameKind.local
  free : ∀ y ∈ scope.names, y.2 = .free → xsc.names.lookup y.1 = some .cell ∨ xsc.names.lookup y.1 = some .free
  len : src.length = N.length
  nd : N.Nodup
  cap : ∀ (i j : Nat), src[i]? = some (some j) → ∃ x, N[i]? = some x ∧ XN[j]? = some x ∧ scope.names.lookup x = some .free
def gxσ (src : List (Option Nat)) (σ : L2.St) : L2.St := src.map fun o => match o with
  | some j => (σ[j]?).getD none
  | none => none
/-- H' is H but for the table at P, which may have grown -/
abbrev Tabd := GxR.Tabbed
abbrev TabG := GxR.TabG
section
variable {X : Cx} {pins : List (Addr × Obj)} {σ : L2.St} {H : Hp} {s : Shared}
theorem gx_inv {scope : Scope} {N : List Str} {src : List (Option Nat)} {fp : List Addr} {A : Around} {code : Value} {h' : Heap} {itv : Value} {gs : GenState} {tk : Nat} {og : Obj} (S : GxS X.N X.env.scope scope N src) (I : L2.Inv X pins σ H s) (hfp : ∀ b ∈ fp, FpOk X pins H b ∧ b < s.heap.objs.size)
    (hA : A.handled = none) (hF : A.frames = some (genEnv scope (cloFrom X.env.cells scope.names []) s.heap.objs.size code builtinsNs X.env :: X.stack)) (hgs : gs.bare = true)
    (hn : h'.Ns s.heap.objs.size (fun y => if y = ".0" then some itv else none)) (hs : Heap.SameBut s.heap.objs.size (s.heap.push { cls := .type "frame", data := .dict #[] }) h') :
    L2.Inv (gcx X A N s H (genEnv scope (cloFrom X.env.cells scope.names []) s.heap.objs.size code builtinsNs X.env) fp) [] (gxσ src σ) H { s with gens := s.gens.push gs, toks := tk, heap := h'.push og } := by
  have hfree : ∀ y ∈ scope.names, y.2 = .free → ∃ c, X.env.cells.lookup y.1 = some c := fun y hy e => by
    rcases S.free y hy e with k | k
    · exact I.ok.has _ (.inl k)
    · exact I.ok.has _ (.inr k)
  have kp : ∀ b o, s.heap.get? b = some o → (h'.push og).get? b = some o := fun b o e => Heap.get?_push_of_some _ (hs.extBut b o (Nat.ne_of_lt (Heap.lt_size e)) (Heap.get?_push_of_some _ e))
  have cm : ∀ {y c}, (cloFrom X.env.cells scope.names []).lookup y = some c → X.env.cells.lookup y = some c ∧ c < s.heap.objs.size := fun {y c} e => by
    rcases cloFrom_mem (PySem.mem_of_lookup e) with z | ⟨h1, h2⟩
    · cases z
    · obtain ⟨c', hc⟩ := hfree _ h1 rfl
      rw [hc] at h2
      have h2 : c = c' := h2
      rw [h2]
      obtain ⟨v, z⟩ := I.cell _ _ hc
      exact ⟨hc, z.lt⟩
  have has : ∀ {y}, scope.names.lookup y = some .free → ∃ c, (cloFrom X.env.cells scope.names []).lookup y = some c := fun {y} hl => by
    obtain ⟨c, e⟩ := mem_lookup (cloFrom_has (cells := X.env.cells) (acc := []) (PySem.mem_of_lookup hl))
    exact ⟨c, e⟩
  have okZ : (gcx X A N s H (genEnv scope (cloFrom X.env.cells scope.names []) s.heap.objs.size code builtinsNs X.env) fp).Ok := by
    refine ⟨I.ok.mod, S.kind, I.ok.glob, rfl, Nat.le_refl _, fun y z c e1 e2 => I.ok.inj y z c (cm e1).1 (cm e2).1, fun y hy => ?_, fun y c z e => (Bool.false_ne_true z).elim, fun _ => hA, hF, .inr ⟨rfl, rfl⟩, fun b hb => ⟨Nat.ne_of_lt (hfp b hb).2, fun y c e => (hfp b hb).1.2.2.2.2.1 y c (cm e).1⟩, I.bs, Nat.le_trans I.ok.bsz I.sz, fun b o e hb => ?_, fun b hb z => ?_, I.stack, I.stkFree⟩
    · rcases hy with hy | hy
      · exact absurd rfl (S.cell _ (PySem.mem_of_lookup hy))
      · exact has hy
    · rcases (hfp b hb).1.2.2.2.1 with z | z
      · exact I.ok.noex b o e z
      · exact absurd (Nat.lt_of_lt_of_le (Heap.lt_size e) (Nat.le_trans I.ok.bsz z)) (Nat.lt_irrefl _)
    · rcases List.mem_cons.mp (I.stkSub b z) with z | z
      · exact (hfp b hb).1.2.1 z
      · exact (hfp b hb).1.2.2.1 z
  refine ⟨okZ, rfl, I.bare.push hgs, Un.kept kp, ⟨_, hn.push og, fun i y v e1 e2 e3 => ?_⟩, fun y c e => ?_, I.hok.fresh (Nat.le_refl _), fun y c e => I.freeC y c (cm e).1, fun p hp => absurd (show p ∈ ([] : List (Addr × Obj)) ++ [] from hp) (by simp), I.hok.kept kp, ?_⟩
  · -- the captured names
    unfold gxσ at e2
    rw [List.getElem?_map] at e2
    cases hsrc : src[i]? with
    | none => rw [hsrc] at e2; cases e2
    | some o =>
      rw [hsrc] at e2
      cases o with
      | none => exact absurd (show (some (none : Option V)) = some (some v) from e2) (by simp)
      | some j =>
        have e2 : some ((σ[j]?).getD none) = some (some v) := e2
        have e4 : σ[j]? = some (some v) := by
          cases hj : σ[j]? with
          | none => rw [hj] at e2; exact absurd (Option.some.inj e2) (by simp)
          | some w => rw [hj] at e2; exact congrArg some (Option.some.inj e2)
        obtain ⟨x, hx1, hx2, hx3⟩ := S.cap i j hsrc
        have exy : x = y := Option.some.inj (hx1.symm.trans e1)
        subst exy
        obtain ⟨m, hm, hl⟩ := I.loc
        have hsc := S.free _ (PySem.mem_of_lookup hx3) rfl
        have hvis : Vis X.env.scope x := hsc.elim (fun k => .inr (.inl k)) (fun k => .inr (.inr k))
        obtain ⟨u, ru, lk⟩ := hl j x v hx2 e4 hvis
        refine ⟨u, ru, .inr ⟨.inr hx3, ?_⟩⟩
        obtain ⟨c, hc⟩ := has hx3
        refine ⟨c, hc, ?_⟩
        rcases lk with ⟨k, _⟩ | ⟨_, c', e', z⟩
        · have k : X.env.scope.names.lookup x = some .local := k
          rcases hsc with q | q <;> rw [show X.env.scope.names.lookup x = _ from q] at k <;> cases k
        · have := (cm hc).1
          rw [e'] at this
          cases this
          exact z.keeps kp
  · obtain ⟨v, z⟩ := I.cell y c (cm e).1
    exact ⟨v, z.keeps kp⟩
  · show (gxσ src σ).length = N.length
    unfold gxσ
    rw [List.length_map]
    exact S.len
end
end FF
namespace FF
open PySem PySem.Spec PyProof.Rows L2
/-! ### generator expressions: the rules -/
section
variable {X : Cx} {pins : List (Addr × Obj)} {σ : L2.St} {H : Hp} {s : Shared}
abbrev gEnv (X : Cx) (scope : Scope) (C : Addr) (code : Value) : Env := genEnv scope (cloFrom X.env.cells scope.names []) C code builtinsNs X.env
/-- a generator expression has been made, at ga: all that is known of it -/
structure Ready (X : Cx) (pins : List (Addr × Obj)) (σ : L2.St) (elt tg iter : Expr) (ifs : List Expr) (scope : Scope) (gpos : Pos) (N : List Str) (src : List (Option Nat)) (J : It) (G : Hp) (it : Addr) (fp : List Addr) (tn : Nat → Heap → Prop) (code : Value) (s4 t : Shared) (ga : Addr) (g : Nat) : Prop where
  i4 : L2.Inv X pins σ G s4
  fpX : ∀ b ∈ fp, FpOk X pins G b ∧ b < s4.heap.objs.size
  turn : Turn X.prog X.w X.K tg J fp it tn
  tn0 : tn 0 t.heap
  isg : t.heap.IsGen ga g
  gen : t.gens[g]? = some (.fresh (.compStart (.GeneratorExp elt [⟨tg, iter, ifs, 0⟩] scope gpos) 0 (.ref it) .none (gEnv X scope s4.heap.objs.size code)))
  inv : ∀ A : Around, A.handled = none → A.frames = some (gEnv X scope s4.heap.objs.size code :: X.stack) → L2.Inv (gcx X A N s4 G (gEnv X scope s4.heap.objs.size code) fp) [] (gxσ src σ) G t
  new : s4.heap.objs.size < ga
  lt : ga < t.heap.objs.size
theorem gx_make {c P : Addr} {elt tg iter : Expr} {ifs : List Expr} {scope : Scope} {gpos : Pos} {N : List Str} {src : List (Option Nat)} {wi : TI} {k : Nat} {Rr : It → Hp → Prop} {Q' : Value → Shared → Prop} (hr : Room k X.A) (TB : LamX.TabB X.base X.mg c P) (hcode : X.env.code = .ref c)
    (S : GxS X.N X.env.scope scope N src) (hi : PI X tg iter wi) (hs : ∀ v, genFold iter X.env v = pure v) (I : L2.Inv X pins σ H s) (h : wi σ H fun J H1 => TabG H1 P ∧ ∀ H2, Tabd P H1 H2 → Rr J H2)
    (fin : ∀ J G it fp tn code s4 t ga g, Rr J G → Ready X pins σ elt tg iter ifs scope gpos N src J G it fp tn code s4 t ga g → Q' (.ref ga) t) :
    wpAny (model X.prog X.w) X.A (eval (.GeneratorExp elt [⟨tg, iter, ifs, 0⟩] scope gpos) X.env) Q' X.xe s := by
  have hfree : ∀ y ∈ scope.names, y.2 = .free → ∃ c, X.env.cells.lookup y.1 = some c := fun y hy e => by
    rcases S.free y hy e with k | k
    · exact I.ok.has _ (.inl k)
    · exact I.ok.has _ (.inr k)
  refine wpAny_GeneratorExp_make S.co (closure_ok hfree) S.cell S.dot S.kind hr.depth (thn (hi.run pins s σ H _ I h) fun xv s1 hx => thn hx fun itv s2 h2 => ?_) hs
  obtain ⟨it, fp, tn, J, H2, e, I2, T, st2, f2, ⟨ps, hP, htr⟩, q⟩ := h2
  subst e
  have hPs : s2.heap.get? P = some { cls := .none, data := .fields ps } := I2.hok P _ hP
  have cd : PySem.W.CodeHd s2.heap c P := TB.code.keeps I2.bk
  have sz : ∀ b ∈ fp, b < s2.heap.objs.size := fun b hb => by
    obtain ⟨o, e, _⟩ := T.obj _ _ st2 b hb
    exact Heap.lt_size e
  have nP : ∀ b ∈ fp, b ≠ P := fun b hb z => by
    have := (f2 b hb).1
    rw [z, hP] at this
    cases this
  refine ⟨I2.nolimit, ?_⟩
  -- behind the code object's making: the table is ps ++ more
  have cont : ∀ (code : Value) (h3 : Heap) (tk : Nat) (more : Array Value), Heap.ExtBut P s2.heap h3 → h3.get? P = some { cls := .none, data := .fields (ps ++ more) } → TriplesOk (ps ++ more).toList →
      wpAny (model X.prog X.w) X.A (builtinsFor X.env.globals X.env.builtins) (fun bi s4 =>
        ∀ h', h'.Ns s4.heap.objs.size (fun y => if y = ".0" then some (.ref it) else none) → Heap.SameBut s4.heap.objs.size (s4.heap.push { cls := .type "frame", data := .dict #[] }) h' →
          Q' (.ref h'.objs.size) { s4 with
            gens := s4.gens.push (.fresh (.compStart (.GeneratorExp elt [⟨tg, iter, ifs, 0⟩] scope gpos) 0 (.ref it) .none (genEnv scope (cloFrom X.env.cells scope.names []) s4.heap.objs.size code bi X.env))),
            toks := s4.toks + 1 + 1 + 1,
            heap := h'.push { cls := .type "generator", data := .fields #[.int s4.gens.size 0, .str "<genexpr>" (s4.toks + 1), .str (X.env.qual ++ "<genexpr>") (s4.toks + 1 + 1)] } }) X.xe { s2 with heap := h3, toks := tk } := by
    intro code h3 tk more hx hm htr3
    obtain ⟨bm, ob, e1, e2, e3, e4, e5, e6, e7, e8⟩ := TB.bm
    have J4 : L2.Inv X pins σ (upd H2 P (.tbl (ps ++ more))) { s2 with heap := h3, gens := s2.gens, drawn := s2.drawn, toks := tk } := GxR.inv_tab (more := more) I2 hP (fun b o hb e => hx b o hb e) hm I2.bare
    have f4 : ∀ b ∈ fp, FpOk X pins (upd H2 P (.tbl (ps ++ more))) b ∧ b < h3.objs.size := fun b hb => by
      obtain ⟨o, e, _⟩ := T.obj _ _ st2 b hb
      exact ⟨⟨by rw [upd_ne (nP b hb)]; exact (f2 b hb).1, (f2 b hb).2⟩, Heap.lt_size (hx b o (nP b hb) e)⟩
    have tn3 : tn 0 h3 := T.keep _ _ _ st2 fun b hb o e => hx b o (nP b hb) e
    refine wpAny_builtinsFor (m := X.mg) (by rw [I2.ok.glob]; exact (I2.mod.glob.keeps I2.bk).extBut hx TB.gP) e1 e2 (hx _ _ e4 (I2.bk _ _ e5)) e6 e7 e8 ?_
    intro h' hn' hs'
    have hsz : h'.objs.size = h3.objs.size + 1 := by rw [hs'.1, Heap.size_push]
    have kp : ∀ b o, h3.get? b = some o → h'.get? b = some o := fun b o e => hs'.extBut b o (Nat.ne_of_lt (Heap.lt_size e)) (Heap.get?_push_of_some _ e)
    refine fin J (upd H2 P (.tbl (ps ++ more))) it fp tn code { s2 with heap := h3, toks := tk } _ _ s2.gens.size (q _ ⟨⟨ps ++ more, upd_same, htr3⟩, fun b hb => upd_ne hb⟩) ⟨J4, f4, T, T.keep _ _ _ tn3 fun b hb o e => Heap.get?_push_of_some _ (kp b o e), ⟨_, _, _, Heap.get?_push_size _ rfl, rfl, rfl, rfl⟩, Array.getElem?_push_size .., fun A hA hF => ?_, by show h3.objs.size < h'.objs.size; omega, by show h'.objs.size < (h'.push _).objs.size; rw [Heap.size_push]; exact Nat.lt_succ_self _⟩
    exact gx_inv (s := { s2 with heap := h3, toks := tk }) S J4 f4 hA hF rfl hn' hs'
  cases hf : codeAmong gpos ps.toList with
  | none =>
    refine wpAny_genexprCodeX hcode (cd.code hPs htr) (cd.tab hPs) hf fun c' h' tk hx hge hlt hco' _ htab' _ => ?_
    obtain ⟨o1, vs, f1, tf, fl, tg', inF, tx, tt, op, _, _, _, _, _, _, _, _, _, htr', _⟩ := hco'
    exact cont _ h' tk _ hx htab'.2 htr'
  | some cv =>
    refine wpAny_genexprCode_hit hcode (cd.code hPs htr) hf ?_
    exact cont cv s2.heap s2.toks #[] (Heap.ExtBut.refl _ _) (by rw [Array.append_empty]; exact hPs) (by rw [Array.append_empty]; exact htr)
theorem over_frames {A : Around} {elt tg iter : Expr} {ifs : List Expr} {scope : Scope} {pos : Pos} {it : Value} {env : Env} {l : List Env} (h : A.frames = some l) :
    (A.over (.compLoop (.GeneratorExp elt [⟨tg, iter, ifs, 0⟩] scope pos) 0 it .none env) []).frames = some (env :: l) := by
  unfold Around.over
  simp only [h]
  rfl
theorem over_room {A : Around} {elt tg iter : Expr} {ifs : List Expr} {scope : Scope} {pos : Pos} {it : Value} {env : Env} {k : Nat} (r : Room (k + 1) A) :
    Room k (A.over (.compLoop (.GeneratorExp elt [⟨tg, iter, ifs, 0⟩] scope pos) 0 it .none env) []) :=
  ⟨r.hd, by have := r.dp; show A.depth + 0 + 1 + 3 * k + 5 < _; omega, by have := r.un; show A.units + 0 + 3 + 16 * k + 200 < _; omega⟩
/-- what the rules ask of a generator expression's parts -/
structure GxP (X : Cx) (k : Nat) (elt tg : Expr) (ifs : List Expr) (scope : Scope) (N : List Str) (g : TG) (tt : TT) (te : TE) : Prop where
  pg : ∀ (A : Around) (s : Shared) (G : Hp) (C : Addr) (code : Value) (fp : List Addr), PG (gcx X A N s G (gEnv X scope C code) fp) tg g
  pt : ∀ (A : Around) (s : Shared) (G : Hp) (C : Addr) (code : Value) (fp : List Addr), Room k A → PTs (gcx X A N s G (gEnv X scope C code) fp) ifs tt
  pe : ∀ (A : Around) (s : Shared) (G : Hp) (C : Addr) (code : Value) (fp : List Addr), Room k A → PE (gcx X A N s G (gEnv X scope C code) fp) elt te
/-- a turn's reading; end_: what is wanted behind the last, yl: at an item -/
def GxT {α : Type} (J : It) (g : TG) (tt : TT) (te : TE) (vs : List Nat) (σ0 : L2.St) (W : Nat → Nat → α → Hp → Prop) (yl : α → V → Hp → (α → Hp → Prop) → Prop) (dn : α → Hp → Prop) : Prop :=
  ∀ i m a H, W i m a H → (J.stop i H ∧ dn a H) ∨ (J.go i H ∧ ∃ Nx : α → Hp → Prop, (∀ a' H', Nx a' H' → ∃ m', m' < m ∧ W (i + 1) m' a' H') ∧
    ∀ x H1, J.yld i H x H1 → g x σ0 H1 fun σ2 H2 => wipe σ2 vs = σ0 ∧ tt σ2 H2 fun b H3 => if b = true then te σ2 H3 fun y H4 => yl a y H4 Nx else Nx a H3)
section
variable {α : Type} {elt tg iter : Expr} {ifs : List Expr} {scope : Scope} {gpos : Pos} {N : List Str} {src : List (Option Nat)} {J : It} {G : Hp} {it : Addr} {fp : List Addr} {tn : Nat → Heap → Prop} {code : Value} {s4 t : Shared} {ga : Addr} {g : Nat} {gg : TG} {tt : TT} {te : TE}
/-- the data of the generator with a consumer -/
abbrev Ready.dat (_ : Ready X pins σ elt tg iter ifs scope gpos N src J G it fp tn code s4 t ga g) (A : Around) (prot : List Addr) (Acc : α → Heap → Prop) (W : Nat → Nat → α → Hp → Prop) (Yl : α → V → Hp → (α → Hp → Prop) → Prop) (Dn : α → Hp → Prop) (vs : List Nat) : GxD α :=
  ⟨gcx X (A.in1.over (.compLoop (.GeneratorExp elt [⟨tg, iter, ifs, 0⟩] scope gpos) 0 (.ref it) .none (gEnv X scope s4.heap.objs.size code)) []) N s4 G (gEnv X scope s4.heap.objs.size code) fp, elt, tg, iter, ifs, scope, gpos, it, fp, tn, J, prot, Acc, W, Yl, Dn, wipe (gxσ src σ) vs, vs⟩
theorem Ready.live (R : Ready X pins σ elt tg iter ifs scope gpos N src J G it fp tn code s4 t ga g) {k : Nat} {A : Around} {C : List (Addr × Obj)} {Acc : α → Heap → Prop} {W : Nat → Nat → α → Hp → Prop} {Yl : α → V → Hp → (α → Hp → Prop) → Prop} {Dn : α → Hp → Prop} {vs : List Nat} {a : α} {m : Nat} {h' : Heap} {tk : Nat}
    (S : GxS X.N X.env.scope scope N src) (hp : GxP X k elt tg ifs scope N gg tt te) (room : Room (k + 1) A.in1) (hA : A.in1.frames = some X.stack) (ht : GxT J gg tt te vs (wipe (gxσ src σ) vs) W Yl Dn)
    (hk : ∀ b o, t.heap.get? b = some o → h'.get? b = some o) (hC : ∀ p ∈ C, h'.get? p.1 = some p.2 ∧ t.heap.objs.size ≤ p.1 ∧ ∀ v, p.2.data ≠ .cell v) (hacc : Acc a h') (hw : W 0 m a G) :
    (R.dat A (ga :: C.map (·.1)) Acc W Yl Dn vs).Ok gg tt te ∧ (R.dat A (ga :: C.map (·.1)) Acc W Yl Dn vs).Live A ga g (m + 1) a { t with heap := h', toks := tk } := by
  have hZ := R.inv (A.in1.over (.compLoop (.GeneratorExp elt [⟨tg, iter, ifs, 0⟩] scope gpos) 0 (.ref it) .none (gEnv X scope s4.heap.objs.size code)) []) room.hd (over_frames hA)
  have hZ2 : L2.Inv (gcx X (A.in1.over (.compLoop (.GeneratorExp elt [⟨tg, iter, ifs, 0⟩] scope gpos) 0 (.ref it) .none (gEnv X scope s4.heap.objs.size code)) []) N s4 G (gEnv X scope s4.heap.objs.size code) fp) [] (wipe (gxσ src σ) vs) G { t with heap := h', toks := tk } :=
    (hZ.weak (wipe_length _ _) fun j v e => (wipe_some e).1).kept (t' := tk) hk
  obtain ⟨og, nm, qn, hog, hcls, hdat, hsl⟩ := id R.isg
  have young : ∀ b, s4.heap.objs.size < b → G b = none ∧ b ≠ s4.heap.objs.size ∧ b ∉ frs X.stack := fun b hb => ⟨R.i4.hok.fresh (Nat.le_of_lt hb), Nat.ne_of_gt hb, fun z => by
    rcases List.mem_cons.mp (R.i4.stkSub b z) with z | z
    · rw [z] at hb
      exact absurd (Nat.lt_trans R.i4.lt hb) (Nat.lt_irrefl _)
    · exact R.i4.nofs (Nat.le_of_lt hb) z⟩
  have cY : ∀ p ∈ C, s4.heap.objs.size < p.1 := fun p hp' => Nat.lt_of_lt_of_le (Nat.lt_trans R.new R.lt) (hC p hp').2.1
  have ok : (R.dat A (ga :: C.map (·.1)) Acc W Yl Dn vs).Ok gg tt te := ⟨rfl, rfl, S.co, R.turn, hp.pg .., hp.pt _ _ _ _ _ _ (over_room room), hp.pe _ _ _ _ _ _ (over_room room), ht⟩
  have GI : (R.dat A (ga :: C.map (·.1)) Acc W Yl Dn vs).Inv ((ga, og) :: C) G { t with heap := h', toks := tk } := by
    refine ⟨rfl, hZ2.pins_of fun p hp' => ?_, fun b hb => ?_⟩
    · rcases List.mem_cons.mp hp' with rfl | hp'
      · obtain ⟨y1, y2, y3⟩ := young ga R.new
        exact ⟨hk _ _ hog, y1, y2, y3, fun v z => by rw [hdat] at z; cases z⟩
      · obtain ⟨y1, y2, y3⟩ := young p.1 (cY p hp')
        exact ⟨(hC p hp').1, y1, y2, y3, (hC p hp').2.2⟩
    · refine ⟨(R.fpX b hb).1.1, Nat.ne_of_lt (R.fpX b hb).2, hZ.ok.exfs b hb, .inl hb, (hZ.ok.exf b hb).2, fun p hp' z => ?_⟩
      have hb2 := (R.fpX b hb).2
      rcases List.mem_cons.mp (show p ∈ (ga, og) :: C from hp') with e | hp'
      · rw [← z, e] at hb2
        exact absurd (Nat.lt_trans R.new hb2) (Nat.lt_irrefl _)
      · rw [← z] at hb2
        exact absurd (Nat.lt_trans (cY p hp') hb2) (Nat.lt_irrefl _)
  refine ⟨ok, List.mem_cons_self, ⟨og, nm, qn, hk _ _ hog, hcls, hdat, hsl⟩, hacc, ⟨_, _, GI⟩, _, R.gen, rfl, ?_⟩
  exact gx_begin ok (A := A.in1) rfl (Nat.lt_succ_self m) (GI.setGen rfl) (R.turn.keep _ _ _ R.tn0 fun b _ o e => hk b o e) hacc hw
/-- back in the def -/
theorem Ready.back (R : Ready X pins σ elt tg iter ifs scope gpos N src J G it fp tn code s4 t ga g) {A : Around} {prot : List Addr} {Acc : α → Heap → Prop} {W : Nat → Nat → α → Hp → Prop} {Yl : α → V → Hp → (α → Hp → Prop) → Prop} {Dn : α → Hp → Prop} {vs : List Nat} {pn : List (Addr × Obj)} {H' : Hp} {s' : Shared}
    (GI : (R.dat A prot Acc W Yl Dn vs).Inv pn H' s') : L2.Inv X pins σ H' s' :=
  R.i4.call' (ch := fp) GI.2.1.os GI.2.1.base GI.2.1.hok GI.2.1.bare fun b hb => ⟨(R.fpX b hb).1.2.2.2.1, (R.fpX b hb).1.2.1, (R.fpX b hb).1.2.2.2.2.1, (R.fpX b hb).1.2.2.2.2.2⟩
end
/-- all(elt for ..), any(elt for ..), sum(elt for ..) -/
def tAllG (P : Addr) (stop : Bool) (wi : TI) (g : TG) (tt : TT) (te : TE) (src : List (Option Nat)) (vs : List Nat) : TE := fun σ H Q => wi σ H fun J H1 => TabG H1 P ∧ ∀ H2, Tabd P H1 H2 →
  ∃ W : Nat → Nat → Hp → Prop, (∃ m, W 0 m H2) ∧ GxT (α := Unit) J g tt te vs (wipe (gxσ src σ) vs) (fun i m _ H => W i m H) (ylAll stop fun H' => Q (.bl stop) H') (fun _ H' => Q (.bl !stop) H')
def tSumG (P : Addr) (wi : TI) (g : TG) (tt : TT) (te : TE) (src : List (Option Nat)) (vs : List Nat) : TE := fun σ H Q => wi σ H fun J H1 => TabG H1 P ∧ ∀ H2, Tabd P H1 H2 →
  ∃ W : Nat → Nat → Int → Hp → Prop, (∃ m, W 0 m 0 H2) ∧ GxT (α := Int) J g tt te vs (wipe (gxσ src σ) vs) W ylSum (fun k H' => Q (.int k) H')
section
variable {c P : Addr} {elt tg iter : Expr} {ifs : List Expr} {scope : Scope} {gpos p pos : Pos} {N : List Str} {src : List (Option Nat)} {wi : TI} {g : TG} {tt : TT} {te : TE} {k : Nat} {vs : List Nat}
theorem pe_all (hr : Room (k + 3) X.A) (hg : Gl X "all") (hm : X.mg "all" = none) (hb : bootBuiltins "all" = some (.builtin "all")) (TB : LamX.TabB X.base X.mg c P) (hcode : X.env.code = .ref c) (S : GxS X.N X.env.scope scope N src) (hi : PI X tg iter wi) (hp : GxP X k elt tg ifs scope N g tt te)
    (hs : ∀ v, genFold iter X.env v = pure v := by intro _; rfl)
    (he : starEach [.GeneratorExp elt [⟨tg, iter, ifs, 0⟩] scope gpos] X.env = (false, eval (.GeneratorExp elt [⟨tg, iter, ifs, 0⟩] scope gpos) X.env) :: starEach [] X.env := by rfl) :
    PE X (.Call (.Name "all" p) [.GeneratorExp elt [⟨tg, iter, ifs, 0⟩] scope gpos] [] pos) (tAllG P false wi g tt te src vs) := by
  refine ⟨fun pins s σ H Q I h => ?_⟩
  refine wpAny_Call_Name_kw (ld_blt I hg hm hb (PyProof.Rows.callWith_builtin1 ?_ he (by rfl)))
  rw [he]
  show wpAny _ _ (spliced ((false, eval (.GeneratorExp elt [⟨tg, iter, ifs, 0⟩] scope gpos) X.env) :: backTo pos (starEach [] X.env))) _ _ s
  refine Calls.spliced_cons (gx_make hr TB hcode S hi hs I h fun J G it fp tn code s4 t ga gn q R => Calls.spliced_nil ?_)
  obtain ⟨W, ⟨m, w0⟩, ht⟩ := q
  have r1 : Room (k + 2) X.A.in1 := hr.in1
  have r2 : Room (k + 1) X.A.in1.in1 := r1.in1
  obtain ⟨ok, L⟩ := R.live (A := X.A.in1) (C := []) (Acc := fun _ _ => True) (a := ()) (m := m) (h' := t.heap) (tk := t.toks) S hp r2 I.ok.frames ht (fun _ _ e => e) (fun _ z => nomatch z) trivial w0
  refine call_function_tree F.kind_all F.plain_all F.entry_all (F.args_all1 _) ?_
  unfold Builtin.«all»
  refine wpAny_bind (m := oneArg "all" _) (wpAny_pure ?_)
  refine wpAny_bind (wpAny_pyIter_gen R.isg ?_)
  refine wpAny_pure ⟨plainId_quiet F.plain_all_loop _, all_loop (A := X.A) hr.hd hr.depth rfl rfl (fun pn H' t' GI dn => ?_) (fun pn H' t' GI q => ?_) (m + 1) t L⟩
  · exact ⟨.bl true, H', R.back GI, rfl, dn⟩
  · exact ⟨.bl false, H', R.back GI, rfl, q⟩
theorem pe_any (hr : Room (k + 3) X.A) (hg : Gl X "any") (hm : X.mg "any" = none) (TB : LamX.TabB X.base X.mg c P) (hcode : X.env.code = .ref c) (S : GxS X.N X.env.scope scope N src) (hi : PI X tg iter wi) (hp : GxP X k elt tg ifs scope N g tt te)
    (hs : ∀ v, genFold iter X.env v = pure v := by intro _; rfl)
    (he : starEach [.GeneratorExp elt [⟨tg, iter, ifs, 0⟩] scope gpos] X.env = (false, eval (.GeneratorExp elt [⟨tg, iter, ifs, 0⟩] scope gpos) X.env) :: starEach [] X.env := by rfl) :
    PE X (.Call (.Name "any" p) [.GeneratorExp elt [⟨tg, iter, ifs, 0⟩] scope gpos] [] pos) (tAllG P true wi g tt te src vs) := by
  refine ⟨fun pins s σ H Q I h => ?_⟩
  refine wpAny_Call_Name_kw (ld_blt I hg hm boot_any (PyProof.Rows.callWith_builtin1 ?_ he (by rfl)))
  rw [he]
  show wpAny _ _ (spliced ((false, eval (.GeneratorExp elt [⟨tg, iter, ifs, 0⟩] scope gpos) X.env) :: backTo pos (starEach [] X.env))) _ _ s
  refine Calls.spliced_cons (gx_make hr TB hcode S hi hs I h fun J G it fp tn code s4 t ga gn q R => Calls.spliced_nil ?_)
  obtain ⟨W, ⟨m, w0⟩, ht⟩ := q
  have r1 : Room (k + 2) X.A.in1 := hr.in1
  have r2 : Room (k + 1) X.A.in1.in1 := r1.in1
  obtain ⟨ok, L⟩ := R.live (A := X.A.in1) (C := []) (Acc := fun _ _ => True) (a := ()) (m := m) (h' := t.heap) (tk := t.toks) S hp r2 I.ok.frames ht (fun _ _ e => e) (fun _ z => nomatch z) trivial w0
  refine call_function_tree F.kind_any F.plain_any F.entry_any (F.args_any1 _) ?_
  unfold Builtin.«any»
  refine wpAny_bind (m := oneArg "any" _) (wpAny_pure ?_)
  refine wpAny_bind (wpAny_pyIter_gen R.isg ?_)
  refine wpAny_pure ⟨plainId_quiet F.plain_any_loop _, any_loop (A := X.A) hr.hd hr.depth rfl rfl (fun pn H' t' GI dn => ?_) (fun pn H' t' GI q => ?_) (m + 1) t L⟩
  · exact ⟨.bl false, H', R.back GI, rfl, dn⟩
  · exact ⟨.bl true, H', R.back GI, rfl, q⟩
theorem pe_sum (hr : Room (k + 3) X.A) (hg : Gl X "sum") (hm : X.mg "sum" = none) (TB : LamX.TabB X.base X.mg c P) (hcode : X.env.code = .ref c) (S : GxS X.N X.env.scope scope N src) (hi : PI X tg iter wi) (hp : GxP X k elt tg ifs scope N g tt te)
    (hs : ∀ v, genFold iter X.env v = pure v := by intro _; rfl)
    (he : starEach [.GeneratorExp elt [⟨tg, iter, ifs, 0⟩] scope gpos] X.env = (false, eval (.GeneratorExp elt [⟨tg, iter, ifs, 0⟩] scope gpos) X.env) :: starEach [] X.env := by rfl) :
    PE X (.Call (.Name "sum" p) [.GeneratorExp elt [⟨tg, iter, ifs, 0⟩] scope gpos] [] pos) (tSumG P wi g tt te src vs) := by
  refine ⟨fun pins s σ H Q I h => ?_⟩
  refine wpAny_Call_Name_kw (ld_blt I hg hm boot_sum (PyProof.Rows.callWith_builtin1 ?_ he (by rfl)))
  rw [he]
  show wpAny _ _ (spliced ((false, eval (.GeneratorExp elt [⟨tg, iter, ifs, 0⟩] scope gpos) X.env) :: backTo pos (starEach [] X.env))) _ _ s
  refine Calls.spliced_cons (gx_make hr TB hcode S hi hs I h fun J G it fp tn code s4 t ga gn q R => Calls.spliced_nil ?_)
  obtain ⟨W, ⟨m, w0⟩, ht⟩ := q
  have r1 : Room (k + 2) X.A.in1 := hr.in1
  have r2 : Room (k + 1) X.A.in1.in1 := r1.in1
  refine call_function_tree F.kind_sum F.plain_sum F.entry_sum (F.args_sum1 _) ?_
  unfold Builtin.«sum»
  simp only [List.length_cons, List.length_nil]
  rw [if_neg (by decide)]
  refine wpAny_bind (wpAny_of_eq (show Builtin.Builtins.bindParams "sum" ["start"] 0 { } = pure [none] from rfl) ?_)
  refine wpAny_bind (wpAny_pyIter_gen R.isg ?_)
  refine wpAny_bind (wpAny_mkInt ?_)
  refine wpAny_bind (wpAny_pure ?_)
  simp only [List.forIn_cons, List.forIn_nil]
  refine wpAny_bind (wpAny_bind (wpAny_bind (wpAny_isInstance (T := "int") (b := false) (typeIs_int _ _ _) PySem.sub_int_str ?_)))
  simp only [Bool.false_eq_true, if_false]
  refine wpAny_pure (wpAny_bind (wpAny_bind (wpAny_isInstance (T := "int") (b := false) (typeIs_int _ _ _) PySem.sub_int_bytes ?_)))
  simp only [Bool.false_eq_true, if_false]
  refine wpAny_pure (wpAny_bind (wpAny_bind (wpAny_isInstance (T := "int") (b := false) (typeIs_int _ _ _) PySem.sub_int_bytearray ?_)))
  simp only [Bool.false_eq_true, if_false]
  refine wpAny_pure (wpAny_pure ?_)
  refine wpAny_bind (wpAny_newObj_type ?_)
  have hS : (t.heap.push { cls := .type "list", data := .seq #[Value.int 0 t.toks] }).get? t.heap.objs.size = some { cls := .type "list", data := .seq #[Value.int 0 t.toks] } := Heap.get?_push_size _ rfl
  obtain ⟨ok, L⟩ := R.live (A := X.A.in1) (C := [(t.heap.objs.size, { cls := .type "list", data := .seq #[Value.int 0 t.toks] })]) (Acc := accSum t.heap.objs.size) (a := 0) (m := m) (h' := t.heap.push { cls := .type "list", data := .seq #[Value.int 0 t.toks] }) (tk := t.toks + 1) S hp r2 I.ok.frames ht (fun _ _ e => Heap.get?_push_of_some _ e)
    (fun q hq => by rw [List.mem_singleton.mp hq]; exact ⟨hS, Nat.le_refl _, fun v z => by cases z⟩) ⟨_, _, hS⟩ w0
  have big : s4.heap.objs.size < t.heap.objs.size := Nat.lt_trans R.new R.lt
  refine wpAny_pure ⟨plainId_quiet F.plain_sum_loop _, sum_loop (A := X.A) hr.hd hr.depth ok.turn.keep ⟨rfl, Nat.ne_of_gt R.lt, Nat.le_of_lt big, Nat.ne_of_gt big, fun x c0 e z => ?_, rfl⟩ rfl rfl (fun pn H' t' kk tk' GI dn => ?_) (m + 1) _ 0 L⟩
  · have hZ := R.inv (X.A.in1.in1.over (.compLoop (.GeneratorExp elt [⟨tg, iter, ifs, 0⟩] scope gpos) 0 (.ref it) .none (gEnv X scope s4.heap.objs.size code)) []) hr.hd (over_frames I.ok.frames)
    obtain ⟨v, zc⟩ := hZ.cell x c0 e
    exact absurd zc.lt (by rw [z]; exact Nat.lt_irrefl _)
  · exact ⟨.int kk, H', R.back GI, ⟨_, rfl⟩, dn⟩
end
end
/-- by a look at the names -/
def gxsB (XN : List Str) (xsc scope : Scope) (N : List Str) (src : List (Option Nat)) : Bool :=
  decide (scope.kind = .function) && (!scope.isCoroutine && ((scope.names.all fun y => decide (y.2 ≠ .cell)) && (decide (scope.names.lookup (".0" : Str) = some NameKind.local) &&
  ((scope.names.all fun y => decide (y.2 ≠ .free) || decide (xsc.names.lookup y.1 = some .cell) || decide (xsc.names.lookup y.1 = some .free)) && (decide (src.length = N.length) && (decide N.Nodup &&
  (List.range src.length).all fun i => match src[i]? with
    | some (some j) => (match N[i]? with
      | some x => decide (XN[j]? = some x) && decide (scope.names.lookup x = some .free)
      | none => false)
    | _ => true))))))
theorem gxs_of {XN : List Str} {xsc scope : Scope} {N : List Str} {src : List (Option Nat)} (h : gxsB XN xsc scope N src = true) : GxS XN xsc scope N src := by
  unfold gxsB at h
  simp only [Bool.and_eq_true, decide_eq_true_eq, Bool.not_eq_true', List.all_eq_true, Bool.or_eq_true] at h
  obtain ⟨h1, h2, h3, h4, h5, h6, h7, h8⟩ := h
  refine ⟨h1, h2, h3, h4, fun y hy e => ?_, h6, h7, fun i j e => ?_⟩
  · rcases h5 y hy with (z | z) | z
    · exact absurd e z
    · exact .inl z
    · exact .inr z
  · have hi : i < src.length := (List.getElem?_eq_some_iff.mp e).1
    have q := h8 i (List.mem_range.mpr hi)
    rw [e] at q
    cases hn : N[i]? with
    | none => rw [hn] at q; cases q
    | some x =>
      rw [hn] at q
      obtain ⟨q1, q2⟩ := Bool.and_eq_true_iff.mp q
      exact ⟨x, rfl, of_decide_eq_true q1, of_decide_eq_true q2⟩
end FF
namespace FF
open PySem PySem.Spec PyProof.Rows L2
/-! ### tuple(elt for ..) -/
section
variable {α : Type}
theorem gx_nextA {D : GxD α} {A : Around} {ga : Addr} {g n : Nat} {a : α} {s : Shared} {Q : Option Value → Shared → Prop} {E : Value → Shared → Prop} (calm : A.handled = none) (room : A.depth < recursionLimit)
    (hfun : ∀ a a' h, D.Acc a h → D.Acc a' h → a = a') (hpr : ∀ a h h', (∀ b ∈ D.prot, h'.get? b = h.get? b) → D.Acc a h → D.Acc a h') (L : D.Live A ga g n a s)
    (some_ : ∀ v x H Nx t, RelV x v → D.Told A ga g n a x H Nx t → Q (some v) t)
    (none_ : ∀ pins H t, D.Inv pins H t → D.Acc a t.heap → D.Dn a H → Q none t) :
    wpAny (model D.Z.prog D.Z.w) A (pyNext (.ref ga)) Q E s := by
  obtain ⟨pins0, H0, G0⟩ := L.inv
  obtain ⟨gs, hgs, hgo⟩ := L.go
  refine wpAny_pyNext_genexpQ (P := D.P) (Y := D.Y) (n := n) calm G0.2.1.nolimit room L.isg hgs hgo (fun v t gs' hb hv => ?_) (fun t hp h' hk => ?_)
  · obtain ⟨i, a1, pins, H, x, Nx, rx, hz, hacc, h0, G, htn, hyl, kap⟩ := hv
    have ea : a1 = a := hfun _ _ _ hacc L.acc
    subst ea
    have same : ∀ b ∈ D.prot, t.heap.get? b = s.heap.get? b := fun b hb' => pins_same G h0 hb'
    have isg : t.heap.IsGen ga g := by
      obtain ⟨o, nm, qn, ho, r⟩ := L.isg
      exact ⟨o, nm, qn, (same ga L.mem).trans ho, r⟩
    refine some_ v x H Nx _ rx ⟨⟨pins, G.setGen hb⟩, hpr _ _ _ same hacc, hyl, isg, i, htn, fun s' pins' H' a' hge isg' G' htn' hacc' nx => ?_⟩
    have kp := kap (s'.setGen g .running) pins' H' a' (G'.setGen rfl) htn' hacc' nx
    cases n with
    | zero => exact kp.elim
    | succ n' =>
    refine ⟨n', rfl, L.mem, isg', hacc', ⟨_, _, G'⟩, gs', ?_, kp⟩
    rw [hge]
    · have hlt : g < t.gens.size := by
        have h1 : g < s.gens.size := (Array.getElem?_eq_some_iff.mp hgs).1
        have h2 : (s.setGen g .running).gens.size = s.gens.size := by simp [Shared.setGen]
        omega
      simp [Shared.setGen, hlt]
  · obtain ⟨a1, pins, H, hacc, h0, G, hdn⟩ := hp
    have ea : a1 = a := hfun _ _ _ hacc L.acc
    subst ea
    refine none_ pins H _ ⟨G.1, Inv.gens (G := (t.setGen g .finished).gens) (G.2.1.kept (t' := t.toks) hk) (bare_set G.2.1.bare rfl), G.2.2⟩ (hpr _ _ _ (fun b hb => ?_) hacc) hdn
    have hb2 := hb
    rw [← G.1] at hb2
    obtain ⟨p, hp, e⟩ := List.mem_map.mp hb2
    have h1 := h0 p hp
    have h2 := (G.2.1.pin p (List.mem_append_right _ hp)).1
    rw [← e]
    exact (hk _ _ h2).trans h1.symm
def accLst (S : Addr) : List V → Heap → Prop := fun xs h => ∃ (its : List Value) (c : Nat), Vals xs its ∧ h.get? S = some { cls := .type "list", dict := none, data := .seq its.toArray c, slots := #[] }
def ylLst : List V → V → Hp → (List V → Hp → Prop) → Prop := fun xs x H Nx => xs.length < sizeLine ∧ Nx (xs ++ [x]) H
theorem lst_loop {D : GxD (List V)} {A : Around} {ga S : Addr} {g : Nat} {res : Value} {R : Result → Shared → Prop} (calm : A.handled = none) (room : A.depth < recursionLimit) (hT : ∀ i h h', D.tn i h → (∀ b ∈ D.fp, ∀ o, h.get? b = some o → h'.get? b = some o) → D.tn i h')
    (ow : D.Own ga S) (hyl : D.Yl = ylLst) (hac : D.Acc = accLst S) (fin : ∀ pins H t xs, D.Inv pins H t → accLst S xs t.heap → D.Dn xs H → R (.ok (.ret res)) t) :
    ∀ n s xs, D.Live A.in1 ga g n xs s → codeAny (model D.Z.prog D.Z.w) A (.builtin "list.extend.loop" ⟨[.ref S, .ref ga, res], []⟩) R s := by
  have hS : S ∈ D.prot := by rw [ow.prot]; simp
  have hfun : ∀ a a' h, D.Acc a h → D.Acc a' h → a = a' := by
    intro a a' h h1 h2
    rw [hac] at h1 h2
    obtain ⟨t, c, v, e⟩ := h1
    obtain ⟨t', c', v', e'⟩ := h2
    rw [e] at e'
    injection e' with e1
    injection e1 with _ _ e2
    injection e2 with e3
    have e4 : t = t' := by simpa using e3
    subst e4
    exact v.inj v'
  have hpr : ∀ a h h', (∀ b ∈ D.prot, h'.get? b = h.get? b) → D.Acc a h → D.Acc a h' := by
    intro a h h' e h1
    rw [hac] at h1 ⊢
    obtain ⟨t, c, v, q⟩ := h1
    exact ⟨t, c, v, (e S hS).trans q⟩
  intro n
  induction n using Nat.strongRecOn with
  | _ n ih =>
    intro s xs L
    refine codeAny_builtin F.entry_extend_loop ?_
    rw [Around.under_plainId F.plain_extend_loop _]
    show wpAny _ A.in1 (pyNext (.ref ga) >>= _) _ _ s
    refine wpAny_bind (gx_nextA (A := A.in1) calm room hfun hpr L (fun v x H Nx t rx T => ?_) (fun pins H t G acc dn => ?_))
    · have yl := T.yl
      rw [hyl] at yl
      obtain ⟨hl, q⟩ := yl
      have a1 := T.acc
      rw [hac] at a1
      obtain ⟨its, c1, v1, e1⟩ := a1
      have hsz : its.toArray.size = xs.length := by rw [List.size_toArray]; exact v1.length.symm
      show wpAny _ A.in1 (updateSeq S (·.push v) >>= _) _ _ _
      refine wpAny_bind (wpAny_updateSeq e1 rfl ?_ (by rw [hsz]; omega) (by rw [Array.size_push, hsz]; omega))
      have e2 := Heap.get?_update_self (Obj.mapSeq (·.push v)) e1 rfl
      have acc2 : accLst S (xs ++ [x]) (t.heap.update S (Obj.mapSeq (·.push v))) := ⟨its ++ [v], _, v1.append (.cons rx .nil), by
        rw [e2]
        simp [Obj.mapSeq]
        rfl⟩
      obtain ⟨n', rfl, L'⟩ := T.write (a' := xs ++ [x]) hT ow t.toks (fun b u hb e => (Heap.get?_update_other _ _ (Ne.symm hb)).trans e) e2 (fun v z => by cases z) q (by rw [hac]; exact acc2)
      exact wpAny_pure ⟨plainId_quiet F.plain_extend_loop _, ih n' (Nat.lt_succ_self _) _ _ L'⟩
    · rw [hac] at acc
      exact wpAny_pure (fin pins H t xs G acc dn)
end
section
variable {X : Cx} {pins : List (Addr × Obj)} {σ : L2.St} {elt tg iter : Expr} {ifs : List Expr} {scope : Scope} {gpos : Pos} {N : List Str} {src : List (Option Nat)} {J : It} {G : Hp} {it : Addr} {fp : List Addr} {tn : Nat → Heap → Prop} {code : Value} {s4 t : Shared} {ga : Addr} {g : Nat} {gg : TG} {tt : TT} {te : TE}
theorem collect_gx (R : Ready X pins σ elt tg iter ifs scope gpos N src J G it fp tn code s4 t ga g) {k : Nat} {A : Around} {W : Nat → Nat → List V → Hp → Prop} {Dn : List V → Hp → Prop} {vs : List Nat} {m : Nat} {Q : List Value → Shared → Prop} {E : Value → Shared → Prop}
    (S : GxS X.N X.env.scope scope N src) (hp : GxP X k elt tg ifs scope N gg tt te) (calm : A.handled = none) (dep : A.depth < recursionLimit) (room : Room (k + 1) A.in1.in1) (hA : A.in1.in1.frames = some X.stack) (hd : X.A.handled = none) (fr : X.A.frames = some X.stack)
    (ht : GxT J gg tt te vs (wipe (gxσ src σ) vs) W ylLst Dn) (w0 : W 0 m [] G)
    (fin : ∀ H' t' its xs, L2.Inv X pins σ H' t' → Vals xs its → Dn xs H' → Q its t') : wpAny (model X.prog X.w) A (collect (.ref ga)) Q E t := by
  have hgen : t.TypeIs (.ref ga) "generator" := by
    obtain ⟨o, nm, qn, ho, hc, _⟩ := R.isg
    exact ⟨o, ho, hc⟩
  have hlt : ga < t.heap.objs.size := R.lt
  have hSI : t.heap.objs.size ≠ ga := Nat.ne_of_gt hlt
  unfold collect
  refine wpAny_bind (wpAny_runValue (codeAny_builtin F.entry_proto_collect ?_))
  rw [Around.under_plainId F.plain_proto_collect _]
  show wpAny _ A.in1 (newList [] >>= fun l => again (.builtin "list.__iadd__" ⟨[l, .ref ga], []⟩)) _ _ t
  refine wpAny_bind (wpAny_newObj_type ?_)
  refine wpAny_pure ⟨plainId_quiet F.plain_list_iadd _, codeAny_builtin F.entry_list_iadd ?_⟩
  rw [Around.under_plainId F.plain_list_iadd _]
  have hgen1 : ({ t with heap := t.heap.push { cls := .type "list", data := .seq ([] : List Value).toArray } } : Shared).TypeIs (.ref ga) "generator" := by
    obtain ⟨o, ho, hc⟩ := hgen
    exact ⟨o, Heap.get?_push_of_some _ ho, hc⟩
  have isg1 : (t.heap.push { cls := .type "list", data := .seq ([] : List Value).toArray }).IsGen ga g := by
    obtain ⟨o, nm, qn, ho, r⟩ := R.isg
    exact ⟨o, nm, qn, Heap.get?_push_of_some _ ho, r⟩
  show wpAny _ A.in1 (Builtin.List.listExtendWith (.ref t.heap.objs.size) (.ref ga) (.ref t.heap.objs.size)) _ _ _
  unfold Builtin.List.listExtendWith
  refine wpAny_bind (wpAny_typeOf hgen1 ?_)
  have h1 : Builtin.List.listSameRef (.ref t.heap.objs.size) (.ref ga) = false := by simp [Builtin.List.listSameRef, hSI]
  have h2 : (Value.type "generator" == Value.type "list") = false := by decide
  have h3 : (Value.type "generator" == Value.type "tuple") = false := by decide
  simp only [h1, h2, h3, Bool.or_false, Bool.false_eq_true, if_false]
  refine wpAny_bind (wpAny_pyIter_gen isg1 ?_)
  refine wpAny_bind (wpAny_holding ?_)
  unfold Builtin.List.listLengthHint
  refine wpAny_bind (wpAny_specialOf hgen1 F.gen_no_len ?_)
  show wpAny _ A.in1 (specialOf (Value.ref ga) (Str.ofString "__length_hint__") >>= _) _ _ _
  refine wpAny_bind (wpAny_specialOf hgen1 F.gen_no_hint ?_)
  refine wpAny_pure ?_
  show wpAny _ A.in1 (rule "list.extend.makes-room" >>= fun _ => Builtin.List.listTouch (.ref t.heap.objs.size) >>= fun _ =>
    again (.builtin "list.extend.loop" ⟨[.ref t.heap.objs.size, .ref ga, .ref t.heap.objs.size], []⟩)) _ _ _
  refine wpAny_bind (wpAny_rule ?_)
  have hS₁ : (t.heap.push { cls := .type "list", data := .seq ([] : List Value).toArray }).get? t.heap.objs.size = some { cls := .type "list", data := .seq ([] : List Value).toArray } := Heap.get?_push_size _ rfl
  refine wpAny_bind ?_
  show wpAny _ A.in1 (updateSeq t.heap.objs.size (·.push .none) >>= fun _ => updateSeq t.heap.objs.size (·.pop)) _ _ _
  refine wpAny_bind (wpAny_updateSeq hS₁ rfl ?_)
  have hS₂ := Heap.get?_update_self (Obj.mapSeq (·.push Value.none)) hS₁ rfl
  refine wpAny_updateSeq hS₂ rfl ?_
  have hS₃ := Heap.get?_update_self (Obj.mapSeq (·.pop)) hS₂ rfl
  have oth : ∀ b o, t.heap.get? b = some o →
      (((t.heap.push { cls := .type "list", data := .seq ([] : List Value).toArray }).update t.heap.objs.size (Obj.mapSeq (·.push Value.none))).update t.heap.objs.size (Obj.mapSeq (·.pop))).get? b = some o :=
    fun b o e => (Heap.get?_update_other _ _ (Nat.ne_of_gt (Heap.lt_size e))).trans ((Heap.get?_update_other _ _ (Nat.ne_of_gt (Heap.lt_size e))).trans (Heap.get?_push_of_some _ e))
  obtain ⟨ok, L⟩ := R.live (A := A.in1) (C := [(t.heap.objs.size, _)]) (Acc := accLst t.heap.objs.size) (a := []) (m := m) (h' := _) (tk := t.toks) S hp room hA ht oth
    (fun q hq => by rw [List.mem_singleton.mp hq]; exact ⟨hS₃, Nat.le_refl _, fun v z => by cases z⟩) ⟨[], _, .nil, hS₃⟩ w0
  have big : s4.heap.objs.size < t.heap.objs.size := Nat.lt_trans R.new R.lt
  refine wpAny_pure ⟨plainId_quiet F.plain_extend_loop _, lst_loop (A := A) calm dep ok.turn.keep ⟨rfl, Nat.ne_of_gt R.lt, Nat.le_of_lt big, Nat.ne_of_gt big, fun x c0 e z => ?_, rfl⟩ rfl rfl (fun pn H' t' xs GI acc dn => ?_) (m + 1) _ [] L⟩
  · have hZ := R.inv (A.in1.in1.over (.compLoop (.GeneratorExp elt [⟨tg, iter, ifs, 0⟩] scope gpos) 0 (.ref it) .none (gEnv X scope s4.heap.objs.size code)) []) room.hd (over_frames hA)
    obtain ⟨v, zc⟩ := hZ.cell x c0 e
    exact absurd zc.lt (by rw [z]; exact Nat.lt_irrefl _)
  · obtain ⟨its, c, vv, hS'⟩ := acc
    show wpAny _ A (load t.heap.objs.size >>= _) _ _ t'
    refine wpAny_bind (wpAny_load hS' ?_)
    refine wpAny_pure ?_
    have := fin H' t' its xs (R.back GI) vv dn
    simpa using this
end
def tTupG (P : Addr) (wi : TI) (g : TG) (tt : TT) (te : TE) (src : List (Option Nat)) (vs : List Nat) : TE := fun σ H Q => wi σ H fun J H1 => TabG H1 P ∧ ∀ H2, Tabd P H1 H2 →
  ∃ W : Nat → Nat → List V → Hp → Prop, (∃ m, W 0 m [] H2) ∧ GxT (α := List V) J g tt te vs (wipe (gxσ src σ) vs) W ylLst (fun xs H' => xs.length ≤ sizeLine ∧ ∀ q, H' q = none → Q (.ref q) (upd H' q (.tup xs)))
section
variable {X : Cx} {c P : Addr} {elt tg iter : Expr} {ifs : List Expr} {scope : Scope} {gpos p pos : Pos} {N : List Str} {src : List (Option Nat)} {wi : TI} {g : TG} {tt : TT} {te : TE} {k : Nat} {vs : List Nat}
theorem pe_tuple (hr : Room (k + 6) X.A) (hg : Gl X "tuple") (hm : X.mg "tuple" = none) (TB : LamX.TabB X.base X.mg c P) (hcode : X.env.code = .ref c) (S : GxS X.N X.env.scope scope N src) (hi : PI X tg iter wi) (hp : GxP X k elt tg ifs scope N g tt te)
    (hs : ∀ v, genFold iter X.env v = pure v := by intro _; rfl)
    (he : starEach [.GeneratorExp elt [⟨tg, iter, ifs, 0⟩] scope gpos] X.env = (false, eval (.GeneratorExp elt [⟨tg, iter, ifs, 0⟩] scope gpos) X.env) :: starEach [] X.env := by rfl) :
    PE X (.Call (.Name "tuple" p) [.GeneratorExp elt [⟨tg, iter, ifs, 0⟩] scope gpos] [] pos) (tTupG P wi g tt te src vs) := by
  refine ⟨fun pins s σ H Q I h => ?_⟩
  refine wpAny_Call_Name_kw (ld_blt I hg hm boot_tuple (PyProof.Rows.callWith_type1 ?_ he (by rfl)))
  rw [he]
  show wpAny _ _ (spliced ((false, eval (.GeneratorExp elt [⟨tg, iter, ifs, 0⟩] scope gpos) X.env) :: backTo pos (starEach [] X.env))) _ _ s
  refine Calls.spliced_cons (gx_make hr TB hcode S hi hs I h fun J G it fp tn code s4 t ga gn q R => Calls.spliced_nil ?_)
  obtain ⟨W, ⟨m, w0⟩, ht⟩ := q
  have r1 : Room (k + 5) X.A.in1 := hr.in1
  have r2 : Room (k + 4) X.A.in1.in1 := r1.in1
  have r3 : Room (k + 3) X.A.in1.in1.in1 := r2.in1
  have r4 : Room (k + 2) X.A.in1.in1.in1.in1 := r3.in1
  have hgen : t.TypeIs (.ref ga) "generator" := by
    obtain ⟨o, nm, qn, ho, hc, _⟩ := R.isg
    exact ⟨o, ho, hc⟩
  refine callType_codes (Q₁ := fun obj s₁ => s₁.TypeIs obj "tuple" ∧ EP X pins σ Q obj s₁) F.called_tuple (F.typeCall_tuple_1 _) F.entry_object_init ?_ fun obj s₁ h₁ => ⟨h₁.1, F.args_object_init_2 obj _, object_init_meets F.called_tuple.init.lookup F.called_tuple.made (by decide) X.prog X.w X.A.in1 _ s₁ ⟨h₁.1, rfl, h₁.2⟩⟩
  refine codeAny_of_tree ?_
  show wpAny _ X.A.in1.in1 (do checkBuiltinCall "tuple.__new__" ⟨[.type "tuple", .ref ga], []⟩; again (.builtin "tuple.__new__" ⟨[.type "tuple", .ref ga], []⟩)) _ _ t
  refine wpAny_bind (wpAny_of_eq (F.newCall_tuple_1 _) (wpAny_pure ⟨plainId_quiet F.plain_tuple_new _, codeAny_builtin F.entry_tuple_new ?_⟩))
  rw [Around.under_plainId F.plain_tuple_new _]
  have hsub := sub_tuple_self
  have hinit := init_tuple_lookup
  have hmh := madeHere_tuple
  wp_walk using wpAny_typeOf hgen, collect_gx (A := X.A.in1.in1) R (k := k) (m := m) S hp r2.hd r2.depth (r4.mono (by omega)) I.ok.frames hr.hd I.ok.frames ht w0
  intro H' t' its xs I' vv dn
  obtain ⟨hz, q⟩ := dn
  show wpAny _ _ (Builtin.Tuple.tupleExact its.toArray >>= fun v => ret v) _ _ _
  unfold Builtin.Tuple.tupleExact
  refine wpAny_bind (wpAny_newObj_type ?_ (by show its.toArray.size ≤ sizeLine; rw [List.size_toArray, ← vv.length]; exact hz))
  refine wpAny_pure ?_
  refine ⟨⟨_, Heap.get?_push_size _ rfl, rfl⟩, .ref t'.heap.objs.size, _, I'.laid (t' := t'.toks) (o := .tup xs) (fun b ob q => Heap.get?_push_of_some _ q) (Nat.le_refl _) ?_, rfl, q _ (I'.hok.fresh (Nat.le_refl _))⟩
  exact ⟨hz, its, vv, IsTup.new _ _⟩
end
end FF
namespace FF
open PySem PySem.Spec PyProof.Rows L2
/-! ### defs of the text -/
structure DefAt (K : PySem.W.Frag) (mg : Str → Option Value) (x : Str) (st : Stmt) (ps : List Str) (f : Addr) (fd : FuncData) : Prop where
  F : FunD K x x (defArgs st) (defBody st) (defScope st) [] [] f fd
  g : mg x = some (.ref f)
  b : Binds K fd ps []
theorem DefAt.ok {P : Program} {w : World} {K : PySem.W.Frag} {mg : Str → Option Value} {base : Heap} {x : Str} {st : Stmt} {f : Addr} {fd : FuncData} {N ps : List Str} {k : Nat} {sp : Sp} (D : DefAt K mg x st ps f fd) (S : FnScope N ps (defScope st)) (len : ∀ vs H Q E, sp vs H Q E → vs.length = ps.length)
    (hbody : ∀ (A : Around) (outer : List Env) (s : Shared) (H : Hp) (vs : List V) (Q : VK) (E : XK), Room k (A.deeper (envOfC x (defScope st) s.heap.objs.size f fd.code)) → sp vs H Q E →
      ∃ t, PSs (cxOf CX0 P w K mg base N x (defScope st) f fd.code A outer s H E).nox (defBody st) t ∧ t { nx := fun _ H' => Q .non H', rt := Q } (start N vs) H) : FnOk P w K mg base CX0 (k + 1) f fd ps sp := by
  obtain ⟨oc, od, dV, kV, doc, pm, an, cdv, ct, osl, rfl, lk, hcd, _, _⟩ := D.F.ex
  refine fn_of lk hcd S len fun A outer s H vs Q E hr hsp => ?_
  obtain ⟨t, h, q⟩ := hbody A outer s H vs Q E hr hsp
  exact ⟨t, h.nox, q⟩
/-! ### heaps: what stays -/
/-- but for the addresses in S all that is tracked stays; tables stay tables -/
structure Kx (S : Addr → Prop) (H H' : Hp) : Prop where
  at_ : ∀ b o, H b = some o → (∀ ps, o ≠ .tbl ps) → ¬ S b → H' b = some o
  tab : ∀ b, TabG H b → TabG H' b
  dom : ∀ b, H' b = none → H b = none
theorem upd_none {H : Hp} {p b : Addr} {o : HO} (h : upd H p o b = none) : b ≠ p ∧ H b = none := by
  by_cases e : b = p
  · rw [e, upd_same] at h
    cases h
  · rw [upd_ne e] at h
    exact ⟨e, h⟩
abbrev Ke := Kx fun _ => False
theorem Kx.refl {S : Addr → Prop} {H : Hp} : Kx S H H := ⟨fun _ _ h _ _ => h, fun _ h => h, fun _ h => h⟩
theorem Kx.trans {S : Addr → Prop} {H H1 H2 : Hp} (a : Kx S H H1) (b : Kx S H1 H2) : Kx S H H2 := ⟨fun c o h n q => b.at_ c o (a.at_ c o h n q) n q, fun c h => b.tab c (a.tab c h), fun c h => a.dom c (b.dom c h)⟩
theorem Kx.mono {S S' : Addr → Prop} {H H1 : Hp} (a : Kx S H H1) (h : ∀ b, S b → S' b) : Kx S' H H1 := ⟨fun c o e n q => a.at_ c o e n fun z => q (h c z), a.tab, a.dom⟩
theorem Ke.to {S : Addr → Prop} {H H1 : Hp} (a : Ke H H1) : Kx S H H1 := a.mono fun _ z => z.elim
theorem Ke.new {S : Addr → Prop} {H : Hp} {p : Addr} {o : HO} (h : H p = none) : Kx S H (upd H p o) :=
  ⟨fun b u e _ _ => by rw [upd_ne (ne_of_none e h)]; exact e, fun b ⟨ps, e, t⟩ => ⟨ps, by rw [upd_ne (ne_of_none e h)]; exact e, t⟩, fun _ e => (upd_none e).2⟩
theorem Kx.over {S : Addr → Prop} {H H1 : Hp} {p : Addr} {o : HO} (k : Kx S H H1) (h : H p = none) : Kx S H (upd H1 p o) :=
  ⟨fun b u e n q => by rw [upd_ne (ne_of_none e h)]; exact k.at_ b u e n q, fun b t => by
    obtain ⟨ps, e, z⟩ := k.tab b t
    obtain ⟨ps0, e0, _⟩ := t
    exact ⟨ps, by rw [upd_ne (ne_of_none e0 h)]; exact e, z⟩, fun _ e => k.dom _ (upd_none e).2⟩
theorem Ke.put {H : Hp} {p : Addr} {o u : HO} (h : H p = some u) (hu : ∀ ps, u ≠ .tbl ps) : Kx (fun b => b = p) H (upd H p o) :=
  ⟨fun b v e _ q => by rw [upd_ne q]; exact e, fun b ⟨ps, e, t⟩ => ⟨ps, by rw [upd_ne (ne_of e h fun z => hu ps z.symm)]; exact e, t⟩, fun _ e => (upd_none e).2⟩
theorem Ke.tabd {P : Addr} {H H1 : Hp} (h : TabG H P) (t : Tabd P H H1) : Ke H H1 := by
  obtain ⟨ps, hp, _⟩ := h
  refine ⟨fun b o e n _ => (t.2 b fun z => ?_).trans e, fun b ⟨qs, e, q⟩ => ?_, fun b e => ?_⟩
  · rw [z, hp] at e
    exact n ps (Option.some.inj e).symm
  · by_cases hb : b = P
    · rw [hb]
      exact t.1
    · exact ⟨qs, (t.2 b hb).trans e, q⟩
  · by_cases hb : b = P
    · obtain ⟨qs, z, _⟩ := t.1
      rw [hb, z] at e
      cases e
    · exact (t.2 b hb).symm.trans e
theorem Ke.lst {H H' : Hp} (a : Ke H H') {p : Addr} {xs : List V} (h : H p = some (.lst xs)) : H' p = some (.lst xs) := a.at_ p _ h (fun _ z => nomatch z) fun z => z
theorem Kx.tup {S : Addr → Prop} {H H' : Hp} (a : Kx S H H') {p : Addr} {xs : List V} (h : H p = some (.tup xs)) (n : ¬ S p) : H' p = some (.tup xs) := a.at_ p _ h (fun _ z => nomatch z) n
theorem Ke.tup {H H' : Hp} (a : Ke H H') {p : Addr} {xs : List V} (h : H p = some (.tup xs)) : H' p = some (.tup xs) := a.at_ p _ h (fun _ z => nomatch z) fun z => z
theorem Kx.seqL {S : Addr → Prop} {K : PySem.W.Frag} {H H' : Hp} {p : Addr} {xs : List V} (a : Kx S H H') (h : SqL K H p xs) (n : ¬ S p) : SqL K H' p xs := by
  rcases h with (h | ⟨o, h⟩) | h
  · exact .inl (.inl (a.at_ _ _ h (fun _ z => nomatch z) n))
  · exact .inl (.inr ⟨o, a.at_ _ _ h (fun _ z => nomatch z) n⟩)
  · exact .inr h
theorem sqT_of {K : PySem.W.Frag} {H : Hp} {p : Addr} {xs : List V} (h : H p = some (.tup xs)) : SqT K H p xs := .inl (.inl h)
theorem sqL_of {K : PySem.W.Frag} {H : Hp} {p : Addr} {xs : List V} (h : H p = some (.lst xs)) : SqL K H p xs := .inl (.inl h)
/-! ### the deck of drawn numbers -/
def Dig (ds : List Int) : Prop := ∀ d ∈ ds, 0 ≤ d ∧ d < 1000
def Deck (H : Hp) (p : Addr) : Prop := ∃ ds : List Int, H p = some (.lst (ds.map V.int)) ∧ Dig ds
/-- numbers were drawn; besides nothing has changed but what is new -/
structure Dk (p : Addr) (H H' : Hp) : Prop where
  k : Kx (fun b => b = p) H H'
  d : Deck H' p
theorem Dk.refl {p : Addr} {H : Hp} (d : Deck H p) : Dk p H H := ⟨.refl, d⟩
theorem Dk.trans {p : Addr} {H H1 H2 : Hp} (a : Dk p H H1) (b : Dk p H1 H2) : Dk p H H2 := ⟨a.k.trans b.k, b.d⟩
theorem Deck.ke {H H' : Hp} {p : Addr} (d : Deck H p) (a : Ke H H') : Deck H' p := by
  obtain ⟨ds, h, g⟩ := d
  exact ⟨ds, a.lst h, g⟩
theorem Dk.ke {p : Addr} {H H1 H2 : Hp} (a : Dk p H H1) (b : Ke H1 H2) : Dk p H H2 := ⟨a.k.trans b.to, a.d.ke b⟩
theorem Dk.new {p q : Addr} {H H1 : Hp} {o : HO} (a : Dk p H H1) (h : H1 q = none) : Dk p H (upd H1 q o) := a.ke (Ke.new h)
theorem Deck.new {p q : Addr} {H : Hp} {o : HO} (a : Deck H p) (h : H q = none) : Deck (upd H q o) p := a.ke (Ke.new h)
theorem Dk.tup {p q : Addr} {H H1 : Hp} {xs : List V} (a : Dk p H H1) (d : Deck H p) (h : H q = some (.tup xs)) : H1 q = some (.tup xs) := by
  obtain ⟨ds, hd, _⟩ := d
  exact a.k.tup h (ne_of h hd (fun z => nomatch z))
theorem Dk.lst {p q : Addr} {H H1 : Hp} {xs : List V} (a : Dk p H H1) (h : H q = some (.lst xs)) (n : q ≠ p) : H1 q = some (.lst xs) := a.k.at_ q _ h (fun _ z => nomatch z) n
theorem Dk.seqL {K : PySem.W.Frag} {p q : Addr} {H H1 : Hp} {xs : List V} (a : Dk p H H1) (h : SqL K H q xs) (n : q ≠ p) : SqL K H1 q xs := a.k.seqL h n
/-! ### webs -/
def Ties (H : Hp) (rs : List V) (ts : List (Int × Int)) : Prop := Paired (fun (r : V) (t : Int × Int) => ∃ q, r = .ref q ∧ H q = some (.tup [.int t.1, .int t.2])) rs ts
def Web (H : Hp) (v : V) (n : Int) (ts : List (Int × Int)) : Prop := ∃ t u rs, v = .ref t ∧ H t = some (.tup [.int n, .ref u]) ∧ H u = some (.tup rs) ∧ Ties H rs ts
structure Wf (n : Int) (ts : List (Int × Int)) (M T : Nat) : Prop where
  lo : 1 ≤ n
  hi : n ≤ M
  len : ts.length ≤ T
  ok : ∀ t ∈ ts, 0 ≤ t.1 ∧ t.1 < t.2 ∧ t.2 < n
theorem Ties.mono {H H' : Hp} {rs : List V} {ts : List (Int × Int)} (h : Ties H rs ts) (k : ∀ q xs, H q = some (.tup xs) → H' q = some (.tup xs)) : Ties H' rs ts := L2.Paired.mapP h fun _ _ ⟨q, e, z⟩ => ⟨q, e, k q _ z⟩
theorem Web.mono {H H' : Hp} {v : V} {n : Int} {ts : List (Int × Int)} (h : Web H v n ts) (k : ∀ q xs, H q = some (.tup xs) → H' q = some (.tup xs)) : Web H' v n ts := by
  obtain ⟨t, u, rs, e, h1, h2, h3⟩ := h
  exact ⟨t, u, rs, e, k _ _ h1, k _ _ h2, h3.mono k⟩
theorem Ties.ke {H H' : Hp} {rs : List V} {ts : List (Int × Int)} (h : Ties H rs ts) (k : Ke H H') : Ties H' rs ts := h.mono fun _ _ => k.tup
theorem Web.ke {H H' : Hp} {v : V} {n : Int} {ts : List (Int × Int)} (h : Web H v n ts) (k : Ke H H') : Web H' v n ts := h.mono fun _ _ => k.tup
theorem Ties.dk {H H' : Hp} {p : Addr} {rs : List V} {ts : List (Int × Int)} (h : Ties H rs ts) (k : Dk p H H') (d : Deck H p) : Ties H' rs ts := h.mono fun _ _ => k.tup d
theorem Web.dk {H H' : Hp} {p : Addr} {v : V} {n : Int} {ts : List (Int × Int)} (h : Web H v n ts) (k : Dk p H H') (d : Deck H p) : Web H' v n ts := h.mono fun _ _ => k.tup d
theorem Ties.append {H : Hp} : ∀ {rs qs : List V} {ts us : List (Int × Int)}, Ties H rs ts → Ties H qs us → Ties H (rs ++ qs) (ts ++ us)
  | _, _, _, _, .nil, b => b
  | _, _, _, _, .cons r t, b => .cons r (Ties.append t b)
theorem Ties.take {H : Hp} : ∀ {rs : List V} {ts : List (Int × Int)} (n : Nat), Ties H rs ts → Ties H (rs.take n) (ts.take n)
  | _, _, 0, _ => .nil
  | _, _, _ + 1, .nil => .nil
  | _, _, n + 1, .cons r t => .cons r (Ties.take n t)
theorem Ties.drop {H : Hp} : ∀ {rs : List V} {ts : List (Int × Int)} (n : Nat), Ties H rs ts → Ties H (rs.drop n) (ts.drop n)
  | _, _, 0, h => h
  | _, _, _ + 1, .nil => .nil
  | _, _, n + 1, .cons _ t => Ties.drop n t
theorem Ties.length {H : Hp} {rs : List V} {ts : List (Int × Int)} (h : Ties H rs ts) : rs.length = ts.length := Paired.length h
theorem Ties.get {H : Hp} : ∀ {rs : List V} {ts : List (Int × Int)} {i : Nat} {r : V}, Ties H rs ts → rs[i]? = some r → ∃ t q, ts[i]? = some t ∧ r = .ref q ∧ H q = some (.tup [.int t.1, .int t.2])
  | _, _, _, _, .nil, e => by simp at e
  | _, _, 0, _, .cons (b := t) ⟨q, e1, e2⟩ _, e => by simp at e; subst e; exact ⟨t, q, rfl, e1, e2⟩
  | _, _, i + 1, r, .cons _ t, e => by
    obtain ⟨u, q, h1, h2, h3⟩ := Ties.get (i := i) (r := r) t (by simpa using e)
    exact ⟨u, q, by simpa using h1, h2, h3⟩
theorem Deck.put {H : Hp} {p q : Addr} {o : HO} (d : Deck H p) (n : p ≠ q) : Deck (upd H q o) p := by
  obtain ⟨ds, h, g⟩ := d
  exact ⟨ds, by rw [upd_ne n]; exact h, g⟩
theorem Deck.ne {H : Hp} {p q : Addr} (d : Deck H p) (h : H q = none) : p ≠ q := by
  obtain ⟨ds, e, _⟩ := d
  exact ne_of_none e h
theorem Dk.over {p q : Addr} {H G : Hp} {o : HO} (k : Dk p H G) (d : Deck H p) (h : H q = none) : Dk p H (upd G q o) := ⟨k.k.over h, k.d.put (d.ne h)⟩
theorem Ties.new {H : Hp} {p : Addr} {o : HO} {rs : List V} {ts : List (Int × Int)} (h : Ties H rs ts) (n : H p = none) : Ties (upd H p o) rs ts := h.mono fun q xs e => by rw [upd_ne (ne_of_none e n)]; exact e
theorem Ties.put {H : Hp} {p : Addr} {o : HO} {zs : List V} {rs : List V} {ts : List (Int × Int)} (h : Ties H rs ts) (n : H p = some (.lst zs)) : Ties (upd H p o) rs ts := h.mono fun q xs e => by rw [upd_ne (ne_of e n (fun z => nomatch z))]; exact e
theorem Ties.one {H : Hp} {q : Addr} {a b : Int} (h : H q = some (.tup [.int a, .int b])) : Ties H [.ref q] [(a, b)] := .cons ⟨q, rfl, h⟩ .nil
/-- a list of ties stands at l -/
def TL (H : Hp) (l : Addr) (ts : List (Int × Int)) : Prop := ∃ rs, H l = some (.lst rs) ∧ Ties H rs ts
def TOk (n : Int) (ts : List (Int × Int)) : Prop := ∀ t ∈ ts, 0 ≤ t.1 ∧ t.1 < t.2 ∧ t.2 < n
theorem TOk.nil {n : Int} : TOk n [] := fun _ z => nomatch z
theorem TOk.append {n : Int} {ts us : List (Int × Int)} (a : TOk n ts) (b : TOk n us) : TOk n (ts ++ us) := fun t ht => (List.mem_append.mp ht).elim (a t) (b t)
theorem TOk.one {n a b : Int} (h0 : 0 ≤ a) (h1 : a < b) (h2 : b < n) : TOk n [(a, b)] := fun t ht => by rw [List.mem_singleton.mp ht]; exact ⟨h0, h1, h2⟩
theorem TL.ke {H H' : Hp} {l : Addr} {ts : List (Int × Int)} (h : TL H l ts) (k : Ke H H') : TL H' l ts := by
  obtain ⟨rs, e, t⟩ := h
  exact ⟨rs, k.lst e, t.ke k⟩
theorem TL.dk {H H' : Hp} {l p : Addr} {ts : List (Int × Int)} (h : TL H l ts) (k : Dk p H H') (d : Deck H p) (n : l ≠ p) : TL H' l ts := by
  obtain ⟨rs, e, t⟩ := h
  exact ⟨rs, k.lst e n, t.dk k d⟩
end FF
namespace FF
open PySem PySem.Spec PyProof.Rows L2
/-! ### the code object of a def -/
theorem code_at {K : PySem.W.Frag} {x q : Str} {pa : Arguments} {bd : List Stmt} {sc : Scope} {dvs : List V} {kws : List (Str × V)} {f : Addr} {fd : FuncData} (F : FunD K x q pa bd sc dvs kws f fd) : ∃ c, fd.code = .ref c := by
  obtain ⟨oc, od, dV, kV, doc, pm, an, cdv, ct, osl, rfl, lk, hcd, _, _⟩ := F.ex
  exact He.codeIn_ref hcd
theorem code_is {K : PySem.W.Frag} {x q : Str} {pa : Arguments} {bd : List Stmt} {sc : Scope} {dvs : List V} {kws : List (Str × V)} {p : Str × Option Str} {fd : FuncData} {c : Addr} (F : FunD K x q pa bd sc dvs kws (He.fAd K p) fd) (h : fd.code = .ref c) : fd.code = .ref (He.cT K p).1 := by
  obtain ⟨oc, od, dV, kV, doc, pm, an, cdv, ct, osl, rfl, lk, hcd, _, _⟩ := F.ex
  rw [h]
  exact congrArg Value.ref (He.codeOf_eq lk h).symm
/-! ### slices -/
theorem cut_to (xs : List V) (n : Nat) : cutV xs none (some (n : Int)) = xs.take n := by
  unfold cutV
  rw [HT.sIx_none, HT.sIx_nat]
  show (xs.drop 0).take (min n xs.length - 0) = xs.take n
  rw [List.drop_zero, Nat.sub_zero]
  rcases Nat.le_total n xs.length with h | h
  · rw [Nat.min_eq_left h]
  · rw [Nat.min_eq_right h, List.take_of_length_le (Nat.le_refl _), List.take_of_length_le h]
theorem cut_from (xs : List V) (n : Nat) : cutV xs (some (n : Int)) none = xs.drop n := by
  unfold cutV
  rw [HT.sIx_none, HT.sIx_nat]
  rcases Nat.le_total n xs.length with h | h
  · rw [Nat.min_eq_left h, List.take_of_length_le (by rw [List.length_drop]; omega)]
  · rw [Nat.min_eq_right h, Nat.sub_self, List.take_zero, List.drop_of_length_le h]
theorem cut_to' (xs : List V) {i : Int} (h : 0 ≤ i) : cutV xs none (some i) = xs.take i.toNat := by
  rw [← cut_to, Int.toNat_of_nonneg h]
theorem cut_from' (xs : List V) {i : Int} (h : 0 ≤ i) : cutV xs (some i) none = xs.drop i.toNat := by
  rw [← cut_from, Int.toNat_of_nonneg h]
theorem line_big : 16000000 ≤ sizeLine := by decide
theorem emod_bds (x : Int) {n : Int} (h : 0 < n) : 0 ≤ x % n ∧ x % n < n := ⟨Int.emod_nonneg _ (by omega), Int.emod_lt_of_pos _ h⟩
theorem get_int {xs : List Int} {i : Nat} (h : i < xs.length) : (xs.map V.int)[i]? = some (.int xs[i]) := by
  rw [List.getElem?_map, List.getElem?_eq_getElem h]
  rfl
theorem at_int {xs : List Int} {i : Int} (h0 : 0 ≤ i) (h1 : i < xs.length) : ∃ v, v ∈ xs ∧ xs[i.toNat]? = some v ∧ atI (xs.map V.int) i = some (.int v) := by
  obtain ⟨j, rfl⟩ : ∃ j : Nat, i = j := ⟨i.toNat, by omega⟩
  have hj : j < xs.length := by omega
  exact ⟨xs[j], List.getElem_mem _, List.getElem?_eq_getElem hj, atI_nat (get_int hj)⟩
theorem ix_in {n : Nat} {i : Int} (h0 : 0 ≤ i) (h1 : i < n) : ixN n i = some i.toNat := by
  unfold ixN
  rw [if_pos h0, if_pos h1]
theorem yes_ite {σ : L2.St} {H : Hp} {A B : Hp → Prop} (h : A H) : tYes σ H (fun b H3 => if b = true then A H3 else B H3) := by
  show if true = true then A H else B H
  rw [if_pos rfl]
  exact h
theorem int_at {ns : List Int} {i : Nat} {x : V} (hx : (ns.map V.int)[i]? = some x) : ∃ v, ns[i]? = some v ∧ x = .int v := by
  rw [List.getElem?_map] at hx
  cases e : ns[i]? with
  | none => rw [e] at hx; cases hx
  | some v => rw [e] at hx; exact ⟨v, rfl, (Option.some.inj hx).symm⟩
theorem Ties.rep {H : Hp} {q : Addr} {a b : Int} (h : H q = some (.tup [.int a, .int b])) : ∀ k : Nat, Ties H (List.replicate k [V.ref q]).flatten (List.replicate k (a, b))
  | 0 => .nil
  | k + 1 => by
    rw [List.replicate_succ, List.replicate_succ, List.flatten_cons]
    exact .cons ⟨q, rfl, h⟩ (Ties.rep h k)
theorem TOk.rep {n a b : Int} (h0 : 0 ≤ a) (h1 : a < b) (h2 : b < n) (k : Nat) : TOk n (List.replicate k (a, b)) := fun t ht => by
  rw [List.eq_of_mem_replicate ht]
  exact ⟨h0, h1, h2⟩
theorem TOk.mono {n m : Int} {ts : List (Int × Int)} (h : TOk n ts) (k : n ≤ m) : TOk m ts := fun t ht => ⟨(h t ht).1, (h t ht).2.1, Int.lt_of_lt_of_le (h t ht).2.2 k⟩
theorem TOk.sub {n : Int} {ts us : List (Int × Int)} (h : TOk n ts) (k : ∀ t ∈ us, t ∈ ts) : TOk n us := fun t ht => h t (k t ht)
theorem ne_one {a b : Int} (h : ¬ decide (V.int a = V.int b) = true) : a ≠ b := fun e => h (decide_eq_true (by rw [e]))
theorem eq_one {a b : Int} (h : decide (V.int a = V.int b) = true) : a = b := V.int.inj (of_decide_eq_true h)
theorem lst_new {H : Hp} {p q : Addr} {o : HO} {xs : List V} (n : H p = none) (h : H q = some (.lst xs)) : upd H p o q = some (.lst xs) := by rw [upd_ne (ne_of_none h n)]; exact h
theorem tup_new {H : Hp} {p q : Addr} {o : HO} {xs : List V} (n : H p = none) (h : H q = some (.tup xs)) : upd H p o q = some (.tup xs) := by rw [upd_ne (ne_of_none h n)]; exact h
/-! ### things of any kind -/
inductive TyN (H : Hp) : V → String → Prop where
  | non : TyN H .non "NoneType"
  | bl (b : Bool) : TyN H (.bl b) "bool"
  | int (i : Int) : TyN H (.int i) "int"
  | str (x : Str) : TyN H (.str x) "str"
  | lst {a : Addr} {xs : List V} (h : H a = some (.lst xs)) : TyN H (.ref a) "list"
  | tup {a : Addr} {xs : List V} (h : H a = some (.tup xs)) : TyN H (.ref a) "tuple"
  | dic {a : Addr} {kvs : List (Key × V)} (h : H a = some (.dK kvs)) : TyN H (.ref a) "dict"
theorem TyN.x {K : PySem.W.Frag} {H : Hp} {v : V} {n : String} (h : TyN H v n) : TyX K H v (.type n) := by
  cases h with
  | non => exact .base .non
  | bl b => exact .base (.bl b)
  | int i => exact .base (.int i)
  | str x => exact .base (.str x)
  | lst h => exact .base (.lst h)
  | tup h => exact .base (.tup h)
  | dic h => exact .base (.dK h)
def isNum (v : V) (lo hi : Int) : Bool := match v with
  | .int i => decide (lo ≤ i) && decide (i ≤ hi)
  | _ => false
theorem iteB {b : Bool} {A B : Prop} (h1 : b = true → A) (h2 : b = false → B) : if b = true then A else B := by
  cases b with
  | true => exact iteT (h1 rfl)
  | false => exact iteF (h2 rfl)
/-- the names of the kinds -/
def isiB (n : String) (c : String) : Bool := n == c || (n == "bool" && c == "int")
theorem TyN.isi {K : PySem.W.Frag} {H : Hp} {v : V} {n : String} (h : TyN H v n) {c : String} (hc : c = "int" ∨ c = "bool" ∨ c = "tuple" ∨ c = "list") : PySem.W.kitOne K (.type n) (.type c) = some (isiB n c) := by
  rcases hc with rfl | rfl | rfl | rfl <;> cases h <;> exact kit_ty (by decide +kernel)
end FF
namespace FF
open PySem PySem.Spec PyProof.Rows L2
/-! ### walks of generator expressions -/
section
variable {α : Type} {K : PySem.W.Frag} {u : Addr} {xs : List V} {g : TG} {tt : TT} {te : TE} {vs : List Nat} {σ0 : L2.St} {yl : α → V → Hp → (α → Hp → Prop) → Prop} {dn : α → Hp → Prop} {G : Hp} {a0 : α}
theorem gx_tup (Pv : Nat → α → Hp → Prop) (h0 : Pv 0 a0 G) (hl : ∀ i a H, i ≤ xs.length → Pv i a H → SqT K H u xs)
    (hs : ∀ (i : Nat) x a H, xs[i]? = some x → Pv i a H → g x σ0 H fun σ2 H2 => wipe σ2 vs = σ0 ∧ tt σ2 H2 fun b H3 => if b = true then te σ2 H3 fun y H4 => yl a y H4 (Pv (i + 1)) else Pv (i + 1) a H3) (hd : ∀ a H, Pv xs.length a H → dn a H) :
    ∃ W : Nat → Nat → α → Hp → Prop, (∃ m, W 0 m a0 G) ∧ GxT (Itt K u) g tt te vs σ0 W yl dn := by
  refine ⟨fun i m a H => m = xs.length - i ∧ i ≤ xs.length ∧ Pv i a H, ⟨_, rfl, Nat.zero_le _, h0⟩, ?_⟩
  rintro i m a H ⟨rfl, hi, p⟩
  by_cases hlt : i < xs.length
  · have hx : xs[i]? = some xs[i] := List.getElem?_eq_getElem hlt
    refine .inr ⟨⟨xs, xs[i], hl i a H hi p, hx⟩, Pv (i + 1), fun a' H' p' => ⟨xs.length - (i + 1), by omega, rfl, hlt, p'⟩, fun x H1 y => ?_⟩
    obtain ⟨e, hy⟩ := y
    subst e
    exact hs i x a _ (hy xs (hl i a _ hi p)) p
  · have e : i = xs.length := by omega
    subst e
    exact .inl ⟨⟨xs, hl _ a H hi p, Nat.le_refl _⟩, hd a H p⟩
theorem gx_list (Pv : Nat → α → Hp → Prop) (h0 : Pv 0 a0 G) (hl : ∀ i a H, i ≤ xs.length → Pv i a H → SqL K H u xs)
    (hs : ∀ (i : Nat) x a H, xs[i]? = some x → Pv i a H → g x σ0 H fun σ2 H2 => wipe σ2 vs = σ0 ∧ tt σ2 H2 fun b H3 => if b = true then te σ2 H3 fun y H4 => yl a y H4 (Pv (i + 1)) else Pv (i + 1) a H3) (hd : ∀ a H, Pv xs.length a H → dn a H) :
    ∃ W : Nat → Nat → α → Hp → Prop, (∃ m, W 0 m a0 G) ∧ GxT (Itl K u) g tt te vs σ0 W yl dn := by
  refine ⟨fun i m a H => m = xs.length - i ∧ i ≤ xs.length ∧ Pv i a H, ⟨_, rfl, Nat.zero_le _, h0⟩, ?_⟩
  rintro i m a H ⟨rfl, hi, p⟩
  by_cases hlt : i < xs.length
  · have hx : xs[i]? = some xs[i] := List.getElem?_eq_getElem hlt
    refine .inr ⟨⟨xs, xs[i], hl i a H hi p, hx⟩, Pv (i + 1), fun a' H' p' => ⟨xs.length - (i + 1), by omega, rfl, hlt, p'⟩, fun x H1 y => ?_⟩
    obtain ⟨e, hy⟩ := y
    subst e
    exact hs i x a _ (hy xs (hl i a _ hi p)) p
  · have e : i = xs.length := by omega
    subst e
    exact .inl ⟨⟨xs, hl _ a H hi p, Nat.le_refl _⟩, hd a H p⟩
end
/-! ### ties within a lot -/
def inside (ls : List Int) (ts : List (Int × Int)) : Nat := (ts.filter fun t => decide (t.1 ∈ ls) && decide (t.2 ∈ ls)).length
theorem inside_take {ls : List Int} {ts : List (Int × Int)} {i : Nat} {t : Int × Int} (h : ts[i]? = some t) : inside ls (ts.take (i + 1)) = inside ls (ts.take i) + if (decide (t.1 ∈ ls) && decide (t.2 ∈ ls)) = true then 1 else 0 := by
  unfold inside
  rw [List.take_succ, h, List.filter_append, List.length_append]
  congr 1
  show (List.filter _ [t]).length = _
  rw [List.filter_cons]
  split <;> rfl
theorem inside_le (ls : List Int) (ts : List (Int × Int)) : inside ls ts ≤ ts.length := List.length_filter_le _ _
theorem flat_ints (ls : List Int) : (ls.map V.int).all flatV = true := by
  rw [List.all_eq_true]
  intro v hv
  obtain ⟨i, _, rfl⟩ := List.mem_map.mp hv
  rfl
theorem inV_int (a : Int) (ls : List Int) : inV (.int a) (ls.map V.int) = decide (a ∈ ls) := by
  unfold inV
  rw [List.any_map]
  induction ls with
  | nil => rfl
  | cons x r ih =>
    rw [List.any_cons, ih]
    have e : ((fun y => eqV y (V.int a)) ∘ V.int) x = decide (x = a) := rfl
    rw [e]
    by_cases hx : x = a
    · subst hx
      simp
    · have : ¬ a = x := fun z => hx z.symm
      simp [hx, this]
end FF
namespace FF
open PySem PySem.Spec PyProof.Rows L2
/-! ### rules that speak of the written part, by its own letter (for the blocks of comprehensions) -/
section
variable {X : Cx} {K : PySem.W.Frag}
theorem in_seqK (h : X.K = K := by rfl) : OpR X (compareOp .In) (rIn K false) := h ▸ op_in_seq
theorem notIn_seqK (h : X.K = K := by rfl) : OpR X (compareOp .NotIn) (rIn K true) := h ▸ op_notIn_seq
theorem ix_listK (h : X.K = K := by rfl) : IxR X (rIxL K) := h ▸ ix_list
theorem ix_tupK (h : X.K = K := by rfl) : IxR X (rIxT K) := h ▸ ix_tup
theorem sl_listK (h : X.K = K := by rfl) : L2.SlR X (rSlL K) := h ▸ sl_list
theorem sl_tupK (h : X.K = K := by rfl) : L2.SlR X (rSlT K) := h ▸ sl_tup
theorem catTK (h : X.K = K := by rfl) : OpR X (binaryOp .Add) (rCatT K) := h ▸ op_catT
theorem eqDK (hu : X.A.units + 64 < cLine) (h : X.K = K := by rfl) : OpR X (compareOp .Eq) (rEqD K) := h ▸ op_eqD hu
theorem neDK (hu : X.A.units + 64 < cLine) (h : X.K = K := by rfl) : OpR X (compareOp .NotEq) (rNeD K) := h ▸ op_neD hu
theorem lenK (h : X.K = K := by rfl) : CallR X (.builtin "len") (fun xs H Q => ∃ p ys, xs = [.ref p] ∧ (SqL K H p ys ∨ SqT K H p ys) ∧ Q (.int ys.length) H) := h ▸ call_len_seq
theorem listK (h : X.K = K := by rfl) : CallR X (.type "list") (fun xs H Q => ∃ p ys, xs = [.ref p] ∧ (SqL K H p ys ∨ SqT K H p ys) ∧ ∀ l, H l = none → Q (.ref l) (upd H l (.lst ys))) := h ▸ call_list_of
theorem tupleK (h : X.K = K := by rfl) : CallR X (.type "tuple") (fun xs H Q => ∃ p ys, xs = [.ref p] ∧ ((SqL K H p ys ∧ ∀ l, H l = none → Q (.ref l) (upd H l (.tup ys))) ∨ (SqT K H p ys ∧ Q (.ref p) H))) := h ▸ call_tuple_of
theorem isiK (h : X.K = K := by rfl) : CallR X (.builtin "isinstance") (rIsi K) := h ▸ call_isi
theorem maxK (hc : X.calm = true) (h : X.K = K := by rfl) : CallR X (.builtin "max") (rMax K) := h ▸ cr_max hc
theorem sumK (hc : X.calm = true) (h : X.K = K := by rfl) : CallR X (.builtin "sum") (rSum K) := h ▸ cr_sum hc
theorem sortedK (h : X.K = K := by rfl) : CallR X (.builtin "sorted") (rSortedI K) := h ▸ cr_sortedI
theorem tgtK {es : List Expr} {k n : Nat} {t : TGs} {pos : Pos} (hp : PGs X es t) (hc : X.calm = true := by rfl) (h : X.K = K := by rfl)
    (hn : (assignEach es X.env).length = n := by rfl) (hst : (assignEach es X.env).findIdx? (·.1) = none := by rfl) : PG X (.Tuple es k pos) (gTup K n t) := h ▸ pg_tup hc hp hn hst
end
/-! ### slices and sums of tuples: what is told may be an old tuple or a new one -/
def rSlU (_ : PySem.W.Frag) : V → Option Int → Option Int → Hp → VK → Prop := fun x lo hi H Q => ∃ a xs, x = .ref a ∧ H a = some (.tup xs) ∧ ∀ p H', Ke H H' → H' p = some (.tup (cutV xs lo hi)) → Q (.ref p) H'
theorem sl_tupU {X : Cx} {K : PySem.W.Frag} (h : X.K = K := by rfl) : L2.SlR X (rSlU K) := by
  intro pins s σ H x v vl vu lo hi sl Q I rx hs pl pu hq
  obtain ⟨a, xs, e, hx, q⟩ := hq
  refine sl_tupA pins s σ H x v vl vu lo hi sl Q I rx hs pl pu ⟨a, xs, e, sqT_of hx, fun hw => q a H .refl ?_, fun _ p np => q p _ (Ke.new np) upd_same⟩
  rw [hx]
  unfold cutV
  rw [hw.1, hw.2, List.drop_zero, Nat.sub_zero, List.take_length]
def rCatU (_ : PySem.W.Frag) : R2 := fun x y H Q => ∃ a b xs ys, x = .ref a ∧ y = .ref b ∧ H a = some (.tup xs) ∧ H b = some (.tup ys) ∧ xs.length + ys.length ≤ sizeLine ∧ ∀ p H', Ke H H' → H' p = some (.tup (xs ++ ys)) → Q (.ref p) H'
theorem catU {X : Cx} {K : PySem.W.Frag} (h : X.K = K := by rfl) : OpR X (binaryOp .Add) (rCatU K) := by
  intro pins s σ H x y v u Q I rx ry hq
  obtain ⟨a, b, xs, ys, e1, e2, hx, hy, hl, q⟩ := hq
  refine op_catA pins s σ H x y v u Q I rx ry ⟨a, b, xs, ys, e1, e2, sqT_of hx, sqT_of hy, hl, fun z => q b H .refl ?_, fun _ z => q a H .refl ?_, fun _ _ p np => q p _ (Ke.new np) upd_same⟩
  · rw [hy, z, List.nil_append]
  · rw [hx, z, List.append_nil]
end FF
namespace FF
open PySem PySem.Spec PyProof.Rows L2
/-! ### walked things with the written part said -/
section
variable {X : Cx} {K : PySem.W.Frag} {tg l : Expr} {tl : TE}
theorem pi_listK (hl : PE X l tl) (h : X.K = K := by rfl) : PI X tg l (iList K tl) := h ▸ pi_list hl
theorem pi_tupK (hl : PE X l tl) (h : X.K = K := by rfl) : PI X tg l (iTup K tl) := h ▸ pi_tup hl
theorem pi_enumK {e : Expr} {ta : TA} {p pos tpos : Pos} {elts : List Expr} {kk : Nat} (hg : Gl X "enumerate") (hm : X.mg "enumerate" = none) (ha : PA X [e] ta) (h : X.K = K := by rfl) (hs : starEach [e] X.env = [(false, eval e X.env)] := by rfl) :
    PI X (.Tuple elts kk tpos) (.Call (.Name "enumerate" p) [e] [] pos) (iEnum K ta) := h ▸ pi_enum hg hm ha hs
theorem pi_zipK {e e2 : Expr} {ta : TA} {p pos tpos : Pos} {elts : List Expr} {kk : Nat} (hg : Gl X "zip") (hm : X.mg "zip" = none) (ha : PA X [e, e2] ta) (h : X.K = K := by rfl)
    (hs : starEach [e, e2] X.env = (false, eval e X.env) :: starEach [e2] X.env := by rfl) (hpl : (backTo pos (starEach [e2] X.env)).any (·.1) = false := by rfl) :
    PI X (.Tuple elts kk tpos) (.Call (.Name "zip" p) [e, e2] [] pos) (RZ.iZipA K ta) := h ▸ RZ.pi_zipA hg hm ha hs hpl
theorem pe_revLK {e : Expr} {te : TE} {k : Nat} {p1 p2 p3 pos : Pos} (he : PE X e te) (h : X.K = K := by rfl) : PE X (.Subscript e (.Slice none none (some (.UnaryOp .USub (.Constant (.int 1) k p1) p2)) p3) pos) (tRevL K te) := h ▸ pe_revL he
end
theorem mt_indexK {X : Cx} {K : PySem.W.Frag} (h : X.K = K := by rfl) : MtR X "list.index" (rIndex K) := h ▸ mt_index
section
variable {X : Cx} {K : PySem.W.Frag} {T : String} {name : Str} {id : String} {r : V → List V → Hp → VK → Prop} {o e : Expr} {es : List Expr} {to : TE} {t : TA} {apos cpos : Pos}
theorem pe_bm0K (pa : PlainAttrs T) (slot : Slot T name id) (hty : typeOf (.builtin id) = pure (.type "method_descriptor")) (hm : MtR X id r) (ho : PE X o to) (h : X.K = K := by rfl)
    (hbase : attributeBase o name X.env (eval o X.env) = eval o X.env := by rfl) (hline : (apos.endLine == cpos.line) = true := by rfl) : PE X (.Call (.Attribute o name apos) [] [] cpos) (tBM0 K T r to) := h ▸ pe_bm0 pa slot hty hm ho hbase hline
theorem pe_bmK (pa : PlainAttrs T) (slot : Slot T name id) (hty : typeOf (.builtin id) = pure (.type "method_descriptor")) (hm : MtR X id r) (ho : PE X o to) (ha : PA X (e :: es) t) (h : X.K = K := by rfl)
    (hbase : attributeBase o name X.env (eval o X.env) = eval o X.env := by rfl)
    (hfew : ((backTo cpos (starEach (e :: es) X.env)).all (fun x => !x.1) && (backToKw cpos (keywordEach [] X.env)).all (fun x => x.1.isSome)
      && decide ((e :: es).length + ([] : List Keyword).length + (if ([] : List Keyword).isEmpty then 0 else 1) < 30)) = true := by rfl)
    (hline : (apos.endLine == cpos.line) = true := by rfl) (hs : starEach (e :: es) X.env = (false, eval e X.env) :: starEach es X.env := by rfl) (hplain : (backTo cpos (starEach es X.env)).any (·.1) = false := by rfl) :
    PE X (.Call (.Attribute o name apos) (e :: es) [] cpos) (tBM K T r to t) := h ▸ pe_bm pa slot hty hm ho ha hbase hfew hline hs hplain
end
end FF
namespace FF
open PySem PySem.Spec PyProof.Rows L2
/-! ### lots -/
/-- a thing is a tuple of these, or of another kind -/
inductive Tpl (H : Hp) : V → Option (List V) → Prop where
  | yes {a : Addr} {xs : List V} (h : H a = some (.tup xs)) (hx : ∀ x ∈ xs, ∃ n, TyN H x n) : Tpl H (.ref a) (some xs)
  | no {v : V} {n : String} (h : TyN H v n) (hn : n ≠ "tuple") : Tpl H v none
/-- rising from lo, below n -/
def rising (n : Int) : Int → List V → Bool
  | _, [] => true
  | lo, v :: r => match v with
    | .int i => isNum v lo (n - 1) && rising n (i + 1) r
    | _ => false
def lotO (n : Int) : Option (List V) → Bool
  | none => false
  | some [] => false
  | some (v :: r) => rising n 0 (v :: r)
def intsOf (xs : List V) : List Int := xs.map fun v => match v with
  | .int i => i
  | _ => 0
def fullO (n : Int) (ts : List (Int × Int)) (k : Int) (o : Option (List V)) : Bool := lotO n o && match o with
  | none => false
  | some xs => decide ((inside (intsOf xs) ts : Int) > k * ((xs.length : Int) - 1))
theorem intsOf_map (ls : List Int) : intsOf (ls.map V.int) = ls := by
  unfold intsOf
  rw [List.map_map]
  exact List.map_id' ls
theorem rising_ints {n : Int} : ∀ {lo : Int} {xs : List V}, rising n lo xs = true → xs = (intsOf xs).map V.int
  | _, [], _ => rfl
  | lo, v :: r, h => by
    cases v with
    | int i =>
      have h : (isNum (.int i) lo (n - 1) && rising n (i + 1) r) = true := h
      have ih := rising_ints (Bool.and_eq_true_iff.mp h).2
      show V.int i :: r = V.int i :: (intsOf r).map V.int
      rw [← ih]
    | _ => cases h
theorem lotO_rising {n : Int} {xs : List V} (h : lotO n (some xs) = true) : xs ≠ [] ∧ rising n 0 xs = true := by
  cases xs with
  | nil => cases h
  | cons v r => exact ⟨List.cons_ne_nil _ _, h⟩
structure Lot (n : Int) (ls : List Int) : Prop where
  ne : ls ≠ []
  up : ls.Pairwise (· < ·)
  ok : ∀ x ∈ ls, 0 ≤ x ∧ x < n
theorem rising_of {n : Int} : ∀ {lo : Int} {ls : List Int}, ls.Pairwise (· < ·) → (∀ x ∈ ls, lo ≤ x ∧ x < n) → rising n lo (ls.map V.int) = true
  | _, [], _, _ => rfl
  | lo, i :: r, hp, hx => by
    obtain ⟨h1, h2⟩ := List.pairwise_cons.mp hp
    have hi := hx i List.mem_cons_self
    show (isNum (.int i) lo (n - 1) && rising n (i + 1) (r.map V.int)) = true
    rw [Bool.and_eq_true_iff]
    refine ⟨?_, rising_of h2 fun x hm => ⟨?_, (hx x (List.mem_cons_of_mem _ hm)).2⟩⟩
    · show (decide (lo ≤ i) && decide (i ≤ n - 1)) = true
      rw [decide_eq_true hi.1, decide_eq_true (by omega : i ≤ n - 1)]
      rfl
    · have := h1 x hm
      omega
theorem Lot.o {n : Int} {ls : List Int} (h : Lot n ls) : lotO n (some (ls.map V.int)) = true := by
  cases e : ls with
  | nil => exact absurd e h.ne
  | cons i r =>
    rw [← e]
    have : lotO n (some (ls.map V.int)) = rising n 0 (ls.map V.int) := by rw [e]; rfl
    rw [this]
    exact rising_of h.up h.ok
theorem Lot.full {n : Int} {ls : List Int} (h : Lot n ls) (ts : List (Int × Int)) (k : Int) : fullO n ts k (some (ls.map V.int)) = decide ((inside ls ts : Int) > k * ((ls.length : Int) - 1)) := by
  unfold fullO
  rw [h.o, Bool.true_and]
  show decide ((inside (intsOf (ls.map V.int)) ts : Int) > k * (((ls.map V.int).length : Int) - 1)) = _
  rw [intsOf_map, List.length_map]
theorem Lot.one {n x : Int} (h0 : 0 ≤ x) (h1 : x < n) : Lot n [x] := ⟨List.cons_ne_nil _ _, List.pairwise_singleton _ _, fun y hy => by rw [List.mem_singleton.mp hy]; exact ⟨h0, h1⟩⟩
theorem Lot.two {n x y : Int} (h0 : 0 ≤ x) (h1 : x < y) (h2 : y < n) : Lot n [x, y] := ⟨List.cons_ne_nil _ _, by simp [h1], fun z hz => by
  rcases List.mem_cons.mp hz with rfl | hz
  · exact ⟨h0, by omega⟩
  · rw [List.mem_singleton.mp hz]
    exact ⟨by omega, h2⟩⟩
theorem ty_ints {H : Hp} (ls : List Int) : ∀ x ∈ ls.map V.int, ∃ n, TyN H x n := fun x hx => by
  obtain ⟨i, _, rfl⟩ := List.mem_map.mp hx
  exact ⟨_, .int i⟩
theorem dp_ints {K : PySem.W.Frag} {H : Hp} : ∀ ls : List Int, DpAll K H (ls.map V.int) (ls.map PyData.int)
  | [] => .nil
  | i :: r => .cons (.int i) (dp_ints r)
theorem Lot.all {n : Int} (h : 1 ≤ n) : Lot n ((List.range n.toNat).map fun (i : Nat) => (i : Int)) := by
  refine ⟨fun z => ?_, ?_, fun x hx => ?_⟩
  · have := congrArg List.length z
    simp at this
    omega
  · rw [List.pairwise_map]
    exact List.pairwise_lt_range.imp fun h => by omega
  · obtain ⟨i, hi, rfl⟩ := List.mem_map.mp hx
    have := List.mem_range.mp hi
    omega
/-- a value is a lot of n points -/
def IsLot (H : Hp) (n : Int) (x : V) : Prop := ∃ a ls, x = .ref a ∧ H a = some (.tup (ls.map V.int)) ∧ Lot n ls
theorem IsLot.mono {H H' : Hp} {n : Int} {x : V} (h : IsLot H n x) (k : ∀ q xs, H q = some (.tup xs) → H' q = some (.tup xs)) : IsLot H' n x := by
  obtain ⟨a, ls, e, h1, h2⟩ := h
  exact ⟨a, ls, e, k _ _ h1, h2⟩
theorem IsLot.ke {H H' : Hp} {n : Int} {x : V} (h : IsLot H n x) (k : Ke H H') : IsLot H' n x := h.mono fun _ _ => k.tup
theorem IsLot.dk {H H' : Hp} {p : Addr} {n : Int} {x : V} (h : IsLot H n x) (k : Dk p H H') (d : Deck H p) : IsLot H' n x := h.mono fun _ _ => k.tup d
theorem IsLot.new {H : Hp} {p : Addr} {o : HO} {n : Int} {x : V} (h : IsLot H n x) (k : H p = none) : IsLot (upd H p o) n x := h.mono fun _ _ => tup_new k
theorem IsLot.put {H : Hp} {p : Addr} {o : HO} {ys : List V} {n : Int} {x : V} (h : IsLot H n x) (k : H p = some (.lst ys)) : IsLot (upd H p o) n x := h.mono fun q xs e => by rw [upd_ne (ne_of e k (fun z => nomatch z))]; exact e
theorem rgV_ints (n : Int) : rgV 0 n = ((List.range n.toNat).map fun (i : Nat) => (i : Int)).map V.int := by
  unfold rgV
  rw [List.map_map, Int.sub_zero]
  apply List.map_congr_left
  intro i _
  show V.int (0 + (i : Int)) = V.int (i : Int)
  rw [Int.zero_add]
theorem up_length {n : Int} : ∀ {lo : Int} {ls : List Int}, ls.Pairwise (· < ·) → (∀ x ∈ ls, lo ≤ x ∧ x < n) → (ls.length : Int) ≤ max 0 (n - lo)
  | _, [], _, _ => by simp; omega
  | lo, i :: r, hp, hx => by
    obtain ⟨h1, h2⟩ := List.pairwise_cons.mp hp
    have hi := hx i List.mem_cons_self
    have ih := up_length (lo := i + 1) h2 fun x hm => ⟨by have := h1 x hm; omega, (hx x (List.mem_cons_of_mem _ hm)).2⟩
    rw [List.length_cons]
    omega
theorem Lot.length {n : Int} {ls : List Int} (h : Lot n ls) : (ls.length : Int) ≤ max 0 n := by
  have := up_length h.up h.ok
  omega
theorem decide_same {a b : Bool} (h : a = b) : decide (a = b) = true := decide_eq_true h
end FF
namespace FF
open PySem PySem.Spec PyProof.Rows L2
/-! ### joined points: roots, labels, and how many are apart (plain mathematics) -/
theorem step_mem (acc : List Int) (x k : Int) : k ∈ step_dedup acc x ↔ k ∈ acc ∨ k = x := by
  unfold step_dedup
  split
  · rename_i h
    constructor
    · exact .inl
    · rintro (z | rfl)
      · exact z
      · simpa using h
  · simp
theorem step_nd {acc : List Int} (x : Int) (h : acc.Nodup) : (step_dedup acc x).Nodup := by
  unfold step_dedup
  split
  · exact h
  · rename_i hx
    rw [List.nodup_append]
    refine ⟨h, by simp, fun a ha b hb => ?_⟩
    rw [List.mem_singleton.mp hb]
    rintro rfl
    exact hx (by simpa using ha)
theorem fold_mem : ∀ (ns acc : List Int) (k : Int), k ∈ ns.foldl step_dedup acc ↔ k ∈ acc ∨ k ∈ ns
  | [], acc, k => by simp
  | x :: r, acc, k => by
    rw [List.foldl_cons, fold_mem r, step_mem, List.mem_cons, or_assoc]
theorem fold_nd : ∀ (ns acc : List Int), acc.Nodup → (ns.foldl step_dedup acc).Nodup
  | [], _, h => h
  | x :: r, acc, h => by
    rw [List.foldl_cons]
    exact fold_nd r _ (step_nd x h)
theorem mem_nub (ns : List Int) (k : Int) : k ∈ nub ns ↔ k ∈ ns := by
  unfold nub
  rw [fold_mem]
  simp
theorem nub_nd (ns : List Int) : (nub ns).Nodup := fold_nd ns [] List.nodup_nil
theorem nd_le : ∀ {l m : List Int}, l.Nodup → (∀ x ∈ l, x ∈ m) → l.length ≤ m.length
  | [], _, _, _ => Nat.zero_le _
  | x :: r, m, hd, hs => by
    obtain ⟨h1, h2⟩ := List.nodup_cons.mp hd
    have hx := hs x List.mem_cons_self
    have ih := nd_le (l := r) (m := m.erase x) h2 fun y hy => by
      have hne : y ≠ x := fun z => h1 (z ▸ hy)
      exact (List.mem_erase_of_ne hne).mpr (hs y (List.mem_cons_of_mem _ hy))
    rw [List.length_erase_of_mem hx] at ih
    have := List.length_pos_of_mem hx
    rw [List.length_cons]
    omega
theorem nd_eq {l m : List Int} (h1 : l.Nodup) (h2 : m.Nodup) (h : ∀ x, x ∈ l ↔ x ∈ m) : l.length = m.length :=
  Nat.le_antisymm (nd_le h1 fun x hx => (h x).mp hx) (nd_le h2 fun x hx => (h x).mpr hx)
/-- labels, two of them made one -/
def mrg (a b x : Int) : Int := if x = a ∨ x = b then min a b else x
theorem nub_same (a : Int) (hs : List Int) : (nub (hs.map (mrg a a))).length = (nub hs).length := by
  have e : hs.map (mrg a a) = hs := by
    conv => rhs; rw [← List.map_id hs]
    apply List.map_congr_left
    intro x _
    unfold mrg
    split
    · rename_i h
      rcases h with rfl | rfl <;> simp
    · rfl
  rw [e]
theorem nub_less {a b : Int} {hs : List Int} (ha : a ∈ hs) (hb : b ∈ hs) (h : a ≠ b) : (nub (hs.map (mrg a b))).length + 1 = (nub hs).length := by
  have hmax : max a b ∈ nub hs := (mem_nub _ _).mpr (by
    rcases Int.le_total a b with z | z
    · rw [Int.max_eq_right z]; exact hb
    · rw [Int.max_eq_left z]; exact ha)
  have hl : ((nub hs).erase (max a b)).length + 1 = (nub hs).length := by
    rw [List.length_erase_of_mem hmax]
    have := List.length_pos_of_mem hmax
    omega
  rw [← hl]
  congr 1
  refine nd_eq (nub_nd _) ((nub_nd hs).erase _) fun x => ?_
  rw [mem_nub, List.mem_map, (nub_nd hs).mem_erase_iff, mem_nub]
  constructor
  · rintro ⟨y, hy, rfl⟩
    unfold mrg
    split
    · refine ⟨by omega, ?_⟩
      rcases Int.le_total a b with z | z
      · rw [Int.min_eq_left z]; exact ha
      · rw [Int.min_eq_right z]; exact hb
    · rename_i hn
      exact ⟨by omega, hy⟩
  · rintro ⟨h1, h2⟩
    by_cases hx : x = a ∨ x = b
    · refine ⟨x, h2, ?_⟩
      unfold mrg
      rw [if_pos hx]
      omega
    · refine ⟨x, h2, ?_⟩
      unfold mrg
      rw [if_neg hx]
end FF
namespace FF
open PySem PySem.Spec PyProof.Rows L2
def rstep (r : Int → Int) (t : Int × Int) : Int → Int := fun x => if r x = r t.2 then r t.1 else r x
def ringlessF : (Int → Int) → List (Int × Int) → Bool
  | _, [] => true
  | r, t :: ts => if r t.1 = r t.2 then false else ringlessF (rstep r t) ts
def hat (hs : List Int) (x : Int) : Int := hs.getD x.toNat 0
def hstep (hs : List Int) (t : Int × Int) : List Int := hs.map (mrg (hat hs t.1) (hat hs t.2))
def headsF (hs : List Int) (ts : List (Int × Int)) : List Int := ts.foldl hstep hs
structure Ker (n : Int) (r : Int → Int) (hs : List Int) : Prop where
  len : (hs.length : Int) = n
  ker : ∀ x y, 0 ≤ x → x < n → 0 ≤ y → y < n → (r x = r y ↔ hat hs x = hat hs y)
theorem hat_map {hs : List Int} {f : Int → Int} {x : Int} (h0 : 0 ≤ x) (h1 : x < hs.length) : hat (hs.map f) x = f (hat hs x) := by
  have hx : x.toNat < hs.length := by omega
  unfold hat
  rw [List.getD_eq_getElem?_getD, List.getD_eq_getElem?_getD, List.getElem?_map, List.getElem?_eq_getElem hx]
  rfl
theorem hat_mem {hs : List Int} {x : Int} (h0 : 0 ≤ x) (h1 : x < hs.length) : hat hs x ∈ hs := by
  have hx : x.toNat < hs.length := by omega
  unfold hat
  rw [List.getD_eq_getElem?_getD, List.getElem?_eq_getElem hx]
  exact List.getElem_mem hx
theorem Ker.step {n : Int} {r : Int → Int} {hs : List Int} (k : Ker n r hs) {t : Int × Int} (h : 0 ≤ t.1 ∧ t.1 < t.2 ∧ t.2 < n) : Ker n (rstep r t) (hstep hs t) := by
  have hl := k.len
  refine ⟨by unfold hstep; rw [List.length_map]; exact hl, fun x y x0 x1 y0 y1 => ?_⟩
  unfold hstep
  rw [hat_map x0 (by omega), hat_map y0 (by omega)]
  have a1 := k.ker x y x0 x1 y0 y1
  have a2 := k.ker x t.1 x0 x1 h.1 (by omega)
  have a3 := k.ker x t.2 x0 x1 (by omega) h.2.2
  have a4 := k.ker y t.1 y0 y1 h.1 (by omega)
  have a5 := k.ker y t.2 y0 y1 (by omega) h.2.2
  have a6 := k.ker t.1 t.2 h.1 (by omega) (by omega) h.2.2
  unfold rstep mrg
  generalize r x = rx at *
  generalize r y = ry at *
  generalize r t.1 = ra at *
  generalize r t.2 = rb at *
  generalize hat hs x = hx at *
  generalize hat hs y = hy at *
  generalize hat hs t.1 = ha at *
  generalize hat hs t.2 = hb at *
  split <;> split <;> split <;> split <;> omega
theorem nub_step {n : Int} {r : Int → Int} {hs : List Int} (k : Ker n r hs) {t : Int × Int} (h : 0 ≤ t.1 ∧ t.1 < t.2 ∧ t.2 < n) :
    (r t.1 = r t.2 → (nub (hstep hs t)).length = (nub hs).length) ∧ (r t.1 ≠ r t.2 → (nub (hstep hs t)).length + 1 = (nub hs).length) := by
  have hl := k.len
  have e := k.ker t.1 t.2 h.1 (by omega) (by omega) h.2.2
  refine ⟨fun z => ?_, fun z => ?_⟩
  · unfold hstep
    rw [← e.mp z]
    exact nub_same _ _
  · unfold hstep
    exact nub_less (hat_mem h.1 (by omega)) (hat_mem (by omega) (by omega)) fun q => z (e.mpr q)
theorem forest_count {n : Int} : ∀ (ts : List (Int × Int)) (r : Int → Int) (hs : List Int), Ker n r hs → TOk n ts →
    (nub hs).length ≤ ts.length + (nub (headsF hs ts)).length ∧ (ringlessF r ts = true ↔ ts.length + (nub (headsF hs ts)).length = (nub hs).length)
  | [], r, hs, _, _ => by
    refine ⟨by simp [headsF], ?_⟩
    simp [headsF, ringlessF]
  | t :: ts, r, hs, k, hok => by
    have ht := hok t List.mem_cons_self
    obtain ⟨i1, i2⟩ := forest_count ts (rstep r t) (hstep hs t) (k.step ht) fun x hx => hok x (List.mem_cons_of_mem _ hx)
    obtain ⟨s1, s2⟩ := nub_step k ht
    have e : headsF hs (t :: ts) = headsF (hstep hs t) ts := rfl
    rw [e, List.length_cons]
    unfold ringlessF
    by_cases z : r t.1 = r t.2
    · have := s1 z
      rw [if_pos z]
      refine ⟨by omega, ?_⟩
      constructor
      · intro q; cases q
      · intro q; omega
    · have := s2 z
      rw [if_neg z]
      refine ⟨by omega, ?_⟩
      rw [i2]
      omega
def upTo (n : Int) : List Int := (List.range n.toNat).map fun (i : Nat) => (i : Int)
theorem upTo_length (n : Int) : (upTo n).length = n.toNat := by unfold upTo; rw [List.length_map, List.length_range]
theorem upTo_nd (n : Int) : (upTo n).Nodup := by
  unfold upTo
  rw [List.nodup_iff_pairwise_ne, List.pairwise_map]
  exact List.pairwise_lt_range.imp fun h => by omega
theorem upTo_nub (n : Int) : (nub (upTo n)).length = n.toNat := by
  rw [← upTo_length n]
  exact nd_eq (nub_nd _) (upTo_nd n) fun x => mem_nub _ x
theorem hat_upTo {n x : Int} (h0 : 0 ≤ x) (h1 : x < n) : hat (upTo n) x = x := by
  have hx : x.toNat < (upTo n).length := by rw [upTo_length]; omega
  unfold hat
  rw [List.getD_eq_getElem?_getD, List.getElem?_eq_getElem hx]
  simp only [upTo, List.getElem_map, List.getElem_range, Option.getD_some]
  omega
theorem Ker.start {n : Int} (h : 0 ≤ n) : Ker n (fun x => x) (upTo n) := ⟨by rw [upTo_length]; omega, fun x y x0 x1 y0 y1 => by rw [hat_upTo x0 x1, hat_upTo y0 y1]⟩
theorem forest_iff {n : Int} (h : 0 ≤ n) {ts : List (Int × Int)} (ok : TOk n ts) : ringlessF (fun x => x) ts = decide (((ts.length : Int) + ((nub (headsF (upTo n) ts)).length : Int)) = n) := by
  have q := (forest_count ts _ _ (Ker.start h) ok).2
  rw [upTo_nub] at q
  by_cases z : ringlessF (fun x => x) ts = true
  · rw [z]
    have := q.mp z
    exact (decide_eq_true (by omega)).symm
  · rw [Bool.eq_false_iff.mpr z]
    refine (decide_eq_false fun e => z (q.mpr (by omega))).symm
end FF
namespace FF
open PySem PySem.Spec PyProof.Rows L2
/-! ### leaders: each point leads to one nearer to its root -/
structure UF (n : Int) (ls : List Int) (r : Int → Int) (d : Int → Nat) : Prop where
  len : (ls.length : Int) = n
  rng : ∀ x, 0 ≤ x → x < n → 0 ≤ hat ls x ∧ hat ls x < n
  root : ∀ x, 0 ≤ x → x < n → r (hat ls x) = r x
  top : ∀ x, 0 ≤ x → x < n → hat ls x = x → r x = x
  down : ∀ x, 0 ≤ x → x < n → hat ls x ≠ x → d (hat ls x) < d x
  rr : ∀ x, 0 ≤ x → x < n → 0 ≤ r x ∧ r x < n ∧ hat ls (r x) = r x
theorem hat_set {ls : List Int} {i v x : Int} (h0 : 0 ≤ i) (h1 : i < ls.length) (x0 : 0 ≤ x) : hat (ls.set i.toNat v) x = if x = i then v else hat ls x := by
  unfold hat
  rw [List.getD_eq_getElem?_getD, List.getD_eq_getElem?_getD, List.getElem?_set]
  by_cases e : x = i
  · subst e
    rw [if_pos rfl, if_pos rfl, if_pos (by omega)]
    rfl
  · rw [if_neg e, if_neg (by omega)]
/-- halving the way -/
theorem UF.half {n : Int} {ls : List Int} {r : Int → Int} {d : Int → Nat} (u : UF n ls r d) {x : Int} (x0 : 0 ≤ x) (x1 : x < n) (hne : hat ls x ≠ x) : UF n (ls.set x.toNat (hat ls (hat ls x))) r d := by
  have hl := u.len
  obtain ⟨y0, y1⟩ := u.rng x x0 x1
  obtain ⟨z0, z1⟩ := u.rng _ y0 y1
  have hs : ∀ y, 0 ≤ y → hat (ls.set x.toNat (hat ls (hat ls x))) y = if y = x then hat ls (hat ls x) else hat ls y := fun y h => hat_set x0 (by omega) h
  have hrz : r (hat ls (hat ls x)) = r x := (u.root _ y0 y1).trans (u.root x x0 x1)
  have hdd : d (hat ls (hat ls x)) < d x := by
    have h1 := u.down x x0 x1 hne
    by_cases e : hat ls (hat ls x) = hat ls x
    · rw [e]; exact h1
    · have := u.down _ y0 y1 e
      omega
  refine ⟨by rw [List.length_set]; exact hl, fun y h0 h1 => ?_, fun y h0 h1 => ?_, fun y h0 h1 => ?_, fun y h0 h1 => ?_, fun y h0 h1 => ?_⟩
  · rw [hs y h0]
    split
    · exact ⟨z0, z1⟩
    · exact u.rng y h0 h1
  · rw [hs y h0]
    split
    · rename_i e
      rw [e]; exact hrz
    · exact u.root y h0 h1
  · rw [hs y h0]
    split
    · rename_i e
      intro q
      rw [e] at q
      rw [q] at hdd
      exact absurd hdd (Nat.lt_irrefl _)
    · exact u.top y h0 h1
  · rw [hs y h0]
    split
    · rename_i e
      rw [e]
      intro _
      exact hdd
    · exact u.down y h0 h1
  · obtain ⟨a0, a1, a2⟩ := u.rr y h0 h1
    refine ⟨a0, a1, ?_⟩
    rw [hs _ a0]
    split
    · rename_i e
      rw [e] at a2
      exact absurd a2 hne
    · exact a2
/-- two roots made one: b's under a's -/
theorem UF.join {n : Int} {ls : List Int} {r : Int → Int} {d : Int → Nat} (u : UF n ls r d) {a b : Int} (a0 : 0 ≤ a) (a1 : a < n) (b0 : 0 ≤ b) (b1 : b < n) : ∃ d', UF n (ls.set (r b).toNat (r a)) (rstep r (a, b)) d' := by
  have hl := u.len
  obtain ⟨p0, p1, p2⟩ := u.rr a a0 a1
  obtain ⟨q0, q1, q2⟩ := u.rr b b0 b1
  have rra : r (r a) = r a := u.top _ p0 p1 p2
  have rrb : r (r b) = r b := u.top _ q0 q1 q2
  have hs : ∀ y, 0 ≤ y → hat (ls.set (r b).toNat (r a)) y = if y = r b then r a else hat ls y := fun y h => hat_set q0 (by omega) h
  by_cases same : r a = r b
  · -- nothing changes
    have hh : ∀ y, 0 ≤ y → hat (ls.set (r b).toNat (r a)) y = hat ls y := fun y h => by
      rw [hs y h]
      split
      · rename_i e
        rw [e, q2, same]
      · rfl
    have hr : rstep r (a, b) = r := by
      funext y
      unfold rstep
      split
      · rename_i e
        rw [e]; exact same
      · rfl
    rw [hr]
    exact ⟨d, by rw [List.length_set]; exact hl, fun y h0 h1 => by rw [hh y h0]; exact u.rng y h0 h1, fun y h0 h1 => by rw [hh y h0]; exact u.root y h0 h1, fun y h0 h1 => by rw [hh y h0]; exact u.top y h0 h1, fun y h0 h1 => by rw [hh y h0]; exact u.down y h0 h1, fun y h0 h1 => by
      obtain ⟨x0, x1, x2⟩ := u.rr y h0 h1
      exact ⟨x0, x1, by rw [hh _ x0]; exact x2⟩⟩
  · refine ⟨fun y => if r y = r b then d y + d (r a) + 1 else d y, by rw [List.length_set]; exact hl, fun y h0 h1 => ?_, fun y h0 h1 => ?_, fun y h0 h1 => ?_, fun y h0 h1 => ?_, fun y h0 h1 => ?_⟩
    · rw [hs y h0]
      split
      · exact ⟨p0, p1⟩
      · exact u.rng y h0 h1
    · rw [hs y h0]
      have ry := u.root y h0 h1
      unfold rstep
      show (if r (if y = r b then r a else hat ls y) = r b then r a else r (if y = r b then r a else hat ls y)) = if r y = r b then r a else r y
      split
      · rename_i e
        rw [e, rra, rrb, if_neg same, if_pos rfl]
      · rw [ry]
    · rw [hs y h0]
      split
      · rename_i e
        intro q
        exact absurd (q.trans e) same
      · rename_i e
        intro q
        have := u.top y h0 h1 q
        unfold rstep
        show (if r y = r b then r a else r y) = y
        rw [this, if_neg e]
    · rw [hs y h0]
      have ry := u.root y h0 h1
      split
      · rename_i e
        intro _
        show (if r (r a) = r b then d (r a) + d (r a) + 1 else d (r a)) < if r y = r b then d y + d (r a) + 1 else d y
        rw [rra, if_neg same, e, rrb, if_pos rfl]
        omega
      · rename_i e
        intro q
        have := u.down y h0 h1 q
        show (if r (hat ls y) = r b then d (hat ls y) + d (r a) + 1 else d (hat ls y)) < if r y = r b then d y + d (r a) + 1 else d y
        rw [ry]
        split <;> omega
    · obtain ⟨x0, x1, x2⟩ := u.rr y h0 h1
      unfold rstep
      show 0 ≤ (if r y = r b then r a else r y) ∧ (if r y = r b then r a else r y) < n ∧ hat (ls.set (r b).toNat (r a)) (if r y = r b then r a else r y) = if r y = r b then r a else r y
      split
      · refine ⟨p0, p1, ?_⟩
        rw [hs _ p0, if_neg same]
        exact p2
      · rename_i e
        refine ⟨x0, x1, ?_⟩
        rw [hs _ x0, if_neg e]
        exact x2
theorem UF.start {n : Int} (h : 0 ≤ n) : UF n (upTo n) (fun x => x) (fun _ => 0) :=
  ⟨by rw [upTo_length]; omega, fun x h0 h1 => by rw [hat_upTo h0 h1]; exact ⟨h0, h1⟩, fun x h0 h1 => by rw [hat_upTo h0 h1], fun x _ _ _ => rfl, fun x h0 h1 q => absurd (hat_upTo h0 h1) q, fun x h0 h1 => ⟨h0, h1, hat_upTo h0 h1⟩⟩
theorem hat_at {ls : List Int} {x : Int} (h0 : 0 ≤ x) (h1 : x < ls.length) : atI (ls.map V.int) x = some (.int (hat ls x)) := by
  obtain ⟨v, _, hv, e⟩ := at_int h0 h1
  rw [e]
  unfold hat
  rw [List.getD_eq_getElem?_getD, hv]
  rfl
end FF
namespace FF
open PySem PySem.Spec PyProof.Rows L2
/-! ### ties picked by their numbers -/
def pick (ts : List (Int × Int)) (ms : List Int) : List (Int × Int) := ms.map fun m => ts.getD m.toNat (0, 0)
theorem pick_cons (ts : List (Int × Int)) (m : Int) (ms : List Int) : pick ts (m :: ms) = ts.getD m.toNat (0, 0) :: pick ts ms := rfl
theorem pick_append (ts : List (Int × Int)) (ms ks : List Int) : pick ts (ms ++ ks) = pick ts ms ++ pick ts ks := List.map_append
theorem pick_take (ts : List (Int × Int)) (ms : List Int) (i : Nat) : pick ts (ms.take i) = (pick ts ms).take i := List.map_take
theorem pick_length (ts : List (Int × Int)) (ms : List Int) : (pick ts ms).length = ms.length := List.length_map ..
theorem getD_at {ts : List (Int × Int)} {m : Int} (h0 : 0 ≤ m) (h1 : m < ts.length) : ts[m.toNat]? = some (ts.getD m.toNat (0, 0)) := by
  have hx : m.toNat < ts.length := by omega
  rw [List.getD_eq_getElem?_getD, List.getElem?_eq_getElem hx]
  rfl
theorem pick_ok {n : Int} {ts : List (Int × Int)} (ok : TOk n ts) {ms : List Int} (h : ∀ m ∈ ms, 0 ≤ m ∧ m < ts.length) : TOk n (pick ts ms) := fun t ht => by
  obtain ⟨m, hm, rfl⟩ := List.mem_map.mp ht
  obtain ⟨h0, h1⟩ := h m hm
  exact ok _ (List.mem_of_getElem? (getD_at h0 h1))
/-- the k-th of some ties, with its object -/
theorem Ties.at_ {H : Hp} {rs : List V} {ts : List (Int × Int)} (h : Ties H rs ts) {m : Int} (h0 : 0 ≤ m) (h1 : m < ts.length) : ∃ q, atI rs m = some (.ref q) ∧ H q = some (.tup [.int (ts.getD m.toNat (0, 0)).1, .int (ts.getD m.toNat (0, 0)).2]) := by
  have hx : m.toNat < rs.length := by rw [h.length]; omega
  obtain ⟨t, q, e1, e2, e3⟩ := h.get (List.getElem?_eq_getElem hx)
  rw [getD_at h0 h1] at e1
  cases e1
  refine ⟨q, ?_, e3⟩
  have e : ((m.toNat : Nat) : Int) = m := by omega
  have z := atI_nat (xs := rs) (j := m.toNat) ((List.getElem?_eq_getElem hx).trans (congrArg some e2))
  rw [e] at z
  exact z
def foldR (r : Int → Int) (ts : List (Int × Int)) : Int → Int := ts.foldl rstep r
theorem ringlessF_split : ∀ (us : List (Int × Int)) (r : Int → Int) (ws : List (Int × Int)), ringlessF r us = true → ringlessF r (us ++ ws) = ringlessF (foldR r us) ws
  | [], _, _, _ => rfl
  | t :: us, r, ws, h => by
    unfold ringlessF at h
    by_cases e : r t.1 = r t.2
    · rw [if_pos e] at h
      cases h
    · rw [if_neg e] at h
      show (if r t.1 = r t.2 then false else ringlessF (rstep r t) (us ++ ws)) = _
      rw [if_neg e]
      exact ringlessF_split us _ ws h
theorem ringlessF_bad : ∀ (us : List (Int × Int)) (r : Int → Int) (ws : List (Int × Int)), ringlessF r us = false → ringlessF r (us ++ ws) = false
  | [], _, _, h => by cases h
  | t :: us, r, ws, h => by
    unfold ringlessF at h
    by_cases e : r t.1 = r t.2
    · show (if r t.1 = r t.2 then false else ringlessF (rstep r t) (us ++ ws)) = _
      rw [if_pos e]
    · rw [if_neg e] at h
      show (if r t.1 = r t.2 then false else ringlessF (rstep r t) (us ++ ws)) = _
      rw [if_neg e]
      exact ringlessF_bad us _ ws h
theorem foldR_snoc (r : Int → Int) (us : List (Int × Int)) (t : Int × Int) : foldR r (us ++ [t]) = rstep (foldR r us) t := by
  unfold foldR
  rw [List.foldl_append]
  rfl
/-- one tie more -/
theorem ringlessF_more {us : List (Int × Int)} {r : Int → Int} (h : ringlessF r us = true) (t : Int × Int) : ringlessF r (us ++ [t]) = !decide (foldR r us t.1 = foldR r us t.2) := by
  rw [ringlessF_split us r _ h]
  show (if foldR r us t.1 = foldR r us t.2 then false else true) = _
  by_cases e : foldR r us t.1 = foldR r us t.2
  · rw [if_pos e, decide_eq_true e]
    rfl
  · rw [if_neg e, decide_eq_false e]
    rfl
theorem headsF_snoc (hs : List Int) (us : List (Int × Int)) (t : Int × Int) : headsF hs (us ++ [t]) = hstep (headsF hs us) t := by
  unfold headsF
  rw [List.foldl_append]
  rfl
theorem headsF_length (hs : List Int) : ∀ ts : List (Int × Int), (headsF hs ts).length = hs.length := fun ts => by
  induction ts generalizing hs with
  | nil => rfl
  | cons t ts ih =>
    show (headsF (hstep hs t) ts).length = _
    rw [ih]
    unfold hstep
    rw [List.length_map]
/-! ### rings -/
def Pr (g k : Int) : Int → Int := fun x => if 1 ≤ x ∧ x ≤ k then (if g < x then g + 1 else 0) else x
theorem Pr_zero {g : Int} : Pr g 0 = fun x => x := by
  funext x
  unfold Pr
  rw [if_neg (by omega)]
theorem Pr_step {g k : Int} (g0 : 0 ≤ g) (k0 : 0 ≤ k) (h : k ≠ g) : rstep (Pr g k) (k, k + 1) = Pr g (k + 1) := by
  funext x
  unfold rstep Pr
  dsimp only
  split <;> split <;> split <;> (try split) <;> (try split) <;> (try split) <;> omega
theorem Pr_skip {g : Int} (g0 : 0 ≤ g) : Pr g g = Pr g (g + 1) := by
  funext x
  unfold Pr
  split <;> split <;> (try split) <;> (try split) <;> omega
theorem Pr_free {g k : Int} (g0 : 0 ≤ g) (k0 : 0 ≤ k) (h : k ≠ g) : Pr g k k ≠ Pr g k (k + 1) := by
  unfold Pr
  split <;> split <;> (try split) <;> (try split) <;> omega
def path (lo : Int) : Nat → List Int
  | 0 => []
  | n + 1 => lo :: path (lo + 1) n
theorem Pr_walk {g : Int} (g0 : 0 ≤ g) : ∀ (n : Nat) (k : Int) (ws : List (Int × Int)), 0 ≤ k → ringlessF (Pr g k) ((((path k n).filter fun i => !decide (i = g)).map fun i => (i, i + 1)) ++ ws) = ringlessF (Pr g (k + n)) ws
  | 0, k, ws, _ => by
    show ringlessF (Pr g k) ws = _
    rw [show k + ((0 : Nat) : Int) = k by omega]
  | n + 1, k, ws, h => by
    have ih := Pr_walk g0 n (k + 1) ws (by omega)
    rw [show k + ((n + 1 : Nat) : Int) = k + 1 + n by omega, ← ih]
    show ringlessF (Pr g k) ((((k :: path (k + 1) n).filter fun i => !decide (i = g)).map fun i => (i, i + 1)) ++ ws) = _
    by_cases e : k = g
    · rw [List.filter_cons_of_neg (by rw [decide_eq_true e]; decide), e, Pr_skip g0]
    · rw [List.filter_cons_of_pos (by rw [decide_eq_false e]; decide), List.map_cons, List.cons_append]
      show (if Pr g k k = Pr g k (k + 1) then false else ringlessF (rstep (Pr g k) (k, k + 1)) _) = _
      rw [if_neg (Pr_free g0 h e), Pr_step g0 h e]
theorem upd_id {H : Hp} {a : Addr} {o : HO} (h : H a = some o) : upd H a o = H := by
  funext b
  by_cases e : b = a
  · rw [e, upd_same, h]
  · rw [upd_ne e]
theorem rgV_up (n : Int) : rgV 0 n = (upTo n).map V.int := rgV_ints n
theorem decide_int (a b : Int) : decide (V.int a = V.int b) = decide (a = b) := by
  by_cases z : a = b
  · rw [decide_eq_true z, decide_eq_true (congrArg V.int z)]
  · rw [decide_eq_false z, decide_eq_false fun h => z (V.int.inj h)]
theorem take_next {α : Type} {xs : List α} {i : Nat} {x : α} (h : xs[i]? = some x) : xs.take (i + 1) = xs.take i ++ [x] := by
  rw [List.take_add_one, h]
  rfl
theorem take_rest {α : Type} {xs : List α} {i : Nat} {x : α} (h : xs[i]? = some x) : xs = xs.take i ++ [x] ++ xs.drop (i + 1) := by
  rw [← take_next h, List.take_append_drop]
theorem Kx.put {S : Addr → Prop} {H H1 : Hp} {p : Addr} {o : HO} (k : Kx S H H1) (h : H p = none) : Kx S H (upd H1 p o) := k.over h
def lenAt (H : Hp) (a : Addr) : Nat := match H a with
  | some (.lst xs) => xs.length
  | _ => 0
theorem lenAt_of {H : Hp} {a : Addr} {xs : List V} (h : H a = some (.lst xs)) : lenAt H a = xs.length := by
  unfold lenAt
  rw [h]
theorem seqIx {n : Nat} {i : Int} (h0 : 0 ≤ i) (h1 : i < n) : seqIndex? i n = some i.toNat := by
  unfold seqIndex?
  have e : ¬ i < 0 := by omega
  simp only [if_neg e]
  rw [if_pos (by simp; omega)]
theorem eqv_nil {ls : List Int} (h : (!PyData.eqv (.list (ls.map PyData.int)) (.list [])) = true) : ls ≠ [] := by
  intro e
  rw [e] at h
  cases h
/-- ties picked from the row of a web -/
theorem Ties.pick1 {H : Hp} {ts : List (Int × Int)} {qs : List V} {ms : List Int} {m : Int} {q : Addr} (h : Ties H qs (pick ts ms)) (hq : H q = some (.tup [.int (ts.getD m.toNat (0, 0)).1, .int (ts.getD m.toNat (0, 0)).2])) : Ties H (qs ++ [.ref q]) (pick ts (ms ++ [m])) := by
  rw [pick_append]
  exact h.append (Ties.one hq)
theorem erase_map {α β : Type} (f : α → β) : ∀ (l : List α) (k : Nat), (l.map f).eraseIdx k = (l.eraseIdx k).map f
  | [], _ => by simp
  | _ :: _, 0 => rfl
  | x :: l, k + 1 => by
    show f x :: (l.map f).eraseIdx k = f x :: (l.eraseIdx k).map f
    rw [erase_map f l k]
theorem upTo_snoc (n : Nat) : upTo ((n : Int) + 1) = upTo n ++ [(n : Int)] := by
  unfold upTo
  rw [show ((n : Int) + 1).toNat = n + 1 by omega, show ((n : Int)).toNat = n by omega, List.range_succ, List.map_append]
  rfl
theorem path_snoc : ∀ (lo : Int) (n : Nat), path lo (n + 1) = path lo n ++ [lo + n]
  | lo, 0 => by
    show [lo] = [lo + ((0 : Nat) : Int)]
    rw [show lo + ((0 : Nat) : Int) = lo by omega]
  | lo, n + 1 => by
    show lo :: path (lo + 1) (n + 1) = lo :: (path (lo + 1) n ++ [lo + ((n + 1 : Nat) : Int)])
    rw [path_snoc (lo + 1) n, show lo + 1 + (n : Int) = lo + ((n + 1 : Nat) : Int) by omega]
theorem upTo_path : ∀ n : Nat, upTo n = path 0 n
  | 0 => rfl
  | n + 1 => by
    rw [path_snoc, ← upTo_path n, show ((n + 1 : Nat) : Int) = (n : Int) + 1 by omega, upTo_snoc, Int.zero_add]
theorem mem_upTo {n x : Int} (h : x ∈ upTo n) : 0 ≤ x ∧ x < n := by
  unfold upTo at h
  obtain ⟨j, hj, rfl⟩ := List.mem_map.mp h
  have := List.mem_range.mp hj
  omega
def Rg (m : Int) : List (Int × Int) := ((upTo (m - 1)).map fun i => (i, i + 1)) ++ [(0, m - 1)]
theorem Rg_length {m : Int} (h : 1 ≤ m) : ((Rg m).length : Int) = m := by
  unfold Rg
  rw [List.length_append, List.length_map, upTo_length]
  show (((m - 1).toNat + 1 : Nat) : Int) = m
  omega
theorem Rg_ok {m : Int} (h : 2 ≤ m) : TOk m (Rg m) := fun t ht => by
  unfold Rg at ht
  rcases List.mem_append.mp ht with ht | ht
  · obtain ⟨i, hi, rfl⟩ := List.mem_map.mp ht
    have := mem_upTo hi
    dsimp only
    omega
  · rw [List.mem_singleton.mp ht]
    dsimp only
    omega
theorem Rg_at {m i : Int} (h0 : 0 ≤ i) (h1 : i < m - 1) : (Rg m).getD i.toNat (0, 0) = (i, i + 1) := by
  have hx : i.toNat < ((upTo (m - 1)).map fun i => (i, i + 1)).length := by rw [List.length_map, upTo_length]; omega
  unfold Rg
  rw [List.getD_eq_getElem?_getD, List.getElem?_append_left hx, List.getElem?_eq_getElem hx]
  simp only [upTo, List.getElem_map, List.getElem_range, Option.getD_some]
  rw [show ((i.toNat : Nat) : Int) = i by omega]
theorem Rg_last {m : Int} (h : 1 ≤ m) : (Rg m).getD (m - 1).toNat (0, 0) = (0, m - 1) := by
  have hx : ((upTo (m - 1)).map fun i => (i, i + 1)).length = (m - 1).toNat := by rw [List.length_map, upTo_length]
  unfold Rg
  rw [List.getD_eq_getElem?_getD, List.getElem?_append_right (by omega), hx, Nat.sub_self]
  rfl
theorem pick_ring {m : Int} {ms : List Int} (h : ∀ i ∈ ms, 0 ≤ i ∧ i < m - 1) : pick (Rg m) ms = ms.map fun i => (i, i + 1) :=
  List.map_congr_left fun i hi => Rg_at (h i hi).1 (h i hi).2
def but (g : Int) (ms : List Int) : List Int := ms.filter fun i => !decide (i = g)
theorem ring_walk {m g : Int} (hm : 2 ≤ m) (g0 : 0 ≤ g) (ws : List (Int × Int)) : ringlessF (fun x => x) (pick (Rg m) (but g (upTo (m - 1))) ++ ws) = ringlessF (Pr g (m - 1)) ws := by
  rw [pick_ring (ms := but g (upTo (m - 1))) (fun i hi => mem_upTo (List.mem_filter.mp hi).1)]
  have e : m - 1 = (((m - 1).toNat : Nat) : Int) := by omega
  have w := Pr_walk g0 (m - 1).toNat 0 ws (by omega)
  rw [Pr_zero, Int.zero_add, ← upTo_path, ← e] at w
  exact w
theorem upTo_last {m : Int} (hm : 1 ≤ m) : upTo m = upTo (m - 1) ++ [m - 1] := by
  have e := upTo_snoc (m - 1).toNat
  rw [show ((((m - 1).toNat : Nat) : Int)) = m - 1 by omega, show m - 1 + 1 = m by omega] at e
  exact e
theorem ring_gone {m g : Int} (hm : 2 ≤ m) (g0 : 0 ≤ g) (g1 : g < m) : ringlessF (fun x => x) (pick (Rg m) (but g (upTo m))) = true := by
  rw [upTo_last (by omega)]
  unfold but
  rw [List.filter_append, pick_append]
  by_cases e : m - 1 = g
  · rw [List.filter_cons_of_neg (by rw [decide_eq_true e]; decide)]
    exact ring_walk hm g0 _
  · rw [List.filter_cons_of_pos (by rw [decide_eq_false e]; decide)]
    refine (ring_walk hm g0 _).trans ?_
    rw [List.filter_nil, pick_cons, Rg_last (by omega)]
    show (if Pr g (m - 1) 0 = Pr g (m - 1) (m - 1) then false else true) = true
    rw [if_neg]
    unfold Pr
    rw [if_neg (by omega), if_pos (by omega), if_pos (by omega)]
    omega
theorem ring_all {m : Int} (hm : 2 ≤ m) : ringlessF (fun x => x) (pick (Rg m) (upTo m)) = false := by
  have w := ring_walk (m := m) (g := m) hm (by omega) [(0, m - 1)]
  have e : but m (upTo (m - 1)) = upTo (m - 1) := List.filter_eq_self.mpr fun i hi => by
    have := mem_upTo hi
    rw [decide_eq_false (by omega)]
    rfl
  rw [e] at w
  rw [upTo_last (by omega), pick_append, show pick (Rg m) [m - 1] = [(0, m - 1)] from by rw [pick_cons, Rg_last (by omega)]; rfl, w]
  show (if Pr m (m - 1) 0 = Pr m (m - 1) (m - 1) then false else true) = false
  rw [if_pos]
  unfold Pr
  rw [if_neg (by omega), if_pos (by omega), if_neg (by omega)]
/-! ### rows of ties' numbers -/
def IsRow (H : Hp) (m : Nat) (x : V) : Prop := ∃ (a : Addr) (ms : List Int), x = .ref a ∧ H a = some (.tup (ms.map V.int)) ∧ ms.length ≤ 1000 ∧ ∀ y ∈ ms, 0 ≤ y ∧ y < (m : Int)
theorem IsRow.mono {H H' : Hp} {m : Nat} {x : V} (h : IsRow H m x) (k : ∀ q xs, H q = some (.tup xs) → H' q = some (.tup xs)) : IsRow H' m x := by
  obtain ⟨a, ms, e, h1, h2⟩ := h
  exact ⟨a, ms, e, k _ _ h1, h2⟩
theorem IsRow.ke {H H' : Hp} {m : Nat} {x : V} (h : IsRow H m x) (k : Ke H H') : IsRow H' m x := h.mono fun _ _ => k.tup
theorem IsRow.dk {H H' : Hp} {p : Addr} {m : Nat} {x : V} (h : IsRow H m x) (k : Dk p H H') (d : Deck H p) : IsRow H' m x := h.mono fun _ _ => k.tup d
theorem IsRow.new {H : Hp} {p : Addr} {o : HO} {m : Nat} {x : V} (h : IsRow H m x) (k : H p = none) : IsRow (upd H p o) m x := h.mono fun _ _ => tup_new k
theorem IsRow.put {H : Hp} {p : Addr} {o : HO} {ys : List V} {m : Nat} {x : V} (h : IsRow H m x) (k : H p = some (.lst ys)) : IsRow (upd H p o) m x := h.mono fun q xs e => by rw [upd_ne (ne_of e k (fun z => nomatch z))]; exact e
structure Rows (H : Hp) (m : Nat) (xs : List V) : Prop where
  all : ∀ x ∈ xs, IsRow H m x
theorem Rows.nil {H : Hp} {m : Nat} : Rows H m [] := ⟨fun _ z => nomatch z⟩
theorem Rows.app {H : Hp} {m : Nat} {xs ys : List V} (a : Rows H m xs) (b : Rows H m ys) : Rows H m (xs ++ ys) := ⟨fun x hx => (List.mem_append.mp hx).elim (a.all x) (b.all x)⟩
theorem Rows.one {H : Hp} {m : Nat} {x : V} (a : IsRow H m x) : Rows H m [x] := ⟨fun y hy => by rw [List.mem_singleton.mp hy]; exact a⟩
theorem Rows.ke {H H' : Hp} {m : Nat} {xs : List V} (h : Rows H m xs) (k : Ke H H') : Rows H' m xs := ⟨fun x hx => (h.all x hx).ke k⟩
theorem Rows.dk {H H' : Hp} {p : Addr} {m : Nat} {xs : List V} (h : Rows H m xs) (k : Dk p H H') (d : Deck H p) : Rows H' m xs := ⟨fun x hx => (h.all x hx).dk k d⟩
theorem Rows.new {H : Hp} {p : Addr} {o : HO} {m : Nat} {xs : List V} (h : Rows H m xs) (k : H p = none) : Rows (upd H p o) m xs := ⟨fun x hx => (h.all x hx).new k⟩
theorem Rows.put {H : Hp} {p : Addr} {o : HO} {ys : List V} {m : Nat} {xs : List V} (h : Rows H m xs) (k : H p = some (.lst ys)) : Rows (upd H p o) m xs := ⟨fun x hx => (h.all x hx).put k⟩
theorem Rows.take {H : Hp} {m n : Nat} {xs : List V} (h : Rows H m xs) : Rows H m (xs.take n) := ⟨fun x hx => h.all x (List.mem_of_mem_take hx)⟩
end FF
namespace FF
open PySem PySem.Spec PyProof.Rows L2
/-! ### enumerate of a tuple -/
section
variable {P : Program} {w : World} {A : Around} {E : Value → Shared → Prop} {s : Shared}
theorem drawsTup (calm : A.handled = none) (j t : Addr) (far : t ≠ j) (vs : Array Value) : Draws P w A j [j, t] vs.size (fun k v => vs[k]? = some v) (fun k h => h.IsTupleIter j t k ∧ h.IsTuple t vs) where
  live _ _ z := by
    obtain ⟨⟨o, ho, _⟩, _⟩ := z
    exact ⟨o, ho⟩
  frame _ _ _ z k := by
    obtain ⟨⟨o1, a1, r1⟩, o2, a2, r2⟩ := z
    exact ⟨⟨o1, k j List.mem_cons_self o1 a1, r1⟩, o2, k t (List.mem_cons_of_mem _ List.mem_cons_self) o2 a2, r2⟩
  item k u Q F hk z fin := RZ.nextOf_tuple_item z.1 z.2 (x := vs[k]) (Array.getElem?_eq_getElem hk) fun h2 a1 a2 => fin _ h2 u.toks (Array.getElem?_eq_getElem hk) ⟨a1, z.2.extBut a2.extBut far⟩ a2
  done u Q F z fin := RZ.nextOf_tuple_end calm z.1 z.2 (by simp) fin
/-- nothing is left -/
theorem drawnOut (calm : A.handled = none) (j t : Addr) (vs : Array Value) (i : Nat) (hn : vs[i]? = none) : Draws P w A j [j, t] i (fun _ _ => False) (fun k h => k = i ∧ h.IsTupleIter j t i ∧ h.IsTuple t vs) where
  live _ _ z := by
    obtain ⟨_, ⟨o, ho, _⟩, _⟩ := z
    exact ⟨o, ho⟩
  frame _ _ _ z k := by
    obtain ⟨e, ⟨o1, a1, r1⟩, o2, a2, r2⟩ := z
    exact ⟨e, ⟨o1, k j List.mem_cons_self o1 a1, r1⟩, o2, k t (List.mem_cons_of_mem _ List.mem_cons_self) o2 a2, r2⟩
  item k u Q F hk z fin := absurd z.1 (Nat.ne_of_lt hk)
  done u Q F z fin := RZ.nextOf_tuple_end calm z.2.1 z.2.2 hn fin
abbrev itObj (t : Addr) : Obj := { cls := .type "tuple_iterator", data := .fields #[.ref t, .int 0 0] }
abbrev enObj (j : Addr) : Obj :=
  { cls := .type "enumerate",
    data := .fields #[.none, .bool false, .ref j, rawInt 0, .none, .none] }
set_option maxHeartbeats 1000000 in
theorem enumMadeT (t : Addr) (vs : Array Value) (k : Nat) (dd : Option Addr) (ss : Array (Option Value)) : Meets (Builtin.«enumerate.__new__» ⟨[.type "enumerate", .ref t], []⟩) (fun _ R s =>
      s.heap.get? t = some { cls := .type "tuple", dict := dd, data := .seq vs k, slots := ss } ∧
      R (.ok (.ret (.ref (s.heap.push (itObj t)).objs.size))) { s with heap := (s.heap.push (itObj t)).push (enObj s.heap.objs.size) }) :=
  .of_wp fun P w A R s h => by
    obtain ⟨h0, g0, d0, t0, s0⟩ := s
    obtain ⟨ht, h⟩ := h
    have isub := sub_enumerate
    have hT : Heap.IsTuple (Shared.heap ⟨h0, g0, d0, t0, s0⟩) t vs := ⟨_, ht, rfl, k, rfl⟩
    wp_walk using wpAny_loadPart' ht
    refine wpAny_stack_any fun _ => wpAny_pure ?_
    split
    · rename_i cc _ _ _ _ _
      cases (cc == Value.type "enumerate")
      · wp_walk using wpAny_loadPart' ht, wpAny_pyIter_tuple hT
        exact ⟨_, rfl, h⟩
      · wp_walk using wpAny_loadPart' ht, wpAny_pyIter_tuple hT
        exact ⟨_, rfl, h⟩
    · wp_walk using wpAny_loadPart' ht, wpAny_pyIter_tuple hT
      exact ⟨_, rfl, h⟩
theorem callEnumT {t : Addr} {vs : Array Value} {Q : Value → Shared → Prop} (hT : s.heap.IsTuple t vs)
    (fin : ∀ h2, IsEnum h2 (s.heap.objs.size + 1) s.heap.objs.size 0 .none → h2.IsTupleIter s.heap.objs.size t 0 → (∀ b o, s.heap.get? b = some o → h2.get? b = some o) →
      Q (.ref (s.heap.objs.size + 1)) { s with heap := h2 }) : wpAny (model P w) A (call (.type "enumerate") [.ref t]) Q E s := by
  obtain ⟨⟨c1, c2, c3, c4⟩, ht, e1, k, e2⟩ := hT
  have e1 : c1 = .type "tuple" := e1
  have e2 : c3 = .seq vs k := e2
  subst e1 e2
  refine callType_new F.called_enumerate (by decide) (F.typeCall_enumerate_1 _) (F.newCall_enumerate_1 _) (fun z => F.args_object_init_2 z _)
    F.entry_enumerate_new (enumMadeT t vs k c2 c4) ⟨ht, ?_⟩
  have size1 : (s.heap.push (itObj t)).objs.size = s.heap.objs.size + 1 := Heap.size_push ..
  show _ ∧ _
  rw [size1]
  have he : IsEnum ((s.heap.push (itObj t)).push (enObj s.heap.objs.size)) (s.heap.objs.size + 1) s.heap.objs.size 0 .none := by
    have z := Heap.get?_push_size (s.heap.push (itObj t)) (o := enObj s.heap.objs.size) rfl
    rw [size1] at z
    exact z
  exact ⟨⟨_, he, rfl⟩, fin _ he ⟨_, Heap.get?_push_of_some _ (Heap.get?_push_size _ rfl), rfl, rfl⟩ fun b o z => Heap.get?_push_of_some _ (Heap.get?_push_of_some _ z)⟩
end
/-- the tuple at a, each item in a new pair behind its number -/
def IteT (K : PySem.W.Frag) (a : Addr) : It where
  go i H := ∃ (xs : List V) (x : V), SqT K H a xs ∧ xs[i]? = some x
  yld i H v H' := ∃ t x, v = .ref t ∧ H t = none ∧ H' = upd H t (.tup [.int (i : Nat), x]) ∧ ∀ xs, SqT K H a xs → xs[i]? = some x
  stop i H := ∃ xs : List V, SqT K H a xs ∧ xs.length ≤ i
theorem turnEnumT {P : Program} {w : World} {K : PySem.W.Frag} {elts : List Expr} {kk : Nat} {tpos : Pos} (a e j : Addr) :
    Turn P w K (.Tuple elts kk tpos) (IteT K a) [e, j] e (fun i h => (∃ v, IsEnum h e j ((i : Nat) : Int) v) ∧ h.IsTupleIter j a i ∧ e ≠ j) where
  mem := List.mem_cons_self
  obj := by
    intro i h st b hb
    obtain ⟨⟨v, he⟩, ⟨o, ho, hc, hd⟩, _⟩ := st
    rcases List.mem_cons.mp hb with rfl | hb
    · exact ⟨_, he, fun _ z => nomatch z⟩
    · rw [List.mem_singleton.mp hb]
      exact ⟨o, ho, fun _ z => by rw [hd] at z; cases z⟩
  keep := by
    intro i h h' st k
    obtain ⟨⟨v, he⟩, ⟨o, ho, r⟩, far⟩ := st
    exact ⟨⟨v, k e List.mem_cons_self _ he⟩, ⟨o, k j (List.mem_cons_of_mem _ List.mem_cons_self) o ho, r⟩, far⟩
  item := by
    intro X hP hw hK calm i pins s σ H E I hf st hg
    subst hP hw hK
    obtain ⟨⟨v, he⟩, hj, far⟩ := st
    obtain ⟨xs, x, hq, hx⟩ := hg
    obtain ⟨its, rv, hp, _⟩ := I.tuple hq
    obtain ⟨u, hu, ru⟩ := rv.get hx
    have le : e < s.heap.objs.size := Heap.lt_size he
    have lj : j < s.heap.objs.size := by
      obtain ⟨_, z, _⟩ := hj
      exact Heap.lt_size z
    have hne : a ≠ j := by
      intro z
      obtain ⟨o1, a1, b1, _⟩ := hj
      obtain ⟨o2, a2, b2, _⟩ := hp
      rw [z, a1] at a2
      cases a2
      rw [b1] at b2
      exact absurd (Value.type.inj b2) (by decide)
    have hea : e ∉ [j, a] := by
      intro z
      rcases List.mem_cons.mp z with z | z
      · exact far z
      · have z := List.mem_singleton.mp z
        obtain ⟨o2, a2, b2, _⟩ := hp
        rw [← z, he] at a2
        cases a2
        exact absurd (Value.type.inj b2) (by decide)
    have hi : i < its.toArray.size := by
      rw [List.size_toArray]
      exact (List.getElem?_eq_some_iff.mp hu).1
    refine wpAny_pyNext_enum_itemD (drawsTup (A := X.A.in1) (I.ok.hd calm) j a hne its.toArray) he ⟨hj, hp⟩ hi far hea fun y h2 tk hy ho st2 hT2 _ hk => ?_
    have ey : y = u := by
      have hy : its.toArray[i]? = some y := hy
      rw [List.getElem?_toArray, hu] at hy
      exact (Option.some.inj hy).symm
    subst ey
    refine ⟨_, rfl, wpAny_letOwnedTupleGo_enum (s := { s with heap := h2, toks := tk + 1 }) ho fun h3 he3 sb => ?_⟩
    have hT3 : h3.get? s.heap.objs.size = some { cls := .type "tuple", data := .seq #[.int i tk, y] } := (sb.2 _ (Nat.ne_of_gt le)).trans hT2
    have fresh : ObjOk X.prog X.w (upd H s.heap.objs.size (.tup [.int (i : Nat), x])) h3 s.heap.objs.size (.tup [.int (i : Nat), x]) :=
      ⟨by show 2 ≤ sizeLine; decide, [.int i tk, y], .cons ⟨_, rfl⟩ (.cons ru .nil), ⟨_, hT3, rfl, _, rfl⟩⟩
    have I3 : Inv X pins σ (upd H s.heap.objs.size (.tup [.int (i : Nat), x])) { s with heap := h3, toks := tk + 1 } :=
      I.turnedNew (ch := [e, j]) (fun b ob hb z => (sb.2 b (fun r => hb (by simp [r]))).trans (hk b ob (fun r => hb (by simp [r])) (fun r => hb (by simp [r])) z)) hf (Nat.le_refl _) fresh
    refine ⟨.ref s.heap.objs.size, _, I3, rfl, ⟨_, x, rfl, I.hok.fresh (Nat.le_refl _), rfl, fun ys hy => by rw [I.tuple_inj hy hq]; exact hx⟩, ⟨⟨y, ?_⟩, ?_, far⟩, fun b hb => ?_⟩
    · rw [show ((i + 1 : Nat) : Int) = (i : Int) + 1 by omega]
      exact he3
    · obtain ⟨⟨o, z, r⟩, _⟩ := st2
      exact ⟨o, (sb.2 j (Ne.symm far)).trans z, r⟩
    · have lb : b < s.heap.objs.size := by
        rcases List.mem_cons.mp hb with z | z
        · rw [z]; exact le
        · rw [List.mem_singleton.mp z]; exact lj
      rw [upd_ne (Nat.ne_of_lt lb)]
      exact (hf b hb).1
  done := by
    intro X hP hw hK calm i pins s σ H E I hf st hg
    subst hP hw hK
    obtain ⟨⟨v, he⟩, hj, far⟩ := st
    obtain ⟨xs, hq, hx⟩ := hg
    obtain ⟨its, rv, hp, _⟩ := I.tuple hq
    obtain ⟨f0, f1, f2, f3, f4, f5⟩ := hf j (List.mem_cons_of_mem _ List.mem_cons_self)
    have hl := rv.length
    have hn : its.toArray[i]? = none := by
      rw [List.getElem?_toArray]
      exact List.getElem?_eq_none (by omega)
    exact wpAny_pyNext_enum_endD (drawnOut (A := X.A.in1) (I.ok.hd calm) j a its.toArray i hn) he ⟨rfl, hj, hp⟩ fun h2 eb => ⟨rfl, I.turned (t' := s.toks) (fun b o hb z => eb b o hb z) f0 f1 f3 f4 f5⟩
  self := by
    intro A i s Q E st h
    obtain ⟨⟨_, he⟩, _⟩ := st
    exact wpAny_pyIter_enum he h
def iEnumT (K : PySem.W.Frag) (ta : TA) : TI := fun σ H R => ta σ H fun vs G => ∃ a xs, vs = [.ref a] ∧ SqT K G a xs ∧ R (IteT K a) G
theorem pi_enumT {X : Cx} {K : PySem.W.Frag} {e : Expr} {ta : TA} {p1 p2 p3 : Pos} {elts : List Expr} {kk : Nat} (hg : Gl X "enumerate") (hm : X.mg "enumerate" = none) (ha : PA X [e] ta)
    (hK : X.K = K := by rfl) (star : starEach [e] X.env = [(false, eval e X.env)] := by rfl) : PI X (.Tuple elts kk p3) (.Call (.Name "enumerate" p1) [e] [] p2) (iEnumT K ta) := by
  subst hK
  constructor
  intro pins s σ H R I h
  refine Call_ (ld_blt I hg hm boot_enumerate (PyProof.Rows.callWith_type1 (thn (ha.run p2 pins s σ H _ I h) fun us t ⟨vs, G, J, rr, qq⟩ => ?_) star rfl))
  obtain ⟨a, xs, rfl, hq, q⟩ := qq
  cases rr with
  | cons r rr =>
    cases rr
    cases r
    obtain ⟨its, rv, hp, _⟩ := J.tuple hq
    refine callEnumT (show t.heap.IsTuple a its.toArray from hp) fun h2 he hj hk => wpAny_pyIter_enum he ?_
    have J2 : Inv X pins σ G { t with heap := h2 } := J.kept (t' := t.toks) hk
    refine ⟨t.heap.objs.size + 1, [t.heap.objs.size + 1, t.heap.objs.size], _, _, G, rfl, J2, turnEnumT a (t.heap.objs.size + 1) t.heap.objs.size, ⟨⟨.none, he⟩, hj, Nat.succ_ne_self _⟩, fun b hb => ?_, q⟩
    have lb : t.heap.objs.size ≤ b := by
      rcases List.mem_cons.mp hb with z | z
      · rw [z]; exact Nat.le_succ _
      · rw [List.mem_singleton.mp z]; exact Nat.le_refl _
    exact J.fpOk lb (J.hok.fresh lb)
theorem walk_enumT {K : PySem.W.Frag} {a : Addr} {xs : List V} : Walk (IteT K a) xs.length (fun H => SqT K H a xs) (YPair (fun i => some (.int (i : Nat))) (fun i => xs[i]?)) where
  goes i H hi q := ⟨xs, xs[i], q, List.getElem?_eq_getElem hi⟩
  stops H q := ⟨xs, q, Nat.le_refl _⟩
  yields i H v H' _ q y := by
    obtain ⟨t, x, h1, h2, h3, h4⟩ := y
    exact ⟨t, .int (i : Nat), x, h1, h2, h3, rfl, h4 xs q⟩
/-- zip of two tuples -/
theorem walk_zipT {K : PySem.W.Frag} {a b : Addr} {xs ys : List V} {n : Nat} (hn : n = min xs.length ys.length) : Walk (RZ.ItzT K a b) n (fun H => SqT K H a xs ∧ SqT K H b ys) (YPair (fun i => xs[i]?) (fun i => ys[i]?)) where
  goes i H hi q := ⟨xs, ys, xs[i]'(by omega), ys[i]'(by omega), q.1, q.2, List.getElem?_eq_getElem (by omega), List.getElem?_eq_getElem (by omega)⟩
  stops H q := ⟨xs, ys, q.1, q.2, by omega⟩
  yields i H v H' _ q y := by
    obtain ⟨t, x, z, h1, h2, h3, h4, h5⟩ := y
    exact ⟨t, x, z, h1, h2, h3, h4 xs q.1, h5 ys q.2⟩
section
variable {X : Cx}
/-- len(set(t)), t a tuple of ints -/
def tLenSetT (K : PySem.W.Frag) (ta : TE) : TE := fun σ H Q => ta σ H fun x G => ∃ (l : Addr) (ns : List Int), x = V.ref l ∧ SqT K G l (ns.map V.int) ∧ ns.length ≤ 1000 ∧ Q (.int (nub ns).length) G
theorem pe_lenSetT {a : Expr} {ta : TE} {p p2 q pos : Pos} (hg : Gl X "len") (hm : X.mg "len" = none) (hg2 : Gl X "set") (hm2 : X.mg "set" = none) (ha : PE X a ta) (hc : X.calm = true := by rfl)
    (na : starEach [a] X.env = (false, eval a X.env) :: starEach [] X.env := by rfl) : PE X (.Call (.Name "len" p) [.Call (.Name "set" p2) [a] [] q] [] pos) (tLenSetT X.K ta) := by
  refine ⟨fun pins s σ H Q I h => Call_ (ld_blt I hg hm boot_len (PyProof.Rows.callWith_builtin1 (PyProof.Rows.args_cons (Call_ (ld_blt I hg2 hm2 boot_set ?_)) rfl) rfl rfl))⟩
  refine PyProof.Rows.callWith_type1 (PyProof.Rows.args_cons (thn (ha.run pins s σ H _ I h) fun v t ⟨x, G, J, rx, qx⟩ => PyProof.Rows.args_nil ?_) na) na rfl
  obtain ⟨l, ns, rfl, hq, hl, qx⟩ := qx
  cases rx
  obtain ⟨its, r, pl, _⟩ := J.tuple hq
  refine call_set_tupI (w := X.w) ns (J.ok.hd hc) (show t.heap.IsTuple l its.toArray from pl) (by simpa using RZ.intsAre_vals r) (by unfold scanBound; omega) fun h2 tk c R _ hk => PyProof.Rows.args_nil ?_
  obtain ⟨o, es, ep, tt, ho, hex, hd, _, nd, mm, hsz, hf, _, _, _⟩ := R
  have J2 : Inv X pins σ G { t with heap := h2, toks := tk } := J.kept hk
  have hn : es.size = (nub ns).length := by
    have e := nd_eq nd (nub_nd ns) fun k => by
      rw [← mm k, mem_nub]
      exact decide_eq_true_iff
    rw [List.length_map, Array.length_toList] at e
    exact e
  exact call_len_set ho hex hd hf (by unfold scanBound at hsz; omega) ⟨.int (nub ns).length, G, J2.tok _, ⟨_, by rw [hn]⟩, qx⟩
end
end FF
namespace FF
open PySem PySem.Spec PyProof.Rows L2
/-! ### what is walked: a list or a tuple -/
section
variable {X : Cx}
def iSeq (K : PySem.W.Frag) (tl : TE) : TI := fun σ H R => tl σ H fun x G => ∃ a xs, x = .ref a ∧ ((SqL K G a xs ∧ R (Itl K a) G) ∨ (SqT K G a xs ∧ R (Itt K a) G))
theorem pi_seq {K : PySem.W.Frag} {tg l : Expr} {tl : TE} (hl : PE X l tl) (hK : X.K = K := by rfl) : PI X tg l (iSeq K tl) := by
  subst hK
  constructor
  intro pins s σ H R I h
  refine thn (hl.run pins s σ H _ I h) fun v t ⟨x, G, J, rx, a, xs, ex, hq⟩ => ?_
  subst ex
  cases rx
  rcases hq with ⟨hq, q⟩ | ⟨hq, q⟩
  · obtain ⟨its, _, p, _⟩ := J.list hq
    exact wpAny_pyIter_list p.isList (pi_one (tk := t.toks) J _ (turn_list a _) ⟨_, Heap.get?_push_size _ rfl, rfl, rfl⟩ q)
  · obtain ⟨its, _, p, _⟩ := J.tuple hq
    exact wpAny_pyIter_tuple (show t.heap.IsTuple a its.toArray from p) (pi_one (tk := t.toks) J _ (turn_tuple a _) ⟨_, Heap.get?_push_size _ rfl, rfl, rfl⟩ q)
end
section
variable {α : Type} {g : TG} {tt : TT} {te : TE} {vs : List Nat} {σ0 : L2.St} {yl : α → V → Hp → (α → Hp → Prop) → Prop} {dn : α → Hp → Prop} {H0 : Hp} {a0 : α} {J : It} {n : Nat} {Gd : Hp → Prop} {Y : Nat → Hp → V → Hp → Prop}
theorem gx_it (w : Walk J n Gd Y) (Pv : Nat → α → Hp → Prop) (h0 : Pv 0 a0 H0) (hG : ∀ i a H, i ≤ n → Pv i a H → Gd H)
    (hs : ∀ (i : Nat) x a H H', i < n → Pv i a H → Y i H x H' → g x σ0 H' fun σ2 H2 => wipe σ2 vs = σ0 ∧ tt σ2 H2 fun b H3 => if b = true then te σ2 H3 fun y H4 => yl a y H4 (Pv (i + 1)) else Pv (i + 1) a H3) (hd : ∀ a H, Pv n a H → dn a H) :
    ∃ W : Nat → Nat → α → Hp → Prop, (∃ m, W 0 m a0 H0) ∧ GxT J g tt te vs σ0 W yl dn := by
  refine ⟨fun i m a H => m = n - i ∧ i ≤ n ∧ Pv i a H, ⟨_, rfl, Nat.zero_le _, h0⟩, ?_⟩
  rintro i m a H ⟨rfl, hi, p⟩
  have ok := hG i a H hi p
  by_cases hlt : i < n
  · exact .inr ⟨w.goes i H hlt ok, Pv (i + 1), fun a' H' p' => ⟨n - (i + 1), by omega, rfl, hlt, p'⟩, fun x H1 y => hs i x a H H1 hlt p (w.yields i H x H1 hlt ok y)⟩
  · have e : i = n := by omega
    subst e
    exact .inl ⟨w.stops H ok, hd a H p⟩
end
section
variable {g : TG} {tt : TT} {te : TE} {vs : List Nat} {σ0 : L2.St} {yl : Unit → V → Hp → (Unit → Hp → Prop) → Prop} {dn : Unit → Hp → Prop} {H0 : Hp} {J : It} {n : Nat} {Gd : Hp → Prop} {Y : Nat → Hp → V → Hp → Prop}
theorem gx_all (w : Walk J n Gd Y) (Pv : Nat → Hp → Prop) (h0 : Pv 0 H0) (hG : ∀ i H, i ≤ n → Pv i H → Gd H)
    (hs : ∀ (i : Nat) x H H', i < n → Pv i H → Y i H x H' → g x σ0 H' fun σ2 H2 => wipe σ2 vs = σ0 ∧ tt σ2 H2 fun b H3 => if b = true then te σ2 H3 fun y H4 => yl () y H4 (fun _ => Pv (i + 1)) else Pv (i + 1) H3) (hd : ∀ H, Pv n H → dn () H) :
    ∃ W : Nat → Nat → Hp → Prop, (∃ m, W 0 m H0) ∧ GxT (α := Unit) J g tt te vs σ0 (fun i m _ H => W i m H) yl dn := by
  obtain ⟨W, ⟨m, hm⟩, hW⟩ := gx_it (a0 := ()) w (fun i _ H => Pv i H) h0 (fun i _ H => hG i H) (fun i x _ H H' => hs i x H H') (fun _ H => hd H)
  exact ⟨fun i m H => W i m () H, ⟨m, hm⟩, hW⟩
end
end FF
namespace FF
open PySem PySem.Spec PyProof.Rows L2
/-! ### ties by layers -/
def layerOf (ts : List (Int × Int)) (ws : List V) (f : Int) : List (Int × Int) := ((ts.zip ws).filter fun p => decide (p.2 = V.int f)).map Prod.fst
theorem layerOf_snoc {ts : List (Int × Int)} {ws : List V} (h : ts.length = ws.length) (t : Int × Int) (x : V) (f : Int) :
    layerOf (ts ++ [t]) (ws ++ [x]) f = layerOf ts ws f ++ if x = V.int f then [t] else [] := by
  unfold layerOf
  rw [List.zip_append h, List.filter_append, List.map_append]
  congr 1
  show (List.filter (fun p => decide (p.2 = V.int f)) [(t, x)]).map Prod.fst = _
  by_cases e : x = V.int f
  · rw [List.filter_cons_of_pos (p := fun p : (Int × Int) × V => decide (p.2 = V.int f)) (a := (t, x)) (decide_eq_true e), if_pos e]
    rfl
  · rw [List.filter_cons_of_neg (by rw [decide_eq_false e]; decide), if_neg e]
    rfl
theorem layerOf_length (ts : List (Int × Int)) (ws : List V) (f : Int) : (layerOf ts ws f).length ≤ ts.length := by
  unfold layerOf
  rw [List.length_map]
  refine Nat.le_trans (List.length_filter_le _ _) ?_
  rw [List.length_zip]
  omega
theorem layerOf_ok {n : Int} {ts : List (Int × Int)} (ok : TOk n ts) (ws : List V) (f : Int) : TOk n (layerOf ts ws f) := fun t ht => by
  unfold layerOf at ht
  obtain ⟨⟨u, x⟩, hp, rfl⟩ := List.mem_map.mp ht
  exact ok _ (List.of_mem_zip (List.mem_filter.mp hp).1).1
theorem layerOf_none {ts : List (Int × Int)} {ws : List V} {f : Int} (h : ∀ x ∈ ws, x ≠ V.int f) : layerOf ts ws f = [] := by
  unfold layerOf
  rw [List.filter_eq_nil_iff.mpr fun p hp => ?_]
  · rfl
  · obtain ⟨u, x⟩ := p
    rw [decide_eq_false (h x (List.of_mem_zip hp).2)]
    decide
/-! ### first fit -/
def freeB (ts : List (Int × Int)) (ws : List V) (t : Int × Int) (f : Int) : Bool := ringlessF (fun x => x) (layerOf ts ws f ++ [t])
inductive FFat (k : Int) (ts : List (Int × Int)) (ws : List V) (t : Int × Int) : V → Prop where
  | out : (∀ f, 0 ≤ f → f < k → freeB ts ws t f = false) → FFat k ts ws t .non
  | at_ {f : Int} : 0 ≤ f → f < k → freeB ts ws t f = true → (∀ g, 0 ≤ g → g < f → freeB ts ws t g = false) → FFat k ts ws t (.int f)
structure FF (k : Int) (ts : List (Int × Int)) (ws : List V) : Prop where
  len : ws.length = ts.length
  each : ∀ i t x, ts[i]? = some t → ws[i]? = some x → FFat k (ts.take i) (ws.take i) t x
theorem FF.nil {k : Int} : FF k [] [] := ⟨rfl, fun i t x h => by simp at h⟩
theorem FF.snoc {k : Int} {ts : List (Int × Int)} {ws : List V} {t : Int × Int} {x : V} (h : FF k ts ws) (hx : FFat k ts ws t x) : FF k (ts ++ [t]) (ws ++ [x]) := by
  have hl := h.len
  refine ⟨by rw [List.length_append, List.length_append, hl]; rfl, fun i u y hu hy => ?_⟩
  by_cases e : i < ts.length
  · rw [List.getElem?_append_left e] at hu
    rw [List.getElem?_append_left (by omega)] at hy
    rw [List.take_append_of_le_length (by omega), List.take_append_of_le_length (by omega)]
    exact h.each i u y hu hy
  · have hi : i = ts.length := by
      have := (List.getElem?_eq_some_iff.mp hu).1
      rw [List.length_append] at this
      have : i < ts.length + 1 := this
      omega
    subst hi
    rw [List.getElem?_append_right (Nat.le_refl _), Nat.sub_self] at hu
    rw [← hl, List.getElem?_append_right (Nat.le_refl _), Nat.sub_self] at hy
    cases hu
    cases hy
    rw [List.take_left, ← hl, List.take_left]
    exact hx
theorem FF.low {k : Int} {ts : List (Int × Int)} {ws : List V} (h : FF k ts ws) (hne : ∀ t ∈ ts, t.1 ≠ t.2) : ∀ (i : Nat) (f : Int), ws[i]? = some (V.int f) → f ≤ (i : Int) := by
  intro i
  induction i using Nat.strongRecOn with
  | _ i ih =>
    intro f hf
    have hi := (List.getElem?_eq_some_iff.mp hf).1
    have hit : i < ts.length := by rw [← h.len]; exact hi
    have ht := List.getElem?_eq_getElem hit
    have hx := h.each i _ _ ht hf
    by_cases c : f ≤ (i : Int)
    · exact c
    · cases hx with
      | at_ h0 h1 h2 h3 =>
        have z := h3 (i : Int) (by omega) (by omega)
        unfold freeB at z
        rw [layerOf_none] at z
        · have hn := hne _ (List.getElem_mem hit)
          show f ≤ _
          rw [List.nil_append] at z
          exact absurd z (by
            show ¬ (if _ = _ then false else true) = false
            rw [if_neg hn]
            decide)
        · intro x hx e
          obtain ⟨j, hj⟩ := List.getElem?_of_mem hx
          have hjl := (List.getElem?_eq_some_iff.mp hj).1
          rw [List.length_take] at hjl
          rw [List.getElem?_take_of_lt (by omega)] at hj
          rw [e] at hj
          have := ih j (by omega) _ hj
          omega
/-- forest i is empty when the i-th tie comes -/
theorem FF.empty {k : Int} {ts : List (Int × Int)} {ws : List V} (h : FF k ts ws) (hne : ∀ t ∈ ts, t.1 ≠ t.2) {i : Nat} {t : Int × Int} (ht : ts[i]? = some t) : freeB (ts.take i) (ws.take i) t (i : Int) = true := by
  have hi := (List.getElem?_eq_some_iff.mp ht).1
  unfold freeB
  rw [layerOf_none]
  · rw [List.nil_append]
    show (if _ = _ then false else true) = true
    rw [if_neg (hne _ (List.mem_of_getElem? ht))]
  · intro x hx e
    obtain ⟨j, hj⟩ := List.getElem?_of_mem hx
    have hjl := (List.getElem?_eq_some_iff.mp hj).1
    rw [List.length_take] at hjl
    rw [List.getElem?_take_of_lt (by omega), e] at hj
    have := h.low hne j _ hj
    omega
theorem first_of {p : Int → Bool} {f m : Int} (h0 : 0 ≤ f) (h1 : f < m) (hp : p f = true) (hq : ∀ g, 0 ≤ g → g < f → p g = false) : ∃ r, (upTo m).filter p = f :: r := by
  have e : upTo m = upTo f ++ (f :: (upTo m).drop (f.toNat + 1)) := by
    have hf : (upTo m)[f.toNat]? = some f := by
      unfold upTo
      rw [List.getElem?_map, List.getElem?_range (by omega)]
      show some ((f.toNat : Nat) : Int) = some f
      rw [show ((f.toNat : Nat) : Int) = f by omega]
    have ht : (upTo m).take f.toNat = upTo f := by
      unfold upTo
      rw [← List.map_take, List.take_range, Nat.min_eq_left (by omega)]
    have z := take_rest hf
    rw [ht, List.append_assoc] at z
    exact z
  rw [e, List.filter_append, List.filter_eq_nil_iff.mpr fun g hg => by rw [hq g (mem_upTo hg).1 (mem_upTo hg).2]; decide, List.filter_cons_of_pos hp]
  exact ⟨_, rfl⟩
theorem FF.head {k : Int} {ts : List (Int × Int)} {ws : List V} (h : FF k ts ws) (hne : ∀ t ∈ ts, t.1 ≠ t.2) {i : Nat} {t : Int × Int} {x : V} (ht : ts[i]? = some t) (hx : ws[i]? = some x) :
    ∃ r, (((upTo (min k ((i : Int) + 1))).filter (freeB (ts.take i) (ws.take i) t)).map V.int) ++ [V.non] = x :: r := by
  have c := h.each i t x ht hx
  cases c with
  | out z =>
    rw [List.filter_eq_nil_iff.mpr fun g hg => by rw [z g (mem_upTo hg).1 (by have := (mem_upTo hg).2; omega)]; decide]
    exact ⟨[], rfl⟩
  | @at_ f h0 h1 h2 h3 =>
    have l := h.low hne i f hx
    obtain ⟨r, e⟩ := first_of (m := min k ((i : Int) + 1)) h0 (by omega) h2 h3
    rw [e]
    exact ⟨_, rfl⟩
theorem FF.ints {k : Int} {ts : List (Int × Int)} {ws : List V} (h : FF k ts ws) (hne : ∀ t ∈ ts, t.1 ≠ t.2) (hk : (ts.length : Int) ≤ k) : ∃ ns : List Int, ws = ns.map V.int := by
  refine ⟨ws.map fun v => match v with | .int i => i | _ => 0, ?_⟩
  rw [List.map_map]
  conv => lhs; rw [← List.map_id ws]
  refine List.map_congr_left fun x hx => ?_
  obtain ⟨i, hi⟩ := List.getElem?_of_mem hx
  have hil := (List.getElem?_eq_some_iff.mp hi).1
  have hit : i < ts.length := by rw [← h.len]; exact hil
  have ht := List.getElem?_eq_getElem hit
  have c := h.each i _ x ht hi
  cases c with
  | out z =>
    have e := h.empty hne ht
    rw [z _ (by omega) (by omega)] at e
    cases e
  | at_ => rfl
/-- numbers of forests, or none -/
def IsO (x : V) : Prop := x = .non ∨ ∃ i, x = .int i
theorem FF.isO {k : Int} {ts : List (Int × Int)} {ws : List V} (h : FF k ts ws) : ∀ x ∈ ws, IsO x := fun x hx => by
  obtain ⟨i, hi⟩ := List.getElem?_of_mem hx
  have hil := (List.getElem?_eq_some_iff.mp hi).1
  have hit : i < ts.length := by rw [← h.len]; exact hil
  have c := h.each i _ x (List.getElem?_eq_getElem hit) hi
  cases c with
  | out => exact .inl rfl
  | at_ => exact .inr ⟨_, rfl⟩
theorem IsO.scal {x : V} (h : IsO x) (i : Int) : scal x (.int i) = true := by
  rcases h with rfl | ⟨j, rfl⟩ <;> rfl
/-! ### several forests of leaders -/
structure Fs (H : Hp) (p : Addr) (fs : List Addr) (n : Int) (R : Nat → Int → Int) : Prop where
  at_ : H p = some (.lst (fs.map V.ref))
  nd : fs.Nodup
  out : p ∉ fs
  each : ∀ i q, fs[i]? = some q → ∃ ls d, H q = some (.lst (ls.map V.int)) ∧ UF n ls (R i) d
theorem Fs.ke {H H' : Hp} {p : Addr} {fs : List Addr} {n : Int} {R : Nat → Int → Int} (h : Fs H p fs n R) (k : Ke H H') : Fs H' p fs n R :=
  ⟨k.lst h.at_, h.nd, h.out, fun i q hq => by
    obtain ⟨ls, d, a, u⟩ := h.each i q hq
    exact ⟨ls, d, k.lst a, u⟩⟩
theorem Fs.put {H : Hp} {p : Addr} {fs : List Addr} {n : Int} {R : Nat → Int → Int} (h : Fs H p fs n R) {i : Nat} {q : Addr} (hq : fs[i]? = some q) {ls : List Int} {r : Int → Int} {d : Int → Nat} (u : UF n ls r d) : Fs (upd H q (.lst (ls.map V.int))) p fs n (fun g => if g = i then r else R g) := by
  have hm := List.mem_of_getElem? hq
  refine ⟨by rw [upd_ne (show p ≠ q from fun z => h.out (z ▸ hm))]; exact h.at_, h.nd, h.out, fun j q' hq' => ?_⟩
  by_cases e : j = i
  · subst e
    rw [hq] at hq'
    cases hq'
    exact ⟨ls, d, upd_same, by rw [if_pos rfl]; exact u⟩
  · have hne : q' ≠ q := fun z => by
      obtain ⟨l1, e1⟩ := List.getElem?_eq_some_iff.mp hq
      obtain ⟨l2, e2⟩ := List.getElem?_eq_some_iff.mp hq'
      exact e ((List.getElem_inj h.nd).mp (e2.trans (z.trans e1.symm)))
    obtain ⟨ls', d', a, u'⟩ := h.each j q' hq'
    exact ⟨ls', d', by rw [upd_ne hne]; exact a, by rw [if_neg e]; exact u'⟩
theorem Fs.same {H : Hp} {p : Addr} {fs : List Addr} {n : Int} {R R' : Nat → Int → Int} (h : Fs H p fs n R) (e : ∀ i, R i = R' i) : Fs H p fs n R' := by
  have : R = R' := funext e
  exact this ▸ h
theorem rstep_same {r : Int → Int} {a b : Int} (h : r a = r b) : rstep r (a, b) = r := by
  funext x
  unfold rstep
  split
  · rename_i e
    rw [e]
    exact h
  · rfl
theorem Fs.off {H : Hp} {p q : Addr} {o : HO} {fs : List Addr} {n : Int} {R : Nat → Int → Int} (h : Fs H p fs n R) (h1 : q ≠ p) (h2 : q ∉ fs) : Fs (upd H q o) p fs n R :=
  ⟨by rw [upd_ne h1.symm]; exact h.at_, h.nd, h.out, fun i x hx => by
    obtain ⟨ls, d, a, u⟩ := h.each i x hx
    exact ⟨ls, d, by rw [upd_ne (show x ≠ q from fun z => h2 (z ▸ List.mem_of_getElem? hx))]; exact a, u⟩⟩
theorem Ke.and {S : Addr → Prop} {H H1 H2 : Hp} (a : Ke H H1) (b : Kx S H1 H2) (h : ∀ x, S x → H x = none) : Ke H H2 := by
  refine ⟨fun c o e n q => b.at_ c o (a.at_ c o e n q) n fun z => ?_, fun c t => b.tab c (a.tab c t), fun c e => a.dom c (b.dom c e)⟩
  rw [h c z] at e
  cases e
theorem freeB_eq {ts : List (Int × Int)} {ws : List V} {t : Int × Int} {f : Int} (h : ringlessF (fun x => x) (layerOf ts ws f) = true) : freeB ts ws t f = !decide (foldR (fun x => x) (layerOf ts ws f) t.1 = foldR (fun x => x) (layerOf ts ws f) t.2) := ringlessF_more h t
end FF
namespace FF
open PySem PySem.Spec PyProof.Rows L2
/-! ### the numbers of the ties of a forest -/
def numsFrom (f : Int) : Nat → List V → List Int
  | _, [] => []
  | i, x :: r => (if x = V.int f then [(i : Int)] else []) ++ numsFrom f (i + 1) r
theorem nums_snoc (f : Int) : ∀ (i : Nat) (ws : List V) (x : V), numsFrom f i (ws ++ [x]) = numsFrom f i ws ++ if x = V.int f then [((i + ws.length : Nat) : Int)] else []
  | i, [], x => by
    show (if x = V.int f then [(i : Int)] else []) ++ [] = [] ++ _
    rw [List.append_nil, List.nil_append]
    rfl
  | i, y :: ws, x => by
    show _ ++ numsFrom f (i + 1) (ws ++ [x]) = _
    rw [nums_snoc f (i + 1) ws x, ← List.append_assoc]
    show _ = ((if y = V.int f then [(i : Int)] else []) ++ numsFrom f (i + 1) ws) ++ _
    rw [List.length_cons, show i + 1 + ws.length = i + (ws.length + 1) by omega]
theorem nums_bd (f : Int) : ∀ (i : Nat) (ws : List V), ∀ m ∈ numsFrom f i ws, (i : Int) ≤ m ∧ m < ((i + ws.length : Nat) : Int)
  | i, [], m, h => nomatch h
  | i, y :: ws, m, h => by
    rcases List.mem_append.mp h with h | h
    · by_cases e : y = V.int f
      · rw [if_pos e] at h
        rw [List.mem_singleton.mp h, List.length_cons]
        omega
      · rw [if_neg e] at h
        cases h
    · have := nums_bd f (i + 1) ws m h
      rw [List.length_cons]
      omega
theorem nums_length (f : Int) : ∀ (i : Nat) (ws : List V), (numsFrom f i ws).length ≤ ws.length
  | _, [] => Nat.le_refl _
  | i, y :: ws => by
    have := nums_length f (i + 1) ws
    show ((if y = V.int f then [(i : Int)] else []) ++ numsFrom f (i + 1) ws).length ≤ ws.length + 1
    rw [List.length_append]
    split
    · show 1 + _ ≤ _
      omega
    · show 0 + _ ≤ _
      omega
theorem pick_nums (f : Int) : ∀ (pre ts : List (Int × Int)) (ws : List V), ts.length = ws.length → pick (pre ++ ts) (numsFrom f pre.length ws) = layerOf ts ws f
  | pre, [], [], _ => rfl
  | pre, t :: ts, x :: ws, h => by
    have ih := pick_nums f (pre ++ [t]) ts ws (by simpa using h)
    rw [List.append_assoc, List.length_append] at ih
    show pick (pre ++ t :: ts) ((if x = V.int f then [(pre.length : Int)] else []) ++ numsFrom f (pre.length + 1) ws) = _
    rw [pick_append]
    have e1 : pick (pre ++ t :: ts) (numsFrom f (pre.length + 1) ws) = layerOf ts ws f := ih
    rw [e1]
    have e2 : layerOf (t :: ts) (x :: ws) f = (if x = V.int f then [t] else []) ++ layerOf ts ws f := by
      unfold layerOf
      rw [List.zip_cons_cons]
      by_cases e : x = V.int f
      · rw [List.filter_cons_of_pos (p := fun p : (Int × Int) × V => decide (p.2 = V.int f)) (a := (t, x)) (decide_eq_true e), if_pos e]
        rfl
      · rw [List.filter_cons_of_neg (p := fun p : (Int × Int) × V => decide (p.2 = V.int f)) (a := (t, x)) (by rw [decide_eq_false e]; decide), if_neg e]
        rfl
    rw [e2]
    congr 1
    by_cases e : x = V.int f
    · rw [if_pos e, if_pos e]
      show [(pre ++ t :: ts).getD ((pre.length : Int)).toNat (0, 0)] = [t]
      rw [show ((pre.length : Int)).toNat = pre.length by omega, List.getD_eq_getElem?_getD, List.getElem?_append_right (Nat.le_refl _), Nat.sub_self]
      rfl
    · rw [if_neg e, if_neg e]
      rfl
/-! ### ties by forest, in a dict -/
def kvF (fl : List (Int × Addr)) : List (Key × V) := fl.map fun p => (Sum.inl p.1, V.ref p.2)
structure Byf (H : Hp) (ws : List V) (fl : List (Int × Addr)) : Prop where
  nd : (fl.map Prod.fst).Nodup
  na : (fl.map Prod.snd).Nodup
  each : ∀ p ∈ fl, H p.2 = some (.lst ((numsFrom p.1 0 ws).map V.int))
  mem : ∀ f, V.int f ∈ ws ↔ f ∈ fl.map Prod.fst
theorem Byf.ke {H H' : Hp} {ws : List V} {fl : List (Int × Addr)} (h : Byf H ws fl) (k : Ke H H') : Byf H' ws fl := ⟨h.nd, h.na, fun p hp => k.lst (h.each p hp), h.mem⟩
theorem val_in : ∀ {fl : List (Int × Addr)} {f : Int} {q : Addr}, (fl.map Prod.fst).Nodup → (f, q) ∈ fl → valV (kvF fl) (Sum.inl f) = some (.ref q)
  | p :: fl, f, q, nd, h => by
    rw [List.map_cons, List.nodup_cons] at nd
    rcases List.mem_cons.mp h with h | h
    · rw [← h]
      exact valV_pos rfl
    · have hne : p.1 ≠ f := fun z => nd.1 (z ▸ List.mem_map.mpr ⟨(f, q), h, rfl⟩)
      exact (valV_neg (p := (Sum.inl p.1, V.ref p.2)) (r := kvF fl) fun z => hne (Sum.inl.inj z)).trans (val_in nd.2 h)
theorem val_out {fl : List (Int × Addr)} {f : Int} (h : f ∉ fl.map Prod.fst) : valV (kvF fl) (Sum.inl f) = none := by
  unfold valV kvF
  rw [List.find?_eq_none.mpr fun x hx => ?_]
  · rfl
  · obtain ⟨p, hp, rfl⟩ := List.mem_map.mp hx
    rw [decide_eq_false fun z => h (List.mem_map.mpr ⟨p, hp, Sum.inl.inj z⟩)]
    decide
theorem put_out {fl : List (Int × Addr)} {f : Int} {q : Addr} (h : f ∉ fl.map Prod.fst) : putK (kvF fl) (Sum.inl f) (.ref q) = kvF (fl ++ [(f, q)]) := by
  unfold putK
  rw [valV_any, val_out h]
  show kvF fl ++ [(Sum.inl f, V.ref q)] = kvF (fl ++ [(f, q)])
  unfold kvF
  rw [List.map_append]
  rfl
theorem kvF_length (fl : List (Int × Addr)) : (kvF fl).length = fl.length := List.length_map ..
theorem Byf.skip {H : Hp} {ws : List V} {fl : List (Int × Addr)} (h : Byf H ws fl) : Byf H (ws ++ [.non]) fl :=
  ⟨h.nd, h.na, fun p hp => by rw [nums_snoc, if_neg (fun z => nomatch z), List.append_nil]; exact h.each p hp, fun f => by
    rw [List.mem_append, h.mem f]
    refine ⟨fun z => z.elim id fun z => ?_, Or.inl⟩
    exact nomatch List.mem_singleton.mp z⟩
/-- one more of a forest that has some -/
theorem Byf.more {H : Hp} {ws : List V} {fl : List (Int × Addr)} (h : Byf H ws fl) {f : Int} {q : Addr} (hq : (f, q) ∈ fl) : Byf (upd H q (.lst ((numsFrom f 0 ws).map V.int ++ [.int ws.length]))) (ws ++ [.int f]) fl := by
  refine ⟨h.nd, h.na, fun p hp => ?_, fun g => ?_⟩
  · rw [nums_snoc]
    by_cases e : p.1 = f
    · have e2 : p = (f, q) := by
        have n := h.nd
        have a1 := val_in n (show (p.1, p.2) ∈ fl from hp)
        have a2 := val_in n hq
        rw [e, a2] at a1
        have := Option.some.inj a1
        cases this
        exact Prod.ext e rfl
      rw [e2, upd_same, if_pos rfl, List.map_append, Nat.zero_add]
      rfl
    · have hne : p.2 ≠ q := fun z => by
        have n := h.na
        obtain ⟨i, hi⟩ := List.getElem?_of_mem hp
        obtain ⟨j, hj⟩ := List.getElem?_of_mem hq
        obtain ⟨li, ei⟩ := List.getElem?_eq_some_iff.mp hi
        obtain ⟨lj, ej⟩ := List.getElem?_eq_some_iff.mp hj
        have z2 : (fl.map Prod.snd)[i]'(by rw [List.length_map]; exact li) = (fl.map Prod.snd)[j]'(by rw [List.length_map]; exact lj) := by
          rw [List.getElem_map, List.getElem_map, ei, ej]
          exact z
        have ij := (List.getElem_inj n).mp z2
        subst ij
        rw [ei] at ej
        exact e (congrArg Prod.fst ej)
      rw [upd_ne hne, if_neg (fun z => e (V.int.inj z).symm), List.append_nil]
      exact h.each p hp
  · rw [List.mem_append, h.mem g]
    refine ⟨fun z => z.elim id fun z => ?_, .inl⟩
    have := V.int.inj (List.mem_singleton.mp z)
    rw [this]
    exact List.mem_map.mpr ⟨_, hq, rfl⟩
theorem nums_none {f : Int} : ∀ {i : Nat} {ws : List V}, V.int f ∉ ws → numsFrom f i ws = []
  | _, [], _ => rfl
  | i, x :: ws, h => by
    show (if x = V.int f then [(i : Int)] else []) ++ numsFrom f (i + 1) ws = []
    rw [if_neg (show ¬ x = V.int f from fun z => h (z ▸ List.mem_cons_self)), nums_none fun z => h (List.mem_cons_of_mem _ z)]
    rfl
/-- the first of a forest -/
theorem Byf.first {H : Hp} {ws : List V} {fl : List (Int × Addr)} (h : Byf H ws fl) {f : Int} {q : Addr} (hf : f ∉ fl.map Prod.fst) (hq : q ∉ fl.map Prod.snd) : Byf (upd H q (.lst [.int ws.length])) (ws ++ [.int f]) (fl ++ [(f, q)]) := by
  refine ⟨?_, ?_, fun p hp => ?_, fun g => ?_⟩
  · rw [List.map_append, List.nodup_append]
    exact ⟨h.nd, by simp, fun x hx y hy => by rw [List.mem_singleton.mp hy]; exact fun (z : x = f) => hf (z ▸ hx)⟩
  · rw [List.map_append, List.nodup_append]
    exact ⟨h.na, by simp, fun x hx y hy => by rw [List.mem_singleton.mp hy]; exact fun (z : x = q) => hq (z ▸ hx)⟩
  · rw [nums_snoc]
    rcases List.mem_append.mp hp with hp | hp
    · have e1 : p.1 ≠ f := fun z => hf (z ▸ List.mem_map.mpr ⟨p, hp, rfl⟩)
      have e2 : p.2 ≠ q := fun z => hq (z ▸ List.mem_map.mpr ⟨p, hp, rfl⟩)
      rw [upd_ne e2, if_neg (fun z => e1 (V.int.inj z).symm), List.append_nil]
      exact h.each p hp
    · rw [List.mem_singleton.mp hp, upd_same, if_pos rfl, nums_none (fun z => hf ((h.mem f).mp z)), Nat.zero_add]
      rfl
  · rw [List.mem_append, h.mem g, List.map_append, List.mem_append]
    refine ⟨fun z => z.elim .inl fun z => .inr ?_, fun z => z.elim .inl fun z => .inr ?_⟩
    · rw [V.int.inj (List.mem_singleton.mp z)]
      exact List.mem_singleton.mpr rfl
    · rw [show g = f from List.mem_singleton.mp z]
      exact List.mem_singleton.mpr rfl
theorem Byf.off {H : Hp} {ws : List V} {fl : List (Int × Addr)} {d : Addr} {o : HO} (h : Byf H ws fl) (hd : d ∉ fl.map Prod.snd) : Byf (upd H d o) ws fl :=
  ⟨h.nd, h.na, fun p hp => by rw [upd_ne (show p.2 ≠ d from fun z => hd (z ▸ List.mem_map.mpr ⟨p, hp, rfl⟩))]; exact h.each p hp, h.mem⟩
end FF
namespace FF
open PySem PySem.Spec PyProof.Rows L2
/-! ### layings -/
def okE (k : Int) (x : V) : Bool := match x with
  | .non => true
  | v => isNum v 0 (k - 1)
def treeB (ts : List (Int × Int)) (ws : List V) (x : V) : Bool := match x with
  | .int f => ringlessF (fun x => x) (layerOf ts ws f)
  | _ => true
def layO (ts : List (Int × Int)) (k : Int) : Option (List V) → Bool
  | none => false
  | some ws => (decide (ws.length = ts.length) && ws.all (okE k)) && ws.all (treeB ts ws)
theorem okE_O {k : Int} {x : V} (h : okE k x = true) : IsO x := by
  cases x with
  | non => exact .inl rfl
  | int i => exact .inr ⟨i, rfl⟩
  | _ => cases h
theorem layO_len {ts : List (Int × Int)} {k : Int} {ws : List V} (h : ws.length ≠ ts.length) : layO ts k (some ws) = false := by
  show ((decide (ws.length = ts.length) && ws.all (okE k)) && ws.all (treeB ts ws)) = false
  rw [decide_eq_false h]
  rfl
theorem layO_bad {ts : List (Int × Int)} {k : Int} {ws : List V} {x : V} (hx : x ∈ ws) (h : okE k x = false) : layO ts k (some ws) = false := by
  show ((decide (ws.length = ts.length) && ws.all (okE k)) && ws.all (treeB ts ws)) = false
  rw [List.all_eq_false.mpr ⟨x, hx, by rw [h]; decide⟩, Bool.and_false]
  rfl
theorem layO_ring {ts : List (Int × Int)} {k : Int} {ws : List V} {f : Int} (hx : V.int f ∈ ws) (h : ringlessF (fun x => x) (layerOf ts ws f) = false) : layO ts k (some ws) = false := by
  show ((decide (ws.length = ts.length) && ws.all (okE k)) && ws.all (treeB ts ws)) = false
  rw [(List.all_eq_false (p := treeB ts ws)).mpr ⟨_, hx, by show ¬ ringlessF (fun x => x) (layerOf ts ws f) = true; rw [h]; decide⟩, Bool.and_false]
theorem layO_good {ts : List (Int × Int)} {k : Int} {ws : List V} (hl : ws.length = ts.length) (ho : ∀ x ∈ ws, okE k x = true) (h : ∀ f, V.int f ∈ ws → ringlessF (fun x => x) (layerOf ts ws f) = true) : layO ts k (some ws) = true := by
  show ((decide (ws.length = ts.length) && ws.all (okE k)) && ws.all (treeB ts ws)) = true
  rw [decide_eq_true hl, List.all_eq_true.mpr ho, List.all_eq_true.mpr fun x hx => ?_]
  · rfl
  · cases x with
    | int f => exact h f hx
    | _ => rfl
end FF
namespace FF
open PySem PySem.Spec PyProof.Rows L2
/-! ### what first fit tells is a laying -/
theorem FF.forest {k : Int} {ts : List (Int × Int)} {ws : List V} (h : FF k ts ws) (f : Int) : ringlessF (fun x => x) (layerOf ts ws f) = true := by
  have hl := h.len
  have z : ∀ i, i ≤ ts.length → ringlessF (fun x => x) (layerOf (ts.take i) (ws.take i) f) = true := by
    intro i
    induction i with
    | zero => intro _; rfl
    | succ i ih =>
      intro hi
      have h1 : ts[i]? = some ts[i] := List.getElem?_eq_getElem (by omega)
      have h2 : ws[i]? = some ws[i] := List.getElem?_eq_getElem (by omega)
      have c := h.each i _ _ h1 h2
      rw [take_next h1, take_next h2, layerOf_snoc (by rw [List.length_take, List.length_take]; omega)]
      by_cases e : ws[i] = V.int f
      · rw [if_pos e]
        rw [e] at c
        cases c with
        | at_ _ _ h3 _ => exact h3
      · rw [if_neg e, List.append_nil]
        exact ih (by omega)
  have := z ts.length (Nat.le_refl _)
  rw [List.take_length, ← hl, List.take_length] at this
  exact this
theorem okE_int {k f : Int} (h0 : 0 ≤ f) (h1 : f < k) : okE k (.int f) = true := by
  show (decide (0 ≤ f) && decide (f ≤ k - 1)) = true
  rw [decide_eq_true h0, decide_eq_true (by omega)]
  rfl
theorem FF.lay {k : Int} {ts : List (Int × Int)} {ws : List V} (h : FF k ts ws) : layO ts k (some ws) = true :=
  layO_good h.len (fun x hx => by
    obtain ⟨i, hi⟩ := List.getElem?_of_mem hx
    have hil := (List.getElem?_eq_some_iff.mp hi).1
    have hit : i < ts.length := by rw [← h.len]; exact hil
    have c := h.each i _ x (List.getElem?_eq_getElem hit) hi
    cases c with
    | out => rfl
    | at_ h0 h1 => exact okE_int h0 h1) fun f _ => h.forest f
theorem IsO.ty {H : Hp} {x : V} (h : IsO x) : ∃ n, TyN H x n := by
  rcases h with rfl | ⟨i, rfl⟩
  · exact ⟨_, .non⟩
  · exact ⟨_, .int i⟩
/-- a whole laying in m forests -/
structure Laid (ts : List (Int × Int)) (m : Int) (ws : List V) : Prop where
  len : ws.length = ts.length
  num : ∀ x ∈ ws, ∃ j : Int, x = .int j ∧ 0 ≤ j ∧ j < m
  tree : ∀ f, ringlessF (fun x => x) (layerOf ts ws f) = true
theorem Laid.isO {ts : List (Int × Int)} {m : Int} {ws : List V} (h : Laid ts m ws) : ∀ x ∈ ws, IsO x := fun x hx => by
  obtain ⟨j, e, _⟩ := h.num x hx
  exact .inr ⟨j, e⟩
/-- lists of ties by layers -/
structure Lays (H : Hp) (p : Addr) (fs : List Addr) (ws : List V) : Prop where
  at_ : H p = some (.lst (fs.map V.ref))
  nd : fs.Nodup
  out : p ∉ fs
  each : ∀ (j : Nat) q, fs[j]? = some q → H q = some (.lst ((numsFrom (j : Int) 0 ws).map V.int))
theorem Lays.kx {S : Addr → Prop} {H H' : Hp} {p : Addr} {fs : List Addr} {ws : List V} (h : Lays H p fs ws) (k : Kx S H H') (h1 : ¬ S p) (h2 : ∀ q ∈ fs, ¬ S q) : Lays H' p fs ws :=
  ⟨k.at_ _ _ h.at_ (fun _ z => nomatch z) h1, h.nd, h.out, fun j q hq => k.at_ _ _ (h.each j q hq) (fun _ z => nomatch z) (h2 q (List.mem_of_getElem? hq))⟩
theorem Lays.ke {H H' : Hp} {p : Addr} {fs : List Addr} {ws : List V} (h : Lays H p fs ws) (k : Ke H H') : Lays H' p fs ws := h.kx k (fun z => z) (fun _ _ z => z)
theorem Lays.off {H : Hp} {p q : Addr} {o : HO} {fs : List Addr} {ws : List V} (h : Lays H p fs ws) (h1 : q ≠ p) (h2 : q ∉ fs) : Lays (upd H q o) p fs ws :=
  ⟨by rw [upd_ne h1.symm]; exact h.at_, h.nd, h.out, fun j x hx => by rw [upd_ne (show x ≠ q from fun z => h2 (z ▸ List.mem_of_getElem? hx))]; exact h.each j x hx⟩
/-- one tie more in the layer f -/
theorem Lays.put {H : Hp} {p : Addr} {fs : List Addr} {ws : List V} (h : Lays H p fs ws) {f : Nat} {q : Addr} (hq : fs[f]? = some q) : Lays (upd H q (.lst ((numsFrom (f : Int) 0 ws).map V.int ++ [.int ws.length]))) p fs (ws ++ [.int (f : Int)]) := by
  have hm := List.mem_of_getElem? hq
  refine ⟨by rw [upd_ne (show p ≠ q from fun z => h.out (z ▸ hm))]; exact h.at_, h.nd, h.out, fun j x hx => ?_⟩
  rw [nums_snoc]
  by_cases e : j = f
  · subst e
    rw [hq] at hx
    cases hx
    rw [upd_same, if_pos rfl, List.map_append, Nat.zero_add]
    rfl
  · have hne : x ≠ q := fun z => by
      obtain ⟨l1, e1⟩ := List.getElem?_eq_some_iff.mp hq
      obtain ⟨l2, e2⟩ := List.getElem?_eq_some_iff.mp hx
      exact e ((List.getElem_inj h.nd).mp (e2.trans (z.trans e1.symm)))
    rw [upd_ne hne, if_neg (fun z => e (by have := V.int.inj z; omega)), List.append_nil]
    exact h.each j x hx
/-- a new empty layer -/
theorem Lays.more {H : Hp} {p q : Addr} {fs : List Addr} {ws : List V} (h : Lays H p fs ws) (hn : H q = none) (hw : ∀ x ∈ ws, ∃ j : Int, x = .int j ∧ 0 ≤ j ∧ j < fs.length) : Lays (upd (upd H q (.lst [])) p (.lst ((fs ++ [q]).map V.ref))) p (fs ++ [q]) ws := by
  have hqp : q ≠ p := (ne_of_none h.at_ hn).symm
  have hqf : q ∉ fs := fun z => by
    obtain ⟨j, hj⟩ := List.getElem?_of_mem z
    rw [h.each j q hj] at hn
    cases hn
  refine ⟨upd_same, ?_, ?_, fun j x hx => ?_⟩
  · rw [List.nodup_append]
    refine ⟨h.nd, by simp, fun x hx y hy => ?_⟩
    rw [List.mem_singleton.mp hy]
    exact fun z => hqf (z ▸ hx)
  · intro z
    rcases List.mem_append.mp z with z | z
    · exact h.out z
    · exact hqp (List.mem_singleton.mp z).symm
  · by_cases e : j < fs.length
    · rw [List.getElem?_append_left e] at hx
      have hxm := List.mem_of_getElem? hx
      rw [upd_ne (show x ≠ p from fun z => h.out (z ▸ hxm)), upd_ne (show x ≠ q from fun z => hqf (z ▸ hxm))]
      exact h.each j x hx
    · have hj : j = fs.length := by
        have := (List.getElem?_eq_some_iff.mp hx).1
        rw [List.length_append] at this
        have : j < fs.length + 1 := this
        omega
      subst hj
      rw [List.getElem?_append_right (Nat.le_refl _), Nat.sub_self] at hx
      cases hx
      rw [upd_ne hqp, upd_same, nums_none (fun z => ?_)]
      · rfl
      · obtain ⟨j, e1, e2, e3⟩ := hw _ z
        have := V.int.inj e1
        omega
theorem pick_pre {ts : List (Int × Int)} {i : Nat} {ms : List Int} (h : ∀ m ∈ ms, 0 ≤ m ∧ m < (i : Int)) (hi : i ≤ ts.length) : pick ts ms = pick (ts.take i) ms := by
  unfold pick
  refine List.map_congr_left fun m hm => ?_
  have := h m hm
  rw [List.getD_eq_getElem?_getD, List.getD_eq_getElem?_getD, List.getElem?_take_of_lt (by omega)]
theorem pick_layer {ts : List (Int × Int)} {i : Nat} {ws : List V} (hw : ws.length = i) (hi : i ≤ ts.length) (f : Int) : pick ts (numsFrom f 0 ws) = layerOf (ts.take i) ws f := by
  rw [pick_pre (i := i) (fun m hm => ?_) hi]
  · exact pick_nums f [] (ts.take i) ws (by rw [List.length_take]; omega)
  · have := nums_bd f 0 ws m hm
    omega
theorem Laid.snoc {ts : List (Int × Int)} {m m' : Int} {ws : List V} {t : Int × Int} {f : Int} (h : Laid ts m ws) (hm : m ≤ m') (f0 : 0 ≤ f) (f1 : f < m') (hf : freeB ts ws t f = true) : Laid (ts ++ [t]) m' (ws ++ [.int f]) := by
  have hl := h.len
  refine ⟨by rw [List.length_append, List.length_append, hl]; rfl, fun x hx => ?_, fun g => ?_⟩
  · rcases List.mem_append.mp hx with hx | hx
    · obtain ⟨j, e, h0, h1⟩ := h.num x hx
      exact ⟨j, e, h0, by omega⟩
    · exact ⟨f, List.mem_singleton.mp hx, f0, f1⟩
  · rw [layerOf_snoc hl.symm]
    by_cases e : V.int f = V.int g
    · rw [if_pos e]
      have := V.int.inj e
      subst this
      exact hf
    · rw [if_neg e, List.append_nil]
      exact h.tree g
theorem Laid.new_free {ts : List (Int × Int)} {m : Int} {ws : List V} {t : Int × Int} (h : Laid ts m ws) (ht : t.1 ≠ t.2) : freeB ts ws t m = true := by
  unfold freeB
  rw [layerOf_none]
  · rw [List.nil_append]
    show (if _ = _ then false else true) = true
    rw [if_neg ht]
  · intro x hx e
    obtain ⟨j, e2, _, h1⟩ := h.num x hx
    rw [e2] at e
    have := V.int.inj e
    omega
theorem Laid.lay {ts : List (Int × Int)} {m : Int} {ws : List V} (h : Laid ts m ws) : layO ts m (some ws) = true :=
  layO_good h.len (fun x hx => by
    obtain ⟨j, e, h0, h1⟩ := h.num x hx
    rw [e]
    exact okE_int h0 h1) fun f _ => h.tree f
/-- some entries left out -/
structure Less (zs ws : List V) : Prop where
  len : zs.length = ws.length
  each : ∀ (i : Nat) z x, zs[i]? = some z → ws[i]? = some x → z = x ∨ z = V.non
theorem Less.nil : Less [] [] := ⟨rfl, fun i z x h => by simp at h⟩
theorem Less.snoc {zs ws : List V} {z x : V} (h : Less zs ws) (hz : z = x ∨ z = V.non) : Less (zs ++ [z]) (ws ++ [x]) := by
  refine ⟨by rw [List.length_append, List.length_append, h.len]; rfl, fun i a b ha hb => ?_⟩
  by_cases e : i < zs.length
  · rw [List.getElem?_append_left e] at ha
    rw [List.getElem?_append_left (by rw [← h.len]; exact e)] at hb
    exact h.each i a b ha hb
  · have hi : i = zs.length := by
      have := (List.getElem?_eq_some_iff.mp ha).1
      rw [List.length_append] at this
      have : i < zs.length + 1 := this
      omega
    subst hi
    rw [List.getElem?_append_right (Nat.le_refl _), Nat.sub_self] at ha
    rw [h.len, List.getElem?_append_right (Nat.le_refl _), Nat.sub_self] at hb
    cases ha
    cases hb
    exact hz
theorem Less.isO {zs ws : List V} (h : Less zs ws) (ho : ∀ x ∈ ws, IsO x) : ∀ z ∈ zs, IsO z := fun z hz => by
  obtain ⟨i, hi⟩ := List.getElem?_of_mem hz
  have hil := (List.getElem?_eq_some_iff.mp hi).1
  have hx := List.getElem?_eq_getElem (l := ws) (i := i) (by rw [← h.len]; exact hil)
  rcases h.each i z _ hi hx with e | e
  · rw [e]
    exact ho _ (List.mem_of_getElem? hx)
  · exact .inl e
/-- a tuple of forests' numbers and Nones -/
def IsTh (H : Hp) (x : V) : Prop := ∃ a ws, x = .ref a ∧ H a = some (.tup ws) ∧ ∀ y ∈ ws, IsO y
theorem IsTh.mono {H H' : Hp} {x : V} (h : IsTh H x) (k : ∀ q xs, H q = some (.tup xs) → H' q = some (.tup xs)) : IsTh H' x := by
  obtain ⟨a, ls, e, h1, h2⟩ := h
  exact ⟨a, ls, e, k _ _ h1, h2⟩
theorem IsTh.ke {H H' : Hp} {x : V} (h : IsTh H x) (k : Ke H H') : IsTh H' x := h.mono fun _ _ => k.tup
theorem IsTh.dk {H H' : Hp} {p : Addr} {x : V} (h : IsTh H x) (k : Dk p H H') (d : Deck H p) : IsTh H' x := h.mono fun _ _ => k.tup d
theorem IsTh.new {H : Hp} {p : Addr} {o : HO} {x : V} (h : IsTh H x) (k : H p = none) : IsTh (upd H p o) x := h.mono fun _ _ => tup_new k
theorem IsTh.put {H : Hp} {p : Addr} {o : HO} {ys : List V} {x : V} (h : IsTh H x) (k : H p = some (.lst ys)) : IsTh (upd H p o) x := h.mono fun q xs e => by rw [upd_ne (ne_of e k (fun z => nomatch z))]; exact e
theorem at_any {xs : List V} {i : Int} (h0 : 0 ≤ i) (h1 : i < xs.length) : ∃ v, v ∈ xs ∧ atI xs i = some v := by
  obtain ⟨j, rfl⟩ : ∃ j : Nat, i = j := ⟨i.toNat, by omega⟩
  have hj : j < xs.length := by omega
  exact ⟨xs[j], List.getElem_mem _, atI_nat (List.getElem?_eq_getElem hj)⟩
end FF
namespace FF
open PySem PySem.Spec PyProof.Rows L2
/-! ### a tuple against the empty tuple -/
section
variable {X : Cx} {K : PySem.W.Frag}
def rEq0 (K : PySem.W.Frag) : R2 := fun x y H Q => ∃ a b xs, x = .ref a ∧ y = .ref b ∧ SqT K H a xs ∧ SqT K H b [] ∧ Q (.bl xs.isEmpty) H
theorem op_eq0 (hu : X.A.units + 64 < cLine) (h : X.K = K := by rfl) : OpR X (compareOp .Eq) (rEq0 K) := by
  subst h
  intro pins s σ H x y v u Q I rx ry hq
  obtain ⟨a, b, xs, rfl, rfl, ha, hb, q⟩ := hq
  cases (show v = Value.ref a from rx)
  cases (show u = Value.ref b from ry)
  obtain ⟨its, v1, t1, _⟩ := I.tuple ha
  obtain ⟨its2, v2, t2, _⟩ := I.tuple hb
  have e2 : its2 = [] := by cases v2; rfl
  subst e2
  refine PySem.SeqAt.eq_tupleAt (e := fun _ => true) (show s.heap.IsTuple a its.toArray from t1) (show s.heap.IsTuple b [].toArray from t2) (by omega) (fun j h1 h2 => absurd h2 (by simp)) ?_
  have e : ((List.range (min its.toArray.size ([] : List Value).toArray.size)).all (fun _ => true) && its.toArray.size == ([] : List Value).toArray.size) = xs.isEmpty := by
    cases v1 with
    | nil => rfl
    | cons _ _ => simp
  rw [e]
  exact ⟨.bl xs.isEmpty, H, I, rfl, q⟩
def rNe0 (K : PySem.W.Frag) : R2 := fun x y H Q => ∃ a b xs, x = .ref a ∧ y = .ref b ∧ SqT K H a xs ∧ SqT K H b [] ∧ Q (.bl !xs.isEmpty) H
end
/-! ### things of any kind, kept -/
theorem TyN.ke {H H' : Hp} {v : V} {n : String} (h : TyN H v n) (k : Ke H H') : TyN H' v n := by
  cases h with
  | non => exact .non
  | bl b => exact .bl b
  | int i => exact .int i
  | str z => exact .str z
  | lst h => exact .lst (k.lst h)
  | tup h => exact .tup (k.tup h)
  | dic h => exact .dic (k.at_ _ _ h (fun _ z => nomatch z) fun z => z)
theorem TyN.new {H : Hp} {p : Addr} {o : HO} {v : V} {n : String} (h : TyN H v n) (k : H p = none) : TyN (upd H p o) v n := h.ke (Ke.new k)
theorem TyN.put {H : Hp} {p : Addr} {xs ys : List V} {v : V} {n : String} (h : TyN H v n) (k : H p = some (.lst xs)) : TyN (upd H p (.lst ys)) v n := by
  cases h with
  | non => exact .non
  | bl b => exact .bl b
  | int i => exact .int i
  | str z => exact .str z
  | @lst a zs h =>
    by_cases e : a = p
    · exact .lst (xs := ys) (by rw [e]; exact upd_same)
    · exact .lst (by rw [upd_ne e]; exact h)
  | tup h => exact .tup (by rw [upd_ne (ne_of h k (fun z => nomatch z))]; exact h)
  | dic h => exact .dic (by rw [upd_ne (ne_of h k (fun z => nomatch z))]; exact h)
theorem TyN.dk {H H' : Hp} {p : Addr} {v : V} {n : String} (h : TyN H v n) (k : Dk p H H') (d : Deck H p) : TyN H' v n := by
  obtain ⟨ds, hp, _⟩ := d
  cases h with
  | non => exact .non
  | bl b => exact .bl b
  | int i => exact .int i
  | str z => exact .str z
  | @lst a zs h =>
    by_cases e : a = p
    · obtain ⟨ds', hp', _⟩ := k.d
      exact .lst (xs := ds'.map V.int) (by rw [e]; exact hp')
    · exact .lst (k.lst h e)
  | tup h => exact .tup (k.k.tup h (ne_of h hp (fun z => nomatch z)))
  | dic h => exact .dic (k.k.at_ _ _ h (fun _ z => nomatch z) (ne_of h hp (fun z => nomatch z)))
theorem Tpl.mono {H H' : Hp} {v : V} {o : Option (List V)} (h : Tpl H v o) (k : ∀ q xs, H q = some (.tup xs) → H' q = some (.tup xs)) (y : ∀ v n, TyN H v n → TyN H' v n) : Tpl H' v o := by
  cases h with
  | yes h hx => exact .yes (k _ _ h) fun x hm => (hx x hm).elim fun n hn => ⟨n, y _ _ hn⟩
  | no h hn => exact .no (y _ _ h) hn
theorem Tpl.ke {H H' : Hp} {v : V} {o : Option (List V)} (h : Tpl H v o) (k : Ke H H') : Tpl H' v o := h.mono (fun _ _ => k.tup) fun _ _ z => z.ke k
/-- things of any kinds -/
structure Ths (H : Hp) (xs : List V) : Prop where
  all : ∀ x ∈ xs, ∃ o, Tpl H x o
theorem Ths.nil {H : Hp} : Ths H [] := ⟨fun _ z => nomatch z⟩
theorem Ths.cons {H : Hp} {x : V} {xs : List V} (h : ∃ o, Tpl H x o) (t : Ths H xs) : Ths H (x :: xs) := ⟨fun y hy => by
  rcases List.mem_cons.mp hy with rfl | hy
  · exact h
  · exact t.all y hy⟩
theorem Ths.app {H : Hp} {xs ys : List V} (a : Ths H xs) (b : Ths H ys) : Ths H (xs ++ ys) := ⟨fun x hx => (List.mem_append.mp hx).elim (a.all x) (b.all x)⟩
theorem Ths.mono {H H' : Hp} {xs : List V} (h : Ths H xs) (k : ∀ q xs, H q = some (.tup xs) → H' q = some (.tup xs)) (y : ∀ v n, TyN H v n → TyN H' v n) : Ths H' xs := ⟨fun x hx => by
  obtain ⟨o, t⟩ := h.all x hx
  exact ⟨o, t.mono k y⟩⟩
theorem Ths.ke {H H' : Hp} {xs : List V} (h : Ths H xs) (k : Ke H H') : Ths H' xs := h.mono (fun _ _ => k.tup) fun _ _ z => z.ke k
theorem Ths.new {H : Hp} {p : Addr} {o : HO} {xs : List V} (h : Ths H xs) (k : H p = none) : Ths (upd H p o) xs := h.ke (Ke.new k)
theorem Ths.put {H : Hp} {p : Addr} {zs ys : List V} {xs : List V} (h : Ths H xs) (k : H p = some (.lst zs)) : Ths (upd H p (.lst ys)) xs := h.mono (fun q xs e => by rw [upd_ne (ne_of e k (fun z => nomatch z))]; exact e) fun _ _ z => z.put k
theorem Ths.dk {H H' : Hp} {p : Addr} {xs : List V} (h : Ths H xs) (k : Dk p H H') (d : Deck H p) : Ths H' xs := h.mono (fun _ _ => k.tup d) fun _ _ z => z.dk k d
theorem th_non {H : Hp} : ∃ o, Tpl H .non o := ⟨_, .no .non (by decide)⟩
theorem th_bl {H : Hp} (b : Bool) : ∃ o, Tpl H (.bl b) o := ⟨_, .no (.bl b) (by decide)⟩
theorem th_int {H : Hp} (i : Int) : ∃ o, Tpl H (.int i) o := ⟨_, .no (.int i) (by decide)⟩
theorem th_str {H : Hp} (z : Str) : ∃ o, Tpl H (.str z) o := ⟨_, .no (.str z) (by decide)⟩
theorem th_lst {H : Hp} {a : Addr} {xs : List V} (h : H a = some (.lst xs)) : ∃ o, Tpl H (.ref a) o := ⟨_, .no (.lst h) (by decide)⟩
theorem th_dic {H : Hp} {a : Addr} {xs : List (Key × V)} (h : H a = some (.dK xs)) : ∃ o, Tpl H (.ref a) o := ⟨_, .no (.dic h) (by decide)⟩
theorem th_tup {H : Hp} {a : Addr} {xs : List V} (h : H a = some (.tup xs)) (hx : ∀ x ∈ xs, ∃ n, TyN H x n) : ∃ o, Tpl H (.ref a) o := ⟨_, .yes h hx⟩
theorem Tpl.ty {H : Hp} {v : V} {o : Option (List V)} (h : Tpl H v o) : ∃ n, TyN H v n := by
  cases h with
  | yes h _ => exact ⟨_, .tup h⟩
  | no h _ => exact ⟨_, h⟩
theorem Ths.ty {H : Hp} {xs : List V} (h : Ths H xs) : ∀ x ∈ xs, ∃ n, TyN H x n := fun x hx => by
  obtain ⟨o, t⟩ := h.all x hx
  exact t.ty
theorem Ths.tys {H : Hp} {xs : List V} (h : ∀ x ∈ xs, ∃ n, TyN H x n ∧ n ≠ "tuple") : Ths H xs := ⟨fun x hx => by
  obtain ⟨n, t, e⟩ := h x hx
  exact ⟨_, .no t e⟩⟩
theorem Ths.ints {H : Hp} (ls : List Int) : Ths H (ls.map V.int) := ⟨fun x hx => by
  obtain ⟨i, _, rfl⟩ := List.mem_map.mp hx
  exact th_int i⟩
theorem Ths.sub {H : Hp} {xs ys : List V} (h : Ths H xs) (k : ∀ y ∈ ys, y ∈ xs) : Ths H ys := ⟨fun y hy => h.all y (k y hy)⟩
/-- a tuple of things is a thing -/
theorem Ths.tup {H : Hp} {a : Addr} {xs : List V} (h : Ths H xs) (ha : H a = some (.tup xs)) : ∃ o, Tpl H (.ref a) o := th_tup ha h.ty
end FF
namespace FF
open PySem PySem.Spec PyProof.Rows L2
/-! ### t[::-1] of a tuple -/
section
variable {prog : Program} {w : World} {A : Around} {E : Value → Shared → Prop} {s : Shared}
theorem applied_rev {sl : Addr} {vl vu vs : Value} {n : Nat} {Q : Int × Int × Nat → Shared → Prop} (hs : s.heap.IsSliceOf sl vl vu vs) (pl : IsPart vl none) (pu : IsPart vu none) (ps : IsPart vs (some (-1)))
    (h : Q ((n : Int) - 1, -1, n) s) : wpAny (model prog w) A (Builtin.Slice.sliceApplied (.ref sl) (pure (n : Int))) Q E s := by
  obtain ⟨os, hos, hcs, hds⟩ := id hs
  unfold Builtin.Slice.sliceApplied Builtin.Slice.sliceFields
  refine wpAny_bind (wpAny_bind (wpAny_field hos hds (x := vl) rfl (wpAny_bind (wpAny_field hos hds (x := vu) rfl (wpAny_bind (wpAny_field hos hds (x := vs) rfl (wpAny_pure ?_)))))))
  refine wpAny_bind (HT.slicePart_ ps ?_)
  show wpAny _ _ (if ((-1 : Int) == 0) = true then _ else _) _ _ s
  rw [if_neg (by decide)]
  refine wpAny_bind (HT.slicePart_ pl (wpAny_bind (HT.slicePart_ pu (wpAny_bind (wpAny_pure ?_)))))
  show wpAny _ _ (pure ((n : Int) - 1, (-1 : Int), Builtin.Slice.slicePlaces ((n : Int) - 1) (-1) (-1))) _ _ s
  have e : Builtin.Slice.slicePlaces ((n : Int) - 1) (-1) (-1) = n := by
    unfold Builtin.Slice.slicePlaces
    rw [if_neg (by decide)]
    split
    · rw [show (-(-1 : Int)) = 1 by decide, Int.ediv_one]
      omega
    · have : n = 0 := by omega
      subst this
      rfl
  rw [e]
  exact wpAny_pure h
theorem pick_rev (xs : Array Value) : ((List.range xs.size).filterMap fun (m : Nat) => xs[(((xs.size : Int) - 1) + (m : Int) * (-1)).toNat]?).toArray = xs.toList.reverse.toArray := by
  have e : (List.range xs.size).filterMap (fun (m : Nat) => xs[(((xs.size : Int) - 1) + (m : Int) * (-1)).toNat]?) = ((List.range xs.size).map fun k => xs.size - 1 - k).filterMap (xs[·]?) := by
    rw [List.filterMap_map]
    congr 1
    funext m
    show xs[(((xs.size : Int) - 1) + (m : Int) * (-1)).toNat]? = xs[xs.size - 1 - m]?
    have : (((xs.size : Int) - 1) + (m : Int) * (-1)).toNat = xs.size - 1 - m := by omega
    rw [this]
  rw [e, PySem.W.krv_range, List.filterMap_reverse, PySem.W.krv_all]
theorem getItem_tuple_rev {t sl : Addr} {items : Array Value} {vl vu vs : Value} {Q : Value → Shared → Prop} (ht : IsTup s.heap t items) (hs : s.heap.IsSliceOf sl vl vu vs) (pl : IsPart vl none) (pu : IsPart vu none) (ps : IsPart vs (some (-1)))
    (h : Q (.ref s.heap.objs.size) { s with heap := s.heap.push { cls := .type "tuple", data := .seq items.toList.reverse.toArray } })
    (hsz : items.size ≤ sizeLine) : wpAny (model prog w) A (getItem (.ref t) (.ref sl)) Q E s := by
  have htake : sizeOk (.seq items.toList.reverse.toArray) := by
    show items.toList.reverse.toArray.size ≤ sizeLine
    rw [List.size_toArray, List.length_reverse, Array.length_toList]
    exact hsz
  obtain ⟨os, hos, hcs, hds⟩ := id hs
  have hTs : s.TypeIs (.ref sl) "slice" := ⟨os, hos, hcs⟩
  unfold getItem
  try with_reducible refine wpAny_holding ?_
  first | refine wpAny_bind (wpAny_pure ?_) | skip
  refine wpAny_bind (wpAny_sequenceKey ht.typeIs (by decide) ?_)
  refine wpAny_bind (wpAny_callSpecial?_slot (name := Str.ofString "__getitem__") ht.typeIs PyProof.Rows.slot_tuple_getitem
    (wpAny_call_entry PyProof.Rows.slot_tuple_getitem ht.typeIs PyProof.Rows.entry_tuple_getitem ?_ (PyProof.Rows.args_tuple_getitem _ _)))
  show wpAny _ _ (Builtin.Tuple.tupleItemsOf (.ref t) >>= _) _ _ s
  refine wpAny_bind (PyProof.Rows.tupleItemsOf_ ht ?_)
  refine wpAny_bind (wpAny_typeOf hTs ?_)
  rw [if_pos (by decide)]
  refine wpAny_bind (applied_rev (n := items.size) hs pl pu ps ?_)
  show wpAny _ _ (if (((items.size : Int) - 1) == 0 && (-1 : Int) == 1 && items.size == items.size) = true then _ else _) _ _ s
  rw [if_neg (by rw [Bool.and_comm (((items.size : Int) - 1) == 0)]; exact Bool.false_ne_true), pick_rev]
  first
    | exact wpAny_bind (m := Builtin.Tuple.tupleExact _) (wpAny_newObj_type (wpAny_pure ⟨_, rfl, wpAny_pure h⟩) htake)
    | exact wpAny_bind (m := Builtin.Tuple.tupleExact _) (wpAny_newObj_type (wpAny_bind (wpAny_pure (wpAny_pure ⟨_, rfl, wpAny_pure h⟩))) htake)
    | exact wpAny_bind (wpAny_bind (m := Builtin.Tuple.tupleExact _) (wpAny_newObj_type (wpAny_pure (wpAny_pure ⟨_, rfl, wpAny_pure h⟩)) htake))
    | exact wpAny_bind (wpAny_bind (m := Builtin.Tuple.tupleExact _) (wpAny_newObj_type (wpAny_pure ⟨_, rfl, wpAny_pure h⟩) htake))
end
section
variable {X : Cx}
def tRevT (K : PySem.W.Frag) (te : TE) : TE := fun σ H Q => te σ H fun x H1 => ∃ a xs, x = .ref a ∧ SqT K H1 a xs ∧ ∀ p, H1 p = none → Q (.ref p) (upd H1 p (.tup xs.reverse))
theorem pe_revT {K : PySem.W.Frag} {e : Expr} {te : TE} {k : Nat} {p1 p2 p3 pos : Pos} (he : PE X e te) (hK : X.K = K := by rfl) : PE X (.Subscript e (.Slice none none (some (.UnaryOp .USub (.Constant (.int 1) k p1) p2)) p3) pos) (tRevT K te) := by
  subst hK
  refine ⟨fun pins s σ H Q I h => ?_⟩
  refine Subscript_ (thn (he.run pins s σ H _ I h) fun v s1 ⟨x, H1, I1, r1, q1⟩ => ?_)
  obtain ⟨a, xs, ex, hx, q⟩ := q1
  subst ex
  cases r1
  have hst : PO X (some (.UnaryOp .USub (.Constant (.int 1) k p1) p2)) (tPart (tUn (rU fun i => .int (-i)) (tC (.int 1)))) := po_some (pe_un un_neg pe_int)
  refine wpAny_Slice (thn (po_none.run pins s1 σ H1 (fun o H2 => o = none ∧ H2 = H1) I1 ⟨rfl, rfl⟩) fun vl s2 ⟨l, H2, I2, pl, el, e2⟩ => ?_)
  subst el e2
  refine thn (po_none.run pins s2 σ H2 (fun o H3 => o = none ∧ H3 = H2) I2 ⟨rfl, rfl⟩) fun vu s3 ⟨u, H3, I3, pu, eu, e3⟩ => ?_
  subst eu e3
  refine thn (hst.run pins s3 σ H3 (fun o H4 => o = some (-1) ∧ H4 = H3) I3 ⟨1, rfl, -1, rfl, rfl, rfl⟩) fun vs s4 ⟨o, H4, I4, ps, eo, e4⟩ => ?_
  subst eo e4
  have I5 : L2.Inv X pins σ H4 { s4 with heap := s4.heap.push { cls := .type "slice", data := .fields #[vl, vu, vs] } } := I4.kept (t' := s4.toks) fun b ob q => Heap.get?_push_of_some _ q
  obtain ⟨its, r, ht, hz⟩ := I5.tuple hx
  have hlen := r.length
  show wpAny (model X.prog X.w) X.A (subscriptTail e (.Slice none none (some (.UnaryOp .USub (.Constant (.int 1) k p1) p2)) p3) (.ref a) (.ref s4.heap.objs.size)) (EP X pins σ Q) X.xe { s4 with heap := s4.heap.push { cls := .type "slice", data := .fields #[vl, vu, vs] } }
  refine tail_any (ops := [.ref a, .ref s4.heap.objs.size]) ht.typeIs (PyProof.Rows.slot_tuple_getitem.lookup) ?_ (by with_unfolding_all rfl)
  refine getItem_tuple_rev ht (Heap.IsSliceOf.new _ vl vu vs) pl pu ps ?_ (by rw [List.size_toArray]; omega)
  refine ⟨.ref _, _, I5.laid (t' := s4.toks) (o := .tup xs.reverse) (fun b ob q => Heap.get?_push_of_some _ q) (Nat.le_refl _) ?_, rfl, q _ (I5.hok.fresh (Nat.le_refl _))⟩
  exact ⟨by rw [List.length_reverse]; exact hz, _, r.reverse, IsTup.new _ _⟩
end
theorem cutV_mem {xs : List V} {lo hi : Option Int} {x : V} (h : x ∈ cutV xs lo hi) : x ∈ xs := by
  unfold cutV at h
  exact List.mem_of_mem_drop (List.mem_of_mem_take h)
theorem Ths.cut {H : Hp} {xs : List V} {lo hi : Option Int} (h : Ths H xs) : Ths H (cutV xs lo hi) := h.sub fun _ => cutV_mem
theorem Ths.rev {H : Hp} {xs : List V} (h : Ths H xs) : Ths H xs.reverse := h.sub fun _ => List.mem_reverse.mp
theorem Ths.rg {H : Hp} (a b : Int) : Ths H (rgV a b) := ⟨fun x hx => by
  unfold rgV at hx
  obtain ⟨i, _, rfl⟩ := List.mem_map.mp hx
  exact th_int _⟩
theorem rgV_length (a b : Int) : (rgV a b).length = (b - a).toNat := by
  unfold rgV
  rw [List.length_map, List.length_range]
end FF
namespace FF
open PySem PySem.Spec PyProof.Rows L2
/-! ### data: shapes and equality -/
structure Sh (k : Nat) (d : PyData) : Prop where
  lay : d.canLay0 = true
  dep : d.depth ≤ k
theorem Sh.shaped {k : Nat} {d : PyData} (h : Sh k d) (hk : k ≤ 64 := by decide) : SeqAt.shaped d = true := by
  unfold SeqAt.shaped
  rw [h.lay, decide_eq_true (Nat.le_trans h.dep hk)]
  rfl
theorem Sh.int {i : Int} : Sh 0 (.int i) := ⟨rfl, Nat.le_refl _⟩
theorem Sh.none : Sh 0 .none := ⟨rfl, Nat.le_refl _⟩
theorem Sh.bool {b : Bool} : Sh 0 (.bool b) := ⟨rfl, Nat.le_refl _⟩
theorem sh_all {k : Nat} : ∀ {ds : List PyData}, (∀ d ∈ ds, Sh k d) → PyData.canLayAll0 ds = true ∧ PyData.depthAll ds ≤ k
  | [], _ => ⟨rfl, Nat.zero_le _⟩
  | d :: r, h => by
    obtain ⟨h1, h2⟩ := sh_all (ds := r) fun x hx => h x (List.mem_cons_of_mem _ hx)
    have h3 := h d List.mem_cons_self
    refine ⟨?_, ?_⟩
    · show (d.canLay0 && PyData.canLayAll0 r) = true
      rw [h3.lay, h1]
      rfl
    · show max d.depth (PyData.depthAll r) ≤ k
      exact Nat.max_le.mpr ⟨h3.dep, h2⟩
theorem Sh.tup {k : Nat} {ds : List PyData} (h : ∀ d ∈ ds, Sh k d) : Sh (k + 1) (.tuple ds) := ⟨(sh_all h).1, Nat.succ_le_succ (sh_all h).2⟩
theorem Sh.lst {k : Nat} {ds : List PyData} (h : ∀ d ∈ ds, Sh k d) : Sh (k + 1) (.list ds) := ⟨(sh_all h).1, Nat.succ_le_succ (sh_all h).2⟩
def dO (x : V) : PyData := match x with
  | .int i => .int i
  | _ => .none
theorem dp_O {K : PySem.W.Frag} {H : Hp} : ∀ {ws : List V}, (∀ x ∈ ws, IsO x) → DpAll K H ws (ws.map dO)
  | [], _ => .nil
  | x :: r, h => by
    refine .cons ?_ (dp_O fun y hy => h y (List.mem_cons_of_mem _ hy))
    rcases h x List.mem_cons_self with rfl | ⟨i, rfl⟩
    · exact .non
    · exact .int i
theorem sh_O {x : V} : Sh 0 (dO x) := by
  cases x with
  | int i => exact .int
  | _ => exact .none
theorem shaped_O (ws : List V) : SeqAt.shaped (.tuple (ws.map dO)) = true := (Sh.tup (k := 0) fun d hd => by
  obtain ⟨x, _, rfl⟩ := List.mem_map.mp hd
  exact sh_O).shaped
theorem shaped_tints (ls : List Int) : SeqAt.shaped (.tuple (ls.map PyData.int)) = true := (Sh.tup (k := 0) fun d hd => by
  obtain ⟨x, _, rfl⟩ := List.mem_map.mp hd
  exact Sh.int).shaped
theorem eqv_tup0 (ds : List PyData) : PyData.eqv (.tuple ds) (.tuple []) = ds.isEmpty := by
  cases ds with
  | nil => rfl
  | cons d r => simp [PyData.eqv, PyData.eqvAll]
end FF
namespace FF
open PySem PySem.Spec PyProof.Rows L2
/-! ### pieces -/
theorem upTo_succ {n : Int} (h : 0 ≤ n) : upTo (n + 1) = upTo n ++ [n] := by
  obtain ⟨m, rfl⟩ : ∃ m : Nat, n = m := ⟨n.toNat, by omega⟩
  exact upTo_snoc m
theorem upTo_mem {n x : Int} : x ∈ upTo n ↔ 0 ≤ x ∧ x < n := by
  refine ⟨mem_upTo, fun ⟨h0, h1⟩ => ?_⟩
  unfold upTo
  exact List.mem_map.mpr ⟨x.toNat, List.mem_range.mpr (by omega), by omega⟩
theorem upTo_up (n : Int) : (upTo n).Pairwise (· < ·) := by
  unfold upTo
  rw [List.pairwise_map]
  exact List.pairwise_lt_range.imp fun h => by omega
theorem nub_snoc (l : List Int) (a : Int) : nub (l ++ [a]) = step_dedup (nub l) a := by
  unfold nub
  rw [List.foldl_append]
  rfl
def least (g : Int → Int) (x : Int) : Bool := (upTo x).all fun y => !decide (g y = g x)
def mins (g : Int → Int) (n : Int) : List Int := (upTo n).filter (least g)
def piece (g : Int → Int) (n x : Int) : List Int := (upTo n).filter fun y => decide (g y = g x)
def piecesF (g : Int → Int) (n : Int) : List (List Int) := (mins g n).map (piece g n)
theorem least_iff {g : Int → Int} {x : Int} : least g x = true ↔ ∀ y, 0 ≤ y → y < x → g y ≠ g x := by
  unfold least
  rw [List.all_eq_true]
  refine ⟨fun h y h0 h1 e => ?_, fun h y hy => ?_⟩
  · have := h y (upTo_mem.mpr ⟨h0, h1⟩)
    rw [decide_eq_true e] at this
    cases this
  · have := h y (mem_upTo hy).1 (mem_upTo hy).2
    rw [decide_eq_false this]
    rfl
theorem nub_mins (g : Int → Int) : ∀ n : Nat, nub ((upTo n).map g) = (mins g n).map g
  | 0 => rfl
  | n + 1 => by
    have e : ((n + 1 : Nat) : Int) = (n : Int) + 1 := by omega
    have ih := nub_mins g n
    rw [e, upTo_snoc, List.map_append, List.map_cons, List.map_nil, nub_snoc]
    have em : mins g ((n : Int) + 1) = mins g n ++ if least g n = true then [(n : Int)] else [] := by
      unfold mins
      rw [upTo_snoc, List.filter_append]
      congr 1
      rw [List.filter_cons, List.filter_nil]
    rw [em]
    by_cases h : g n ∈ nub ((upTo n).map g)
    · have hl : ¬ least g n = true := fun z => by
        rw [mem_nub, List.mem_map] at h
        obtain ⟨y, hy, ey⟩ := h
        exact least_iff.mp z y (mem_upTo hy).1 (mem_upTo hy).2 ey
      rw [if_neg hl, List.append_nil, ← ih]
      unfold step_dedup
      rw [if_pos (by simpa using h)]
    · have hl : least g n = true := least_iff.mpr fun y h0 h1 e => h (by rw [mem_nub, List.mem_map]; exact ⟨y, upTo_mem.mpr ⟨h0, h1⟩, e⟩)
      rw [if_pos hl, List.map_append, ← ih]
      unfold step_dedup
      rw [if_neg (by simpa using h)]
      rfl
theorem mins_mem {g : Int → Int} {n x : Int} : x ∈ mins g n ↔ (0 ≤ x ∧ x < n) ∧ least g x = true := by
  unfold mins
  rw [List.mem_filter, upTo_mem]
theorem mins_up (g : Int → Int) (n : Int) : (mins g n).Pairwise (· < ·) := (upTo_up n).filter _
theorem piecesF_ker {g g' : Int → Int} {n : Int} (h : ∀ x y, 0 ≤ x → x < n → 0 ≤ y → y < n → (g x = g y ↔ g' x = g' y)) : piecesF g n = piecesF g' n := by
  unfold piecesF
  have e1 : mins g n = mins g' n := by
    unfold mins
    refine List.filter_congr fun x hx => ?_
    obtain ⟨x0, x1⟩ := mem_upTo hx
    rw [Bool.eq_iff_iff, least_iff, least_iff]
    refine ⟨fun z y h0 h1 e => z y h0 h1 ((h y x h0 (by omega) x0 x1).mpr e), fun z y h0 h1 e => z y h0 h1 ((h y x h0 (by omega) x0 x1).mp e)⟩
  rw [e1]
  refine List.map_congr_left fun x hx => ?_
  obtain ⟨⟨x0, x1⟩, _⟩ := mins_mem.mp hx
  unfold piece
  refine List.filter_congr fun y hy => ?_
  obtain ⟨y0, y1⟩ := mem_upTo hy
  exact decide_eq_decide.mpr (h y x y0 y1 x0 x1)
/-- rising lists with the same members are one -/
theorem up_same : ∀ {l m : List Int}, l.Pairwise (· < ·) → m.Pairwise (· < ·) → (∀ x, x ∈ l ↔ x ∈ m) → l = m
  | [], [], _, _, _ => rfl
  | [], b :: s, _, _, h => by have := (h b).mpr List.mem_cons_self; cases this
  | a :: r, [], _, _, h => by have := (h a).mp List.mem_cons_self; cases this
  | a :: r, b :: s, hl, hm, h => by
    obtain ⟨l1, l2⟩ := List.pairwise_cons.mp hl
    obtain ⟨m1, m2⟩ := List.pairwise_cons.mp hm
    have e : a = b := by
      have h1 := (h a).mp List.mem_cons_self
      have h2 := (h b).mpr List.mem_cons_self
      rcases List.mem_cons.mp h1 with z | z
      · exact z
      · rcases List.mem_cons.mp h2 with y | y
        · exact y.symm
        · have := l1 b y
          have := m1 a z
          omega
    subst e
    congr 1
    refine up_same l2 m2 fun x => ⟨fun hx => ?_, fun hx => ?_⟩
    · rcases List.mem_cons.mp ((h x).mp (List.mem_cons_of_mem _ hx)) with z | z
      · have := l1 x hx
        omega
      · exact z
    · rcases List.mem_cons.mp ((h x).mpr (List.mem_cons_of_mem _ hx)) with z | z
      · have := m1 x hx
        omega
      · exact z
/-- labels that are the least points -/
structure Hd (n : Int) (hs : List Int) : Prop where
  len : (hs.length : Int) = n
  rng : ∀ x, 0 ≤ x → x < n → 0 ≤ hat hs x ∧ hat hs x ≤ x
  fix : ∀ x, 0 ≤ x → x < n → hat hs (hat hs x) = hat hs x
theorem Hd.step {n : Int} {hs : List Int} (h : Hd n hs) {t : Int × Int} (ht : 0 ≤ t.1 ∧ t.1 < t.2 ∧ t.2 < n) : Hd n (hstep hs t) := by
  have hl := h.len
  have e : ∀ x, 0 ≤ x → x < n → hat (hstep hs t) x = mrg (hat hs t.1) (hat hs t.2) (hat hs x) := fun x x0 x1 => hat_map x0 (by omega)
  obtain ⟨a0, a1⟩ := h.rng t.1 ht.1 (by omega)
  obtain ⟨b0, b1⟩ := h.rng t.2 (by omega) ht.2.2
  have fa := h.fix t.1 ht.1 (by omega)
  have fb := h.fix t.2 (by omega) ht.2.2
  refine ⟨by unfold hstep; rw [List.length_map]; exact hl, fun x x0 x1 => ?_, fun x x0 x1 => ?_⟩
  · rw [e x x0 x1]
    have := h.rng x x0 x1
    unfold mrg
    split <;> omega
  · have hx := h.rng x x0 x1
    have fx := h.fix x x0 x1
    rw [e x x0 x1]
    have hm : 0 ≤ mrg (hat hs t.1) (hat hs t.2) (hat hs x) ∧ mrg (hat hs t.1) (hat hs t.2) (hat hs x) < n := by
      unfold mrg
      split <;> omega
    rw [e _ hm.1 hm.2]
    unfold mrg
    by_cases c : hat hs x = hat hs t.1 ∨ hat hs x = hat hs t.2
    · rw [if_pos c]
      have : hat hs (min (hat hs t.1) (hat hs t.2)) = min (hat hs t.1) (hat hs t.2) := by
        rcases Int.le_total (hat hs t.1) (hat hs t.2) with z | z
        · rw [Int.min_eq_left z]; exact fa
        · rw [Int.min_eq_right z]; exact fb
      rw [this, if_pos (by omega)]
    · rw [if_neg c, fx, if_neg c]
theorem Hd.start {n : Int} (h : 0 ≤ n) : Hd n (upTo n) := ⟨by rw [upTo_length]; omega, fun x x0 x1 => by rw [hat_upTo x0 x1]; omega, fun x x0 x1 => by rw [hat_upTo x0 x1, hat_upTo x0 x1]⟩
theorem Hd.heads {n : Int} : ∀ {ts : List (Int × Int)} {hs : List Int}, Hd n hs → TOk n ts → Hd n (headsF hs ts)
  | [], _, h, _ => h
  | t :: ts, hs, h, ok => Hd.heads (hs := hstep hs t) (h.step (ok t List.mem_cons_self)) fun x hx => ok x (List.mem_cons_of_mem _ hx)
theorem Ker.heads {n : Int} : ∀ {ts : List (Int × Int)} {r : Int → Int} {hs : List Int}, Ker n r hs → TOk n ts → Ker n (foldR r ts) (headsF hs ts)
  | [], _, _, h, _ => h
  | t :: ts, r, hs, h, ok => Ker.heads (r := rstep r t) (hs := hstep hs t) (h.step (ok t List.mem_cons_self)) fun x hx => ok x (List.mem_cons_of_mem _ hx)
theorem Hd.mins {n : Int} {hs : List Int} (h : Hd n hs) {x : Int} (x0 : 0 ≤ x) (x1 : x < n) : least (hat hs) x = true ↔ hat hs x = x := by
  rw [least_iff]
  obtain ⟨r0, r1⟩ := h.rng x x0 x1
  refine ⟨fun z => ?_, fun e y y0 y1 q => ?_⟩
  · by_cases c : hat hs x = x
    · exact c
    · exact absurd (h.fix x x0 x1) (z _ r0 (by omega))
  · have := (h.rng y y0 (by omega)).2
    omega
/-- the law's pieces: the sorted labels, each with its points -/
theorem heads_pieces {n : Int} {ts : List (Int × Int)} (hn : 0 ≤ n) (ok : TOk n ts) {ms : List Int} (up : ms.Pairwise (· < ·)) (hm : ∀ k, k ∈ ms ↔ k ∈ headsF (upTo n) ts) :
    ms.map (fun h => (upTo n).filter fun y => decide (hat (headsF (upTo n) ts) y = h)) = piecesF (foldR (fun x => x) ts) n := by
  have H := Hd.heads (Hd.start hn) ok
  have Kk := Ker.heads (Ker.start hn) ok
  have hl := H.len
  rw [piecesF_ker Kk.ker]
  have e : ms = mins (hat (headsF (upTo n) ts)) n := by
    refine up_same up (mins_up _ _) fun k => ?_
    rw [hm k, mins_mem]
    refine ⟨fun hk => ?_, fun ⟨⟨k0, k1⟩, hk⟩ => ?_⟩
    · obtain ⟨i, hi⟩ := List.getElem?_of_mem hk
      have hil := (List.getElem?_eq_some_iff.mp hi).1
      have ek : hat (headsF (upTo n) ts) (i : Int) = k := by
        unfold hat
        rw [List.getD_eq_getElem?_getD, show ((i : Int)).toNat = i by omega, hi]
        rfl
      have hr := H.rng (i : Int) (by omega) (by omega)
      have hf := H.fix (i : Int) (by omega) (by omega)
      rw [ek] at hr hf
      exact ⟨⟨hr.1, by omega⟩, (H.mins hr.1 (by omega)).mpr hf⟩
    · rw [← (H.mins k0 k1).mp hk]
      exact hat_mem k0 (by omega)
  unfold piecesF
  rw [e]
  refine List.map_congr_left fun x hx => ?_
  obtain ⟨⟨x0, x1⟩, hx⟩ := mins_mem.mp hx
  unfold piece
  rw [(H.mins x0 x1).mp hx]
/-- tuples of ints -/
def Lots (H : Hp) (rs : List V) (pss : List (List Int)) : Prop := Paired (fun (r : V) (ls : List Int) => ∃ q, r = .ref q ∧ H q = some (.tup (ls.map V.int))) rs pss
theorem Lots.mono {H H' : Hp} {rs : List V} {pss : List (List Int)} (h : Lots H rs pss) (k : ∀ q xs, H q = some (.tup xs) → H' q = some (.tup xs)) : Lots H' rs pss := L2.Paired.mapP h fun _ _ ⟨q, e, z⟩ => ⟨q, e, k q _ z⟩
theorem Lots.ke {H H' : Hp} {rs : List V} {pss : List (List Int)} (h : Lots H rs pss) (k : Ke H H') : Lots H' rs pss := h.mono fun _ _ => k.tup
theorem Lots.new {H : Hp} {p : Addr} {o : HO} {rs : List V} {pss : List (List Int)} (h : Lots H rs pss) (k : H p = none) : Lots (upd H p o) rs pss := h.mono fun _ _ => tup_new k
theorem Lots.put {H : Hp} {p : Addr} {o : HO} {ys : List V} {rs : List V} {pss : List (List Int)} (h : Lots H rs pss) (k : H p = some (.lst ys)) : Lots (upd H p o) rs pss := h.mono fun q xs e => by rw [upd_ne (ne_of e k (fun z => nomatch z))]; exact e
theorem Lots.length {H : Hp} {rs : List V} {pss : List (List Int)} (h : Lots H rs pss) : rs.length = pss.length := Paired.length h
theorem Lots.append {H : Hp} : ∀ {rs qs : List V} {ps us : List (List Int)}, Lots H rs ps → Lots H qs us → Lots H (rs ++ qs) (ps ++ us)
  | _, _, _, _, .nil, b => b
  | _, _, _, _, .cons r t, b => .cons r (Lots.append t b)
theorem Lots.one {H : Hp} {q : Addr} {ls : List Int} (h : H q = some (.tup (ls.map V.int))) : Lots H [.ref q] [ls] := .cons ⟨q, rfl, h⟩ .nil
theorem Lots.get {H : Hp} : ∀ {rs : List V} {ps : List (List Int)} {i : Nat} {r : V}, Lots H rs ps → rs[i]? = some r → ∃ ls q, ps[i]? = some ls ∧ r = .ref q ∧ H q = some (.tup (ls.map V.int))
  | _, _, _, _, .nil, e => by simp at e
  | _, _, 0, _, .cons (b := t) ⟨q, e1, e2⟩ _, e => by simp at e; subst e; exact ⟨t, q, rfl, e1, e2⟩
  | _, _, i + 1, r, .cons _ t, e => by
    obtain ⟨u, q, h1, h2, h3⟩ := Lots.get (i := i) (r := r) t (by simpa using e)
    exact ⟨u, q, by simpa using h1, h2, h3⟩
theorem Lots.dp {K : PySem.W.Frag} {H : Hp} : ∀ {rs : List V} {ps : List (List Int)}, Lots H rs ps → DpAll K H rs (ps.map fun l => .tuple (l.map PyData.int))
  | _, _, .nil => .nil
  | _, _, .cons ⟨q, e, h⟩ t => by
    subst e
    exact .cons (.tup (sqT_of h) (dp_ints _)) (Lots.dp t)
theorem shaped_lots (ps : List (List Int)) : SeqAt.shaped (.tuple (ps.map fun l => .tuple (l.map PyData.int))) = true := (Sh.tup (k := 1) fun d hd => by
  obtain ⟨l, _, rfl⟩ := List.mem_map.mp hd
  exact Sh.tup fun d hd => by
    obtain ⟨x, _, rfl⟩ := List.mem_map.mp hd
    exact Sh.int).shaped
theorem eqv_lots (ps : List (List Int)) : PyData.eqv (.tuple (ps.map fun l => .tuple (l.map PyData.int))) (.tuple (ps.map fun l => .tuple (l.map PyData.int))) = true :=
  SeqAt.eqv_refl _ (SeqAt.canLay_of_shaped (shaped_lots ps))
theorem nums_upTo (r : Int → Int) (f : Int) : ∀ n : Nat, numsFrom f 0 ((upTo n).map fun x => V.int (r x)) = (upTo n).filter fun y => decide (r y = f)
  | 0 => rfl
  | n + 1 => by
    have e : ((n + 1 : Nat) : Int) = (n : Int) + 1 := by omega
    rw [e, upTo_snoc, List.map_append, List.map_cons, List.map_nil, nums_snoc, nums_upTo r f n, List.filter_append, List.length_map, upTo_length]
    congr 1
    by_cases c : r n = f
    · rw [if_pos (congrArg V.int c), List.filter_cons_of_pos (p := fun y => decide (r y = f)) (decide_eq_true c), List.filter_nil]
      congr 1
      omega
    · rw [if_neg (fun z => c (V.int.inj z)), List.filter_cons_of_neg (p := fun y => decide (r y = f)) (by rw [decide_eq_false c]; decide), List.filter_nil]
theorem pieces_keys (r : Int → Int) (n : Nat) {fs : List Int} (h : fs = nub ((upTo n).map r)) : fs.map (fun f => numsFrom f 0 ((upTo n).map fun x => V.int (r x))) = piecesF r n := by
  rw [h, nub_mins, List.map_map]
  unfold piecesF
  refine List.map_congr_left fun x _ => ?_
  exact nums_upTo r (r x) n
theorem star_fold : ∀ j : Nat, foldR (fun x => x) ((upTo j).map fun i => ((0 : Int), 1 + i)) = fun x => if 1 ≤ x ∧ x ≤ (j : Int) then 0 else x
  | 0 => by
    funext x
    show x = _
    rw [if_neg (by omega)]
  | j + 1 => by
    rw [show ((j + 1 : Nat) : Int) = (j : Int) + 1 by omega, upTo_snoc, List.map_append, List.map_cons, List.map_nil, foldR_snoc, star_fold j]
    generalize hF : (fun x : Int => if 1 ≤ x ∧ x ≤ (j : Int) then (0 : Int) else x) = F
    funext x
    have f1 : F (1 + (j : Int)) = 1 + j := by rw [← hF]; exact if_neg (by omega)
    have f0 : F 0 = 0 := by rw [← hF]; exact if_neg (by omega)
    have fx : F x = if 1 ≤ x ∧ x ≤ (j : Int) then (0 : Int) else x := by rw [← hF]
    show (if F x = F (1 + (j : Int)) then F 0 else F x) = _
    rw [f1, f0]
    by_cases c : 1 ≤ x ∧ x ≤ (j : Int)
    · rw [if_pos c] at fx
      rw [fx, if_neg (by omega), if_pos (by omega)]
    · rw [if_neg c] at fx
      rw [fx]
      by_cases e : x = 1 + (j : Int)
      · rw [if_pos e, if_pos (by omega)]
      · rw [if_neg e, if_neg (by omega)]
theorem star_pieces {n : Int} (h : 1 ≤ n) : piecesF (foldR (fun x => x) ((upTo (n - 1)).map fun i => ((0 : Int), 1 + i))) n = [upTo n] := by
  obtain ⟨j, hj⟩ : ∃ j : Nat, n - 1 = j := ⟨(n - 1).toNat, by omega⟩
  rw [hj, star_fold]
  rw [piecesF_ker (g' := fun _ => 0) fun x y x0 x1 y0 y1 => ⟨fun _ => rfl, fun _ => ?_⟩]
  · have em : mins (fun _ => 0) n = [0] := up_same (mins_up _ _) (List.pairwise_singleton _ _) fun x => by
      rw [mins_mem, least_iff, List.mem_singleton]
      refine ⟨fun ⟨⟨x0, x1⟩, hx⟩ => ?_, fun e => ?_⟩
      · by_cases c : x = 0
        · exact c
        · exact absurd rfl (hx 0 (by omega) (by omega))
      · subst e
        exact ⟨⟨by omega, by omega⟩, fun y y0 y1 => by omega⟩
    unfold piecesF
    rw [em]
    show [piece (fun _ => 0) n 0] = [upTo n]
    congr 1
    unfold piece
    exact List.filter_eq_self.mpr fun _ _ => rfl
  · split <;> split <;> omega
theorem pieces_bd {g : Int → Int} {n : Int} : ∀ l ∈ piecesF g n, ∀ x ∈ l, 0 ≤ x ∧ x < n := fun l hl x hx => by
  unfold piecesF at hl
  obtain ⟨y, _, rfl⟩ := List.mem_map.mp hl
  exact mem_upTo (List.mem_filter.mp hx).1
theorem pieces_len {g : Int → Int} {n : Int} : (piecesF g n).length ≤ n.toNat := by
  unfold piecesF mins
  rw [List.length_map]
  have := List.length_filter_le (least g) (upTo n)
  rw [upTo_length] at this
  exact this
end FF
namespace FF
open PySem PySem.Spec PyProof.Rows L2
/-! ### max and set of tuples of ints -/
section
variable {X : Cx} {K : PySem.W.Frag}
theorem fold_max : ∀ (ns : List Int) (n : Int), (ns.foldl max n ∈ n :: ns) ∧ ∀ y ∈ n :: ns, y ≤ ns.foldl max n
  | [], n => ⟨List.mem_cons_self, fun y hy => by rw [List.mem_singleton.mp hy]; exact Int.le_refl _⟩
  | a :: r, n => by
    obtain ⟨h1, h2⟩ := fold_max r (max n a)
    have e : (a :: r).foldl max n = r.foldl max (max n a) := rfl
    rw [e]
    refine ⟨?_, fun y hy => ?_⟩
    · rcases List.mem_cons.mp h1 with z | z
      · rw [z]
        rcases Int.le_total n a with c | c
        · rw [Int.max_eq_right c]; exact List.mem_cons_of_mem _ List.mem_cons_self
        · rw [Int.max_eq_left c]; exact List.mem_cons_self
      · exact List.mem_cons_of_mem _ (List.mem_cons_of_mem _ z)
    · have hm := h2 (max n a) List.mem_cons_self
      rcases List.mem_cons.mp hy with z | hy
      · omega
      · rcases List.mem_cons.mp hy with z | hy
        · omega
        · exact h2 y (List.mem_cons_of_mem _ hy)
def rMaxT (K : PySem.W.Frag) : List V → Hp → VK → Prop := fun vs H Q => ∃ (a : Addr) (ns : List Int), vs = [V.ref a] ∧ SqT K H a (ns.map V.int) ∧ 0 < ns.length ∧ ∀ m, m ∈ ns → (∀ y, y ∈ ns → y ≤ m) → Q (.int m) H
theorem maxT (hc : X.calm = true) (hu : X.A.units + 64 < cLine) (h : X.K = K := by rfl) : CallR X (.builtin "max") (rMaxT K) := by
  subst h
  intro pins s σ H vs us Q I r hq
  obtain ⟨a, ns, rfl, hs, hne, q⟩ := hq
  obtain ⟨its, rv, hl, _⟩ := I.tuple hs
  rw [Vals.ref1 r]
  cases ns with
  | nil => exact absurd hne (Nat.lt_irrefl 0)
  | cons n ns =>
    obtain ⟨as, hr⟩ := Dp.readsAll I _ _ its (dp_ints (n :: ns)) rv
    have hd : PyData.depthAll ((n :: ns).map PyData.int) = 0 := PySem.W.ke_depthAll (n :: ns)
    refine PySem.W.max_tuple_data (x := .int n) (xs := ns.map PyData.int) (I.ok.hd hc) (show s.heap.IsTuple a its.toArray from hl) (by simpa using hr) ⟨fun x hx y hy => ?_, fun x hx => ?_⟩ (by show X.A.units + 1 + PyData.depthAll ((n :: ns).map PyData.int) < cLine; rw [hd]; omega) fun i v h' tk bs hi rd hk => ?_
    · obtain ⟨i, _, rfl⟩ := List.mem_map.mp (show x ∈ (n :: ns).map PyData.int from hx)
      obtain ⟨j, _, rfl⟩ := List.mem_map.mp (show y ∈ (n :: ns).map PyData.int from hy)
      rfl
    · obtain ⟨i, _, rfl⟩ := List.mem_map.mp (show x ∈ (n :: ns).map PyData.int from hx)
      intro z
      cases z
    · rw [PySem.W.maxD_ints] at rd
      cases rd with
      | int t =>
        exact ⟨.int _, H, I.kept hk, ⟨_, rfl⟩, q _ (fold_max ns n).1 (fold_max ns n).2⟩
def rSetT (K : PySem.W.Frag) (w : World) : List V → Hp → VK → Prop := fun xs H Q => ∃ (l : Addr) (ns : List Int), xs = [V.ref l] ∧ SqT K H l (ns.map V.int) ∧ ns.length ≤ 1000 ∧
  ∀ (p : Addr) (c : Nat), H p = none → c ≤ ns.length → Q (.ref p) (upd H p (SetO w p (fun j => decide (j ∈ ns)) c))
theorem cr_setT (hc : X.calm = true) : CallR X (.type "set") (rSetT X.K X.w) := by
  intro pins s σ H xs us Q I r h
  obtain ⟨l, ns, rfl, hl, hb, q⟩ := h
  rw [Vals.ref1 r]
  obtain ⟨its, rv, pl, hz⟩ := I.tuple hl
  refine call_set_tupI (w := X.w) ns (I.ok.hd hc) (show s.heap.IsTuple l its.toArray from pl) (by simpa using RZ.intsAre_vals rv) (by unfold scanBound; omega) fun h' tk c R hcn k => ?_
  exact ⟨.ref s.heap.objs.size, _, I.laid (t' := tk) k (Nat.le_refl _) (setO_new R), rfl, q _ c (I.hok.fresh (Nat.le_refl _)) hcn⟩
end
end FF
namespace FF
open PySem PySem.Spec PyProof.Rows L2
/-! ### ties between parts -/
def between (ps : List Int) (ts : List (Int × Int)) : Nat := (ts.filter fun t => !decide (hat ps t.1 = hat ps t.2)).length
theorem between_take {ps : List Int} {ts : List (Int × Int)} {i : Nat} {t : Int × Int} (h : ts[i]? = some t) : between ps (ts.take (i + 1)) = between ps (ts.take i) + if (!decide (hat ps t.1 = hat ps t.2)) = true then 1 else 0 := by
  unfold between
  rw [take_next h, List.filter_append, List.length_append]
  congr 1
  rw [List.filter_cons]
  split <;> rfl
theorem between_le (ps : List Int) (ts : List (Int × Int)) : between ps ts ≤ ts.length := List.length_filter_le _ _
theorem between_ker {n : Int} {ps qs : List Int} {ts : List (Int × Int)} (ok : TOk n ts) (h : ∀ x y, 0 ≤ x → x < n → 0 ≤ y → y < n → (hat ps x = hat ps y ↔ hat qs x = hat qs y)) : between ps ts = between qs ts := by
  unfold between
  congr 1
  refine List.filter_congr fun t ht => ?_
  obtain ⟨h0, h1, h2⟩ := ok t ht
  congr 1
  exact decide_eq_decide.mpr (h t.1 t.2 h0 (by omega) (by omega) h2)
/-- the first place of a number -/
def firstAt (fs : List Int) (x : Int) : Nat := fs.findIdx fun y => decide (y = x)
theorem firstAt_lt {fs : List Int} {x : Int} (h : x ∈ fs) : firstAt fs x < fs.length := List.findIdx_lt_length_of_exists ⟨x, h, decide_eq_true rfl⟩
theorem firstAt_get {fs : List Int} {x : Int} (h : x ∈ fs) : fs[firstAt fs x]? = some x := by
  have hl := firstAt_lt h
  rw [List.getElem?_eq_getElem hl]
  congr 1
  exact of_decide_eq_true (List.findIdx_getElem (w := hl))
theorem firstAt_inj {fs : List Int} {x y : Int} (hx : x ∈ fs) (hy : y ∈ fs) : firstAt fs x = firstAt fs y ↔ x = y := by
  refine ⟨fun e => ?_, fun e => by rw [e]⟩
  have h1 := firstAt_get hx
  rw [e, firstAt_get hy] at h1
  exact (Option.some.inj h1).symm
theorem firstAt_ahead {fs : List Int} {x : Int} {m : Nat} {z : Int} (hm : m < firstAt fs x) (hz : fs[m]? = some z) : z ≠ x := by
  have hl := (List.getElem?_eq_some_iff.mp hz).1
  have h1 := List.not_of_lt_findIdx hm
  have e : fs[m] = z := (List.getElem?_eq_some_iff.mp hz).2
  intro c
  rw [e, c, decide_eq_true rfl] at h1
  cases h1
theorem hat_get {ns : List Int} {i : Nat} {v : Int} (h : ns[i]? = some v) : hat ns (i : Int) = v := by
  unfold hat
  rw [List.getD_eq_getElem?_getD, show ((i : Int)).toNat = i by omega, h]
  rfl
theorem get_hat {ns : List Int} {x : Int} (h0 : 0 ≤ x) (h1 : x < ns.length) : ns[x.toNat]? = some (hat ns x) := by
  unfold hat
  rw [List.getD_eq_getElem?_getD, List.getElem?_eq_getElem (by omega)]
  rfl
theorem numbered_ker {ns : List Int} {x y : Int} (x0 : 0 ≤ x) (x1 : x < ns.length) (y0 : 0 ≤ y) (y1 : y < ns.length) :
    hat (ns.map fun v => (firstAt (nub ns) v : Int)) x = hat (ns.map fun v => (firstAt (nub ns) v : Int)) y ↔ hat ns x = hat ns y := by
  rw [hat_map (f := fun v => (firstAt (nub ns) v : Int)) x0 x1, hat_map (f := fun v => (firstAt (nub ns) v : Int)) y0 y1]
  have h := firstAt_inj ((mem_nub ns _).mpr (hat_mem x0 x1)) ((mem_nub ns _).mpr (hat_mem y0 y1))
  rw [← h]
  omega
/-! ### ties between and within are all -/
theorem inside_cons (ls : List Int) (t : Int × Int) (ts : List (Int × Int)) : inside ls (t :: ts) = (if (decide (t.1 ∈ ls) && decide (t.2 ∈ ls)) = true then 1 else 0) + inside ls ts := by
  unfold inside
  rw [List.filter_cons]
  split
  · rw [List.length_cons, Nat.add_comm]
  · rw [Nat.zero_add]
theorem sum_add {α : Type} (f g : α → Int) : ∀ l : List α, (l.map fun x => f x + g x).sum = (l.map f).sum + (l.map g).sum
  | [] => rfl
  | x :: r => by
    simp only [List.map_cons, List.sum_cons]
    rw [sum_add f g r]
    omega
theorem sum_one {m : Int} (g : Int → Int) : ∀ {l : List Int}, l.Nodup → m ∈ l → (∀ x ∈ l, x ≠ m → g x = 0) → (l.map g).sum = g m
  | x :: r, nd, hm, h0 => by
    obtain ⟨n1, n2⟩ := List.nodup_cons.mp nd
    rw [List.map_cons, List.sum_cons]
    by_cases e : x = m
    · subst e
      have : (r.map g).sum = 0 := by
        have hz : ∀ y ∈ r, g y = 0 := fun y hy => h0 y (List.mem_cons_of_mem _ hy) fun c => n1 (c ▸ hy)
        clear h0 nd n2 hm n1
        induction r with
        | nil => rfl
        | cons y r ih =>
          rw [List.map_cons, List.sum_cons, hz y List.mem_cons_self, ih fun z hz' => hz z (List.mem_cons_of_mem _ hz')]
          rfl
      omega
    · rcases List.mem_cons.mp hm with c | hm
      · exact absurd c.symm e
      · rw [h0 x List.mem_cons_self e, sum_one g n2 hm fun y hy => h0 y (List.mem_cons_of_mem _ hy)]
        omega
theorem sum_zero {α : Type} (g : α → Int) : ∀ {l : List α}, (∀ x ∈ l, g x = 0) → (l.map g).sum = 0
  | [], _ => rfl
  | x :: r, h => by
    rw [List.map_cons, List.sum_cons, h x List.mem_cons_self, sum_zero g fun y hy => h y (List.mem_cons_of_mem _ hy)]
    rfl
theorem all_ties {n : Int} {ns ms : List Int} (hl : (ns.length : Int) = n) (nd : ms.Nodup) (hm : ∀ k, k ∈ ms ↔ k ∈ ns) : ∀ {ts : List (Int × Int)}, TOk n ts →
    (between ns ts : Int) + (ms.map fun p => (inside ((upTo n).filter fun y => decide (hat ns y = p)) ts : Int)).sum = ts.length
  | [], _ => by
    rw [sum_zero (fun p => (inside ((upTo n).filter fun y => decide (hat ns y = p)) [] : Int)) fun x _ => rfl]
    rfl
  | t :: ts, ok => by
    have ih := all_ties hl nd hm (ts := ts) fun x hx => ok x (List.mem_cons_of_mem _ hx)
    obtain ⟨h0, h1, h2⟩ := ok t List.mem_cons_self
    have e1 : (between ns (t :: ts) : Int) = (if hat ns t.1 = hat ns t.2 then 0 else 1) + between ns ts := by
      unfold between
      rw [List.filter_cons]
      by_cases c : hat ns t.1 = hat ns t.2
      · rw [decide_eq_true c, if_pos c]
        simp
      · rw [decide_eq_false c, if_neg c]
        simp
        omega
    have mem : ∀ p y, 0 ≤ y → y < n → (y ∈ (upTo n).filter (fun y => decide (hat ns y = p)) ↔ hat ns y = p) := fun p y y0 y1 => by
      rw [List.mem_filter, upTo_mem]
      exact ⟨fun z => of_decide_eq_true z.2, fun z => ⟨⟨y0, y1⟩, decide_eq_true z⟩⟩
    have e2 : (fun p => (inside ((upTo n).filter fun y => decide (hat ns y = p)) (t :: ts) : Int)) = fun p => (if hat ns t.1 = p ∧ hat ns t.2 = p then (1 : Int) else 0) + (inside ((upTo n).filter fun y => decide (hat ns y = p)) ts : Int) := by
      funext p
      rw [inside_cons]
      have c1 := mem p t.1 h0 (by omega)
      have c2 := mem p t.2 (by omega) h2
      by_cases c : hat ns t.1 = p ∧ hat ns t.2 = p
      · rw [if_pos c, decide_eq_true (c1.mpr c.1), decide_eq_true (c2.mpr c.2), if_pos (show (true && true) = true from rfl)]
        omega
      · rw [if_neg c, if_neg (fun z => c ?_)]
        · omega
        · rw [Bool.and_eq_true_iff] at z
          exact ⟨c1.mp (of_decide_eq_true z.1), c2.mp (of_decide_eq_true z.2)⟩
    rw [e1, e2, sum_add, List.length_cons]
    have e3 : (ms.map fun p => if hat ns t.1 = p ∧ hat ns t.2 = p then (1 : Int) else 0).sum = if hat ns t.1 = hat ns t.2 then 1 else 0 := by
      have hin : hat ns t.1 ∈ ms := (hm _).mpr (hat_mem h0 (by omega))
      rw [sum_one (m := hat ns t.1) (fun p => if hat ns t.1 = p ∧ hat ns t.2 = p then (1 : Int) else 0) nd hin fun x _ hx => if_neg fun z => hx z.1.symm]
      by_cases c : hat ns t.1 = hat ns t.2
      · rw [if_pos ⟨rfl, c.symm⟩, if_pos c]
      · rw [if_neg (fun z => c z.2.symm), if_neg c]
    rw [e3]
    by_cases c : hat ns t.1 = hat ns t.2
    · rw [if_pos c, if_pos c]
      omega
    · rw [if_neg c, if_neg c]
      omega
/-- ties join: both ends have one root -/
theorem rstep_keep {r : Int → Int} {t : Int × Int} {x y : Int} (h : r x = r y) : rstep r t x = rstep r t y := by
  unfold rstep
  rw [h]
theorem foldR_keep : ∀ {ts : List (Int × Int)} {r : Int → Int} {x y : Int}, r x = r y → foldR r ts x = foldR r ts y
  | [], _, _, _, h => h
  | t :: ts, r, _, _, h => foldR_keep (ts := ts) (r := rstep r t) (rstep_keep h)
theorem foldR_tie : ∀ {ts : List (Int × Int)} {r : Int → Int} {t : Int × Int}, t ∈ ts → foldR r ts t.1 = foldR r ts t.2
  | u :: ts, r, t, h => by
    rcases List.mem_cons.mp h with rfl | h
    · refine foldR_keep (ts := ts) (r := rstep r t) ?_
      unfold rstep
      rw [if_pos rfl]
      by_cases c : r t.1 = r t.2
      · rw [if_pos c]
      · rw [if_neg c]
    · exact foldR_tie (ts := ts) (r := rstep r u) h
/-- a point's piece -/
def pieceAt (pss : List (List Int)) (x : Int) : Nat := pss.findIdx fun l => decide (x ∈ l)
theorem pieces_has {g : Int → Int} {n x : Int} (x0 : 0 ≤ x) (x1 : x < n) : ∃ l ∈ piecesF g n, x ∈ l := by
  have : ∃ y, (0 ≤ y ∧ y ≤ x) ∧ g y = g x ∧ least g y = true := by
    have key : ∀ m : Nat, (m : Int) ≤ x → g m = g x → ∃ y, (0 ≤ y ∧ y ≤ x) ∧ g y = g x ∧ least g y = true := by
      intro m
      induction m using Nat.strongRecOn with
      | _ m ih =>
        intro hm he
        by_cases c : least g (m : Int) = true
        · exact ⟨m, ⟨by omega, hm⟩, he, c⟩
        · have : ∃ y : Int, 0 ≤ y ∧ y < m ∧ g y = g m := Classical.byContradiction fun z => c (least_iff.mpr fun y y0 y1 e => z ⟨y, y0, y1, e⟩)
          obtain ⟨y, y0, y1, ye⟩ := this
          obtain ⟨k, rfl⟩ : ∃ k : Nat, y = k := ⟨y.toNat, by omega⟩
          exact ih k (by omega) (by omega) (ye.trans he)
    obtain ⟨k, rfl⟩ : ∃ k : Nat, x = k := ⟨x.toNat, by omega⟩
    exact key k (by omega) rfl
  obtain ⟨y, ⟨y0, y1⟩, ye, yl⟩ := this
  refine ⟨piece g n y, List.mem_map.mpr ⟨y, mins_mem.mpr ⟨⟨y0, by omega⟩, yl⟩, rfl⟩, ?_⟩
  unfold piece
  rw [List.mem_filter, upTo_mem]
  exact ⟨⟨x0, x1⟩, decide_eq_true ye.symm⟩
theorem pieceAt_lt {g : Int → Int} {n x : Int} (x0 : 0 ≤ x) (x1 : x < n) : pieceAt (piecesF g n) x < (piecesF g n).length := by
  obtain ⟨l, hl, hx⟩ := pieces_has (g := g) x0 x1
  exact List.findIdx_lt_length_of_exists ⟨l, hl, decide_eq_true hx⟩
theorem pieceAt_same {g : Int → Int} {n x y : Int} (x0 : 0 ≤ x) (x1 : x < n) (y0 : 0 ≤ y) (y1 : y < n) (h : g x = g y) : pieceAt (piecesF g n) x = pieceAt (piecesF g n) y := by
  unfold pieceAt
  have key : ∀ l ∈ piecesF g n, decide (x ∈ l) = decide (y ∈ l) := fun l hl => by
    unfold piecesF at hl
    obtain ⟨z, _, rfl⟩ := List.mem_map.mp hl
    refine decide_eq_decide.mpr ?_
    unfold piece
    rw [List.mem_filter, List.mem_filter, upTo_mem, upTo_mem]
    exact ⟨fun ⟨_, e⟩ => ⟨⟨y0, y1⟩, decide_eq_true (h ▸ of_decide_eq_true e)⟩, fun ⟨_, e⟩ => ⟨⟨x0, x1⟩, decide_eq_true (h.trans (of_decide_eq_true e))⟩⟩
  generalize piecesF g n = L at key
  induction L with
  | nil => rfl
  | cons l r ih =>
    rw [List.findIdx_cons, List.findIdx_cons, key l List.mem_cons_self, ih fun m hm => key m (List.mem_cons_of_mem _ hm)]
/-- parts numbered from 0, each new one the next -/
structure Parts (ps : List Int) : Prop where
  lo : ∀ x ∈ ps, 0 ≤ x
  nx : ∀ (i : Nat) v, ps[i]? = some v → v = 0 ∨ ∃ (j : Nat) (w : Int), j < i ∧ ps[j]? = some w ∧ v ≤ w + 1
theorem Parts.nil : Parts [] := ⟨(fun _ z => nomatch z), fun i v h => by simp at h⟩
theorem Parts.snoc {ps : List Int} {v : Int} (h : Parts ps) (v0 : 0 ≤ v) (hv : v = 0 ∨ ∃ w ∈ ps, v ≤ w + 1) : Parts (ps ++ [v]) := by
  refine ⟨fun x hx => ?_, fun i x hx => ?_⟩
  · rcases List.mem_append.mp hx with hx | hx
    · exact h.lo x hx
    · rw [List.mem_singleton.mp hx]
      exact v0
  · by_cases e : i < ps.length
    · rw [List.getElem?_append_left e] at hx
      rcases h.nx i x hx with z | ⟨j, w, hj, hw, hl⟩
      · exact .inl z
      · exact .inr ⟨j, w, hj, by rw [List.getElem?_append_left (by omega)]; exact hw, hl⟩
    · have hi : i = ps.length := by
        have := (List.getElem?_eq_some_iff.mp hx).1
        rw [List.length_append] at this
        have : i < ps.length + 1 := this
        omega
      subst hi
      rw [List.getElem?_append_right (Nat.le_refl _), Nat.sub_self] at hx
      cases hx
      rcases hv with z | ⟨w, hw, hl⟩
      · exact .inl z
      · obtain ⟨j, hj⟩ := List.getElem?_of_mem hw
        have hjl := (List.getElem?_eq_some_iff.mp hj).1
        exact .inr ⟨j, w, hjl, by rw [List.getElem?_append_left hjl]; exact hj, hl⟩
/-- a value is a tuple of n ints -/
def IsPs (H : Hp) (n : Int) (x : V) : Prop := ∃ (a : Addr) (ps : List Int), x = .ref a ∧ H a = some (.tup (ps.map V.int)) ∧ (ps.length : Int) = n
theorem IsPs.mono {H H' : Hp} {n : Int} {x : V} (h : IsPs H n x) (k : ∀ q xs, H q = some (.tup xs) → H' q = some (.tup xs)) : IsPs H' n x := by
  obtain ⟨a, ls, e, h1, h2⟩ := h
  exact ⟨a, ls, e, k _ _ h1, h2⟩
theorem IsPs.ke {H H' : Hp} {n : Int} {x : V} (h : IsPs H n x) (k : Ke H H') : IsPs H' n x := h.mono fun _ _ => k.tup
theorem IsPs.dk {H H' : Hp} {p : Addr} {n : Int} {x : V} (h : IsPs H n x) (k : Dk p H H') (d : Deck H p) : IsPs H' n x := h.mono fun _ _ => k.tup d
theorem IsPs.new {H : Hp} {p : Addr} {o : HO} {n : Int} {x : V} (h : IsPs H n x) (k : H p = none) : IsPs (upd H p o) n x := h.mono fun _ _ => tup_new k
theorem IsPs.put {H : Hp} {p : Addr} {o : HO} {ys : List V} {n : Int} {x : V} (h : IsPs H n x) (k : H p = some (.lst ys)) : IsPs (upd H p o) n x := h.mono fun q xs e => by rw [upd_ne (ne_of e k (fun z => nomatch z))]; exact e
theorem rep_ints (n : Nat) : (List.replicate n [V.int 0]).flatten = (List.replicate n (0 : Int)).map V.int := by
  induction n with
  | zero => rfl
  | succ n ih =>
    rw [List.replicate_succ, List.replicate_succ, List.flatten_cons, ih, List.map_cons]
    rfl
theorem between_zero {ps : List Int} {ts : List (Int × Int)} (h : ∀ t ∈ ts, hat ps t.1 = hat ps t.2) : between ps ts = 0 := by
  unfold between
  rw [List.filter_eq_nil_iff.mpr fun t ht => by rw [decide_eq_true (h t ht)]; decide]
  rfl
theorem getD_piece {pss : List (List Int)} {i : Nat} {ls : List Int} (h : pss[i]? = some ls) : pss.getD ((i : Int)).toNat [] = ls := by
  rw [List.getD_eq_getElem?_getD, show ((i : Int)).toNat = i by omega, h]
  rfl
theorem pieceAt_first {pss : List (List Int)} {x : Int} (h : pieceAt pss x < pss.length) : ∃ r, (upTo pss.length).filter (fun i => decide (x ∈ pss.getD i.toNat [])) = (pieceAt pss x : Int) :: r := by
  refine first_of (p := fun i => decide (x ∈ pss.getD i.toNat [])) (by omega) (by omega) ?_ fun g g0 g1 => ?_
  · have e := List.getElem?_eq_getElem h
    show decide (x ∈ pss.getD ((pieceAt pss x : Int)).toNat []) = true
    rw [getD_piece e]
    exact List.findIdx_getElem (w := h)
  · obtain ⟨k, rfl⟩ : ∃ k : Nat, g = k := ⟨g.toNat, by omega⟩
    have hk : k < pss.length := by omega
    show decide (x ∈ pss.getD ((k : Int)).toNat []) = false
    rw [getD_piece (List.getElem?_eq_getElem hk)]
    have h1 : k < pss.findIdx fun l => decide (x ∈ l) := by
      have : (k : Int) < (pieceAt pss x : Int) := g1
      unfold pieceAt at this
      omega
    exact Bool.eq_false_iff.mpr fun z => by
      have := List.not_of_lt_findIdx h1
      rw [z] at this
      cases this
end FF
namespace FF
open PySem PySem.Spec PyProof.Rows L2
/-! ### tuple * int, from 0 on -/
theorem tuple_mulW1 (l : Addr) (items : Array Value) (n : Nat) (dd : Option Addr) (sl : Array (Option Value)) (u : Tok) :
    Meets (Builtin.«tuple.__mul__» ⟨[.ref l, .int 1 u], []⟩) (fun _ R s => s.heap.get? l = some { cls := .type "tuple", dict := dd, data := .seq items n, slots := sl } ∧ R (.ok (.ret (Value.ref l))) s) :=
  .of_wp fun prog w A R s h => by
    obtain ⟨hp, g, d, tk, os⟩ := s
    obtain ⟨hl, h⟩ := h
    have f1 := AutoSeq1.idx_int
    have c0 : (decide ((1 : Int) < -(2 ^ 63)) || decide ((1 : Int) ≥ 2 ^ 63)) = false := by decide
    have c1 : (items.isEmpty || (1 : Int) == 1) = true := by rw [Bool.or_eq_true]; exact .inr rfl
    wp_walk using AutoSeq1.wpAny_loadPart' hl
    repeat (first
      | (refine wpAny_ite_false (decide_eq_false (by rw [c0]; exact Bool.false_ne_true)) ?_; wp_walk using AutoSeq1.wpAny_loadPart' hl)
      | (refine wpAny_ite_true (decide_eq_true c1) ?_; wp_walk using AutoSeq1.wpAny_loadPart' hl))
    exact ⟨_, rfl, h⟩
theorem tuple_mulW0 (l : Addr) (items : Array Value) (n : Nat) (dd : Option Addr) (sl : Array (Option Value)) (u : Tok) (hi : items.isEmpty = false) :
    Meets (Builtin.«tuple.__mul__» ⟨[.ref l, .int 0 u], []⟩) (fun _ R s => s.heap.get? l = some { cls := .type "tuple", dict := dd, data := .seq items n, slots := sl } ∧
      R (.ok (.ret (Value.ref s.heap.objs.size))) { s with heap := s.heap.push { cls := Value.type "tuple", data := Data.seq #[] }, toks := s.toks }) :=
  .of_wp fun prog w A R s h => by
    obtain ⟨hp, g, d, tk, os⟩ := s
    obtain ⟨hl, h⟩ := h
    have f1 := AutoSeq1.idx_int
    have c0 : (decide ((0 : Int) < -(2 ^ 63)) || decide ((0 : Int) ≥ 2 ^ 63)) = false := by decide
    have c1 : (items.isEmpty || (0 : Int) == 1) = false := by rw [hi]; rfl
    have c2 : (decide ((0 : Int) ≤ 0) || items.isEmpty) = true := by rw [hi]; rfl
    wp_walk using AutoSeq1.wpAny_loadPart' hl
    repeat (first
      | (refine wpAny_ite_false (decide_eq_false (by rw [c0]; exact Bool.false_ne_true)) ?_; wp_walk using AutoSeq1.wpAny_loadPart' hl)
      | (refine wpAny_ite_false (decide_eq_false (by rw [c1]; exact Bool.false_ne_true)) ?_; wp_walk using AutoSeq1.wpAny_loadPart' hl)
      | (refine wpAny_ite_true (decide_eq_true c2) ?_; wp_walk using AutoSeq1.wpAny_loadPart' hl))
    exact ⟨_, rfl, h⟩
def rRepU (K : PySem.W.Frag) : R2 := fun x y H Q => ∃ l k xs, x = .ref l ∧ y = .int k ∧ H l = some (.tup xs) ∧ xs ≠ [] ∧ 0 ≤ k ∧ k ≤ 1000 ∧ xs.length ≤ 1000 ∧ ∀ p H', Ke H H' → H' p = some (.tup (List.replicate k.toNat xs).flatten) → Q (.ref p) H'
section
variable {X : Cx}
theorem repU {K : PySem.W.Frag} (h : X.K = K := by rfl) : OpR X (binaryOp .Mult) (rRepU K) := by
  intro pins s σ H x y v u Q I rx ry hq
  obtain ⟨l, k, xs, e1, e2, hT, hne, h1, h2, hz, q⟩ := hq
  by_cases c : 2 ≤ k
  · exact op_repT pins s σ H x y v u Q I rx ry ⟨l, k, xs, e1, e2, sqT_of hT, hne, c, h2, hz, fun p np => q p _ (Ke.new np) upd_same⟩
  · subst e1 e2
    cases rx
    obtain ⟨t, rfl⟩ := ry
    obtain ⟨its, r, ⟨⟨cls, dd, data, sl⟩, ho, hc, n, hd⟩, hs⟩ := I.tuple (sqT_of hT)
    simp only at hc hd
    subst hc hd
    have hle : its.length = xs.length := r.length.symm
    have hi : its.toArray.isEmpty = false := by
      cases its with
      | nil => exact absurd (List.eq_nil_of_length_eq_zero hle.symm) hne
      | cons a b => rfl
    by_cases c1 : k = 1
    · subst c1
      refine wpAny_binaryOp_repeat_ref (T := "tuple") (U := "int") (by decide) ⟨_, ho, rfl⟩ (fun s' => typeIs_int s' 1 t) noFill_tuple_mul F.fills_int_mul F.slot_int_rmul repeat_tuple F.slot_int_index.lookup
        (call_meets F.slot_int_rmul (typeIs_int s 1 t) F.entry_int_rmul (F.args_int_rmul_2 _ _) (int_rmul_tuple 1 t l its.toArray n dd sl)
          ⟨ho, rfl, ⟨_, ho, rfl⟩, call_meets F.slot_tuple_mul ⟨_, ho, rfl⟩ F.entry_tuple_mul (F.args_tuple_mul_2 _ _) (tuple_mulW1 l its.toArray n dd sl t) ⟨ho, ?_⟩⟩)
      refine ⟨.ref l, H, I, rfl, q l H .refl ?_⟩
      rw [hT]
      show _ = some (HO.tup (xs ++ []))
      rw [List.append_nil]
    · have c0 : k = 0 := by omega
      subst c0
      refine wpAny_binaryOp_repeat_ref (T := "tuple") (U := "int") (by decide) ⟨_, ho, rfl⟩ (fun s' => typeIs_int s' 0 t) noFill_tuple_mul F.fills_int_mul F.slot_int_rmul repeat_tuple F.slot_int_index.lookup
        (call_meets F.slot_int_rmul (typeIs_int s 0 t) F.entry_int_rmul (F.args_int_rmul_2 _ _) (int_rmul_tuple 0 t l its.toArray n dd sl)
          ⟨ho, rfl, ⟨_, ho, rfl⟩, call_meets F.slot_tuple_mul ⟨_, ho, rfl⟩ F.entry_tuple_mul (F.args_tuple_mul_2 _ _) (tuple_mulW0 l its.toArray n dd sl t hi) ⟨ho, ?_⟩⟩)
      refine ⟨.ref s.heap.objs.size, _, I.laid (t' := s.toks) (o := .tup []) (fun b ob q => Heap.get?_push_of_some _ q) (Nat.le_refl _) ?_, rfl, q _ _ (Ke.new (I.hok.fresh (Nat.le_refl _))) upd_same⟩
      exact ⟨Nat.zero_le _, [], .nil, IsTup.new _ _⟩
end
end FF
namespace FF
open PySem PySem.Spec PyProof.Rows L2
/-! ### hung forests -/
structure Nd where
  top : Int
  dep : Int
  up : Option (Int × Int)
def Nd.vals (d : Nd) : List V := match d.up with
  | none => [.int d.top, .int d.dep, .non, .non]
  | some (y, m) => [.int d.top, .int d.dep, .int y, .int m]
theorem Nd.vals0 (d : Nd) : d.vals[0]? = some (.int d.top) := by
  unfold Nd.vals
  split <;> rfl
theorem Nd.vals1 (d : Nd) : d.vals[1]? = some (.int d.dep) := by
  unfold Nd.vals
  split <;> rfl
theorem Nd.vals2 {d : Nd} {y m : Int} (h : d.up = some (y, m)) : d.vals[2]? = some (.int y) := by
  unfold Nd.vals
  rw [h]
  rfl
theorem Nd.vals3 {d : Nd} {y m : Int} (h : d.up = some (y, m)) : d.vals[3]? = some (.int m) := by
  unfold Nd.vals
  rw [h]
  rfl
abbrev Nds := List (Option Nd)
def atN (ds : Nds) (x : Int) : Option Nd := ds.getD x.toNat none
theorem atN_set {ds : Nds} {x y : Int} {o : Option Nd} (x0 : 0 ≤ x) (x1 : x < ds.length) (y0 : 0 ≤ y) : atN (ds.set x.toNat o) y = if y = x then o else atN ds y := by
  unfold atN
  rw [List.getD_eq_getElem?_getD, List.getD_eq_getElem?_getD, List.getElem?_set]
  by_cases e : y = x
  · subst e
    rw [if_pos rfl, if_pos rfl, if_pos (by omega)]
    rfl
  · rw [if_neg e, if_neg (by omega)]
theorem atN_get {ds : Nds} {x : Int} (x0 : 0 ≤ x) (x1 : x < ds.length) : ds[x.toNat]? = some (atN ds x) := by
  unfold atN
  rw [List.getD_eq_getElem?_getD, List.getElem?_eq_getElem (by omega)]
  rfl
/-- a node's value -/
def NdV (H : Hp) (v : V) : Option Nd → Prop
  | none => v = .non
  | some d => ∃ q, v = .ref q ∧ H q = some (.tup d.vals)
theorem NdV.mono {H H' : Hp} {v : V} {o : Option Nd} (h : NdV H v o) (k : ∀ q xs, H q = some (.tup xs) → H' q = some (.tup xs)) : NdV H' v o := by
  cases o with
  | none => exact h
  | some d =>
    obtain ⟨q, e, z⟩ := h
    exact ⟨q, e, k _ _ z⟩
structure Hg (H : Hp) (h : Addr) (ds : Nds) : Prop where
  ex : ∃ vs, H h = some (.lst vs) ∧ vs.length = ds.length ∧ ∀ (i : Nat) o, ds[i]? = some o → ∃ v, vs[i]? = some v ∧ NdV H v o
theorem Hg.kx {S : Addr → Prop} {H H' : Hp} {h : Addr} {ds : Nds} (g : Hg H h ds) (k : Kx S H H') (n : ¬ S h) (nt : ∀ q xs, H q = some (.tup xs) → ¬ S q) : Hg H' h ds := by
  obtain ⟨vs, e, l, r⟩ := g.ex
  exact ⟨vs, k.at_ _ _ e (fun _ z => nomatch z) n, l, fun i o ho => by
    obtain ⟨v, hv, z⟩ := r i o ho
    exact ⟨v, hv, z.mono fun q xs e => k.tup e (nt q xs e)⟩⟩
theorem Hg.ke {H H' : Hp} {h : Addr} {ds : Nds} (g : Hg H h ds) (k : Ke H H') : Hg H' h ds := g.kx k (fun z => z) fun _ _ _ z => z
/-- the value at a point -/
theorem Hg.val {K : PySem.W.Frag} {H : Hp} {h : Addr} {ds : Nds} (g : Hg H h ds) {x : Int} (x0 : 0 ≤ x) (x1 : x < ds.length) : ∃ vs v, SqL K H h vs ∧ atI vs x = some v ∧ NdV H v (atN ds x) := by
  obtain ⟨vs, e, l, r⟩ := g.ex
  obtain ⟨v, hv, z⟩ := r x.toNat _ (atN_get x0 x1)
  obtain ⟨j, rfl⟩ : ∃ j : Nat, x = j := ⟨x.toNat, by omega⟩
  exact ⟨vs, v, sqL_of e, atI_nat (by simpa using hv), z⟩
/-- a point is hung -/
theorem Hg.set {H : Hp} {h q : Addr} {ds : Nds} (g : Hg H h ds) {x : Int} (x0 : 0 ≤ x) (x1 : x < ds.length) {d : Nd} (hq : H q = some (.tup d.vals)) : ∃ vs, H h = some (.lst vs) ∧ vs.length = ds.length ∧ Hg (upd H h (.lst (vs.set x.toNat (.ref q)))) h (ds.set x.toNat (some d)) := by
  obtain ⟨vs, e, l, r⟩ := g.ex
  have kt : ∀ (a : Addr) xs, H a = some (.tup xs) → upd H h (.lst (vs.set x.toNat (.ref q))) a = some (.tup xs) := fun a xs z => by rw [upd_ne (ne_of z e (fun w => nomatch w))]; exact z
  refine ⟨vs, e, l, ⟨_, upd_same, by rw [List.length_set, List.length_set]; exact l, fun i o ho => ?_⟩⟩
  rw [List.getElem?_set] at ho ⊢
  by_cases c : x.toNat = i
  · rw [if_pos c, if_pos (by omega)] at ho
    rw [if_pos c, if_pos (by omega)]
    cases ho
    exact ⟨_, rfl, q, rfl, kt _ _ hq⟩
  · rw [if_neg c] at ho ⊢
    obtain ⟨v, hv, z⟩ := r i o ho
    exact ⟨v, hv, z.mono kt⟩
/-! ### steps from point to point -/
structure Stp (H : Hp) (s : Addr) (qs : List Addr) (adj : List (List (Int × Int))) : Prop where
  at_ : H s = some (.lst (qs.map V.ref))
  len : qs.length = adj.length
  nd : qs.Nodup
  out : s ∉ qs
  each : ∀ (i : Nat) q, qs[i]? = some q → ∃ rs, H q = some (.lst rs) ∧ Ties H rs (adj.getD i [])
theorem Stp.kx {S : Addr → Prop} {H H' : Hp} {s : Addr} {qs : List Addr} {adj : List (List (Int × Int))} (g : Stp H s qs adj) (k : Kx S H H') (n : ¬ S s) (nq : ∀ q ∈ qs, ¬ S q) (nt : ∀ q xs, H q = some (.tup xs) → ¬ S q) : Stp H' s qs adj :=
  ⟨k.at_ _ _ g.at_ (fun _ z => nomatch z) n, g.len, g.nd, g.out, fun i q hq => by
    obtain ⟨rs, e, t⟩ := g.each i q hq
    exact ⟨rs, k.at_ _ _ e (fun _ z => nomatch z) (nq q (List.mem_of_getElem? hq)), t.mono fun a xs z => k.tup z (nt a xs z)⟩⟩
theorem Stp.ke {H H' : Hp} {s : Addr} {qs : List Addr} {adj : List (List (Int × Int))} (g : Stp H s qs adj) (k : Ke H H') : Stp H' s qs adj := g.kx k (fun z => z) (fun _ _ z => z) fun _ _ _ z => z
/-- one step more from a point -/
theorem Stp.put {H : Hp} {s : Addr} {qs : List Addr} {adj : List (List (Int × Int))} (g : Stp H s qs adj) {i : Nat} {q e : Addr} {rs : List V} {y m : Int} (hq : qs[i]? = some q) (hr : H q = some (.lst rs)) (he : H e = some (.tup [.int y, .int m])) : Stp (upd H q (.lst (rs ++ [.ref e]))) s qs (adj.set i (adj.getD i [] ++ [(y, m)])) := by
  have hm := List.mem_of_getElem? hq
  have kt : ∀ (a : Addr) xs, H a = some (.tup xs) → upd H q (.lst (rs ++ [.ref e])) a = some (.tup xs) := fun a xs z => by rw [upd_ne (ne_of z hr (fun w => nomatch w))]; exact z
  have hil : i < qs.length := (List.getElem?_eq_some_iff.mp hq).1
  refine ⟨by rw [upd_ne (show s ≠ q from fun z => g.out (z ▸ hm))]; exact g.at_, by rw [List.length_set]; exact g.len, g.nd, g.out, fun j q' hq' => ?_⟩
  by_cases c : j = i
  · subst c
    rw [hq] at hq'
    cases hq'
    obtain ⟨rs', e', t⟩ := g.each j q hq
    rw [hr] at e'
    cases e'
    refine ⟨_, upd_same, ?_⟩
    rw [List.getD_eq_getElem?_getD, List.getElem?_set, if_pos rfl, if_pos (by rw [← g.len]; exact hil)]
    exact (t.mono kt).append (Ties.one (kt _ _ he))
  · have hne : q' ≠ q := fun z => by
      obtain ⟨l1, e1⟩ := List.getElem?_eq_some_iff.mp hq
      obtain ⟨l2, e2⟩ := List.getElem?_eq_some_iff.mp hq'
      exact c ((List.getElem_inj g.nd).mp (e2.trans (z.trans e1.symm)))
    obtain ⟨rs', e', t⟩ := g.each j q' hq'
    refine ⟨rs', by rw [upd_ne hne]; exact e', ?_⟩
    rw [List.getD_eq_getElem?_getD, List.getElem?_set, if_neg (fun z => c z.symm), ← List.getD_eq_getElem?_getD]
    exact t.mono kt
def stp (adj : List (List (Int × Int))) (x : Int) : List (Int × Int) := adj.getD x.toNat []
/-- a tie m leads from x to y -/
def Leads (ts : List (Int × Int)) (m x y : Int) : Prop := ts.getD m.toNat (0, 0) = (x, y) ∨ ts.getD m.toNat (0, 0) = (y, x)
theorem Leads.symm {ts : List (Int × Int)} {m x y : Int} (h : Leads ts m x y) : Leads ts m y x := h.elim .inr .inl
structure Adj (n : Int) (ts : List (Int × Int)) (ms : List Int) (adj : List (List (Int × Int))) : Prop where
  len : (adj.length : Int) = n
  mem : ∀ x y m, 0 ≤ x → x < n → ((y, m) ∈ stp adj x ↔ m ∈ ms ∧ Leads ts m x y)
/-! ### hung in part -/
structure NdOk (n : Int) (ts : List (Int × Int)) (ms : List Int) (ds : Nds) (x : Int) (d : Nd) : Prop where
  rng : 0 ≤ d.top ∧ d.top < n
  topd : atN ds d.top = some ⟨d.top, 0, none⟩
  root : d.up = none → d.top = x ∧ d.dep = 0
  step : ∀ y m, d.up = some (y, m) → (0 ≤ y ∧ y < n) ∧ (m ∈ ms ∧ Leads ts m x y) ∧ ∃ d', atN ds y = some d' ∧ d'.top = d.top ∧ d'.dep + 1 = d.dep
  pos : 0 ≤ d.dep
structure Ext (n : Int) (ds ds' : Nds) : Prop where
  len : ds'.length = ds.length
  keep : ∀ x d, 0 ≤ x → x < n → atN ds x = some d → atN ds' x = some d
theorem Ext.refl {n : Int} {ds : Nds} : Ext n ds ds := ⟨rfl, fun _ _ _ _ h => h⟩
theorem Ext.trans {n : Int} {a b c : Nds} (h : Ext n a b) (k : Ext n b c) : Ext n a c := ⟨k.len.trans h.len, fun x d x0 x1 e => k.keep x d x0 x1 (h.keep x d x0 x1 e)⟩
theorem NdOk.ext {n : Int} {ts : List (Int × Int)} {ms : List Int} {ds ds' : Nds} {x : Int} {d : Nd} (h : NdOk n ts ms ds x d) (k : Ext n ds ds') : NdOk n ts ms ds' x d :=
  ⟨h.rng, k.keep _ _ h.rng.1 h.rng.2 h.topd, h.root, fun y m e => by
    obtain ⟨a, b, d', c, r⟩ := h.step y m e
    exact ⟨a, b, d', k.keep _ _ a.1 a.2 c, r⟩, h.pos⟩
structure Part (n : Int) (ts : List (Int × Int)) (ms : List Int) (adj : List (List (Int × Int))) (ds : Nds) (op : Int → Prop) : Prop where
  len : (ds.length : Int) = n
  ok : ∀ x d, 0 ≤ x → x < n → atN ds x = some d → NdOk n ts ms ds x d
  closed : ∀ x d, 0 ≤ x → x < n → atN ds x = some d → ¬ op x → ∀ y m, (y, m) ∈ stp adj x → ∃ d', atN ds y = some d' ∧ d'.top = d.top
/-- how many are not hung -/
def bareN (ds : Nds) : Nat := ds.countP Option.isNone
theorem bareN_set : ∀ {ds : Nds} {i : Nat} {d : Nd}, ds[i]? = some none → bareN (ds.set i (some d)) + 1 = bareN ds
  | [], i, d, h => by simp at h
  | o :: r, 0, d, h => by
    have : o = none := by simpa using h
    subst this
    unfold bareN
    rw [List.set_cons_zero, List.countP_cons, List.countP_cons]
    simp
  | o :: r, i + 1, d, h => by
    have ih := bareN_set (ds := r) (i := i) (d := d) (by simpa using h)
    unfold bareN at *
    rw [List.set_cons_succ, List.countP_cons, List.countP_cons]
    omega
/-- a new point is hung -/
theorem Part.hang {n : Int} {ts : List (Int × Int)} {ms : List Int} {adj : List (List (Int × Int))} {ds : Nds} {op : Int → Prop} (h : Part n ts ms adj ds op) {x : Int} {d : Nd} (x0 : 0 ≤ x) (x1 : x < n) (hn : atN ds x = none) (hd : NdOk n ts ms (ds.set x.toNat (some d)) x d) :
    Ext n ds (ds.set x.toNat (some d)) ∧ Part n ts ms adj (ds.set x.toNat (some d)) (fun y => op y ∨ y = x) := by
  have hl := h.len
  have e : ∀ y, 0 ≤ y → atN (ds.set x.toNat (some d)) y = if y = x then some d else atN ds y := fun y y0 => atN_set x0 (by omega) y0
  have ext : Ext n ds (ds.set x.toNat (some d)) := ⟨List.length_set .., fun y d' y0 y1 hy => by
    rw [e y y0, if_neg (fun z => by rw [z, hn] at hy; cases hy)]
    exact hy⟩
  refine ⟨ext, by rw [List.length_set]; exact hl, fun y d' y0 y1 hy => ?_, fun y d' y0 y1 hy hop z m hz => ?_⟩
  · rw [e y y0] at hy
    by_cases c : y = x
    · rw [if_pos c] at hy
      cases hy
      subst c
      exact hd
    · rw [if_neg c] at hy
      exact (h.ok y d' y0 y1 hy).ext ext
  · have c : y ≠ x := fun c => hop (.inr c)
    rw [e y y0, if_neg c] at hy
    obtain ⟨d2, h2, h3⟩ := h.closed y d' y0 y1 hy (fun w => hop (.inl w)) z m hz
    by_cases cz : z = x
    · rw [cz, hn] at h2
      cases h2
    · refine ⟨d2, ?_, h3⟩
      by_cases z0 : 0 ≤ z
      · rw [e z z0, if_neg cz]
        exact h2
      · unfold atN at h2 ⊢
        rw [List.getD_eq_getElem?_getD, List.getElem?_set]
        rw [List.getD_eq_getElem?_getD] at h2
        have : z.toNat = 0 := by omega
        by_cases c0 : x.toNat = z.toNat
        · have : x = 0 := by omega
          have h3 : atN ds x = some d2 := by
            unfold atN
            rw [List.getD_eq_getElem?_getD, c0]
            exact h2
          rw [hn] at h3
          cases h3
        · rw [if_neg c0]
          exact h2
theorem Part.weak {n : Int} {ts : List (Int × Int)} {ms : List Int} {adj : List (List (Int × Int))} {ds : Nds} {op op' : Int → Prop} (h : Part n ts ms adj ds op) (k : ∀ x, 0 ≤ x → x < n → op x → op' x) : Part n ts ms adj ds op' :=
  ⟨h.len, h.ok, fun x d x0 x1 hx no y m hy => h.closed x d x0 x1 hx (fun z => no (k x x0 x1 z)) y m hy⟩
theorem while_gh {α : Type} {c : TT} {tb : TS} {D : Ends} {σ : L2.St} {H : Hp} (Pv : α → L2.St → Hp → Prop) (μ : α → Nat) (a0 : α) (h0 : Pv a0 σ H)
    (hs : ∀ a σ H, Pv a σ H → c σ H fun b H1 => if b = true then tb { D with nx := fun σ' H' => ∃ a', μ a' < μ a ∧ Pv a' σ' H', ct := fun σ' H' => ∃ a', μ a' < μ a ∧ Pv a' σ' H', bk := D.nx } σ H1 else D.nx σ H1)
    (mono : ∀ σ H Q Q', (∀ b H1, Q b H1 → Q' b H1) → c σ H Q → c σ H Q') : tWhile c tb D σ H := by
  refine ⟨fun m σ H => ∃ a, m = μ a ∧ Pv a σ H, ⟨_, a0, rfl, h0⟩, ?_⟩
  rintro m σ H ⟨a, rfl, p⟩
  refine mono σ H _ _ (fun b H1 q => ?_) (hs a σ H p)
  cases b with
  | true => exact ⟨_, fun σ' H' ⟨a', l, p'⟩ => ⟨_, l, a', rfl, p'⟩, q⟩
  | false => exact q
theorem Part.close {n : Int} {ts : List (Int × Int)} {ms : List Int} {adj : List (List (Int × Int))} {ds : Nds} {op : Int → Prop} {p : Int} (h : Part n ts ms adj ds (fun x => op x ∨ x = p)) {d : Nd} (hp : atN ds p = some d) (k : ∀ y m, (y, m) ∈ stp adj p → ∃ d', atN ds y = some d' ∧ d'.top = d.top) : Part n ts ms adj ds op :=
  ⟨h.len, h.ok, fun x d' x0 x1 hx no y m hy => by
    by_cases c : x = p
    · subst c
      rw [hp] at hx
      cases hx
      exact k y m hy
    · exact h.closed x d' x0 x1 hx (fun z => z.elim no c) y m hy⟩
/-- points that wait -/
def Wait (n : Int) (ds : Nds) (top : Int) (ws : List Int) : Prop := ∀ x ∈ ws, (0 ≤ x ∧ x < n) ∧ ∃ d, atN ds x = some d ∧ d.top = top
theorem Wait.ext {n : Int} {ds ds' : Nds} {top : Int} {ws : List Int} (h : Wait n ds top ws) (k : Ext n ds ds') : Wait n ds' top ws := fun x hx => by
  obtain ⟨r, d, e, t⟩ := h x hx
  exact ⟨r, d, k.keep x d r.1 r.2 e, t⟩
theorem stp_get {adj : List (List (Int × Int))} {x : Int} : stp adj x = adj.getD x.toNat [] := rfl
theorem Stp.at_pt {H : Hp} {s : Addr} {qs : List Addr} {adj : List (List (Int × Int))} (g : Stp H s qs adj) {x : Int} (x0 : 0 ≤ x) (x1 : x < adj.length) : ∃ q rs, q ∈ qs ∧ qs[x.toNat]? = some q ∧ atI (qs.map V.ref) x = some (.ref q) ∧ H q = some (.lst rs) ∧ Ties H rs (stp adj x) := by
  have hl := g.len
  have hx : x.toNat < qs.length := by omega
  have hq := List.getElem?_eq_getElem hx
  obtain ⟨rs, e, t⟩ := g.each _ _ hq
  obtain ⟨j, rfl⟩ : ∃ j : Nat, x = j := ⟨x.toNat, by omega⟩
  refine ⟨_, rs, List.getElem_mem hx, hq, atI_nat (by rw [List.getElem?_map]; simp only [Int.toNat_natCast] at hq; rw [hq]; rfl), e, t⟩
theorem Leads.rng {n : Int} {ts : List (Int × Int)} {m x y : Int} (h : Leads ts m x y) (ok : TOk n [ts.getD m.toNat (0, 0)]) : 0 ≤ y ∧ y < n := by
  have := ok _ List.mem_cons_self
  rcases h with h | h
  · rw [h] at this
    dsimp only at this
    omega
  · rw [h] at this
    dsimp only at this
    omega
/-- hung whole -/
structure Hung (n : Int) (ts : List (Int × Int)) (ms : List Int) (ds : Nds) : Prop where
  len : (ds.length : Int) = n
  all : ∀ x, 0 ≤ x → x < n → ∃ d, atN ds x = some d ∧ NdOk n ts ms ds x d
  tie : ∀ m x y, m ∈ ms → Leads ts m x y → 0 ≤ x → x < n → ∀ dx dy, atN ds x = some dx → atN ds y = some dy → dx.top = dy.top
theorem Part.hung {n : Int} {ts : List (Int × Int)} {ms : List Int} {adj : List (List (Int × Int))} {ds : Nds} (h : Part n ts ms adj ds (fun _ => False)) (hA : Adj n ts ms adj) (ha : ∀ x, 0 ≤ x → x < n → atN ds x ≠ none) : Hung n ts ms ds := by
  refine ⟨h.len, fun x x0 x1 => ?_, fun m x y hm hl x0 x1 dx dy hx hy => ?_⟩
  · cases e : atN ds x with
    | none => exact absurd e (ha x x0 x1)
    | some d => exact ⟨d, rfl, h.ok x d x0 x1 e⟩
  · obtain ⟨d', e, t⟩ := h.closed x dx x0 x1 hx (fun z => z) y m ((hA.mem x y m x0 x1).mpr ⟨hm, hl⟩)
    rw [hy] at e
    cases e
    exact t.symm
theorem atN_rep {n : Nat} {x : Int} : atN (List.replicate n none) x = none := by
  unfold atN
  rw [List.getD_eq_getElem?_getD, List.getElem?_replicate]
  split <;> rfl
theorem Part.start {n : Int} (h : 0 ≤ n) (ts : List (Int × Int)) (ms : List Int) (adj : List (List (Int × Int))) : Part n ts ms adj (List.replicate n.toNat none) (fun _ => False) :=
  ⟨by rw [List.length_replicate]; omega, (fun x d _ _ e => by rw [atN_rep] at e; cases e), (fun x d _ _ e => by rw [atN_rep] at e; cases e)⟩
theorem Adj.start {n : Int} (h : 0 ≤ n) (ts : List (Int × Int)) : Adj n ts [] (List.replicate n.toNat []) :=
  ⟨by rw [List.length_replicate]; omega, fun x y m _ _ => by
    unfold stp
    rw [List.getD_eq_getElem?_getD, List.getElem?_replicate]
    constructor
    · intro z
      split at z <;> exact nomatch z
    · intro z
      exact nomatch z.1⟩
theorem stp_set {adj : List (List (Int × Int))} {i x : Int} {l : List (Int × Int)} (i0 : 0 ≤ i) (i1 : i < adj.length) (x0 : 0 ≤ x) : stp (adj.set i.toNat l) x = if x = i then l else stp adj x := by
  unfold stp
  rw [List.getD_eq_getElem?_getD, List.getD_eq_getElem?_getD, List.getElem?_set]
  by_cases e : x = i
  · subst e
    rw [if_pos rfl, if_pos rfl, if_pos (by omega)]
    rfl
  · rw [if_neg e, if_neg (by omega)]
theorem Adj.more {n : Int} {ts : List (Int × Int)} {ms : List Int} {adj : List (List (Int × Int))} (h : Adj n ts ms adj) {m a b : Int} (hm : ts.getD m.toNat (0, 0) = (a, b)) (a0 : 0 ≤ a) (hab : a < b) (b1 : b < n) :
    Adj n ts (ms ++ [m]) ((adj.set a.toNat (stp adj a ++ [(b, m)])).set b.toNat (stp (adj.set a.toNat (stp adj a ++ [(b, m)])) b ++ [(a, m)])) := by
  have hl := h.len
  refine ⟨by rw [List.length_set, List.length_set]; exact hl, fun x y k x0 x1 => ?_⟩
  have e2 : stp (adj.set a.toNat (stp adj a ++ [(b, m)])) b = stp adj b := by rw [stp_set a0 (by omega) (by omega), if_neg (by omega)]
  have e3 : stp (adj.set a.toNat (stp adj a ++ [(b, m)])) x = if x = a then stp adj a ++ [(b, m)] else stp adj x := stp_set a0 (by omega) x0
  rw [stp_set (i := b) (by omega) (by rw [List.length_set]; omega) x0, e2, e3, List.mem_append, List.mem_singleton]
  have ih := h.mem x y k x0 x1
  have key : Leads ts m x y ↔ (a = x ∧ b = y) ∨ (a = y ∧ b = x) := by
    unfold Leads
    rw [hm, Prod.mk.injEq, Prod.mk.injEq]
  by_cases c1 : x = b
  · rw [if_pos c1, List.mem_append, List.mem_singleton, Prod.mk.injEq]
    subst c1
    rw [ih]
    constructor
    · rintro (⟨z1, z2⟩ | ⟨z1, z2⟩)
      · exact ⟨.inl z1, z2⟩
      · subst z1 z2
        exact ⟨.inr rfl, key.mpr (.inr ⟨rfl, rfl⟩)⟩
    · rintro ⟨z1 | z1, z2⟩
      · exact .inl ⟨z1, z2⟩
      · subst z1
        rcases key.mp z2 with z | z
        · omega
        · exact .inr ⟨z.1.symm, rfl⟩
  · rw [if_neg c1]
    by_cases c2 : x = a
    · rw [if_pos c2, List.mem_append, List.mem_singleton, Prod.mk.injEq]
      subst c2
      rw [ih]
      constructor
      · rintro (⟨z1, z2⟩ | ⟨z1, z2⟩)
        · exact ⟨.inl z1, z2⟩
        · subst z1 z2
          exact ⟨.inr rfl, key.mpr (.inl ⟨rfl, rfl⟩)⟩
      · rintro ⟨z1 | z1, z2⟩
        · exact .inl ⟨z1, z2⟩
        · subst z1
          rcases key.mp z2 with z | z
          · exact .inr ⟨z.2.symm, rfl⟩
          · omega
    · rw [if_neg c2, ih]
      constructor
      · rintro ⟨z1, z2⟩
        exact ⟨.inl z1, z2⟩
      · rintro ⟨z1 | z1, z2⟩
        · exact ⟨z1, z2⟩
        · subst z1
          rcases key.mp z2 with z | z <;> omega
theorem rep_nons (n : Nat) : (List.replicate n [V.non]).flatten = List.replicate n V.non := by
  induction n with
  | zero => rfl
  | succ n ih =>
    rw [List.replicate_succ, List.replicate_succ, List.flatten_cons, ih]
    rfl
theorem Hg.start {H : Hp} {h : Addr} {n : Nat} (e : H h = some (.lst (List.replicate n V.non))) : Hg H h (List.replicate n none) :=
  ⟨_, e, by rw [List.length_replicate, List.length_replicate], fun i o ho => by
    rw [List.getElem?_replicate] at ho ⊢
    split at ho
    · rename_i c
      cases ho
      rw [if_pos c]
      exact ⟨_, rfl, rfl⟩
    · cases ho⟩
end FF
namespace FF
open PySem PySem.Spec PyProof.Rows L2
/-! ### ways along ties -/
inductive Way (ts : List (Int × Int)) : Int → List Int → Int → Prop where
  | nil (x : Int) : Way ts x [] x
  | cons {m x y z : Int} {l : List Int} : Leads ts m x y → Way ts y l z → Way ts x (m :: l) z
theorem Way.append {ts : List (Int × Int)} {x y z : Int} {l k : List Int} (h : Way ts x l y) (g : Way ts y k z) : Way ts x (l ++ k) z := by
  induction h with
  | nil x => exact g
  | cons hl _ ih => exact .cons hl (ih g)
theorem Way.snoc {ts : List (Int × Int)} {x y z m : Int} {l : List Int} (h : Way ts x l y) (g : Leads ts m y z) : Way ts x (l ++ [m]) z := h.append (.cons g (.nil z))
theorem Way.rev {ts : List (Int × Int)} {x y : Int} {l : List Int} (h : Way ts x l y) : Way ts y l.reverse x := by
  induction h with
  | nil x => exact .nil x
  | cons hl _ ih =>
    rw [List.reverse_cons]
    exact ih.snoc hl.symm
def depN (ds : Nds) (x : Int) : Int := match atN ds x with
  | some d => d.dep
  | none => 0
def tieN (ds : Nds) (x : Int) : Int := match atN ds x with
  | some ⟨_, _, some (_, m)⟩ => m
  | _ => 0
theorem depN_of {ds : Nds} {x : Int} {d : Nd} (h : atN ds x = some d) : depN ds x = d.dep := by
  unfold depN
  rw [h]
theorem tieN_of {ds : Nds} {x y m : Int} {d : Nd} (h : atN ds x = some d) (hu : d.up = some (y, m)) : tieN ds x = m := by
  unfold tieN
  rw [h]
  obtain ⟨a, b, c⟩ := d
  dsimp only at hu
  subst hu
  rfl
/-- a point that hangs below another -/
def Low (n : Int) (ds : Nds) (x : Int) : Prop := (0 ≤ x ∧ x < n) ∧ ∃ d y m, atN ds x = some d ∧ d.up = some (y, m)
section
variable {n : Int} {ts : List (Int × Int)} {ms : List Int} {ds : Nds}
theorem Hung.nd (h : Hung n ts ms ds) {x : Int} {d : Nd} (x0 : 0 ≤ x) (x1 : x < n) (e : atN ds x = some d) : NdOk n ts ms ds x d := by
  obtain ⟨d', e', k⟩ := h.all x x0 x1
  rw [e] at e'
  cases e'
  exact k
theorem Hung.dep_pos (h : Hung n ts ms ds) {x : Int} (x0 : 0 ≤ x) (x1 : x < n) : 0 ≤ depN ds x := by
  obtain ⟨d, e, k⟩ := h.all x x0 x1
  rw [depN_of e]
  exact k.pos
theorem Hung.inj (h : Hung n ts ms ds) {x y : Int} (hx : Low n ds x) (hy : Low n ds y) (e : tieN ds x = tieN ds y) : x = y := by
  obtain ⟨⟨x0, x1⟩, dx, ux, mx, ex, hux⟩ := hx
  obtain ⟨⟨y0, y1⟩, dy, uy, my, ey, huy⟩ := hy
  rw [tieN_of ex hux, tieN_of ey huy] at e
  subst e
  obtain ⟨⟨u0, u1⟩, ⟨_, lx⟩, d1, e1, _, p1⟩ := (h.nd x0 x1 ex).step _ _ hux
  obtain ⟨⟨w0, w1⟩, ⟨_, ly⟩, d2, e2, _, p2⟩ := (h.nd y0 y1 ey).step _ _ huy
  have key : x = y ∨ (x = uy ∧ y = ux) := by
    rcases lx with lx | lx <;> rcases ly with ly | ly <;> rw [lx, Prod.mk.injEq] at ly
    · exact .inl ly.1
    · exact .inr ⟨ly.1, ly.2.symm⟩
    · exact .inr ⟨ly.2, ly.1.symm⟩
    · exact .inl ly.2
  rcases key with k | ⟨k1, k2⟩
  · exact k
  · subst k1 k2
    rw [ex] at e2
    rw [ey] at e1
    cases e1
    cases e2
    omega
end
/-- what the climbing has so far: points climbed from a (xs) and from b (ys), where it stands -/
structure Climb (n : Int) (ts : List (Int × Int)) (ds : Nds) (a0 b0 : Int) (xs ys : List Int) (a b : Int) : Prop where
  ra : 0 ≤ a ∧ a < n
  rb : 0 ≤ b ∧ b < n
  wa : Way ts a0 (xs.map (tieN ds)) a
  wb : Way ts b0 (ys.map (tieN ds)) b
  lx : ∀ x ∈ xs, Low n ds x ∧ depN ds a < depN ds x ∧ depN ds b ≤ depN ds x ∧ x ≠ b
  ly : ∀ y ∈ ys, Low n ds y ∧ depN ds b < depN ds y ∧ depN ds a < depN ds y
  nd : (xs ++ ys).Nodup
  tp : ∀ da db, atN ds a = some da → atN ds b = some db → da.top = db.top
section
variable {n : Int} {ts : List (Int × Int)} {ms : List Int} {ds : Nds} {a0 b0 a b : Int} {xs ys : List Int}
theorem Climb.upA (c : Climb n ts ds a0 b0 xs ys a b) (h : Hung n ts ms ds) (hab : a ≠ b) (hd : depN ds b ≤ depN ds a) {da : Nd} (ea : atN ds a = some da) : ∃ y m, da.up = some (y, m) ∧ m ∈ ms ∧ depN ds y + 1 = depN ds a ∧ Climb n ts ds a0 b0 (xs ++ [a]) ys y b := by
  obtain ⟨a0', a1'⟩ := c.ra
  obtain ⟨b0', b1'⟩ := c.rb
  have ka := h.nd a0' a1' ea
  obtain ⟨db, eb, kb⟩ := h.all b b0' b1'
  have htp := c.tp da db ea eb
  rw [depN_of ea, depN_of eb] at hd
  cases eu : da.up with
  | none =>
    obtain ⟨r1, r2⟩ := ka.root eu
    have hb0 : db.dep = 0 := by have := kb.pos; omega
    cases eub : db.up with
    | none =>
      obtain ⟨s1, _⟩ := kb.root eub
      exact absurd (r1.symm.trans (htp.trans s1)) hab
    | some p =>
      obtain ⟨_, _, d', e', _, p'⟩ := kb.step p.1 p.2 eub
      have hp := (kb.step p.1 p.2 eub).1
      have := (h.nd hp.1 hp.2 e').pos
      omega
  | some p =>
    obtain ⟨y, m⟩ := p
    obtain ⟨⟨y0, y1⟩, ⟨hm, hl⟩, d', e', t', p'⟩ := ka.step y m eu
    have edy : depN ds y + 1 = depN ds a := by rw [depN_of e', depN_of ea]; exact p'
    have hlow : Low n ds a := ⟨c.ra, da, y, m, ea, eu⟩
    refine ⟨y, m, rfl, hm, edy, ⟨y0, y1⟩, c.rb, ?_, c.wb, fun x hx => ?_, fun z hz => ?_, ?_, fun d1 d2 e1 e2 => ?_⟩
    · rw [List.map_append, List.map_cons, List.map_nil, tieN_of ea eu]
      exact c.wa.snoc hl
    · rcases List.mem_append.mp hx with hx | hx
      · obtain ⟨l1, l2, l3, l4⟩ := c.lx x hx
        exact ⟨l1, by omega, l3, l4⟩
      · rw [List.mem_singleton.mp hx]
        exact ⟨hlow, by omega, by rw [depN_of ea, depN_of eb]; exact hd, hab⟩
    · obtain ⟨l1, l2, l3⟩ := c.ly z hz
      exact ⟨l1, l2, by omega⟩
    · have nd := c.nd
      rw [List.nodup_append] at nd ⊢
      obtain ⟨n1, n2, n3⟩ := nd
      refine ⟨?_, n2, fun x hx z hz => ?_⟩
      · rw [List.nodup_append]
        refine ⟨n1, by simp, fun x hx z hz => ?_⟩
        rw [List.mem_singleton.mp hz]
        intro e
        have := (c.lx x hx).2.1
        rw [e] at this
        omega
      · rcases List.mem_append.mp hx with hx | hx
        · exact n3 x hx z hz
        · rw [List.mem_singleton.mp hx]
          intro e
          have := (c.ly z hz).2.2
          rw [e] at this
          omega
    · rw [e'] at e1
      cases e1
      rw [eb] at e2
      cases e2
      rw [t']
      exact htp
theorem Climb.upB (c : Climb n ts ds a0 b0 xs ys a b) (h : Hung n ts ms ds) (hd : depN ds a < depN ds b) {db : Nd} (eb : atN ds b = some db) : ∃ y m, db.up = some (y, m) ∧ m ∈ ms ∧ depN ds y + 1 = depN ds b ∧ Climb n ts ds a0 b0 xs (ys ++ [b]) a y := by
  obtain ⟨a0', a1'⟩ := c.ra
  obtain ⟨b0', b1'⟩ := c.rb
  have kb := h.nd b0' b1' eb
  obtain ⟨da, ea, ka⟩ := h.all a a0' a1'
  have htp := c.tp da db ea eb
  cases eu : db.up with
  | none =>
    obtain ⟨_, r2⟩ := kb.root eu
    rw [depN_of ea, depN_of eb] at hd
    have := ka.pos
    omega
  | some p =>
    obtain ⟨y, m⟩ := p
    obtain ⟨⟨y0, y1⟩, ⟨hm, hl⟩, d', e', t', p'⟩ := kb.step y m eu
    have edy : depN ds y + 1 = depN ds b := by rw [depN_of e', depN_of eb]; exact p'
    have hlow : Low n ds b := ⟨c.rb, db, y, m, eb, eu⟩
    refine ⟨y, m, rfl, hm, edy, c.ra, ⟨y0, y1⟩, c.wa, ?_, fun x hx => ?_, fun z hz => ?_, ?_, fun d1 d2 e1 e2 => ?_⟩
    · rw [List.map_append, List.map_cons, List.map_nil, tieN_of eb eu]
      exact c.wb.snoc hl
    · obtain ⟨l1, l2, l3, l4⟩ := c.lx x hx
      refine ⟨l1, l2, by omega, fun e => ?_⟩
      rw [e] at l3
      omega
    · rcases List.mem_append.mp hz with hz | hz
      · obtain ⟨l1, l2, l3⟩ := c.ly z hz
        exact ⟨l1, by omega, l3⟩
      · rw [List.mem_singleton.mp hz]
        exact ⟨hlow, by omega, hd⟩
    · have nd := c.nd
      rw [← List.append_assoc, List.nodup_append]
      refine ⟨nd, by simp, fun x hx z hz => ?_⟩
      rw [List.mem_singleton.mp hz]
      intro e
      rcases List.mem_append.mp hx with hx | hx
      · exact (c.lx x hx).2.2.2 e
      · have := (c.ly x hx).2.1
        rw [e] at this
        omega
    · rw [e'] at e2
      cases e2
      rw [ea] at e1
      cases e1
      rw [t']
      exact htp
/-- the ring that comes of it -/
structure IsRing (ts : List (Int × Int)) (ms : List Int) (a b : Int) (ns : List Int) : Prop where
  way : Way ts a ns b
  nd : ns.Nodup
  mem : ∀ m ∈ ns, m ∈ ms
theorem nodup_map {f : Int → Int} : ∀ {l : List Int}, l.Nodup → (∀ x ∈ l, ∀ y ∈ l, f x = f y → x = y) → (l.map f).Nodup
  | [], _, _ => List.nodup_nil
  | x :: r, h, k => by
    obtain ⟨h1, h2⟩ := List.nodup_cons.mp h
    rw [List.map_cons, List.nodup_cons]
    refine ⟨fun z => ?_, nodup_map h2 fun a ha b hb => k a (List.mem_cons_of_mem _ ha) b (List.mem_cons_of_mem _ hb)⟩
    obtain ⟨y, hy, e⟩ := List.mem_map.mp z
    have := k y (List.mem_cons_of_mem _ hy) x List.mem_cons_self e
    exact h1 (this ▸ hy)
theorem Climb.ring (c : Climb n ts ds a0 b0 xs ys a a) (h : Hung n ts ms ds) : IsRing ts ms a0 b0 (xs.map (tieN ds) ++ (ys.map (tieN ds)).reverse) := by
  have low : ∀ x ∈ xs ++ ys, Low n ds x := fun x hx => (List.mem_append.mp hx).elim (fun hx => (c.lx x hx).1) fun hx => (c.ly x hx).1
  refine ⟨c.wa.append c.wb.rev, ?_, fun m hm => ?_⟩
  · have nd := nodup_map (f := tieN ds) c.nd fun x hx y hy e => h.inj (low x hx) (low y hy) e
    rw [List.map_append] at nd
    exact ((List.Perm.refl _).append (List.reverse_perm _)).symm.nodup nd
  · have : m ∈ (xs ++ ys).map (tieN ds) := by
      rw [List.map_append, List.mem_append]
      rcases List.mem_append.mp hm with hm | hm
      · exact .inl hm
      · exact .inr (List.mem_reverse.mp hm)
    obtain ⟨x, hx, e⟩ := List.mem_map.mp this
    obtain ⟨⟨x0, x1⟩, d, y, k, ed, eu⟩ := low x hx
    rw [← e, tieN_of ed eu]
    exact ((h.nd x0 x1 ed).step y k eu).2.1.1
theorem Climb.len (c : Climb n ts ds a0 b0 xs ys a b) : xs.length ≤ n.toNat ∧ ys.length ≤ n.toNat := by
  have nd := c.nd
  rw [List.nodup_append] at nd
  refine ⟨?_, ?_⟩
  · have := nd_le nd.1 (m := upTo n) fun x hx => upTo_mem.mpr (c.lx x hx).1.1
    rw [upTo_length] at this
    exact this
  · have := nd_le nd.2.1 (m := upTo n) fun x hx => upTo_mem.mpr (c.ly x hx).1.1
    rw [upTo_length] at this
    exact this
end
/-! ### joined by the ties: the roots tell -/
theorem foldR_fine {g : Int → Int} : ∀ {L : List (Int × Int)} {r : Int → Int}, (∀ x y, r x = r y → g x = g y) → (∀ t ∈ L, g t.1 = g t.2) → ∀ x y, foldR r L x = foldR r L y → g x = g y
  | [], _, h, _, x, y, e => h x y e
  | t :: L, r, h, k, x, y, e => by
    refine foldR_fine (L := L) (r := rstep r t) (fun x y e => ?_) (fun u hu => k u (List.mem_cons_of_mem _ hu)) x y e
    have kt := k t List.mem_cons_self
    unfold rstep at e
    by_cases c1 : r x = r t.2
    · rw [if_pos c1] at e
      by_cases c2 : r y = r t.2
      · exact h x y (c1.trans c2.symm)
      · rw [if_neg c2] at e
        exact (h x t.2 c1).trans (kt.symm.trans (h t.1 y e))
    · rw [if_neg c1] at e
      by_cases c2 : r y = r t.2
      · rw [if_pos c2] at e
        exact (h x t.1 e).trans (kt.trans (h t.2 y c2.symm))
      · rw [if_neg c2] at e
        exact h x y e
theorem Leads.foldR {ts : List (Int × Int)} {ms : List Int} {m x y : Int} (hm : m ∈ ms) (h : Leads ts m x y) : FF.foldR (fun x => x) (pick ts ms) x = FF.foldR (fun x => x) (pick ts ms) y := by
  have hp : ts.getD m.toNat (0, 0) ∈ pick ts ms := List.mem_map.mpr ⟨m, hm, rfl⟩
  have := foldR_tie (r := fun x => x) hp
  rcases h with h | h
  · rw [h] at this
    exact this
  · rw [h] at this
    exact this.symm
section
variable {n : Int} {ts : List (Int × Int)} {ms : List Int} {ds : Nds}
theorem Hung.root (h : Hung n ts ms ds) : ∀ (k : Nat) {x : Int} {d : Nd}, 0 ≤ x → x < n → atN ds x = some d → d.dep = k → foldR (fun x => x) (pick ts ms) x = foldR (fun x => x) (pick ts ms) d.top := by
  intro k
  induction k with
  | zero =>
    intro x d x0 x1 e hd
    cases eu : d.up with
    | none => rw [((h.nd x0 x1 e).root eu).1]
    | some p =>
      obtain ⟨hp, _, d', e', _, p'⟩ := (h.nd x0 x1 e).step p.1 p.2 eu
      have := (h.nd hp.1 hp.2 e').pos
      have hd : d.dep = 0 := hd
      omega
  | succ k ih =>
    intro x d x0 x1 e hd
    cases eu : d.up with
    | none =>
      have := ((h.nd x0 x1 e).root eu).2
      omega
    | some p =>
      obtain ⟨hp, ⟨hm, hl⟩, d', e', t', p'⟩ := (h.nd x0 x1 e).step p.1 p.2 eu
      have := ih hp.1 hp.2 e' (by omega)
      rw [Leads.foldR hm hl, this, t']
theorem Hung.top_iff (h : Hung n ts ms ds) (hm : ∀ m ∈ ms, TOk n [ts.getD m.toNat (0, 0)]) {a b : Int} {da db : Nd} (a0 : 0 ≤ a) (a1 : a < n) (b0 : 0 ≤ b) (b1 : b < n) (ea : atN ds a = some da) (eb : atN ds b = some db) : da.top = db.top ↔ foldR (fun x => x) (pick ts ms) a = foldR (fun x => x) (pick ts ms) b := by
  constructor
  · intro e
    have ha := h.root da.dep.toNat a0 a1 ea (by have := (h.nd a0 a1 ea).pos; omega)
    have hb := h.root db.dep.toNat b0 b1 eb (by have := (h.nd b0 b1 eb).pos; omega)
    rw [ha, hb, e]
  · intro e
    have key := foldR_fine (g := fun x => match atN ds x with | some d => d.top | none => -1) (L := pick ts ms) (r := fun x => x) (fun x y e => by rw [e]) (fun t ht => by
      obtain ⟨m, hmm, rfl⟩ := List.mem_map.mp ht
      obtain ⟨t0, t1, t2⟩ := hm m hmm _ List.mem_cons_self
      have ld : Leads ts m (ts.getD m.toNat (0, 0)).1 (ts.getD m.toNat (0, 0)).2 := .inl rfl
      generalize ts.getD m.toNat (0, 0) = tm at *
      obtain ⟨d1, e1, _⟩ := h.all tm.1 t0 (by omega)
      obtain ⟨d2, e2, _⟩ := h.all tm.2 (by omega) t2
      show (match atN ds tm.1 with | some d => d.top | none => -1) = match atN ds tm.2 with | some d => d.top | none => -1
      rw [e1, e2]
      exact h.tie m _ _ hmm ld t0 (by omega) d1 d2 e1 e2) a b e
    rw [ea, eb] at key
    exact key
end
theorem nums_at {f : Int} : ∀ {i : Nat} {ws : List V} {m : Int}, m ∈ numsFrom f i ws → ∃ k : Nat, m = ((i + k : Nat) : Int) ∧ ws[k]? = some (.int f)
  | _, [], _, h => nomatch h
  | i, x :: ws, m, h => by
    rcases List.mem_append.mp h with h | h
    · by_cases e : x = V.int f
      · rw [if_pos e] at h
        exact ⟨0, by rw [List.mem_singleton.mp h]; rfl, by rw [e]; rfl⟩
      · rw [if_neg e] at h
        cases h
    · obtain ⟨k, e1, e2⟩ := nums_at h
      exact ⟨k + 1, by rw [e1]; congr 1; omega, by simpa using e2⟩
theorem Way.inv {ts : List (Int × Int)} {x z m : Int} {l : List Int} (h : Way ts x (m :: l) z) : ∃ y, Leads ts m x y ∧ Way ts y l z := by
  cases h with
  | cons a b => exact ⟨_, a, b⟩
theorem Way.stop {ts : List (Int × Int)} {x z : Int} (h : Way ts x [] z) : x = z := by
  cases h
  rfl
theorem nub_of_nd : ∀ {ns : List Int}, ns.Nodup → (nub ns).length = ns.length := fun {ns} h => nd_eq (nub_nd ns) h fun x => mem_nub ns x
end FF
namespace FF
open PySem PySem.Spec PyProof.Rows L2
/-! ### sum of a tuple of ints -/
section
variable {X : Cx} {K : PySem.W.Frag}
def rSumT (K : PySem.W.Frag) : List V → Hp → VK → Prop := fun vs H Q => ∃ (a : Addr) (ns : List Int), vs = [V.ref a] ∧ SqT K H a (ns.map V.int) ∧ Q (.int ns.sum) H
theorem sumT (hc : X.calm = true) (h : X.K = K := by rfl) : CallR X (.builtin "sum") (rSumT K) := by
  subst h
  intro pins s σ H vs us Q I r hq
  obtain ⟨a, ns, rfl, hs, q⟩ := hq
  obtain ⟨its, rv, hl, _⟩ := I.tuple hs
  rw [Vals.ref1 r]
  have hi : IntsAre its ns := rv.ints
  obtain ⟨xs, e⟩ := hi.allInts.items
  have hn : numsOf (intItems xs).toList = ns := by rw [← e]; exact hi.numsOf
  rw [nums_intItems] at hn
  have hl2 : s.heap.IsTuple a (intItems xs) := by
    rw [← e]
    exact hl
  refine PySem.W.ktm_sumG (I.ok.hd hc) hl2 fun h' tk t' hk => ?_
  rw [preSum_eq, List.take_of_length_le (by simp), hn]
  exact ⟨.int _, H, I.kept hk, ⟨_, rfl⟩, q⟩
end
end FF
namespace FF
open PySem PySem.Spec PyProof.Rows L2
/-! ### first fit in fewer forests -/
theorem layerOf_none_tail {ts : List (Int × Int)} {ws : List V} {i k : Nat} (f : Int) (hi : i ≤ ts.length) (hw : i ≤ ws.length) : layerOf ts (ws.take i ++ List.replicate k .non) f = layerOf (ts.take i) (ws.take i) f := by
  have h1 : layerOf ts (ws.take i ++ List.replicate k .non) f = layerOf (ts.take i ++ ts.drop i) (ws.take i ++ List.replicate k .non) f := by rw [List.take_append_drop]
  rw [h1]
  unfold layerOf
  rw [List.zip_append (by rw [List.length_take, List.length_take]; omega), List.filter_append, List.map_append]
  have : (((ts.drop i).zip (List.replicate k V.non)).filter fun p => decide (p.2 = V.int f)) = [] := List.filter_eq_nil_iff.mpr fun p hp => by
    have := (List.of_mem_zip hp).2
    rw [List.eq_of_mem_replicate this, decide_eq_false (fun z => nomatch z)]
    decide
  rw [this]
  simp
theorem FF.take {k : Int} {ts : List (Int × Int)} {ws : List V} (h : FF k ts ws) (i : Nat) : FF k (ts.take i) (ws.take i) := by
  refine ⟨by rw [List.length_take, List.length_take, h.len], fun j t x ht hx => ?_⟩
  have hj : j < i := by
    have := (List.getElem?_eq_some_iff.mp ht).1
    rw [List.length_take] at this
    omega
  rw [List.getElem?_take_of_lt hj] at ht hx
  rw [List.take_take, List.take_take, Nat.min_eq_left (by omega)]
  exact h.each j t x ht hx
theorem FF.joined {k : Int} {ts : List (Int × Int)} {ws : List V} (h : FF k ts ws) (i : Nat) (t : Int × Int) (f : Int) : (foldR (fun x => x) (layerOf (ts.take i) (ws.take i) f) t.1 = foldR (fun x => x) (layerOf (ts.take i) (ws.take i) f) t.2) ↔ freeB (ts.take i) (ws.take i) t f = false := by
  rw [freeB_eq ((h.take i).forest f)]
  constructor
  · intro e
    rw [decide_eq_true e]
    rfl
  · intro e
    by_cases c : foldR (fun x => x) (layerOf (ts.take i) (ws.take i) f) t.1 = foldR (fun x => x) (layerOf (ts.take i) (ws.take i) f) t.2
    · exact c
    · rw [decide_eq_false c] at e
      cases e
theorem layerOf_congr {f : Int} : ∀ {ts : List (Int × Int)} {ws ws' : List V}, ws.length = ws'.length → (∀ (j : Nat) x y, ws[j]? = some x → ws'[j]? = some y → (x = V.int f ↔ y = V.int f)) → layerOf ts ws f = layerOf ts ws' f
  | [], _, _, _, _ => rfl
  | t :: ts, [], [], _, _ => rfl
  | t :: ts, x :: ws, y :: ws', hl, h => by
    have ih := layerOf_congr (f := f) (ts := ts) (ws := ws) (ws' := ws') (by simpa using hl) fun j a b ha hb => h (j + 1) a b (by simpa using ha) (by simpa using hb)
    have h0 := h 0 x y rfl rfl
    unfold layerOf at ih ⊢
    rw [List.zip_cons_cons, List.zip_cons_cons, List.filter_cons, List.filter_cons]
    by_cases c : x = V.int f
    · rw [if_pos (decide_eq_true c), if_pos (decide_eq_true (h0.mp c)), List.map_cons, List.map_cons, ih]
    · rw [if_neg (by rw [decide_eq_false c]; decide), if_neg (by rw [decide_eq_false fun z => c (h0.mpr z)]; decide), ih]
theorem FF.more {k K : Int} {ts : List (Int × Int)} {ws ws' : List V} (h : FF k ts ws) (h' : FF K ts ws') (hk : k ≤ K) : ∀ (i : Nat) x y, ws[i]? = some x → ws'[i]? = some y → ∀ f, f < k → (x = V.int f ↔ y = V.int f) := by
  intro i
  induction i using Nat.strongRecOn with
  | _ i ih =>
    intro x y hx hy f hf
    have hil := (List.getElem?_eq_some_iff.mp hx).1
    have hit : i < ts.length := by rw [← h.len]; exact hil
    have ht := List.getElem?_eq_getElem hit
    have c := h.each i _ x ht hx
    have c' := h'.each i _ y ht hy
    have fr : ∀ g, g < k → freeB (ts.take i) (ws.take i) ts[i] g = freeB (ts.take i) (ws'.take i) ts[i] g := fun g hg => by
      unfold freeB
      rw [layerOf_congr (ws := ws.take i) (ws' := ws'.take i) (by rw [List.length_take, List.length_take, h.len, h'.len]) fun j a b ha hb => ?_]
      have hj : j < i := by
        have := (List.getElem?_eq_some_iff.mp ha).1
        rw [List.length_take] at this
        omega
      rw [List.getElem?_take_of_lt hj] at ha hb
      exact ih j hj a b ha hb g hg
    constructor
    · intro e
      subst e
      cases c with
      | at_ f0 f1 ff fb =>
        cases c' with
        | out z =>
          have := z f f0 (by omega)
          rw [← fr f hf, ff] at this
          cases this
        | @at_ g g0 g1 gf gb =>
          by_cases c1 : g < f
          · have := fb g g0 c1
            rw [fr g (by omega), gf] at this
            cases this
          · by_cases c2 : f < g
            · have := gb f f0 c2
              rw [← fr f hf, ff] at this
              cases this
            · rw [show g = f by omega]
    · intro e
      subst e
      cases c' with
      | at_ g0 g1 gf gb =>
        cases c with
        | out z =>
          have := z f g0 hf
          rw [fr f hf, gf] at this
          cases this
        | @at_ g f0 f1 ff fb =>
          by_cases c1 : f < g
          · have := fb f g0 c1
            rw [fr f hf, gf] at this
            cases this
          · by_cases c2 : g < f
            · have := gb g f0 c2
              rw [← fr g f1, ff] at this
              cases this
            · rw [show g = f by omega]
end FF
namespace FF
open PySem PySem.Spec PyProof.Rows L2
/-! ### two points with many ties -/
def dueV (k : Int) (i : Nat) : V := if (i : Int) < k then .int i else .non
def due (k : Int) (m : Nat) : List V := (List.range m).map (dueV k)
theorem due_length (k : Int) (m : Nat) : (due k m).length = m := by
  unfold due
  rw [List.length_map, List.length_range]
theorem due_get {k : Int} {m i : Nat} (h : i < m) : (due k m)[i]? = some (dueV k i) := by
  unfold due
  rw [List.getElem?_map, List.getElem?_range h]
  rfl
theorem due_take {k : Int} {m i : Nat} (h : i ≤ m) : (due k m).take i = due k i := by
  unfold due
  rw [← List.map_take, List.take_range, Nat.min_eq_left h]
theorem due_isO (k : Int) (m : Nat) : ∀ x ∈ due k m, IsO x := fun x hx => by
  unfold due at hx
  obtain ⟨i, _, rfl⟩ := List.mem_map.mp hx
  unfold dueV
  split
  · exact .inr ⟨_, rfl⟩
  · exact .inl rfl
theorem due_succ (k : Int) (m : Nat) : due k (m + 1) = due k m ++ [dueV k m] := by
  unfold due
  rw [List.range_succ, List.map_append]
  rfl
theorem due_layer {k : Int} (a b : Int) {f : Int} (f0 : 0 ≤ f) : ∀ m : Nat, layerOf (List.replicate m (a, b)) (due k m) f = if f < k ∧ f < m then [(a, b)] else []
  | 0 => by
    rw [if_neg (by omega)]
    rfl
  | m + 1 => by
    have e : List.replicate (m + 1) (a, b) = List.replicate m (a, b) ++ [(a, b)] := by
      rw [List.replicate_succ']
    rw [e, due_succ, layerOf_snoc (by rw [List.length_replicate, due_length]), due_layer a b f0 m]
    unfold dueV
    by_cases c : (m : Int) < k
    · rw [if_pos c]
      by_cases c2 : f = m
      · subst c2
        rw [if_neg (by omega), if_pos rfl, if_pos (by omega)]
        rfl
      · rw [if_neg (fun z => c2 (V.int.inj z).symm), List.append_nil]
        by_cases c3 : f < k ∧ f < m
        · rw [if_pos c3, if_pos (by omega)]
        · rw [if_neg c3, if_neg (by omega)]
    · rw [if_neg c, if_neg (show ¬ V.non = V.int f from fun z => nomatch z), List.append_nil]
      by_cases c3 : f < k ∧ f < m
      · rw [if_pos c3, if_pos (by omega)]
      · rw [if_neg c3, if_neg (by omega)]
theorem free_two {a b : Int} (h : a ≠ b) : ringlessF (fun x => x) [(a, b)] = true := by
  show (if a = b then false else true) = true
  rw [if_neg h]
theorem ring_two {a b : Int} (h : a ≠ b) : ringlessF (fun x => x) [(a, b), (a, b)] = false := by
  show (if a = b then false else if rstep (fun x => x) (a, b) a = rstep (fun x => x) (a, b) b then false else true) = false
  rw [if_neg h, if_pos]
  unfold rstep
  rw [if_neg h, if_pos rfl]
theorem due_free {k : Int} {a b : Int} (h : a ≠ b) {f : Int} (f0 : 0 ≤ f) (hk : f < k) (m : Nat) : freeB (List.replicate m (a, b)) (due k m) (a, b) f = !decide (f < (m : Int)) := by
  unfold freeB
  rw [due_layer a b f0]
  by_cases c : f < (m : Int)
  · rw [if_pos ⟨hk, c⟩, decide_eq_true c]
    exact ring_two h
  · rw [if_neg (by omega), decide_eq_false c]
    exact free_two h
theorem due_FF {k : Int} {a b : Int} (h : a ≠ b) (m : Nat) : FF k (List.replicate m (a, b)) (due k m) := by
  refine ⟨by rw [due_length, List.length_replicate], fun i t x ht hx => ?_⟩
  have hi : i < m := by
    have := (List.getElem?_eq_some_iff.mp ht).1
    rw [List.length_replicate] at this
    exact this
  rw [List.getElem?_replicate, if_pos hi] at ht
  rw [due_get hi] at hx
  cases ht
  cases hx
  rw [List.take_replicate, Nat.min_eq_left (by omega), due_take (by omega)]
  unfold dueV
  by_cases c : (i : Int) < k
  · rw [if_pos c]
    refine .at_ (by omega) c ?_ fun g g0 g1 => ?_
    · rw [due_free h (by omega) c, decide_eq_false (by omega)]
      rfl
    · rw [due_free h g0 (by omega), decide_eq_true g1]
      rfl
  · rw [if_neg c]
    refine .out fun g g0 g1 => ?_
    rw [due_free h g0 g1, decide_eq_true (by omega)]
    rfl
theorem FF.unique {k : Int} {ts : List (Int × Int)} {ws ws' : List V} (h : FF k ts ws) (h' : FF k ts ws') : ws = ws' := by
  refine List.ext_getElem? fun i => ?_
  by_cases c : i < ts.length
  · have c1 : i < ws.length := by rw [h.len]; exact c
    have c2 : i < ws'.length := by rw [h'.len]; exact c
    have hx : ws[i]? = some ws[i] := List.getElem?_eq_getElem c1
    have hy : ws'[i]? = some ws'[i] := List.getElem?_eq_getElem c2
    have ht := List.getElem?_eq_getElem c
    rw [hx, hy]
    congr 1
    have key := h.more h' (Int.le_refl _) i _ _ hx hy
    have cx := h.each i _ _ ht hx
    have cy := h'.each i _ _ ht hy
    generalize ws[i] = x at *
    generalize ws'[i] = y at *
    cases cx with
    | at_ _ f1 _ _ => exact ((key _ f1).mp rfl).symm
    | out _ =>
      cases cy with
      | out _ => rfl
      | at_ _ f1 _ _ => exact absurd ((key _ f1).mpr rfl) (fun z => nomatch z)
  · rw [List.getElem?_eq_none (by rw [h.len]; omega), List.getElem?_eq_none (by rw [h'.len]; omega)]
theorem inside_rep (ls : List Int) (a b : Int) (m : Nat) : inside ls (List.replicate m (a, b)) = if a ∈ ls ∧ b ∈ ls then m else 0 := by
  unfold inside
  by_cases c : a ∈ ls ∧ b ∈ ls
  · rw [if_pos c, List.filter_eq_self.mpr fun t ht => by rw [List.eq_of_mem_replicate ht, decide_eq_true c.1, decide_eq_true c.2]; rfl, List.length_replicate]
  · rw [if_neg c, List.filter_eq_nil_iff.mpr fun t ht z => c ?_]
    · rfl
    · rw [List.eq_of_mem_replicate ht, Bool.and_eq_true_iff] at z
      exact ⟨of_decide_eq_true z.1, of_decide_eq_true z.2⟩
theorem due_nums {k f : Int} (f0 : 0 ≤ f) (hk : f < k) : ∀ m : Nat, f < m → ∀ x ∈ numsFrom f 0 (due k m), x = f := fun m hm x hx => by
  obtain ⟨j, e1, e2⟩ := nums_at hx
  have hj : j < m := by
    have := (List.getElem?_eq_some_iff.mp e2).1
    rw [due_length] at this
    exact this
  rw [due_get hj] at e2
  unfold dueV at e2
  by_cases c : (j : Int) < k
  · rw [if_pos c] at e2
    have := V.int.inj (Option.some.inj e2)
    omega
  · rw [if_neg c] at e2
    cases e2
theorem ring_one {ts : List (Int × Int)} {ms : List Int} {a b f : Int} {ns : List Int} (h : IsRing ts ms a b ns) (hab : a ≠ b) (hm : ∀ x ∈ ms, x = f) : ns = [f] := by
  have hw := h.way
  have hn := h.nd
  have ha : ∀ x ∈ ns, x = f := fun x hx => hm x (h.mem x hx)
  match ns with
  | [] => exact absurd hw.stop hab
  | [x] => rw [ha x List.mem_cons_self]
  | x :: y :: r =>
    have e1 := ha x List.mem_cons_self
    have e2 := ha y (List.mem_cons_of_mem _ List.mem_cons_self)
    rw [e1, e2] at hn
    exact absurd List.mem_cons_self (List.nodup_cons.mp hn).1
theorem rep_ones (n : Nat) (x : V) : (List.replicate ((n : Int)).toNat [x]).flatten = List.replicate n x := by
  rw [Int.toNat_natCast]
  induction n with
  | zero => rfl
  | succ n ih =>
    rw [List.replicate_succ, List.replicate_succ, List.flatten_cons, ih]
    rfl
theorem ties_rep {H : Hp} {c : Addr} {a b : Int} (h : H c = some (.tup [.int a, .int b])) : ∀ m : Nat, Ties H (List.replicate m (.ref c)) (List.replicate m (a, b))
  | 0 => .nil
  | m + 1 => .cons ⟨c, rfl, h⟩ (ties_rep h m)
theorem full_two {n k a b : Int} (h0 : 0 ≤ a) (h1 : a < b) (h2 : b < n) (m : Nat) : fullO n (List.replicate m (a, b)) k (some [.int a, .int b]) = decide (k < (m : Int)) := by
  refine ((Lot.two h0 h1 h2).full (List.replicate m (a, b)) k).trans ?_
  rw [inside_rep, if_pos ⟨List.mem_cons_self, List.mem_cons_of_mem _ List.mem_cons_self⟩]
  show decide ((m : Int) > k * (((2 : Nat) : Int) - 1)) = _
  rw [show k * (((2 : Nat) : Int) - 1) = k by omega]
theorem full_one {n k a b : Int} (h0 : 0 ≤ a) (h1 : a < b) (h2 : b < n) (m : Nat) : fullO n (List.replicate m (a, b)) k (some [.int a]) = false := by
  refine ((Lot.one h0 (show a < n by omega)).full (List.replicate m (a, b)) k).trans ?_
  rw [inside_rep, if_neg (fun z => by have := List.mem_singleton.mp z.2; omega)]
  show decide (((0 : Nat) : Int) > k * (((1 : Nat) : Int) - 1)) = _
  rw [show k * (((1 : Nat) : Int) - 1) = 0 by omega]
  rfl
theorem full_all {n k a b : Int} (h0 : 0 ≤ a) (h1 : a < b) (h2 : b < n) (m : Nat) : fullO n (List.replicate m (a, b)) k (some (rgV 0 n)) = decide ((m : Int) > k * (n - 1)) := by
  rw [rgV_ints]
  refine ((Lot.all (show 1 ≤ n by omega)).full (List.replicate m (a, b)) k).trans ?_
  have hm : ∀ x : Int, 0 ≤ x → x < n → x ∈ (List.range n.toNat).map fun (i : Nat) => (i : Int) := fun x x0 x1 => List.mem_map.mpr ⟨x.toNat, List.mem_range.mpr (by omega), by omega⟩
  rw [inside_rep, if_pos ⟨hm a h0 (by omega), hm b (by omega) h2⟩, List.length_map, List.length_range, Int.toNat_of_nonneg (by omega)]
theorem lay_high (ts : List (Int × Int)) (k : Int) (ws : List V) : layO ts k (some (ws ++ [.int k])) = false := by
  refine layO_bad (x := .int k) (List.mem_append_right _ List.mem_cons_self) ?_
  show isNum (.int k) 0 (k - 1) = false
  unfold isNum
  simp
  omega
theorem lay_pair {a b : Int} (h : a ≠ b) {m : Nat} (hm : 2 ≤ m) (k : Int) : layO (List.replicate m (a, b)) k (some ([.int 0, .int 0] ++ List.replicate (m - 2) V.non)) = false := by
  refine layO_ring (f := 0) List.mem_cons_self ?_
  have e := layerOf_none_tail (ts := List.replicate m (a, b)) (ws := [.int 0, .int 0]) (i := 2) (k := m - 2) 0
  rw [List.length_replicate] at e
  rw [show ([.int 0, .int 0] : List V) ++ List.replicate (m - 2) V.non = List.take 2 [.int 0, .int 0] ++ List.replicate (m - 2) V.non from rfl, e hm (Nat.le_refl _), List.take_replicate, Nat.min_eq_left hm]
  exact ring_two h
theorem ints_ty {H : Hp} (x : V) (ls : List Int) (h : x ∈ ls.map V.int) : ∃ nm, TyN H x nm := by
  obtain ⟨i, _, rfl⟩ := List.mem_map.mp h
  exact IsO.ty (.inr ⟨i, rfl⟩)
theorem fold_two {a b : Int} (h : a ≠ b) : foldR (fun x => x) [(a, b)] a = foldR (fun x => x) [(a, b)] b := by
  show rstep (fun x => x) (a, b) a = rstep (fun x => x) (a, b) b
  unfold rstep
  rw [if_neg h, if_pos rfl]
end FF
namespace FF
open PySem PySem.Spec PyProof.Rows L2
/-! ### forests in any order; ties on the way -/
theorem ringlessF_ker : ∀ (L : List (Int × Int)) {r r' : Int → Int}, (∀ x y, r x = r y ↔ r' x = r' y) → ringlessF r L = ringlessF r' L
  | [], _, _, _ => rfl
  | t :: L, r, r', h => by
    show (if r t.1 = r t.2 then false else ringlessF (rstep r t) L) = (if r' t.1 = r' t.2 then false else ringlessF (rstep r' t) L)
    by_cases c : r t.1 = r t.2
    · rw [if_pos c, if_pos ((h _ _).mp c)]
    · rw [if_neg c, if_neg (fun z => c ((h _ _).mpr z))]
      refine ringlessF_ker L fun x y => ?_
      have h1 := h x y
      have h2 := h x t.2
      have h3 := h y t.2
      have h4 := h x t.1
      have h5 := h y t.1
      have h6 := h t.1 x
      have h7 := h t.1 y
      unfold rstep
      by_cases a1 : r x = r t.2
      · rw [if_pos a1, if_pos (h2.mp a1)]
        by_cases a2 : r y = r t.2
        · rw [if_pos a2, if_pos (h3.mp a2)]
          exact ⟨fun _ => rfl, fun _ => rfl⟩
        · rw [if_neg a2, if_neg (fun z => a2 (h3.mpr z))]
          exact h7
      · rw [if_neg a1, if_neg (fun z => a1 (h2.mpr z))]
        by_cases a2 : r y = r t.2
        · rw [if_pos a2, if_pos (h3.mp a2)]
          exact h4
        · rw [if_neg a2, if_neg (fun z => a2 (h3.mpr z))]
          exact h1
theorem foldR_sub {r : Int → Int} {L L' : List (Int × Int)} (h : ∀ t ∈ L, t ∈ L') (x y : Int) (e : foldR r L x = foldR r L y) : foldR r L' x = foldR r L' y :=
  foldR_fine (fun _ _ z => foldR_keep z) (fun t ht => foldR_tie (r := r) (h t ht)) x y e
theorem ringlessF_swap (r : Int → Int) (t u : Int × Int) (L : List (Int × Int)) : ringlessF r (t :: u :: L) = ringlessF r (u :: t :: L) := by
  show (if r t.1 = r t.2 then false else if rstep r t u.1 = rstep r t u.2 then false else ringlessF (rstep (rstep r t) u) L) = (if r u.1 = r u.2 then false else if rstep r u t.1 = rstep r u t.2 then false else ringlessF (rstep (rstep r u) t) L)
  by_cases c1 : r t.1 = r t.2
  · rw [if_pos c1]
    by_cases c2 : r u.1 = r u.2
    · rw [if_pos c2]
    · rw [if_neg c2, if_pos]
      unfold rstep
      rw [c1]
  · rw [if_neg c1]
    by_cases c2 : r u.1 = r u.2
    · rw [if_pos c2, if_pos]
      unfold rstep
      rw [c2]
    · rw [if_neg c2]
      by_cases c3 : rstep r t u.1 = rstep r t u.2
      · rw [if_pos c3, if_pos]
        unfold rstep at c3 ⊢
        split at c3 <;> split at c3 <;> split <;> split <;> omega
      · rw [if_neg c3, if_neg]
        · refine ringlessF_ker L fun x y => ?_
          have k1 := foldR_sub (r := r) (L := [t, u]) (L' := [u, t]) (fun w hw => by simp at hw ⊢; exact hw.symm) x y
          have k2 := foldR_sub (r := r) (L := [u, t]) (L' := [t, u]) (fun w hw => by simp at hw ⊢; exact hw.symm) x y
          exact ⟨k1, k2⟩
        · intro z
          refine c3 ?_
          unfold rstep at z ⊢
          split at z <;> split at z <;> split <;> split <;> omega
theorem ringlessF_perm {L L' : List (Int × Int)} (h : L.Perm L') : ∀ r : Int → Int, ringlessF r L = ringlessF r L' := by
  induction h with
  | nil => exact fun _ => rfl
  | cons t _ ih =>
    intro r
    show (if r t.1 = r t.2 then false else ringlessF (rstep r t) _) = (if r t.1 = r t.2 then false else ringlessF (rstep r t) _)
    rw [ih]
  | swap t u L => exact fun r => ringlessF_swap r u t L
  | trans _ _ a b => exact fun r => (a r).trans (b r)
theorem forest_apart {r : Int → Int} {L L' : List (Int × Int)} {t : Int × Int} (hp : L.Perm (L' ++ [t])) (h : ringlessF r L = true) : foldR r L' t.1 ≠ foldR r L' t.2 := by
  rw [ringlessF_perm hp r] at h
  cases e : ringlessF r L' with
  | false =>
    rw [ringlessF_bad L' r [t] e] at h
    cases h
  | true =>
    rw [ringlessF_more e, Bool.not_eq_true'] at h
    exact of_decide_eq_false h
theorem but_perm {x : Int} {ms : List Int} (hn : ms.Nodup) (hx : x ∈ ms) : ms.Perm (but x ms ++ [x]) := by
  induction ms with
  | nil => cases hx
  | cons m ms ih =>
    obtain ⟨h1, h2⟩ := List.nodup_cons.mp hn
    by_cases c : m = x
    · subst c
      have e : but m (m :: ms) = ms := by
        unfold but
        rw [List.filter_cons_of_neg (by simp), List.filter_eq_self.mpr]
        intro y hy
        have c : ¬ y = m := fun z => h1 (by rw [← z]; exact hy)
        rw [decide_eq_false c]
        rfl
      rw [e]
      exact (List.perm_append_singleton m ms).symm
    · have hx' : x ∈ ms := (List.mem_cons.mp hx).resolve_left fun z => c z.symm
      have e : but x (m :: ms) = m :: but x ms := by
        unfold but
        rw [List.filter_cons_of_pos]
        rw [decide_eq_false c]
        rfl
      rw [e]
      exact (ih h2 hx').cons m
theorem mem_but {g x : Int} {ms : List Int} : x ∈ but g ms ↔ x ∈ ms ∧ x ≠ g := by
  unfold but
  rw [List.mem_filter, Bool.not_eq_true', decide_eq_false_iff_not]
theorem Way.joined {ts : List (Int × Int)} {ms : List Int} {x y : Int} {l : List Int} (h : Way ts x l y) (hm : ∀ m ∈ l, m ∈ ms) : foldR (fun x => x) (pick ts ms) x = foldR (fun x => x) (pick ts ms) y := by
  induction h with
  | nil x => rfl
  | cons hl _ ih => exact (hl.foldR (hm _ List.mem_cons_self)).trans (ih fun m hm' => hm m (List.mem_cons_of_mem _ hm'))
theorem Way.cut {ts : List (Int × Int)} : ∀ {l : List Int} {x z m : Int}, Way ts x l z → m ∈ l → ∃ (l1 l2 : List Int) (u v : Int), l = l1 ++ m :: l2 ∧ Way ts x l1 u ∧ Leads ts m u v ∧ Way ts v l2 z
  | k :: l, x, z, m, h, hm => by
    obtain ⟨y, h1, h2⟩ := h.inv
    by_cases c : m = k
    · subst c
      exact ⟨[], l, x, y, rfl, .nil x, h1, h2⟩
    · obtain ⟨l1, l2, u, v, e, w1, w2, w3⟩ := h2.cut ((List.mem_cons.mp hm).resolve_left c)
      exact ⟨k :: l1, l2, u, v, by rw [e]; rfl, .cons h1 w1, w2, w3⟩
/-- a tie of a forest is on the way from a to b just if without it they are apart -/
theorem IsRing.mem_iff {ts : List (Int × Int)} {ms ns : List Int} {a b : Int} (h : IsRing ts ms a b ns) (hf : ringlessF (fun x => x) (pick ts ms) = true) (hn : ms.Nodup) (x : Int) : x ∈ ns ↔ x ∈ ms ∧ foldR (fun x => x) (pick ts (but x ms)) a ≠ foldR (fun x => x) (pick ts (but x ms)) b := by
  constructor
  · intro hx
    have hxm := h.mem x hx
    refine ⟨hxm, fun e => ?_⟩
    obtain ⟨l1, l2, u, v, el, w1, w2, w3⟩ := h.way.cut hx
    have hnd := h.nd
    rw [el] at hnd
    have hnd' := List.nodup_append.mp hnd
    have hx1 : ∀ m ∈ l1, m ∈ but x ms := fun m hm => mem_but.mpr ⟨h.mem m (by rw [el]; exact List.mem_append_left _ hm), hnd'.2.2 m hm x List.mem_cons_self⟩
    have hx2 : ∀ m ∈ l2, m ∈ but x ms := fun m hm => mem_but.mpr ⟨h.mem m (by rw [el]; exact List.mem_append_right _ (List.mem_cons_of_mem _ hm)), fun z => (List.nodup_cons.mp hnd'.2.1).1 (z ▸ hm)⟩
    have e1 := w1.joined hx1
    have e2 := w3.joined hx2
    have e3 : foldR (fun x => x) (pick ts (but x ms)) u = foldR (fun x => x) (pick ts (but x ms)) v := e1.symm.trans (e.trans e2.symm)
    have hp : (pick ts ms).Perm (pick ts (but x ms) ++ [ts.getD x.toNat (0, 0)]) := by
      rw [show [ts.getD x.toNat (0, 0)] = pick ts [x] from rfl, ← pick_append]
      exact (but_perm hn hxm).map _
    have ha := forest_apart hp hf
    rcases w2 with w2 | w2
    · rw [w2] at ha
      exact ha e3
    · rw [w2] at ha
      exact ha e3.symm
  · intro ⟨_, hne⟩
    by_cases c : x ∈ ns
    · exact c
    · exact absurd (h.way.joined fun m hm => mem_but.mpr ⟨h.mem m hm, fun z => c (by rw [← z]; exact hm)⟩) hne
theorem rings_same {ts : List (Int × Int)} {ms ns ns' : List Int} {a b : Int} (h : IsRing ts ms a b ns) (h' : IsRing ts ms a b ns') (hf : ringlessF (fun x => x) (pick ts ms) = true) (hn : ms.Nodup) (x : Int) : x ∈ ns ↔ x ∈ ns' :=
  (h.mem_iff hf hn x).trans (h'.mem_iff hf hn x).symm
end FF
namespace FF
open PySem PySem.Spec PyProof.Rows L2
/-! ### a search along ties -/
theorem mem_nums {f : Int} : ∀ {i : Nat} {ws : List V} {k : Nat}, ws[k]? = some (.int f) → ((i + k : Nat) : Int) ∈ numsFrom f i ws := by
  intro i ws k h
  obtain ⟨hk, e⟩ := List.getElem?_eq_some_iff.mp h
  have e1 : ws = ws.take k ++ [V.int f] ++ ws.drop (k + 1) := take_rest h
  have app : ∀ (us : List V) (vs : List V) (i : Nat), ∀ x ∈ numsFrom f i us, x ∈ numsFrom f i (us ++ vs) := fun us vs => by
    induction vs generalizing us with
    | nil => intro i x hx; rw [List.append_nil]; exact hx
    | cons v vs ih =>
      intro i x hx
      rw [show us ++ v :: vs = (us ++ [v]) ++ vs by simp]
      refine ih _ i x ?_
      rw [nums_snoc]
      exact List.mem_append_left _ hx
  rw [e1]
  refine app _ _ i _ ?_
  rw [nums_snoc, if_pos rfl, List.length_take, Nat.min_eq_left (by omega)]
  exact List.mem_append_right _ List.mem_cons_self
structure Srch (n : Int) (ts : List (Int × Int)) (ms : List Int) (a : Int) (H : Hp) (fl : List (Int × Addr)) : Prop where
  nd : (fl.map Prod.fst).Nodup
  rng : ∀ x ∈ fl.map Prod.fst, 0 ≤ x ∧ x < n
  way : ∀ p ∈ fl, ∃ l : List Int, H p.2 = some (.tup (l.map V.int)) ∧ Way ts a l p.1 ∧ l.Nodup ∧ l.length < fl.length ∧ ∀ m ∈ l, m ∈ ms ∧ ∀ x y, Leads ts m x y → x ∈ fl.map Prod.fst
  first : a ∈ fl.map Prod.fst
theorem Srch.ke {n : Int} {ts : List (Int × Int)} {ms : List Int} {a : Int} {H H' : Hp} {fl : List (Int × Addr)} (h : Srch n ts ms a H fl) (k : ∀ q xs, H q = some (.tup xs) → H' q = some (.tup xs)) : Srch n ts ms a H' fl :=
  ⟨h.nd, h.rng, fun p hp => by
    obtain ⟨l, e, r⟩ := h.way p hp
    exact ⟨l, k _ _ e, r⟩, h.first⟩
theorem Srch.len {n : Int} {ts : List (Int × Int)} {ms : List Int} {a : Int} {H : Hp} {fl : List (Int × Addr)} (h : Srch n ts ms a H fl) : fl.length ≤ n.toNat := by
  have := nd_le h.nd (m := upTo n) fun x hx => List.mem_map.mpr ⟨x.toNat, List.mem_range.mpr (by have := h.rng x hx; omega), by have := h.rng x hx; omega⟩
  rw [List.length_map, upTo_length] at this
  exact this
theorem Srch.start {n : Int} {ts : List (Int × Int)} {ms : List Int} {a : Int} {H : Hp} {c : Addr} (a0 : 0 ≤ a) (a1 : a < n) (h : H c = some (.tup [])) : Srch n ts ms a H [(a, c)] :=
  ⟨by simp, fun x hx => by rw [List.mem_singleton.mp hx]; exact ⟨a0, a1⟩, fun p hp => by rw [List.mem_singleton.mp hp]; exact ⟨[], h, .nil _, List.nodup_nil, Nat.zero_lt_one, fun _ z => nomatch z⟩, List.mem_cons_self⟩
theorem Srch.at_ {n : Int} {ts : List (Int × Int)} {ms : List Int} {a : Int} {H : Hp} {fl : List (Int × Addr)} (h : Srch n ts ms a H fl) {x : Int} (hx : x ∈ fl.map Prod.fst) : ∃ (c : Addr) (l : List Int), valV (kvF fl) (Sum.inl x) = some (.ref c) ∧ H c = some (.tup (l.map V.int)) ∧ Way ts a l x ∧ l.Nodup ∧ l.length < fl.length ∧ ∀ m ∈ l, m ∈ ms ∧ ∀ x y, Leads ts m x y → x ∈ fl.map Prod.fst := by
  obtain ⟨p, hp, rfl⟩ := List.mem_map.mp hx
  obtain ⟨l, e, r⟩ := h.way p hp
  exact ⟨p.2, l, val_in h.nd hp, e, r⟩
theorem Srch.add {n : Int} {ts : List (Int × Int)} {ms : List Int} {a : Int} {H : Hp} {fl : List (Int × Addr)} (h : Srch n ts ms a H fl) {x y m : Int} {l : List Int} {c : Addr} (hx : x ∈ fl.map Prod.fst) (hw : Way ts a l x) (hl : l.Nodup) (hlen : l.length < fl.length) (hm : ∀ m ∈ l, m ∈ ms ∧ ∀ x y, Leads ts m x y → x ∈ fl.map Prod.fst)
    (mm : m ∈ ms) (hL : Leads ts m x y) (hy : y ∉ fl.map Prod.fst) (y0 : 0 ≤ y) (y1 : y < n) (hc : H c = some (.tup ((l ++ [m]).map V.int))) : Srch n ts ms a H (fl ++ [(y, c)]) := by
  have ek : (fl ++ [(y, c)]).map Prod.fst = fl.map Prod.fst ++ [y] := by rw [List.map_append]; rfl
  have el : (fl ++ [(y, c)]).length = fl.length + 1 := by rw [List.length_append]; rfl
  refine ⟨?_, fun z hz => ?_, fun p hp => ?_, by rw [ek]; exact List.mem_append_left _ h.first⟩
  · rw [ek, List.nodup_append]
    refine ⟨h.nd, by simp, fun u hu v hv => ?_⟩
    rw [List.mem_singleton.mp hv]
    exact fun z => hy (by rw [← z]; exact hu)
  · rw [ek] at hz
    rcases List.mem_append.mp hz with hz | hz
    · exact h.rng z hz
    · rw [List.mem_singleton.mp hz]
      exact ⟨y0, y1⟩
  · rw [ek, el]
    rcases List.mem_append.mp hp with hp | hp
    · obtain ⟨l', e, w, d, b, r⟩ := h.way p hp
      exact ⟨l', e, w, d, by omega, fun k hk => ⟨(r k hk).1, fun u v hu => List.mem_append_left _ ((r k hk).2 u v hu)⟩⟩
    · rw [List.mem_singleton.mp hp]
      refine ⟨l ++ [m], hc, hw.snoc hL, ?_, by rw [List.length_append]; show l.length + 1 < _; omega, fun k hk => ?_⟩
      · rw [List.nodup_append]
        refine ⟨hl, by simp, fun u hu v hv => ?_⟩
        rw [List.mem_singleton.mp hv]
        exact fun z => hy ((hm m (by rw [← z]; exact hu)).2 y x hL.symm)
      · rcases List.mem_append.mp hk with hk | hk
        · exact ⟨(hm k hk).1, fun u v hu => List.mem_append_left _ ((hm k hk).2 u v hu)⟩
        · rw [List.mem_singleton.mp hk]
          refine ⟨mm, fun u v hu => ?_⟩
          have : u = x ∨ u = y := by
            rcases hL with e1 | e1 <;> rcases hu with e2 | e2 <;> rw [e1] at e2 <;> injection e2 with p1 p2
            · exact .inl p1.symm
            · exact .inr p2.symm
            · exact .inr p1.symm
            · exact .inl p2.symm
          rcases this with rfl | rfl
          · exact List.mem_append_left _ hx
          · exact List.mem_append_right _ List.mem_cons_self
theorem Srch.ring {n : Int} {ts : List (Int × Int)} {ms : List Int} {a : Int} {H : Hp} {fl : List (Int × Addr)} (h : Srch n ts ms a H fl) {b : Int} (hb : b ∈ fl.map Prod.fst) : ∃ (c : Addr) (l : List Int), valV (kvF fl) (Sum.inl b) = some (.ref c) ∧ H c = some (.tup (l.map V.int)) ∧ IsRing ts ms a b l := by
  obtain ⟨c, l, e1, e2, w, d, _, r⟩ := h.at_ hb
  exact ⟨c, l, e1, e2, w, d, fun m hm => (r m hm).1⟩
/-- what is not found is apart -/
theorem Srch.apart {n : Int} {ts : List (Int × Int)} {ms : List Int} {a : Int} {H : Hp} {fl : List (Int × Addr)} (h : Srch n ts ms a H fl) (hc : ∀ x ∈ fl.map Prod.fst, ∀ m ∈ ms, ∀ y, Leads ts m x y → y ∈ fl.map Prod.fst) {b : Int} (hb : b ∉ fl.map Prod.fst) : foldR (fun x => x) (pick ts ms) a ≠ foldR (fun x => x) (pick ts ms) b := by
  intro e
  have := foldR_fine (g := fun x => if x ∈ fl.map Prod.fst then 0 else 1) (L := pick ts ms) (r := fun x => x) (fun x y z => by rw [show x = y from z]) (fun t ht => ?_) a b e
  · rw [if_pos h.first, if_neg hb] at this
    cases this
  · obtain ⟨m, hm, rfl⟩ := List.mem_map.mp ht
    show (if _ then (0 : Int) else 1) = if _ then 0 else 1
    by_cases c : (ts.getD m.toNat (0, 0)).1 ∈ fl.map Prod.fst
    · have z2 : (ts.getD m.toNat (0, 0)).2 ∈ fl.map Prod.fst := hc _ c m hm _ (.inl rfl)
      rw [if_pos c, if_pos z2]
    · have z2 : ¬ (ts.getD m.toNat (0, 0)).2 ∈ fl.map Prod.fst := fun z => c (hc _ z m hm _ (.inr rfl))
      rw [if_neg c, if_neg z2]
end FF
namespace FF
open PySem PySem.Spec PyProof.Rows L2
/-! ### pushes -/
theorem nums_nd (f : Int) : ∀ (i : Nat) (ws : List V), (numsFrom f i ws).Nodup
  | _, [] => List.nodup_nil
  | i, x :: r => by
    show ((if x = V.int f then [(i : Int)] else []) ++ numsFrom f (i + 1) r).Nodup
    rw [List.nodup_append]
    refine ⟨by split <;> simp, nums_nd f (i + 1) r, fun a ha b hb z => ?_⟩
    have := nums_bd f (i + 1) r b hb
    split at ha
    · have := List.mem_singleton.mp ha
      omega
    · cases ha
open Classical in
noncomputable def joinB (ts : List (Int × Int)) (ws : List V) (e : Int × Int) : Bool := decide (foldR (fun x => x) (layerOf ts ws e.2) (ts.getD e.1.toNat (0, 0)).1 = foldR (fun x => x) (layerOf ts ws e.2) (ts.getD e.1.toNat (0, 0)).2)
/-- the tie x is on the ring of the entry e -/
def OnRing (ts : List (Int × Int)) (ws : List V) (e : Int × Int) (x : Int) : Prop := x ∈ numsFrom e.2 0 ws ∧ foldR (fun x => x) (pick ts (but x (numsFrom e.2 0 ws))) (ts.getD e.1.toNat (0, 0)).1 ≠ foldR (fun x => x) (pick ts (but x (numsFrom e.2 0 ws))) (ts.getD e.1.toNat (0, 0)).2
open Classical in
noncomputable def pushB (ts : List (Int × Int)) (ws : List V) : List (Int × Int) → Bool
  | [] => true
  | [e] => !joinB ts ws e
  | e :: e' :: r => (joinB ts ws e && decide (OnRing ts ws e e'.1)) && pushB ts ws (e' :: r)
def layB (ws : List V) (e : Int × Int) : Bool := decide (ws[e.1.toNat]? = some (.int e.2))
/-- what stands for the ring of an entry -/
def RingV (ts : List (Int × Int)) (ws : List V) (H : Hp) (v : V) (e : Int × Int) : Prop := (v = .non ∧ joinB ts ws e = false) ∨ ∃ (c : Addr) (ns : List Int), v = .ref c ∧ H c = some (.tup (ns.map V.int)) ∧ joinB ts ws e = true ∧ ns.length ≤ 1000 ∧ ∀ x, x ∈ ns ↔ OnRing ts ws e x
theorem RingV.ke {ts : List (Int × Int)} {ws : List V} {H H' : Hp} {v : V} {e : Int × Int} (h : RingV ts ws H v e) (k : ∀ q xs, H q = some (.tup xs) → H' q = some (.tup xs)) : RingV ts ws H' v e := by
  rcases h with h | ⟨c, ns, e1, e2, r⟩
  · exact .inl h
  · exact .inr ⟨c, ns, e1, k _ _ e2, r⟩
theorem RingV.ring {ts : List (Int × Int)} {ws : List V} {H : Hp} {c : Addr} {ns : List Int} {e : Int × Int} (hl : ws.length = ts.length) (hlen : ts.length ≤ 1000) (hf : ringlessF (fun x => x) (layerOf ts ws e.2) = true) (hj : foldR (fun x => x) (layerOf ts ws e.2) (ts.getD e.1.toNat (0, 0)).1 = foldR (fun x => x) (layerOf ts ws e.2) (ts.getD e.1.toNat (0, 0)).2) (hc : H c = some (.tup (ns.map V.int))) (hR : IsRing ts (numsFrom e.2 0 ws) (ts.getD e.1.toNat (0, 0)).1 (ts.getD e.1.toNat (0, 0)).2 ns) : RingV ts ws H (.ref c) e := by
  refine .inr ⟨c, ns, rfl, hc, decide_eq_true hj, ?_, fun x => hR.mem_iff ?_ (nums_nd _ _ _) x⟩
  · have := nd_le hR.nd hR.mem
    have := nums_length e.2 0 ws
    omega
  · rw [show pick ts (numsFrom e.2 0 ws) = layerOf ts ws e.2 from pick_nums e.2 [] ts ws hl.symm]
    exact hf
end FF
namespace FF
open PySem PySem.Spec PyProof.Rows L2
/-! ### zip of a list and a tuple, either way -/
def SqB (K : PySem.W.Frag) (b : Bool) (H : Hp) (a : Addr) (xs : List V) : Prop := match b with
  | true => SqL K H a xs
  | false => SqT K H a xs
def IterB (b : Bool) (h : Heap) (it l : Addr) (i : Nat) : Prop := match b with
  | true => h.IsListIter it l i
  | false => h.IsTupleIter it l i
def ConB (b : Bool) (h : Heap) (l : Addr) (items : Array Value) : Prop := match b with
  | true => h.IsList l items
  | false => h.IsTuple l items
theorem drawsB {prog : Program} {w : World} {A : Around} (b : Bool) (hh : A.handled = none) (it l : Addr) (hne : l ≠ it) (items : Array Value) :
    Draws prog w A it [it, l] items.size (fun i v => items[i]? = some v) (fun i h => IterB b h it l i ∧ ConB b h l items) := by
  cases b with
  | true => exact Draws.list hh it l hne items
  | false => exact Draws.tuple hh it l hne items
theorem IterB.at {b : Bool} {h h' : Heap} {it l : Addr} {i : Nat} (x : IterB b h it l i) (e : ∀ o, h.get? it = some o → h'.get? it = some o) : IterB b h' it l i := by
  cases b with
  | true => exact Heap.IsListIter.at x e
  | false => exact Heap.IsTupleIter.at x e
theorem IterB.obj {b : Bool} {h : Heap} {it l : Addr} {i : Nat} (x : IterB b h it l i) : ∃ o, h.get? it = some o ∧ ∃ vs, o.data = .fields vs := by
  cases b with
  | true => obtain ⟨o, e, _, d⟩ := x; exact ⟨o, e, _, d⟩
  | false => obtain ⟨o, e, _, d⟩ := x; exact ⟨o, e, _, d⟩
theorem conB {X : Cx} {pins : List (Addr × Obj)} {σ : L2.St} {H : Hp} {s : Shared} {b : Bool} {a : Addr} {xs : List V} (I : L2.Inv X pins σ H s) (h : SqB X.K b H a xs) : ∃ its : List Value, Vals xs its ∧ ConB b s.heap a its.toArray := by
  cases b with
  | true =>
    obtain ⟨its, rv, p, _⟩ := I.list h
    exact ⟨its, rv, p.isList⟩
  | false =>
    obtain ⟨its, rv, p, _⟩ := I.tuple h
    exact ⟨its, rv, p⟩
theorem sqB_inj {X : Cx} {pins : List (Addr × Obj)} {σ : L2.St} {H : Hp} {s : Shared} {b : Bool} {a : Addr} {xs ys : List V} (I : L2.Inv X pins σ H s) (h : SqB X.K b H a xs) (h' : SqB X.K b H a ys) : xs = ys := by
  cases b with
  | true => exact I.list_inj h h'
  | false => exact I.tuple_inj h h'
theorem ConB.lt {b : Bool} {h : Heap} {l : Addr} {items : Array Value} (x : ConB b h l items) : l < h.objs.size := by
  cases b with
  | true => obtain ⟨o, e, _⟩ := x; exact Heap.lt_size e
  | false => obtain ⟨o, e, _⟩ := x; exact Heap.lt_size e
def ItzM (K : PySem.W.Frag) (b1 b2 : Bool) (a b : Addr) : It where
  go i H := ∃ (xs ys : List V) (x y : V), SqB K b1 H a xs ∧ SqB K b2 H b ys ∧ xs[i]? = some x ∧ ys[i]? = some y
  yld i H v H' := ∃ T x y, v = .ref T ∧ H T = none ∧ H' = upd H T (.tup [x, y]) ∧ (∀ xs, SqB K b1 H a xs → xs[i]? = some x) ∧ ∀ ys, SqB K b2 H b ys → ys[i]? = some y
  stop i H := ∃ xs ys : List V, SqB K b1 H a xs ∧ SqB K b2 H b ys ∧ i = min xs.length ys.length
theorem turn_zipM {P : Program} {w : World} {K : PySem.W.Frag} {elts : List Expr} {kk : Nat} {tpos : Pos} {b1 b2 : Bool} {a b z TI TO i1 i2 : Addr} (D : ZipSep2 z TI TO i1 i2 [i1, a] [i2, b]) (ha : a ≠ i1) (hb : b ≠ i2) :
    Turn P w K (.Tuple elts kk tpos) (ItzM K b1 b2 a b) [z, TI, TO, i1, i2] z (fun i h => IsZip h z TI TO .none ∧ IsTupOf2 h TI (.ref i1) (.ref i2) ∧ (∃ x y, IsTupOf2 h TO x y) ∧ IterB b1 h i1 a i ∧ IterB b2 h i2 b i) where
  mem := List.mem_cons_self
  obj := fun i h st c hc => by
    obtain ⟨hz, hTI, ⟨x, y, hTO⟩, h1, h2⟩ := st
    obtain ⟨o1, e1, _, d1⟩ := h1.obj
    obtain ⟨o2, e2, _, d2⟩ := h2.obj
    simp only [List.mem_cons, List.not_mem_nil, or_false] at hc
    rcases hc with rfl | rfl | rfl | rfl | rfl
    · exact ⟨_, hz, fun v q => nomatch q⟩
    · exact ⟨_, hTI, fun v q => nomatch q⟩
    · exact ⟨_, hTO, fun v q => nomatch q⟩
    · exact ⟨o1, e1, fun v q => by rw [d1] at q; cases q⟩
    · exact ⟨o2, e2, fun v q => by rw [d2] at q; cases q⟩
  keep := fun i h h' st k => by
    obtain ⟨hz, hTI, ⟨x, y, hTO⟩, h1, h2⟩ := st
    exact ⟨k z (by simp) _ hz, k TI (by simp) _ hTI, ⟨x, y, k TO (by simp) _ hTO⟩, h1.at fun o q => k i1 (by simp) o q, h2.at fun o q => k i2 (by simp) o q⟩
  item := by
    intro X hP hw hK calm i pins s σ H E I hf st hg
    subst hP hw hK
    obtain ⟨hz, hTI, ⟨x0, y0, hTO⟩, h1, h2⟩ := st
    obtain ⟨xs, ys, x, y, hqx, hqy, hx, hy⟩ := hg
    obtain ⟨its, rv, p1⟩ := conB I hqx
    obtain ⟨its2, rv2, p2⟩ := conB I hqy
    obtain ⟨u, hu, ru⟩ := rv.get hx
    obtain ⟨u2, hu2, ru2⟩ := rv2.get hy
    have hzl : z < s.heap.objs.size := Heap.lt_size hz
    have l1 : i < its.toArray.size := by
      rw [List.size_toArray]
      exact (List.getElem?_eq_some_iff.mp hu).1
    have l2 : i < its2.toArray.size := by
      rw [List.size_toArray]
      exact (List.getElem?_eq_some_iff.mp hu2).1
    refine wpAny_pyNext_zipD2_item D (drawsB (A := X.A.in1) b1 (I.ok.hd calm) i1 a ha its.toArray) (drawsB (A := X.A.in1) b2 (I.ok.hd calm) i2 b hb its2.toArray) hz hTI hTO ⟨h1, p1⟩ ⟨h2, p2⟩ l1 l2 fun v1 v2 h' tk y1 y2 z' TO' s1 s2 hT hsz hk => ?_
    have ev1 : v1 = u := by
      have y1 : its.toArray[i]? = some v1 := y1
      rw [List.getElem?_toArray, hu] at y1
      exact (Option.some.inj y1).symm
    have ev2 : v2 = u2 := by
      have y2 : its2.toArray[i]? = some v2 := y2
      rw [List.getElem?_toArray, hu2] at y2
      exact (Option.some.inj y2).symm
    subst ev1 ev2
    refine ⟨_, rfl, wpAny_letOwnedTupleGo_zip (s := { s with heap := h', toks := tk }) z' fun h'' z'' sb => ?_⟩
    have hT2 : h''.get? s.heap.objs.size = some { cls := .type "tuple", data := .seq #[v1, v2] } := (sb.2 _ (Nat.ne_of_gt hzl)).trans hT
    have new : ObjOk X.prog X.w (upd H s.heap.objs.size (.tup [x, y])) h'' s.heap.objs.size (.tup [x, y]) :=
      ⟨by show 2 ≤ sizeLine; decide, [v1, v2], .cons ru (.cons ru2 .nil), ⟨_, hT2, rfl, _, rfl⟩⟩
    have I1 : Inv X pins σ (upd H s.heap.objs.size (.tup [x, y])) { s with heap := h'', toks := tk } :=
      I.turnedNew (t' := tk) (ch := [z, TI, TO, i1, i2]) (fun c o hb q => (sb.2 c (fun q' => hb (by simp [q']))).trans (hk c o (fun q' => hb (by simp [q'])) (fun q' => hb (by simp [q'])) (fun q' => hb (by simp [q'])) (fun q' => hb (by simp [q'])) q)) hf (Nat.le_refl _) new
    have i1z : i1 ≠ z := D.zi1.symm
    have i2z : i2 ≠ z := D.zi2.symm
    refine ⟨.ref s.heap.objs.size, _, I1, rfl, ⟨_, x, y, rfl, I.hok.fresh (Nat.le_refl _), rfl, fun l hl => by rw [sqB_inj I hl hqx]; exact hx, fun l hl => by rw [sqB_inj I hl hqy]; exact hy⟩, ⟨z'', ?_, ⟨v1, v2, ?_⟩, ?_, ?_⟩, fun c hcm => ?_⟩
    · exact (sb.2 _ D.TIz).trans (hk _ _ D.TIz D.TITO D.TIi1 D.TIi2 hTI)
    · exact (sb.2 _ D.TOz).trans TO'
    · exact s1.1.at fun o q => (sb.2 _ i1z).trans q
    · exact s2.1.at fun o q => (sb.2 _ i2z).trans q
    · obtain ⟨o1, e1, _⟩ := h1.obj
      obtain ⟨o2, e2, _⟩ := h2.obj
      have hlt : c < s.heap.objs.size := by
        simp only [List.mem_cons, List.not_mem_nil, or_false] at hcm
        rcases hcm with rfl | rfl | rfl | rfl | rfl
        · exact hzl
        · exact Heap.lt_size hTI
        · exact Heap.lt_size hTO
        · exact Heap.lt_size e1
        · exact Heap.lt_size e2
      rw [upd_ne (Nat.ne_of_lt hlt)]
      exact (hf c hcm).1
  done := by
    intro X hP hw hK calm i pins s σ H E I hf st hg
    subst hP hw hK
    obtain ⟨hz, hTI, ⟨x0, y0, hTO⟩, h1, h2⟩ := st
    obtain ⟨xs, ys, hqx, hqy, hend⟩ := hg
    obtain ⟨its, rv, p1⟩ := conB I hqx
    obtain ⟨its2, rv2, p2⟩ := conB I hqy
    have l1 := rv.length
    have l2 := rv2.length
    refine wpAny_pyNext_zipD2_end D (drawsB (A := X.A.in1) b1 (I.ok.hd calm) i1 a ha its.toArray) (drawsB (A := X.A.in1) b2 (I.ok.hd calm) i2 b hb its2.toArray) hz hTI hTO ⟨h1, p1⟩ ⟨h2, p2⟩ (by rw [List.size_toArray]; omega) (by rw [List.size_toArray]; omega) (by rw [List.size_toArray, List.size_toArray]; omega) fun h' tk hk => ⟨rfl, I.turnedL (t' := tk) (ch := [z, TI, TO, i1, i2]) (fun c o hb q =>
      hk c o (fun q' => hb (by simp [q'])) (fun q' => hb (by simp [q'])) (fun q' => hb (by simp [q'])) (fun q' => hb (by simp [q'])) q) hf⟩
  self := fun A i s Q E st h => wpAny_pyIter_zip st.1 h
theorem walk_zipM {K : PySem.W.Frag} {b1 b2 : Bool} {a b : Addr} {xs ys : List V} {n : Nat} (hn : n = min xs.length ys.length) : Walk (ItzM K b1 b2 a b) n (fun H => SqB K b1 H a xs ∧ SqB K b2 H b ys) (YPair (fun i => xs[i]?) (fun i => ys[i]?)) where
  goes i H hi q := ⟨xs, ys, xs[i]'(by omega), ys[i]'(by omega), q.1, q.2, List.getElem?_eq_getElem (by omega), List.getElem?_eq_getElem (by omega)⟩
  stops H q := ⟨xs, ys, q.1, q.2, hn⟩
  yields i H v H' _ q y := by
    obtain ⟨t, x, z, h1, h2, h3, h4, h5⟩ := y
    exact ⟨t, x, z, h1, h2, h3, h4 xs q.1, h5 ys q.2⟩
def itB (b : Bool) (a : Addr) : Obj := match b with
  | true => { cls := .type "list_iterator", data := .fields #[.ref a, .int 0 0] }
  | false => { cls := .type "tuple_iterator", data := .fields #[.ref a, .int 0 0] }
theorem beginsB (b : Bool) (a : Addr) (items : Array Value) : Begins (.ref a) (itB b a) fun h => ConB b h a items := by
  cases b with
  | true => exact begins_list a items
  | false => exact begins_tuple a items
theorem iterB_new {b : Bool} {h : Heap} {it a : Addr} (g : h.get? it = some (itB b a)) : IterB b h it a 0 := by
  cases b with
  | true => exact ⟨_, g, rfl, rfl⟩
  | false => exact ⟨_, g, rfl, rfl⟩
def iZipM (K : PySem.W.Frag) (b1 b2 : Bool) (ta : TA) : TI := fun σ H R => ta σ H fun vs G => ∃ a b xs ys, vs = [.ref a, .ref b] ∧ SqB K b1 G a xs ∧ SqB K b2 G b ys ∧ R (ItzM K b1 b2 a b) G
theorem pi_zipM {X : Cx} {K : PySem.W.Frag} {e e2 : Expr} {ta : TA} {p pos tpos : Pos} {elts : List Expr} {kk : Nat} (b1 b2 : Bool) (hg : Gl X "zip") (hm : X.mg "zip" = none) (ha : PA X [e, e2] ta) (hK : X.K = K := by rfl)
    (hs : starEach [e, e2] X.env = (false, eval e X.env) :: starEach [e2] X.env := by rfl) (hpl : (backTo pos (starEach [e2] X.env)).any (·.1) = false := by rfl) :
    PI X (.Tuple elts kk tpos) (.Call (.Name "zip" p) [e, e2] [] pos) (iZipM K b1 b2 ta) := by
  subst hK
  refine ⟨fun pins s σ H R I h => ?_⟩
  refine Call_ (ld_blt I hg hm PyProof.Rows.boot_zip (PyProof.Rows.callWith_type1 (thn (ha.run pos pins s σ H _ I h) fun us t ⟨vs, G, J, rr, qq⟩ => ?_) hs hpl))
  obtain ⟨a, b, xs, ys, rfl, hqx, hqy, q⟩ := qq
  cases rr with
  | cons r rr =>
    cases rr with
    | cons r' rr =>
      cases rr
      cases r
      cases r'
      obtain ⟨its, rv, p1⟩ := conB J hqx
      obtain ⟨its2, rv2, p2⟩ := conB J hqy
      have la := p1.lt
      have lb := p2.lt
      refine zip_begins2 (beginsB b1 a its.toArray) (beginsB b2 b its2.toArray) p1 p2 fun h' hz hTI hTO g1 g2 hsz hk => wpAny_pyIter_zip hz ?_
      have J2 : L2.Inv X pins σ G { t with heap := h' } := J.kept (t' := t.toks) hk
      refine ⟨t.heap.objs.size + 4, [t.heap.objs.size + 4, t.heap.objs.size + 2, t.heap.objs.size + 3, t.heap.objs.size, t.heap.objs.size + 1], _, _, G, rfl, J2, turn_zipM (zip_sep2 (fp1 := [a]) (fp2 := [b]) (fun c hc => by rw [List.mem_singleton.mp hc]; exact la) (fun c hc => by rw [List.mem_singleton.mp hc]; exact lb)) (Nat.ne_of_lt la) (fun z => by rw [z] at lb; exact absurd lb (Nat.not_lt.mpr (Nat.le_succ _))), ⟨hz, hTI, ⟨_, _, hTO⟩, iterB_new g1, iterB_new g2⟩, fun c hc => ?_, q⟩
      have lc : t.heap.objs.size ≤ c := by
        simp only [List.mem_cons, List.not_mem_nil, or_false] at hc
        rcases hc with rfl | rfl | rfl | rfl | rfl
        · exact Nat.le_add_right _ _
        · exact Nat.le_add_right _ _
        · exact Nat.le_add_right _ _
        · exact Nat.le_refl _
        · exact Nat.le_add_right _ _
      exact J.fpOk lc (J.hok.fresh lc)
end FF
namespace FF
open PySem PySem.Spec PyProof.Rows L2
/-! ### t.count of a tuple of ints; l[i] op= e -/
section
variable {X : Cx} {K : PySem.W.Frag}
def rCntT (K : PySem.W.Frag) : V → List V → Hp → VK → Prop := fun x xs H Q => ∃ (p : Addr) (ns : List Int) (k : Int), x = .ref p ∧ xs = [.int k] ∧ SqT K H p (ns.map V.int) ∧ Q (.int (ns.count k : Nat)) H
theorem mt_tcount (h : X.K = K := by rfl) : MtR X "tuple.count" (rCntT K) := by
  subst h
  intro pins s σ H x xs v us Q I rx rxs h
  obtain ⟨p, ns, k, rfl, rfl, hs, q⟩ := h
  cases rx
  obtain ⟨u, rfl, ru⟩ := rxs.one
  obtain ⟨t, rfl⟩ := ru
  obtain ⟨its, rv, ⟨⟨cls, dd, data, sl⟩, ho, hc, n, hd⟩, hlen⟩ := I.tuple hs
  simp only at hc hd
  subst hc hd
  have hi := ints_of_vals rv
  refine call_meets PySem.F.slot_tuple_count ⟨_, ho, rfl⟩ PySem.F.entry_tuple_count (PySem.F.args_tuple_count_2 _ _)
    (SeqAt.tuple_countAt p its.toArray n dd sl (.int k t) (eqk k)) ⟨ho, fun y hy => (eqk_gives hi y (by simpa using hy)).at _ _, ?_⟩
  have ec : its.toArray.toList.countP (eqk k) = ns.count k := eqk_count hi
  refine ⟨.int (ns.count k : Nat), H, I.tok _, ⟨s.toks, ?_⟩, q⟩
  show Value.int ((its.toArray.toList.countP (eqk k) : Nat) : Int) s.toks = Value.int ((ns.count k : Nat) : Int) s.toks
  rw [ec]
theorem get_listK (h : X.K = K := by rfl) : PGet X (rIxL K) := by
  subst h
  intro pins s σ H x y v u Q I rx ry h
  obtain ⟨p, xs, i, z, rfl, rfl, hq, he, q⟩ := h
  cases rx
  obtain ⟨t, rfl⟩ := ry
  obtain ⟨its, r, pl, hz⟩ := I.list hq
  obtain ⟨j, h1, h2, h3, h4, h5⟩ := atI_get he
  obtain ⟨w, ew, rw'⟩ := r.get h2
  have hl := r.length
  have hn := line63
  have fin : EP X pins σ Q w s := ⟨z, H, I, rw', q⟩
  by_cases h0 : 0 ≤ i
  · have hj : i.toNat = j := by
      rw [seqIndex_of h0 h5] at h1
      exact Option.some.inj h1
    exact wpAny_getItem_list pl.isList h0 (by omega) (by rw [hj]; simpa using ew) fin
  · have hj : (i + (its.toArray.size : Int)).toNat = j := by
      rw [seqIndex_neg (by omega) h4] at h1
      rw [List.size_toArray, ← hl]
      exact Option.some.inj h1
    exact wpAny_getItem_list_neg pl.isList (by omega) (by rw [List.size_toArray] <;> omega) (by omega) (by rw [hj]; simpa using ew) fin
end
/-! ### outs of ways -/
def outsL (n : Int) (ws : List Int) : List Int := (upTo n).map fun p => (ws.count p : Int)
theorem outsL_length (n : Int) (ws : List Int) : (outsL n ws).length = n.toNat := by unfold outsL; rw [List.length_map, upTo_length]
theorem outsL_hat {n p : Int} {ws : List Int} (h0 : 0 ≤ p) (h1 : p < n) : hat (outsL n ws) p = (ws.count p : Int) := by
  unfold outsL
  rw [hat_map (f := fun p => (ws.count p : Int)) h0 (by rw [upTo_length]; omega), hat_upTo h0 h1]
theorem ext_hat {as bs : List Int} (hl : as.length = bs.length) (h : ∀ x : Int, 0 ≤ x → x < as.length → hat as x = hat bs x) : as = bs := by
  refine List.ext_getElem hl fun i h1 h2 => ?_
  have := h (i : Int) (by omega) (by omega)
  unfold hat at this
  rw [Int.toNat_natCast, List.getD_eq_getElem?_getD, List.getD_eq_getElem?_getD, List.getElem?_eq_getElem h1, List.getElem?_eq_getElem h2] at this
  exact this
theorem outsL_snoc {n p : Int} {ws : List Int} (h0 : 0 ≤ p) (h1 : p < n) : (outsL n ws).set p.toNat (hat (outsL n ws) p + 1) = outsL n (ws ++ [p]) := by
  refine ext_hat (by rw [List.length_set, outsL_length, outsL_length]) fun x x0 x1 => ?_
  rw [List.length_set, outsL_length] at x1
  rw [hat_set h0 (by rw [outsL_length]; omega) x0, outsL_hat (p := x) x0 (by omega), outsL_hat h0 h1, outsL_hat (p := x) (ws := ws ++ [p]) x0 (by omega), List.count_append]
  by_cases e : x = p
  · subst e
    rw [if_pos rfl]
    simp
  · rw [if_neg e]
    have : List.count x [p] = 0 := List.count_eq_zero.mpr fun z => e (List.mem_singleton.mp z)
    rw [this]
    simp
theorem outsL_nil (n : Int) : outsL n [] = List.replicate n.toNat 0 := by
  unfold outsL
  refine List.ext_getElem (by rw [List.length_map, upTo_length, List.length_replicate]) fun i h1 h2 => ?_
  rw [List.getElem_map, List.getElem_replicate]
  rfl
theorem outs_le {n : Int} {ws : List Int} : ∀ x ∈ outsL n ws, 0 ≤ x ∧ x ≤ ws.length := fun x hx => by
  obtain ⟨p, _, rfl⟩ := List.mem_map.mp hx
  exact ⟨by omega, by have : ws.count p ≤ ws.length := List.count_le_length; omega⟩
theorem outs_sum {n : Int} : ∀ {ws : List Int}, (∀ w ∈ ws, 0 ≤ w ∧ w < n) → (outsL n ws).sum = ws.length
  | [], _ => by
    rw [outsL_nil]
    have : ∀ k : Nat, (List.replicate k (0 : Int)).sum = 0 := fun k => by induction k with
      | zero => rfl
      | succ k ih => rw [List.replicate_succ, List.sum_cons, ih]; rfl
    rw [this]
    rfl
  | w :: ws, h => by
    have ih := outs_sum (n := n) (ws := ws) fun x hx => h x (List.mem_cons_of_mem _ hx)
    obtain ⟨w0, w1⟩ := h w List.mem_cons_self
    have e : outsL n (w :: ws) = (upTo n).map fun p => (ws.count p : Int) + (if p = w then 1 else 0) := by
      unfold outsL
      refine List.map_congr_left fun p _ => ?_
      rw [List.count_cons]
      by_cases e : p = w
      · subst e; simp
      · rw [if_neg e, if_neg (by simpa using fun z => e z.symm)]; simp
    rw [e, sum_add (fun p => (ws.count p : Int)) (fun p => if p = w then (1 : Int) else 0)]
    have e2 : ((upTo n).map fun p => (ws.count p : Int)).sum = (ws.length : Int) := ih
    rw [e2, sum_one (m := w) (fun p => if p = w then (1 : Int) else 0) (upTo_nd n) (upTo_mem.mpr ⟨w0, w1⟩) fun x _ hx => if_neg hx, if_pos rfl, List.length_cons]
    omega
def excess (q : Int) (os : List Int) : Int := (os.map fun o => max 0 (o - q)).sum
theorem excess_flt (q : Int) : ∀ os : List Int, ((os.filter fun o => decide (o > q)).map fun o => o - q).sum = excess q os
  | [] => rfl
  | o :: os => by
    have ih := excess_flt q os
    unfold excess at ih ⊢
    by_cases h : o > q
    · rw [List.filter_cons_of_pos (by exact decide_eq_true h), List.map_cons, List.sum_cons, List.map_cons, List.sum_cons, ih]
      rw [show max 0 (o - q) = o - q by omega]
    · rw [List.filter_cons_of_neg (by rw [decide_eq_false h]; decide), List.map_cons, List.sum_cons, ih, show max 0 (o - q) = 0 by omega]
      omega
theorem excess_bd {q : Int} (h : 0 ≤ q) : ∀ {os : List Int}, (∀ o ∈ os, 0 ≤ o) → 0 ≤ excess q os ∧ excess q os ≤ os.sum
  | [], _ => ⟨Int.le_refl _, Int.le_refl _⟩
  | o :: os, hos => by
    have ih := excess_bd h (os := os) fun x hx => hos x (List.mem_cons_of_mem _ hx)
    have o0 := hos o List.mem_cons_self
    unfold excess at ih ⊢
    rw [List.map_cons, List.sum_cons, List.sum_cons]
    omega
theorem excess_zero : ∀ {os : List Int}, (∀ o ∈ os, 0 ≤ o) → excess 0 os = os.sum
  | [], _ => rfl
  | o :: os, hos => by
    have ih := excess_zero (os := os) fun x hx => hos x (List.mem_cons_of_mem _ hx)
    have o0 := hos o List.mem_cons_self
    unfold excess at ih ⊢
    rw [List.map_cons, List.sum_cons, List.sum_cons, ih]
    omega
theorem excess_take {q : Int} {os : List Int} {i : Nat} {o : Int} (h : os[i]? = some o) : excess q (os.take (i + 1)) = excess q (os.take i) + max 0 (o - q) := by
  unfold excess
  rw [List.take_add_one, h, List.map_append, List.sum_append]
  simp
def WOk (ts : List (Int × Int)) (ws : List Int) : Prop := ws.length = ts.length ∧ ∀ (i : Nat) (t : Int × Int) (w : Int), ts[i]? = some t → ws[i]? = some w → w = t.1 ∨ w = t.2
theorem WOk.bd {n : Int} {ts : List (Int × Int)} {ws : List Int} (h : WOk ts ws) (ok : TOk n ts) : ∀ w ∈ ws, 0 ≤ w ∧ w < n := fun w hw => by
  obtain ⟨i, hi, e⟩ := List.mem_iff_getElem.mp hw
  have hi2 : i < ts.length := by rw [← h.1]; exact hi
  have := h.2 i _ w (List.getElem?_eq_getElem hi2) (by rw [List.getElem?_eq_getElem hi, e])
  obtain ⟨a, b, c⟩ := ok _ (List.getElem_mem hi2)
  omega
theorem WOk.nil : WOk [] [] := ⟨rfl, fun i t w h => by simp at h⟩
theorem WOk.snoc {ts : List (Int × Int)} {ws : List Int} {t : Int × Int} {w : Int} (h : WOk ts ws) (hw : w = t.1 ∨ w = t.2) : WOk (ts ++ [t]) (ws ++ [w]) := by
  refine ⟨by rw [List.length_append, List.length_append, h.1]; rfl, fun i t' w' h1 h2 => ?_⟩
  by_cases hi : i < ts.length
  · rw [List.getElem?_append_left hi] at h1
    rw [List.getElem?_append_left (by rw [h.1]; exact hi)] at h2
    exact h.2 i t' w' h1 h2
  · have hi2 : i < ts.length + 1 := by
      have := (List.getElem?_eq_some_iff.mp h1).1
      rw [List.length_append] at this
      exact this
    have e : i = ts.length := by omega
    subst e
    rw [List.getElem?_append_right (Nat.le_refl _), Nat.sub_self] at h1
    rw [List.getElem?_append_right (by rw [h.1]; exact Nat.le_refl _), h.1, Nat.sub_self] at h2
    cases h1
    cases h2
    exact hw
theorem sum_take_le : ∀ {os : List Int}, (∀ o ∈ os, 0 ≤ o) → ∀ i, (os.take i).sum ≤ os.sum
  | [], _, i => by simp
  | o :: os, h, 0 => by
    have h1 : ∀ {os : List Int}, (∀ o ∈ os, 0 ≤ o) → 0 ≤ os.sum := fun {os} => by
      induction os with
      | nil => intro _; exact Int.le_refl _
      | cons a l ih => intro h; rw [List.sum_cons]; have := h a List.mem_cons_self; have := ih fun x hx => h x (List.mem_cons_of_mem _ hx); omega
    exact h1 h
  | o :: os, h, i + 1 => by
    have ih := sum_take_le (os := os) (fun x hx => h x (List.mem_cons_of_mem _ hx)) i
    rw [List.take_succ_cons, List.sum_cons, List.sum_cons]
    omega
end FF
namespace FF
open PySem PySem.Spec PyProof.Rows L2
/-! ### tuples that are known to the object: methods can be asked of them -/
def TF (H : Hp) (a : Addr) (xs : List V) : Prop := ∃ o : Obj, H a = some (.frz o (.tup xs)) ∧ o.dict = none
theorem TF.sq {K : PySem.W.Frag} {H : Hp} {a : Addr} {xs : List V} (h : TF H a xs) : SqT K H a xs := by
  obtain ⟨o, e, _⟩ := h
  exact .inl (.inr ⟨o, e⟩)
theorem TF.ke {H H' : Hp} {a : Addr} {xs : List V} (h : TF H a xs) (k : Ke H H') : TF H' a xs := by
  obtain ⟨o, e, d⟩ := h
  exact ⟨o, k.at_ a _ e (fun _ z => nomatch z) fun z => z, d⟩
theorem TF.new {H : Hp} {p a : Addr} {o : HO} {xs : List V} (h : TF H a xs) (k : H p = none) : TF (upd H p o) a xs := h.ke (Ke.new k)
theorem TF.dk {H H' : Hp} {p a : Addr} {xs : List V} (h : TF H a xs) (k : Dk p H H') (d : Deck H p) : TF H' a xs := by
  obtain ⟨o, e, d'⟩ := h
  obtain ⟨ds, e2, _⟩ := d
  exact ⟨o, k.k.at_ a _ e (fun _ z => nomatch z) (ne_of e e2 (fun z => nomatch z)), d'⟩
theorem TF.put {H : Hp} {p a : Addr} {o : HO} {xs ys : List V} (h : TF H a xs) (k : H p = some (.lst ys)) : TF (upd H p o) a xs := by
  obtain ⟨o, e, d'⟩ := h
  exact ⟨o, by rw [upd_ne (ne_of e k (fun z => nomatch z))]; exact e, d'⟩
theorem sqT_kx {S : Addr → Prop} {K : PySem.W.Frag} {H H' : Hp} {p : Addr} {xs : List V} (h : SqT K H p xs) (a : Kx S H H') (n : ¬ S p) : SqT K H' p xs := by
  rcases h with (h | ⟨o, h⟩) | h
  · exact .inl (.inl (a.at_ p _ h (fun _ z => nomatch z) n))
  · exact .inl (.inr ⟨o, a.at_ p _ h (fun _ z => nomatch z) n⟩)
  · exact .inr h
theorem sqT_ke {K : PySem.W.Frag} {H H' : Hp} {p : Addr} {xs : List V} (h : SqT K H p xs) (a : Ke H H') : SqT K H' p xs := sqT_kx h a fun z => z
section
variable {X : Cx} {K : PySem.W.Frag}
def rTupF (K : PySem.W.Frag) : List V → Hp → VK → Prop := fun xs H Q => ∃ p ys, xs = [.ref p] ∧ SqL K H p ys ∧ ∀ (l : Addr) (o : Obj), H l = none → o.dict = none → Q (.ref l) (upd H l (.frz o (.tup ys)))
theorem tupleF (h : X.K = K := by rfl) : CallR X (.type "tuple") (rTupF K) := by
  subst h
  intro pins s σ H xs us Q I r h
  obtain ⟨p, ys, rfl, hq, q⟩ := h
  obtain ⟨u, rfl, rx⟩ := vals1 r
  cases rx
  obtain ⟨its, r', pl, hz⟩ := I.list hq
  have hlen := r'.length
  refine call_tuple_list pl.isList (fun h' kp => ?_) (by simp only [List.size_toArray] <;> omega)
  have I1 : Inv X pins σ H { s with heap := h' } := I.kept (t' := s.toks) kp
  have I2 : Inv X pins σ (upd H h'.objs.size (.frz { cls := .type "tuple", data := .seq its.toArray } (.tup ys))) { s with heap := h'.push { cls := .type "tuple", data := .seq its.toArray } } :=
    I1.laid (t' := s.toks) (fun b o e => Heap.get?_push_of_some _ e) (Nat.le_refl _) (show ObjOk X.prog X.w _ _ _ (.frz _ (.tup ys)) from ⟨Heap.get?_push_size _ rfl, hz, its, r', IsTup.new _ _⟩)
  exact ⟨.ref h'.objs.size, _, I2, rfl, q _ _ (I1.hok.fresh (Nat.le_refl _)) rfl⟩
def tBMF (r : V → List V → Hp → VK → Prop) (to : TE) (t : TA) : TE := fun σ H Q => to σ H fun x H1 => (∃ a ys, x = .ref a ∧ TF H1 a ys) ∧ t σ H1 fun xs H2 => r x xs H2 Q
variable {o e : Expr} {es : List Expr} {to : TE} {t : TA} {name : Str} {apos cpos : Pos} {id : String} {r : V → List V → Hp → VK → Prop}
theorem pe_bmF (slot : Slot "tuple" name id) (hty : typeOf (.builtin id) = pure (.type "method_descriptor")) (hm : MtR X id r) (ho : PE X o to) (ha : PA X (e :: es) t)
    (hbase : attributeBase o name X.env (eval o X.env) = eval o X.env := by rfl)
    (hfew : ((backTo cpos (starEach (e :: es) X.env)).all (fun x => !x.1) && (backToKw cpos (keywordEach [] X.env)).all (fun x => x.1.isSome)
      && decide ((e :: es).length + ([] : List Keyword).length + (if ([] : List Keyword).isEmpty then 0 else 1) < 30)) = true := by rfl)
    (hline : (apos.endLine == cpos.line) = true := by rfl) (hs : starEach (e :: es) X.env = (false, eval e X.env) :: starEach es X.env := by rfl) (hplain : (backTo cpos (starEach es X.env)).any (·.1) = false := by rfl) :
    PE X (.Call (.Attribute o name apos) (e :: es) [] cpos) (tBMF r to t) := by
  refine ⟨fun pins s σ H Q I h => ?_⟩
  refine wpAny_Call_method_late hbase hfew hline rfl (thn (ho.run pins s σ H _ I h) fun v s1 ⟨x, H1, I1, r1, ty, q1⟩ => ?_)
  obtain ⟨a, ys, rfl, oo, hoo, hdn⟩ := ty
  cases r1
  obtain ⟨e0, _, its, rv, hT⟩ := I1.hok a _ hoo
  refine ⟨"tuple", id, PySem.F.plainAttrs_tuple, slot, hty, hT.typeIs, fun b eb => ?_, ?_⟩
  · cases eb
    exact ⟨oo, e0, hdn⟩
  have hA := ha.run cpos pins s1 σ H1 _ I1 q1
  rw [hs] at hA ⊢
  refine Calls.callWith_builtin (by show (false || (backTo cpos (starEach es X.env)).any (·.1)) = false; rw [hplain] <;> rfl) (Calls.evalArgs_plain ?_)
  exact thn hA fun us s2 ⟨vs, H2, I2, r2, q2⟩ => hm pins s2 σ H2 (.ref a) vs (.ref a) us Q I2 rfl r2 q2
end
/-! ### a thing: a tuple or not -/
inductive ThK (K : PySem.W.Frag) (H : Hp) : V → Option (List V) → Prop where
  | no {v : V} {nm : String} (h : TyN H v nm) (hn : nm ≠ "tuple") : ThK K H v none
  | yes {a : Addr} {xs : List V} (h : SqT K H a xs) (ht : TyX K H (.ref a) (.type "tuple")) (hx : ∀ x ∈ xs, ∃ n, TyN H x n) : ThK K H (.ref a) (some xs)
theorem Tpl.k {K : PySem.W.Frag} {H : Hp} {v : V} {o : Option (List V)} (h : Tpl H v o) : ThK K H v o := by
  cases h with
  | no h hn => exact .no h hn
  | yes h hx => exact .yes (sqT_of h) (TyN.tup h).x hx
theorem TF.k {K : PySem.W.Frag} {H : Hp} {a : Addr} {xs : List V} (h : TF H a xs) (hx : ∀ x ∈ xs, ∃ n, TyN H x n) : ThK K H (.ref a) (some xs) := by
  have h' := h.sq (K := K)
  obtain ⟨o, e, _⟩ := h
  exact .yes h' (.fTuple e) hx
theorem TF.ints {K : PySem.W.Frag} {H : Hp} {a : Addr} {ws : List Int} (h : TF H a (ws.map V.int)) : ThK K H (.ref a) (some (ws.map V.int)) := h.k (ty_ints ws)
theorem isi_no {K : PySem.W.Frag} {H : Hp} {v : V} {nm : String} (h : TyN H v nm) (hn : nm ≠ "tuple") : PySem.W.kitOne K (.type nm) (.type "tuple") = some false := by
  have := h.isi (K := K) (c := "tuple") (.inr (.inr (.inl rfl)))
  rw [this]
  cases h <;> first | rfl | exact absurd rfl hn
theorem isi_yes {K : PySem.W.Frag} : PySem.W.kitOne K (.type "tuple") (.type "tuple") = some true := kit_ty (by decide +kernel)
/-! ### ways as things -/
def isEnd (t : Int × Int) (x : V) : Bool := match x with
  | .int i => decide (i = t.1) || decide (i = t.2)
  | _ => false
def endsB : List (Int × Int) → List V → Bool
  | t :: ts, x :: xs => isEnd t x && endsB ts xs
  | [], [] => true
  | _, _ => false
def waysO (ts : List (Int × Int)) : Option (List V) → Bool
  | some xs => endsB ts xs
  | none => false
theorem endsB_len : ∀ {ts : List (Int × Int)} {xs : List V}, endsB ts xs = true → xs.length = ts.length
  | [], [], _ => rfl
  | _ :: _, _ :: _, h => by
    have h : (_ && endsB _ _) = true := h
    rw [Bool.and_eq_true] at h
    rw [List.length_cons, List.length_cons, endsB_len h.2]
  | [], _ :: _, h => by cases h
  | _ :: _, [], h => by cases h
theorem endsB_iff : ∀ {ts : List (Int × Int)} {xs : List V}, xs.length = ts.length → (endsB ts xs = true ↔ ∀ (i : Nat) (t : Int × Int) (x : V), ts[i]? = some t → xs[i]? = some x → isEnd t x = true)
  | [], [], _ => ⟨fun _ i t x h => by simp at h, fun _ => rfl⟩
  | t :: ts, x :: xs, hl => by
    have ih := endsB_iff (ts := ts) (xs := xs) (Nat.succ.inj hl)
    show (isEnd t x && endsB ts xs) = true ↔ _
    rw [Bool.and_eq_true, ih]
    refine ⟨fun h i t' x' h1 h2 => ?_, fun h => ⟨h 0 t x rfl rfl, fun i t' x' h1 h2 => h (i + 1) t' x' h1 h2⟩⟩
    cases i with
    | zero => cases h1; cases h2; exact h.1
    | succ i => exact h.2 i t' x' h1 h2
  | [], _ :: _, h => by cases h
  | _ :: _, [], h => by cases h
theorem WOk.ends {ts : List (Int × Int)} {ws : List Int} (h : WOk ts ws) : endsB ts (ws.map V.int) = true := by
  refine (endsB_iff (by rw [List.length_map]; exact h.1)).mpr fun i t x h1 h2 => ?_
  obtain ⟨w, hw, rfl⟩ := int_at h2
  show (decide (w = t.1) || decide (w = t.2)) = true
  rw [Bool.or_eq_true, decide_eq_true_eq, decide_eq_true_eq]
  exact h.2 i t w h1 hw
theorem ends_ints : ∀ {ts : List (Int × Int)} {xs : List V}, endsB ts xs = true → xs = (intsOf xs).map V.int ∧ WOk ts (intsOf xs)
  | [], [], _ => ⟨rfl, WOk.nil⟩
  | t :: ts, x :: xs, h => by
    have h : (isEnd t x && endsB ts xs) = true := h
    rw [Bool.and_eq_true] at h
    obtain ⟨e, w⟩ := ends_ints h.2
    obtain ⟨h1, _⟩ := h
    cases x with
    | int i =>
      have h1 : (decide (i = t.1) || decide (i = t.2)) = true := h1
      rw [Bool.or_eq_true, decide_eq_true_eq, decide_eq_true_eq] at h1
      refine ⟨?_, ?_⟩
      · show V.int i :: xs = V.int i :: (intsOf xs).map V.int
        rw [← e]
      · show WOk (t :: ts) (i :: intsOf xs)
        refine ⟨by rw [List.length_cons, List.length_cons, w.1], fun j t' w' e1 e2 => ?_⟩
        cases j with
        | zero => cases e1; cases e2; exact h1
        | succ j => exact w.2 j t' w' e1 e2
    | _ => cases h1
  | [], _ :: _, h => by cases h
  | _ :: _, [], h => by cases h
def rwO (n : Int) (ts : List (Int × Int)) (d : Int) (o : Option (List V)) : Bool := waysO ts o && match o with
  | some xs => (outsL n (intsOf xs)).all fun x => decide (x ≤ d)
  | none => true
theorem all_max {ns : List Int} {m d : Int} (h : m ∈ ns) (hx : ∀ y, y ∈ ns → y ≤ m) : (ns.all fun x => decide (x ≤ d)) = decide (m ≤ d) := by
  by_cases e : m ≤ d
  · rw [decide_eq_true e, List.all_eq_true]
    exact fun x hm => decide_eq_true (Int.le_trans (hx x hm) e)
  · rw [decide_eq_false e, Bool.eq_false_iff]
    exact fun z => e (of_decide_eq_true (List.all_eq_true.mp z m h))
theorem WOk.rw {n : Int} {ts : List (Int × Int)} {ws : List Int} {d m : Int} (h : WOk ts ws) (hm : m ∈ outsL n ws) (hx : ∀ y, y ∈ outsL n ws → y ≤ m) : rwO n ts d (some (ws.map V.int)) = decide (m ≤ d) := by
  show (endsB ts (ws.map V.int) && (outsL n (intsOf (ws.map V.int))).all fun x => decide (x ≤ d)) = _
  rw [h.ends, Bool.true_and, intsOf_map, all_max hm hx]
def crowdO (n : Int) (ts : List (Int × Int)) (d : Int) (o : Option (List V)) : Bool := lotO n o && match o with
  | some xs => decide ((inside (intsOf xs) ts : Int) > d * (xs.length : Int))
  | none => false
theorem Lot.crowd {n : Int} {ls : List Int} (h : Lot n ls) (ts : List (Int × Int)) (d : Int) : crowdO n ts d (some (ls.map V.int)) = decide ((inside ls ts : Int) > d * (ls.length : Int)) := by
  show (lotO n (some (ls.map V.int)) && decide ((inside (intsOf (ls.map V.int)) ts : Int) > d * ((ls.map V.int).length : Int))) = _
  rw [h.o, Bool.true_and, intsOf_map, List.length_map]
theorem list_max {ns : List Int} (h : 0 < ns.length) : ∃ M, M ∈ ns ∧ ∀ y ∈ ns, y ≤ M := by
  cases ns with
  | nil => cases h
  | cons n ns => exact ⟨_, (fold_max ns n).1, (fold_max ns n).2⟩
theorem eqv_tints (ls : List Int) : PyData.eqv (.tuple (ls.map PyData.int)) (.tuple (ls.map PyData.int)) = true := SeqAt.eqv_refl _ (SeqAt.canLay_of_shaped (shaped_tints ls))
end FF
namespace FF
open PySem PySem.Spec PyProof.Rows L2
/-! ### a def whose last parameter has a default -/
structure DefAt1 (K : PySem.W.Frag) (mg : Str → Option Value) (x : Str) (st : Stmt) (ps : List Str) (dv : V) (f : Addr) (fd : FuncData) : Prop where
  F : FunD K x x (defArgs st) (defBody st) (defScope st) [dv] [] f fd
  g : mg x = some (.ref f)
  b : Binds K fd ps []
  b1 : ∃ ds, Vals [dv] ds ∧ Binds K fd ps ds
theorem DefAt1.ok {P : Program} {w : World} {K : PySem.W.Frag} {mg : Str → Option Value} {base : Heap} {x : Str} {st : Stmt} {dv : V} {f : Addr} {fd : FuncData} {N ps : List Str} {k : Nat} {sp : Sp} (D : DefAt1 K mg x st ps dv f fd) (S : FnScope N ps (defScope st)) (len : ∀ vs H Q E, sp vs H Q E → vs.length = ps.length)
    (hbody : ∀ (A : Around) (outer : List Env) (s : Shared) (H : Hp) (vs : List V) (Q : VK) (E : XK), Room k (A.deeper (envOfC x (defScope st) s.heap.objs.size f fd.code)) → sp vs H Q E →
      ∃ t, PSs (cxOf CX0 P w K mg base N x (defScope st) f fd.code A outer s H E).nox (defBody st) t ∧ t { nx := fun _ H' => Q .non H', rt := Q } (start N vs) H) : FnOk P w K mg base CX0 (k + 1) f fd ps sp := by
  obtain ⟨oc, od, dV, kV, doc, pm, an, cdv, ct, osl, rfl, lk, hcd, _, _⟩ := D.F.ex
  refine fn_of lk hcd S len fun A outer s H vs Q E hr hsp => ?_
  obtain ⟨t, h, q⟩ := hbody A outer s H vs Q E hr hsp
  exact ⟨t, h.nox, q⟩
theorem binds_all {K : PySem.W.Frag} {fd : FuncData} {ps : List Str} (h : ∃ ds, Vals [] ds ∧ Binds K fd ps ds) : Binds K fd ps [] := by
  obtain ⟨ds, hv, hb⟩ := h
  cases hv
  exact hb
end FF
namespace FF
open PySem PySem.Spec PyProof.Rows L2
/-! ### data of tuples, to a depth -/
def DtN : Nat → Hp → V → PyData → Prop
  | 0, _, v, d => (∃ i, v = .int i ∧ d = .int i) ∨ (v = .non ∧ d = .none)
  | n + 1, H, v, d => DtN n H v d ∨ ∃ (a : Addr) (xs : List V) (ds : List PyData), v = .ref a ∧ H a = some (.tup xs) ∧ Paired (DtN n H) xs ds ∧ d = .tuple ds
theorem DtN.mono {H H' : Hp} (k : ∀ q xs, H q = some (.tup xs) → H' q = some (.tup xs)) : ∀ (n : Nat) {v : V} {d : PyData}, DtN n H v d → DtN n H' v d
  | 0, _, _, h => h
  | n + 1, _, _, h => by
    rcases h with h | ⟨a, xs, ds, e1, e2, e3, e4⟩
    · exact .inl (DtN.mono k n h)
    · exact .inr ⟨a, xs, ds, e1, k _ _ e2, L2.Paired.mapP e3 fun _ _ z => DtN.mono k n z, e4⟩
theorem DtN.dp {K : PySem.W.Frag} {H : Hp} : ∀ (n : Nat) {v : V} {d : PyData}, DtN n H v d → Dp K H v d
  | 0, _, _, h => by
    rcases h with ⟨i, rfl, rfl⟩ | ⟨rfl, rfl⟩
    · exact .int i
    · exact .non
  | n + 1, _, _, h => by
    rcases h with h | ⟨a, xs, ds, rfl, e2, e3, rfl⟩
    · exact DtN.dp n h
    · have go : ∀ {xs : List V} {ds : List PyData}, Paired (DtN n H) xs ds → DpAll K H xs ds := fun {xs ds} hp => by
        induction hp with
        | nil => exact .nil
        | cons h _ ih => exact .cons (DtN.dp n h) ih
      exact .tup (sqT_of e2) (go e3)
theorem Sh.up {k l : Nat} {d : PyData} (h : Sh k d) (hk : k ≤ l) : Sh l d := ⟨h.1, Nat.le_trans h.2 hk⟩
theorem DtN.sh {H : Hp} : ∀ (n : Nat) {v : V} {d : PyData}, DtN n H v d → Sh n d
  | 0, _, _, h => by
    rcases h with ⟨i, _, rfl⟩ | ⟨_, rfl⟩
    · exact Sh.int
    · exact Sh.none
  | n + 1, _, _, h => by
    rcases h with h | ⟨a, xs, ds, _, _, e3, rfl⟩
    · exact (DtN.sh n h).up (Nat.le_succ n)
    · have go : ∀ {xs : List V} {ds : List PyData}, Paired (DtN n H) xs ds → ∀ d ∈ ds, Sh n d := fun {xs ds} hp => by
        induction hp with
        | nil => exact fun _ z => nomatch z
        | cons h _ ih =>
          intro d hd
          rcases List.mem_cons.mp hd with rfl | hd
          · exact DtN.sh n h
          · exact ih d hd
      exact Sh.tup (go e3)
def Dts (n : Nat) (H : Hp) (xs : List V) : Prop := ∀ x ∈ xs, ∃ d, DtN n H x d
theorem Dts.mono {n : Nat} {H H' : Hp} {xs : List V} (h : Dts n H xs) (k : ∀ q xs, H q = some (.tup xs) → H' q = some (.tup xs)) : Dts n H' xs := fun x hx => (h x hx).elim fun d z => ⟨d, z.mono k⟩
theorem Dts.data {K : PySem.W.Frag} {n : Nat} {H : Hp} : ∀ {xs : List V}, Dts n H xs → ∃ ds, DpAll K H xs ds ∧ ds.length = xs.length ∧ ∀ d ∈ ds, Sh n d
  | [], _ => ⟨[], .nil, rfl, fun _ z => nomatch z⟩
  | x :: xs, h => by
    obtain ⟨d, hd⟩ := h x List.mem_cons_self
    obtain ⟨ds, h1, h2, h3⟩ := Dts.data (K := K) (xs := xs) fun y hy => h y (List.mem_cons_of_mem _ hy)
    refine ⟨d :: ds, .cons hd.dp h1, by rw [List.length_cons, List.length_cons, h2], fun e he => ?_⟩
    rcases List.mem_cons.mp he with rfl | he
    · exact hd.sh
    · exact h3 e he
theorem eqv_list0 (ds : List PyData) : PyData.eqv (.list ds) (.list []) = ds.isEmpty := by
  cases ds <;> rfl
theorem Dts.ints {n : Nat} {H : Hp} (ls : List Int) : Dts n H (ls.map V.int) := fun x hx => by
  obtain ⟨i, _, rfl⟩ := List.mem_map.mp hx
  refine ⟨.int i, ?_⟩
  induction n with
  | zero => exact .inl ⟨i, rfl, rfl⟩
  | succ n ih => exact .inl ih
theorem Ties.dts {H : Hp} : ∀ {rs : List V} {ts : List (Int × Int)}, Ties H rs ts → Dts 1 H rs
  | _, _, .nil => fun _ z => nomatch z
  | _, _, .cons ⟨q, e, h⟩ t => fun x hx => by
    rcases List.mem_cons.mp hx with rfl | hx
    · exact ⟨_, .inr ⟨q, _, _, e, h, .cons (.inl ⟨_, rfl, rfl⟩) (.cons (.inl ⟨_, rfl, rfl⟩) .nil), rfl⟩⟩
    · exact Ties.dts t x hx
/-! ### ties in another order -/
theorem Ties.perm {H : Hp} {rs qs : List V} (p : qs.Perm rs) : ∀ {ts : List (Int × Int)}, Ties H rs ts → ∃ us, Ties H qs us ∧ us.Perm ts := by
  induction p with
  | nil => intro ts h; exact ⟨ts, h, .refl _⟩
  | cons x _ ih =>
    intro ts h
    cases h with
    | cons h t =>
      obtain ⟨us, h1, h2⟩ := ih t
      exact ⟨_, .cons h h1, h2.cons _⟩
  | swap x y l =>
    intro ts h
    cases h with
    | cons h t =>
      cases t with
      | cons h2 t => exact ⟨_, .cons h2 (.cons h t), .swap _ _ _⟩
  | trans _ _ ih1 ih2 =>
    intro ts h
    obtain ⟨us, h1, h2⟩ := ih2 h
    obtain ⟨vs, h3, h4⟩ := ih1 h1
    exact ⟨vs, h3, h4.trans h2⟩
theorem TOk.perm {n : Int} {ts us : List (Int × Int)} (h : TOk n ts) (p : us.Perm ts) : TOk n us := fun t ht => h t (p.mem_iff.mp ht)
theorem erase_perm {xs : List V} {k : Nat} {y : V} (h : xs[k]? = some y) : (y :: xs.eraseIdx k).Perm xs := by
  induction xs generalizing k with
  | nil => simp at h
  | cons x xs ih =>
    cases k with
    | zero => cases h; exact .refl _
    | succ k =>
      have h : xs[k]? = some y := h
      rw [List.eraseIdx_cons_succ]
      exact (List.Perm.swap _ _ _).trans ((ih h).cons x)
/-! ### partings as things -/
def partF : Int → List Int → Bool
  | m, i :: is => (decide (0 ≤ i) && decide (i ≤ m)) && partF (max m (i + 1)) is
  | _, [] => true
def partV : Int → List V → Bool
  | m, x :: xs => isNum x 0 m && match x with
    | .int i => partV (max m (i + 1)) xs
    | _ => false
  | _, [] => true
def partO (n : Int) : Option (List V) → Bool
  | some xs => decide ((xs.length : Int) = n) && partV 0 xs
  | none => false
theorem partV_map : ∀ (m : Int) (is : List Int), partV m (is.map V.int) = partF m is
  | _, [] => rfl
  | m, i :: is => by
    show ((decide (0 ≤ i) && decide (i ≤ m)) && partV (max m (i + 1)) (is.map V.int)) = _
    rw [partV_map]
    rfl
theorem partV_ints : ∀ {m : Int} {xs : List V}, partV m xs = true → xs = (intsOf xs).map V.int
  | _, [], _ => rfl
  | m, x :: xs, h => by
    have h : (isNum x 0 m && _) = true := h
    rw [Bool.and_eq_true] at h
    cases x with
    | int i =>
      have := partV_ints (xs := xs) h.2
      show V.int i :: xs = V.int i :: (intsOf xs).map V.int
      rw [← this]
    | _ => cases h.1
theorem dedup_app : ∀ (is acc : List Int), ∃ r, is.foldl step_dedup acc = acc ++ r
  | [], acc => ⟨[], (List.append_nil _).symm⟩
  | i :: is, acc => by
    obtain ⟨r, e⟩ := dedup_app is (step_dedup acc i)
    rw [List.foldl_cons, e]
    unfold step_dedup
    split
    · exact ⟨r, rfl⟩
    · exact ⟨i :: r, by rw [List.append_assoc]; rfl⟩
theorem nub_app (acc is : List Int) : ∃ r, nub (acc ++ is) = nub acc ++ r := by
  unfold nub
  rw [List.foldl_append]
  exact dedup_app is _
theorem step_in {acc : List Int} {i : Int} (h : i ∈ acc) : step_dedup acc i = acc := by
  unfold step_dedup
  rw [if_pos (List.any_eq_true.mpr ⟨i, h, by simp⟩)]
theorem step_out {acc : List Int} {i : Int} (h : i ∉ acc) : step_dedup acc i = acc ++ [i] := by
  unfold step_dedup
  rw [if_neg]
  intro z
  obtain ⟨y, hy, e⟩ := List.any_eq_true.mp z
  have : y = i := by simpa using e
  exact h (this ▸ hy)
theorem part_nub : ∀ (is acc : List Int) (m : Int), 0 ≤ m → nub acc = upTo m → (partF m is = true ↔ nub (acc ++ is) = upTo ((nub (acc ++ is)).length))
  | [], acc, m, hm, e => by
    rw [List.append_nil, e, upTo_length, show ((m.toNat : Nat) : Int) = m by omega]
    exact ⟨fun _ => rfl, fun _ => rfl⟩
  | i :: is, acc, m, hm, e => by
    have ea : acc ++ i :: is = (acc ++ [i]) ++ is := by rw [List.append_assoc]; rfl
    rw [ea]
    by_cases h : 0 ≤ i ∧ i ≤ m
    · have st : nub (acc ++ [i]) = upTo (max m (i + 1)) := by
        rw [nub_snoc, e]
        by_cases c : i < m
        · rw [step_in (upTo_mem.mpr ⟨h.1, c⟩), show max m (i + 1) = m by omega]
        · rw [step_out (fun z => c (upTo_mem.mp z).2), show max m (i + 1) = m + 1 by omega, upTo_succ hm, show i = m by omega]
      rw [← part_nub is (acc ++ [i]) (max m (i + 1)) (by omega) st]
      show ((decide (0 ≤ i) && decide (i ≤ m)) && partF (max m (i + 1)) is) = true ↔ _
      rw [decide_eq_true h.1, decide_eq_true h.2]
      exact Iff.rfl
    · have st : nub (acc ++ [i]) = upTo m ++ [i] := by
        rw [nub_snoc, e, step_out fun z => h ⟨(upTo_mem.mp z).1, Int.le_of_lt (upTo_mem.mp z).2⟩]
      obtain ⟨r, er⟩ := nub_app (acc ++ [i]) is
      rw [er, st]
      constructor
      · intro z
        have z : ((decide (0 ≤ i) && decide (i ≤ m)) && partF (max m (i + 1)) is) = true := z
        rw [Bool.and_eq_true, Bool.and_eq_true, decide_eq_true_eq, decide_eq_true_eq] at z
        exact absurd z.1 h
      · intro z
        have g1 : (upTo m ++ [i] ++ r)[m.toNat]? = some i := by
          rw [List.append_assoc, List.getElem?_append_right (by rw [upTo_length]; exact Nat.le_refl _), upTo_length, Nat.sub_self]
          rfl
        rw [z] at g1
        have hl : ((upTo m ++ [i] ++ r).length : Int) = m + 1 + r.length := by
          rw [List.length_append, List.length_append, upTo_length]
          show ((m.toNat + 1 + r.length : Nat) : Int) = _
          omega
        rw [hl, get_hat hm (by rw [upTo_length]; omega), hat_upTo hm (by omega)] at g1
        cases g1
        exact absurd ⟨hm, Int.le_refl _⟩ h
theorem part_nub0 (is : List Int) : partF 0 is = decide (nub is = upTo ((nub is).length)) := by
  have := part_nub is [] 0 (Int.le_refl _) rfl
  rw [List.nil_append] at this
  by_cases c : nub is = upTo ((nub is).length)
  · rw [decide_eq_true c]
    exact this.mpr c
  · rw [decide_eq_false c, Bool.eq_false_iff]
    exact fun z => c (this.mp z)
/-! ### the greatest of some -/
def mx : List Int → Int
  | [] => 0
  | n :: ns => ns.foldl max n
theorem mx_is {ns : List Int} {m : Int} (h : m ∈ ns) (hx : ∀ y, y ∈ ns → y ≤ m) : m = mx ns := by
  cases ns with
  | nil => cases h
  | cons n ns =>
    have := fold_max ns n
    exact Int.le_antisymm (this.2 m h) (hx _ this.1)
def thinO (n : Int) (ts : List (Int × Int)) (k : Int) (o : Option (List V)) : Bool := partO n o && match o with
  | some xs => decide ((between (intsOf xs) ts : Int) < k * mx (intsOf xs))
  | none => false
theorem hat_inj {os : List Int} (h : os.Nodup) {x y : Int} (x0 : 0 ≤ x) (x1 : x < os.length) (y0 : 0 ≤ y) (y1 : y < os.length) (e : hat os x = hat os y) : x = y := by
  have : x.toNat = y.toNat := (List.getElem?_inj (by omega : x.toNat < os.length) h).mp (by rw [get_hat x0 x1, get_hat y0 y1, e])
  omega
theorem perm_ints {ys : List V} {is : List Int} (h : ys.Perm (is.map V.int)) : ∃ os : List Int, ys = os.map V.int ∧ os.Perm is := by
  refine ⟨intsOf ys, ?_, ?_⟩
  · have go : ∀ zs : List V, (∀ z ∈ zs, ∃ i, z = V.int i) → zs = (intsOf zs).map V.int := fun zs hz => by
      induction zs with
      | nil => rfl
      | cons z zs ih =>
        obtain ⟨i, rfl⟩ := hz z List.mem_cons_self
        show V.int i :: zs = V.int i :: (intsOf zs).map V.int
        rw [← ih fun x hx => hz x (List.mem_cons_of_mem _ hx)]
    exact go ys fun z hz => by
      obtain ⟨i, _, e⟩ := List.mem_map.mp (h.mem_iff.mp hz)
      exact ⟨i, e.symm⟩
  · have : (intsOf ys).Perm (intsOf (is.map V.int)) := h.map _
    rw [intsOf_map] at this
    exact this
theorem mod_step {a d g : Int} (d0 : 1 ≤ d) (d1 : d < g) : (a + d) % g ≠ a := fun z => by
  have e := Int.emod_add_mul_ediv (a + d) g
  rw [z] at e
  rcases Int.lt_or_le 0 ((a + d) / g) with h | h
  · have := Int.mul_le_mul_of_nonneg_left (show (1 : Int) ≤ (a + d) / g from h) (show 0 ≤ g by omega)
    omega
  · have := Int.mul_le_mul_of_nonneg_left h (show 0 ≤ g by omega)
    omega
theorem tie_of {n a b : Int} (a0 : 0 ≤ a) (a1 : a < n) (b0 : 0 ≤ b) (b1 : b < n) (h : a ≠ b) : TOk n [(if b < a then b else a, if b > a then b else a)] := by
  intro t ht
  rw [List.mem_singleton.mp ht]
  dsimp only
  split <;> split <;> omega
theorem eqvAll_ints : ∀ as bs : List Int, PyData.eqvAll (as.map PyData.int) (bs.map PyData.int) = decide (as = bs)
  | [], [] => by rw [PyData.eqvAll.eq_def]; rfl
  | [], b :: bs => by rw [PyData.eqvAll.eq_def]; rfl
  | a :: as, [] => by rw [PyData.eqvAll.eq_def]; rfl
  | a :: as, b :: bs => by
    rw [List.map_cons, List.map_cons, PyData.eqvAll, eqvAll_ints as bs, PyData.eqv]
    by_cases h : a = b
    · subst h
      by_cases g : as = bs
      · subst g; simp
      · rw [decide_eq_false g, decide_eq_false fun z => g (List.cons.inj z).2, Bool.and_false]
    · rw [decide_eq_false fun z => h (List.cons.inj z).1, show (a == b) = false by simpa using h, Bool.false_and]
theorem eqv_lints (as bs : List Int) : PyData.eqv (.list (as.map PyData.int)) (.list (bs.map PyData.int)) = decide (as = bs) := by
  rw [PyData.eqv]
  exact eqvAll_ints as bs
end FF
namespace FF
open PySem PySem.Spec PyProof.Rows L2
/-! ### how many are laid -/
def laidN (ws : List V) : Nat := (ws.filter fun x => !decide (x = V.non)).length
theorem laidN_take {ws : List V} {i : Nat} {x : V} (h : ws[i]? = some x) : laidN (ws.take (i + 1)) = laidN (ws.take i) + if (!decide (x = V.non)) = true then 1 else 0 := by
  unfold laidN
  rw [take_next h, List.filter_append, List.length_append]
  by_cases c : (!decide (x = V.non)) = true
  · rw [List.filter_cons_of_pos (p := fun x => !decide (x = V.non)) c, if_pos c]
    rfl
  · rw [List.filter_cons_of_neg (p := fun x => !decide (x = V.non)) c, if_neg c]
    rfl
theorem laidN_le (ws : List V) : laidN ws ≤ ws.length := List.length_filter_le _ _
def treesO (n : Int) (ts : List (Int × Int)) (k : Int) (o : Option (List V)) : Bool := layO ts k o && match o with
  | some ws => decide ((laidN ws : Int) = k * (n - 1))
  | none => false
theorem layO_length {ts : List (Int × Int)} {k : Int} {ws : List V} (h : layO ts k (some ws) = true) : ws.length = ts.length := by
  by_cases c : ws.length = ts.length
  · exact c
  · rw [layO_len c] at h
    cases h
end FF
namespace FF
open PySem PySem.Spec PyProof.Rows L2
/-! ### rising tuples as things -/
def risO (m : Int) : Option (List V) → Bool
  | none => false
  | some xs => rising (m + 1) 0 xs
theorem lotO_ris (n : Int) (o : Option (List V)) : lotO n o = (risO (n - 1) o && match o with
  | none => false
  | some xs => !xs.isEmpty) := by
  match o with
  | none => rfl
  | some [] => rfl
  | some (v :: r) =>
    show rising n 0 (v :: r) = (rising (n - 1 + 1) 0 (v :: r) && true)
    rw [Bool.and_true, Int.sub_add_cancel]
theorem sqL_ke {K : PySem.W.Frag} {H H' : Hp} {p : Addr} {xs : List V} (h : SqL K H p xs) (a : Ke H H') : SqL K H' p xs := by
  rcases h with (h | ⟨o, h⟩) | h
  · exact .inl (.inl (a.lst h))
  · exact .inl (.inr ⟨o, a.at_ p _ h (fun _ z => nomatch z) fun z => z⟩)
  · exact .inr h
/-! ### how many ties a forest has within a lot -/
theorem nub_glue {a b : Int} {hs : List Int} (ha : a ∈ hs) (hb : b ∈ hs) (h : a ≠ b) : (nub (hs.map fun x => if x = b then a else x)).length + 1 = (nub hs).length := by
  have e : (b :: nub (hs.map fun x => if x = b then a else x)).length = (nub hs).length := by
    refine nd_eq (List.nodup_cons.mpr ⟨fun z => ?_, nub_nd _⟩) (nub_nd _) fun x => ?_
    · rw [mem_nub] at z
      obtain ⟨y, hy, e⟩ := List.mem_map.mp z
      split at e
      · exact h e
      · rename_i hn
        exact hn e
    · rw [mem_nub, List.mem_cons, mem_nub]
      constructor
      · rintro (rfl | hx)
        · exact hb
        · obtain ⟨y, hy, e⟩ := List.mem_map.mp hx
          split at e
          · exact e ▸ ha
          · exact e ▸ hy
      · intro hx
        by_cases e : x = b
        · exact .inl e
        · exact .inr (List.mem_map.mpr ⟨x, hx, by rw [if_neg e]⟩)
  rw [← e, List.length_cons]
theorem lot_count {ls : List Int} : ∀ {ts : List (Int × Int)} {r : Int → Int}, ringlessF r ts = true → (∀ t ∈ ts, t.1 ∈ ls ∧ t.2 ∈ ls) → ts.length + (nub (ls.map (foldR r ts))).length = (nub (ls.map r)).length
  | [], r, _, _ => Nat.zero_add _
  | t :: ts, r, h, hm => by
    obtain ⟨h1, h2⟩ := hm t List.mem_cons_self
    have h : (if r t.1 = r t.2 then false else ringlessF (rstep r t) ts) = true := h
    have e : r t.1 ≠ r t.2 := fun z => by rw [if_pos z] at h; cases h
    rw [if_neg e] at h
    have hr := h
    have ih := lot_count (ls := ls) hr fun t' h' => hm t' (List.mem_cons_of_mem _ h')
    have g := nub_glue (hs := ls.map r) (List.mem_map.mpr ⟨_, h1, rfl⟩) (List.mem_map.mpr ⟨_, h2, rfl⟩) e
    have em : (ls.map r).map (fun x => if x = r t.2 then r t.1 else x) = ls.map (rstep r t) := by
      rw [List.map_map]
      rfl
    rw [em] at g
    have ih : ts.length + (nub (ls.map (foldR (rstep r t) ts))).length = (nub (ls.map (rstep r t))).length := ih
    show ts.length + 1 + (nub (ls.map (foldR (rstep r t) ts))).length = _
    omega
theorem lot_count_le {ls : List Int} {ts : List (Int × Int)} (h : ringlessF (fun x => x) ts = true) (hm : ∀ t ∈ ts, t.1 ∈ ls ∧ t.2 ∈ ls) (hn : ls.Nodup) (he : ls ≠ []) : ts.length + 1 ≤ ls.length := by
  have := lot_count h hm
  rw [List.map_id', nub_of_nd hn] at this
  have h1 : 0 < (nub (ls.map (foldR (fun x => x) ts))).length := by
    cases ls with
    | nil => exact absurd rfl he
    | cons x r =>
      have : foldR (fun x => x) ts x ∈ nub ((x :: r).map (foldR (fun x => x) ts)) := (mem_nub _ _).mpr List.mem_cons_self
      exact List.length_pos_of_mem this
  omega
theorem ringlessF_filter (p : Int × Int → Bool) {L : List (Int × Int)} (h : ringlessF (fun x => x) L = true) : ringlessF (fun x => x) (L.filter p) = true := by
  have hp : L.Perm (L.filter p ++ L.filter fun t => !p t) := (List.filter_append_perm p L).symm
  rw [ringlessF_perm hp] at h
  cases e : ringlessF (fun x => x) (L.filter p) with
  | true => rfl
  | false => rw [ringlessF_bad _ _ _ e] at h; cases h
/-- a forest has at most so many ties within a lot -/
theorem inside_forest {ls : List Int} {L : List (Int × Int)} (h : ringlessF (fun x => x) L = true) (hn : ls.Nodup) (he : ls ≠ []) : inside ls L + 1 ≤ ls.length := by
  refine lot_count_le (ringlessF_filter _ h) (fun t ht => ?_) hn he
  have := (List.mem_filter.mp ht).2
  rw [Bool.and_eq_true, decide_eq_true_eq, decide_eq_true_eq] at this
  exact this
end FF
namespace FF
open PySem PySem.Spec PyProof.Rows L2
/-! ### laid ties, and how many of them lie within a lot -/
theorem atI_getD {xs : List V} {m : Int} (h0 : 0 ≤ m) (h1 : m < xs.length) : atI xs m = some (xs.getD m.toNat .non) := by
  obtain ⟨k, rfl⟩ : ∃ k : Nat, m = k := ⟨m.toNat, by omega⟩
  have hk : k < xs.length := by omega
  refine atI_nat ?_
  rw [Int.toNat_natCast, List.getD_eq_getElem?_getD, List.getElem?_eq_getElem hk]
  rfl
def laidM (ws : List V) (ms : List Int) : List Int := ms.filter fun m => !decide (ws.getD m.toNat .non = V.non)
theorem laidM_take {ws : List V} {ms : List Int} {i : Nat} {m : Int} (h : ms[i]? = some m) : laidM ws (ms.take (i + 1)) = laidM ws (ms.take i) ++ if (!decide (ws.getD m.toNat .non = V.non)) = true then [m] else [] := by
  unfold laidM
  rw [take_next h, List.filter_append]
  congr 1
  rw [List.filter_cons]
  rfl
def laidT (ts : List (Int × Int)) (ws : List V) : List (Int × Int) := ((ts.zip ws).filter fun p => !decide (p.2 = V.non)).map Prod.fst
theorem laidT_snoc {ts : List (Int × Int)} {ws : List V} (h : ts.length = ws.length) (t : Int × Int) (x : V) : laidT (ts ++ [t]) (ws ++ [x]) = laidT ts ws ++ if (!decide (x = V.non)) = true then [t] else [] := by
  unfold laidT
  rw [List.zip_append h, List.filter_append, List.map_append]
  congr 1
  show (List.filter (fun p : (Int × Int) × V => !decide (p.2 = V.non)) [(t, x)]).map Prod.fst = _
  rw [List.filter_cons]
  dsimp only
  split <;> rfl
theorem pick_laid {ts : List (Int × Int)} {ws : List V} (h : ws.length = ts.length) : ∀ i : Nat, i ≤ ts.length → pick ts (laidM ws (upTo i)) = laidT (ts.take i) (ws.take i)
  | 0, _ => rfl
  | i + 1, hi => by
    have ih := pick_laid h i (by omega)
    have e1 : ts[i]? = some (ts.getD i (0, 0)) := by rw [List.getD_eq_getElem?_getD, List.getElem?_eq_getElem (show i < ts.length by omega)]; rfl
    have e2 : ws[i]? = some (ws.getD i .non) := by rw [List.getD_eq_getElem?_getD, List.getElem?_eq_getElem (show i < ws.length by omega)]; rfl
    rw [take_next e1, take_next e2, laidT_snoc (by rw [List.length_take, List.length_take]; omega), ← ih]
    rw [show ((i + 1 : Nat) : Int) = (i : Int) + 1 by omega, upTo_snoc]
    unfold laidM
    rw [List.filter_append, pick_append]
    congr 1
    rw [List.filter_cons, Int.toNat_natCast]
    split
    · rw [List.filter_nil]
      rfl
    · rfl
theorem pick_laidT {ts : List (Int × Int)} {ws : List V} (h : ws.length = ts.length) : pick ts (laidM ws (upTo ws.length)) = laidT ts ws := by
  have := pick_laid h ts.length (Nat.le_refl _)
  rw [List.take_length, ← h, List.take_length] at this
  exact this
theorem layerOf_cons (t : Int × Int) (ts : List (Int × Int)) (x : V) (ws : List V) (f : Int) : layerOf (t :: ts) (x :: ws) f = (if x = V.int f then [t] else []) ++ layerOf ts ws f := by
  unfold layerOf
  rw [List.zip_cons_cons, List.filter_cons]
  dsimp only
  by_cases e : x = V.int f
  · rw [if_pos e, if_pos (decide_eq_true e)]; rfl
  · rw [if_neg e, if_neg (by rw [decide_eq_false e]; decide)]; rfl
theorem laidT_cons (t : Int × Int) (ts : List (Int × Int)) (x : V) (ws : List V) : laidT (t :: ts) (x :: ws) = (if x = V.non then [] else [t]) ++ laidT ts ws := by
  unfold laidT
  rw [List.zip_cons_cons, List.filter_cons]
  dsimp only
  by_cases e : x = V.non
  · rw [if_pos e, if_neg (by rw [decide_eq_true e]; decide)]; rfl
  · rw [if_neg e, if_pos (by rw [decide_eq_false e]; rfl)]; rfl
theorem inside_app (ls : List Int) (ts us : List (Int × Int)) : inside ls (ts ++ us) = inside ls ts + inside ls us := by
  unfold inside
  rw [List.filter_append, List.length_append]
/-- the laid ties within a lot, forest by forest -/
theorem inside_laid {k : Int} (ls : List Int) : ∀ {ts : List (Int × Int)} {ws : List V}, ws.length = ts.length → (∀ x ∈ ws, x = V.non ∨ ∃ f, x = V.int f ∧ 0 ≤ f ∧ f < k) → (inside ls (laidT ts ws) : Int) = ((upTo k).map fun f => (inside ls (layerOf ts ws f) : Int)).sum
  | [], [], _, _ => by
    have : ∀ f ∈ upTo k, (fun f => (inside ls (layerOf [] [] f) : Int)) f = 0 := fun f _ => rfl
    exact (sum_zero _ this).symm
  | t :: ts, x :: ws, hl, hx => by
    have ih := inside_laid ls (ts := ts) (ws := ws) (Nat.succ.inj hl) fun y hy => hx y (List.mem_cons_of_mem _ hy)
    have e : (fun f => (inside ls (layerOf (t :: ts) (x :: ws) f) : Int)) = fun f => (inside ls (if x = V.int f then [t] else []) : Int) + (inside ls (layerOf ts ws f) : Int) := by
      funext f
      rw [layerOf_cons, inside_app, Int.natCast_add]
    rw [e, sum_add, laidT_cons, inside_app, Int.natCast_add, ih]
    congr 1
    rcases hx x List.mem_cons_self with rfl | ⟨f, rfl, f0, f1⟩
    · rw [if_pos rfl]
      refine (sum_zero _ fun f _ => ?_).symm
      rw [if_neg (fun z => nomatch z)]
      rfl
    · rw [if_neg (fun z => nomatch z)]
      rw [sum_one (m := f) _ (upTo_nd k) (upTo_mem.mpr ⟨f0, f1⟩) fun y _ hy => ?_]
      · rw [if_pos rfl]
      · rw [if_neg fun z => hy (V.int.inj z).symm]
        rfl
theorem sum_most {s : Int} {g : Int → Int} : ∀ {l : List Int}, (∀ x ∈ l, g x ≤ s) → (l.map g).sum ≤ l.length * s ∧ ((l.map g).sum = l.length * s ↔ ∀ x ∈ l, g x = s)
  | [], _ => by simp
  | x :: l, h => by
    obtain ⟨i1, i2⟩ := sum_most (l := l) fun y hy => h y (List.mem_cons_of_mem _ hy)
    have hx := h x List.mem_cons_self
    have e : ((x :: l).length : Int) * s = (l.length : Int) * s + s := by
      rw [List.length_cons, Int.natCast_add, Int.add_mul]
      show _ + 1 * s = _
      rw [Int.one_mul]
    rw [List.map_cons, List.sum_cons, e]
    generalize (l.length : Int) * s = c at *
    refine ⟨by omega, fun z y hy => ?_, fun z => ?_⟩
    · have h1 : (l.map g).sum = c := by omega
      rcases List.mem_cons.mp hy with rfl | hy
      · omega
      · exact i2.mp h1 y hy
    · have h1 := i2.mpr fun y hy => z y (List.mem_cons_of_mem _ hy)
      have h2 := z x List.mem_cons_self
      omega
/-- a laying's forests, and none beyond k -/
structure LayK (ts : List (Int × Int)) (k : Int) (ws : List V) : Prop where
  len : ws.length = ts.length
  each : ∀ x ∈ ws, x = V.non ∨ ∃ f, x = V.int f ∧ 0 ≤ f ∧ f < k
  tree : ∀ f, ringlessF (fun x => x) (layerOf ts ws f) = true
theorem LayK.isO {ts : List (Int × Int)} {k : Int} {ws : List V} (h : LayK ts k ws) : ∀ x ∈ ws, IsO x := fun x hx => (h.each x hx).elim .inl fun ⟨f, e, _⟩ => .inr ⟨f, e⟩
theorem LayK.more {ts : List (Int × Int)} {k k' : Int} {ws : List V} (h : LayK ts k ws) (hk : k ≤ k') : LayK ts k' ws := ⟨h.len, fun x hx => (h.each x hx).imp id fun ⟨f, e, f0, f1⟩ => ⟨f, e, f0, Int.lt_of_lt_of_le f1 hk⟩, h.tree⟩
theorem tight_iff {ts : List (Int × Int)} {k : Int} {ws : List V} (h : LayK ts k ws) (hk : 0 ≤ k) {ls : List Int} (hn : ls.Nodup) (he : ls ≠ []) : ((inside ls (laidT ts ws) : Int) = k * ((ls.length : Int) - 1)) ↔ ∀ f, 0 ≤ f → f < k → (inside ls (layerOf ts ws f) : Int) = (ls.length : Int) - 1 := by
  rw [inside_laid ls h.len h.each]
  have hm := sum_most (s := (ls.length : Int) - 1) (g := fun f => (inside ls (layerOf ts ws f) : Int)) (l := upTo k) fun f _ => by
    have := inside_forest (h.tree f) hn he
    show (inside ls (layerOf ts ws f) : Int) ≤ _
    omega
  have hl : ((upTo k).length : Int) = k := by rw [upTo_length]; omega
  rw [hl] at hm
  rw [hm.2]
  exact ⟨fun z f f0 f1 => z f (upTo_mem.mpr ⟨f0, f1⟩), fun z f hf => z f (upTo_mem.mp hf).1 (upTo_mem.mp hf).2⟩
/-! ### all lots -/
def lotsF : Nat → List (List Int)
  | 0 => [[]]
  | n + 1 => lotsF n ++ (lotsF n).map fun l => l ++ [(n : Int)]
theorem lotsF_len : ∀ n : Nat, (lotsF n).length = 2 ^ n
  | 0 => rfl
  | n + 1 => by
    show (lotsF n ++ (lotsF n).map _).length = _
    rw [List.length_append, List.length_map, lotsF_len n, Nat.pow_succ]
    omega
theorem lotsF_ok : ∀ (n : Nat) (l : List Int), l ∈ lotsF n → l.Pairwise (· < ·) ∧ (∀ x ∈ l, 0 ≤ x ∧ x < (n : Int)) ∧ l.length ≤ n
  | 0, l, h => by
    rw [List.mem_singleton.mp h]
    exact ⟨.nil, (fun _ z => nomatch z), Nat.le_refl _⟩
  | n + 1, l, h => by
    rcases List.mem_append.mp (show l ∈ lotsF n ++ (lotsF n).map fun l => l ++ [(n : Int)] from h) with h | h
    · obtain ⟨h1, h2, h3⟩ := lotsF_ok n l h
      exact ⟨h1, fun x hx => by have := h2 x hx; omega, by omega⟩
    · obtain ⟨l', h', rfl⟩ := List.mem_map.mp h
      obtain ⟨h1, h2, h3⟩ := lotsF_ok n l' h'
      refine ⟨?_, fun x hx => ?_, by rw [List.length_append]; exact Nat.succ_le_succ h3⟩
      · rw [List.pairwise_append]
        exact ⟨h1, List.pairwise_singleton _ _, fun a ha b hb => by rw [List.mem_singleton.mp hb]; exact (h2 a ha).2⟩
      · rcases List.mem_append.mp hx with hx | hx
        · have := h2 x hx; omega
        · rw [List.mem_singleton.mp hx]; omega
theorem lotsF_all : ∀ (n : Nat) {l : List Int}, l.Pairwise (· < ·) → (∀ x ∈ l, 0 ≤ x ∧ x < (n : Int)) → l ∈ lotsF n
  | 0, l, _, h => by
    cases l with
    | nil => exact List.mem_singleton.mpr rfl
    | cons x r => have := h x List.mem_cons_self; omega
  | n + 1, l, hp, h => by
    show l ∈ lotsF n ++ (lotsF n).map fun l => l ++ [(n : Int)]
    by_cases hn : (n : Int) ∈ l
    · refine List.mem_append_right _ (List.mem_map.mpr ⟨l.filter fun x => decide (x < n), lotsF_all n (hp.filter _) (fun x hx => ?_), ?_⟩)
      · have h1 := (List.mem_filter.mp hx)
        have := of_decide_eq_true h1.2
        exact ⟨(h x h1.1).1, this⟩
      · refine up_same ?_ hp fun x => ?_
        · rw [List.pairwise_append]
          exact ⟨hp.filter _, List.pairwise_singleton _ _, fun a ha b hb => by rw [List.mem_singleton.mp hb]; exact of_decide_eq_true (List.mem_filter.mp ha).2⟩
        · rw [List.mem_append, List.mem_filter, List.mem_singleton, decide_eq_true_eq]
          constructor
          · rintro (⟨a, _⟩ | rfl)
            · exact a
            · exact hn
          · intro hx
            have := h x hx
            by_cases e : x = n
            · exact .inr e
            · exact .inl ⟨hx, by omega⟩
    · refine List.mem_append_left _ (lotsF_all n hp fun x hx => ?_)
      have := h x hx
      have : x ≠ n := fun z => hn (z ▸ hx)
      omega
def LsL (H : Hp) (rs : List V) (pss : List (List Int)) : Prop := Paired (fun (r : V) (ls : List Int) => ∃ q, r = .ref q ∧ H q = some (.lst (ls.map V.int))) rs pss
theorem LsL.mono {H H' : Hp} {rs : List V} {pss : List (List Int)} (h : LsL H rs pss) (k : ∀ q xs, H q = some (.lst xs) → H' q = some (.lst xs)) : LsL H' rs pss := L2.Paired.mapP h fun _ _ ⟨q, e, z⟩ => ⟨q, e, k q _ z⟩
theorem LsL.ke {H H' : Hp} {rs : List V} {pss : List (List Int)} (h : LsL H rs pss) (k : Ke H H') : LsL H' rs pss := h.mono fun _ _ => k.lst
theorem LsL.length {H : Hp} {rs : List V} {pss : List (List Int)} (h : LsL H rs pss) : rs.length = pss.length := Paired.length h
theorem LsL.append {H : Hp} : ∀ {rs qs : List V} {ps us : List (List Int)}, LsL H rs ps → LsL H qs us → LsL H (rs ++ qs) (ps ++ us)
  | _, _, _, _, .nil, g => g
  | _, _, _, _, .cons h t, g => .cons h (LsL.append t g)
theorem LsL.one {H : Hp} {q : Addr} {ls : List Int} (h : H q = some (.lst (ls.map V.int))) : LsL H [.ref q] [ls] := .cons ⟨q, rfl, h⟩ .nil
theorem LsL.get {H : Hp} : ∀ {rs : List V} {ps : List (List Int)} {i : Nat} {r : V}, LsL H rs ps → rs[i]? = some r → ∃ ls q, ps[i]? = some ls ∧ r = .ref q ∧ H q = some (.lst (ls.map V.int))
  | _, _, 0, _, .cons ⟨q, e, z⟩ _, h => by cases h; exact ⟨_, q, rfl, e, z⟩
  | _, _, i + 1, _, .cons _ t, h => by
    have h : _ = some _ := h
    obtain ⟨ls, q, e, er, hq⟩ := LsL.get (i := i) t h
    exact ⟨ls, q, e, er, hq⟩
theorem Lots.tys {H : Hp} {rs : List V} {pss : List (List Int)} (h : Lots H rs pss) : ∀ r ∈ rs, ∃ ls q, ls ∈ pss ∧ r = .ref q ∧ H q = some (.tup (ls.map V.int)) := fun r hr => by
  obtain ⟨i, hi⟩ := List.mem_iff_getElem?.mp hr
  obtain ⟨ls, q, e, er, hq⟩ := h.get hi
  exact ⟨ls, q, List.mem_of_getElem? e, er, hq⟩
theorem ringlessF_sub {L L' : List (Int × Int)} (s : L'.Sublist L) (h : ringlessF (fun x => x) L = true) : ringlessF (fun x => x) L' = true := by
  obtain ⟨r, hp⟩ := s.exists_perm_append
  rw [ringlessF_perm hp] at h
  cases e : ringlessF (fun x => x) L' with
  | true => rfl
  | false => rw [ringlessF_bad _ _ _ e] at h; cases h
theorem Less.layer {f : Int} : ∀ {ts : List (Int × Int)} {zs ws : List V}, Less zs ws → (layerOf ts zs f).Sublist (layerOf ts ws f)
  | [], zs, ws, _ => by
    unfold layerOf
    rw [List.zip_nil_left]
    exact List.nil_sublist _
  | t :: ts, [], ws, h => by
    unfold layerOf
    rw [List.zip_nil_right]
    exact List.nil_sublist _
  | t :: ts, z :: zs, [], h => by have := h.len; simp at this
  | t :: ts, z :: zs, x :: ws, h => by
    have h' : Less zs ws := ⟨by have := h.len; simpa using this, fun i z' x' e1 e2 => h.each (i + 1) z' x' e1 e2⟩
    have ih := Less.layer (f := f) (ts := ts) h'
    rw [layerOf_cons, layerOf_cons]
    refine List.Sublist.append ?_ ih
    rcases h.each 0 z x rfl rfl with rfl | rfl
    · exact .refl _
    · rw [if_neg (fun z => nomatch z)]
      exact List.nil_sublist _
theorem Laid.k {ts : List (Int × Int)} {m : Int} {ws : List V} (h : Laid ts m ws) : LayK ts m ws := ⟨h.len, fun x hx => .inr (h.num x hx), h.tree⟩
theorem LayK.less {ts : List (Int × Int)} {k : Int} {zs ws : List V} (h : LayK ts k ws) (l : Less zs ws) : LayK ts k zs := by
  refine ⟨l.len.trans h.len, fun z hz => ?_, fun f => ringlessF_sub l.layer (h.tree f)⟩
  obtain ⟨i, hi⟩ := List.mem_iff_getElem?.mp hz
  have hlt : i < ws.length := by
    have := (List.getElem?_eq_some_iff.mp hi).1
    have := l.len
    omega
  rcases l.each i z _ hi (List.getElem?_eq_getElem hlt) with e | e
  · rw [e]
    exact h.each _ (List.getElem_mem hlt)
  · exact .inl e
theorem layerOf_nons (ts : List (Int × Int)) (f : Int) : ∀ m : Nat, layerOf ts (List.replicate m .non) f = [] := fun m => by
  unfold layerOf
  rw [List.map_eq_nil_iff, List.filter_eq_nil_iff]
  intro p hp
  have := (List.of_mem_zip (a := p.1) (b := p.2) hp).2
  rw [List.eq_of_mem_replicate this]
  exact fun z => nomatch of_decide_eq_true z
theorem LayK.none (ts : List (Int × Int)) {k : Int} : LayK ts k (List.replicate ts.length .non) := ⟨List.length_replicate, fun x hx => .inl (List.eq_of_mem_replicate hx), fun f => by rw [layerOf_nons]; rfl⟩
theorem inside_one {ts : List (Int × Int)} {n x : Int} (ok : TOk n ts) : inside [x] ts = 0 := by
  unfold inside
  rw [List.length_eq_zero_iff, List.filter_eq_nil_iff]
  intro t ht
  have := ok t ht
  rw [Bool.and_eq_true, decide_eq_true_eq, decide_eq_true_eq, List.mem_singleton, List.mem_singleton]
  omega
theorem laidT_ok {n : Int} {ts : List (Int × Int)} {ws : List V} (ok : TOk n ts) : TOk n (laidT ts ws) := fun t ht => by
  obtain ⟨p, hp, rfl⟩ := List.mem_map.mp ht
  exact ok _ (List.of_mem_zip (a := p.1) (b := p.2) (List.mem_filter.mp hp).1).1
theorem LsL.put {H : Hp} {D : Addr} {o : HO} {rs : List V} {pss : List (List Int)} (h : LsL H rs pss) (hn : V.ref D ∉ rs) : LsL (upd H D o) rs pss := by
  induction h with
  | nil => exact .nil
  | cons h _ ih =>
    obtain ⟨q, rfl, hq⟩ := h
    refine .cons ⟨q, rfl, ?_⟩ (ih fun z => hn (List.mem_cons_of_mem _ z))
    rw [upd_ne fun z => hn (by rw [z]; exact List.mem_cons_self)]
    exact hq
/-- points and a list of ties -/
def WebL (H : Hp) (v : V) (n : Int) (ts : List (Int × Int)) : Prop := ∃ t u rs, v = .ref t ∧ H t = some (.tup [.int n, .ref u]) ∧ H u = some (.lst rs) ∧ Ties H rs ts
/-- a number of forests and a laying in so many -/
def RowT (H : Hp) (ts : List (Int × Int)) (x : V) : Prop := ∃ q c k ws, x = .ref q ∧ H q = some (.tup [.int k, .ref c]) ∧ H c = some (.tup ws) ∧ LayK ts k ws ∧ 0 ≤ k ∧ k ≤ 1000
theorem RowT.mono {H H' : Hp} {ts : List (Int × Int)} {x : V} (h : RowT H ts x) (k : ∀ q xs, H q = some (.tup xs) → H' q = some (.tup xs)) : RowT H' ts x := by
  obtain ⟨q, c, m, ws, e, h1, h2, h3⟩ := h
  exact ⟨q, c, m, ws, e, k _ _ h1, k _ _ h2, h3⟩
theorem RowT.ke {H H' : Hp} {ts : List (Int × Int)} {x : V} (h : RowT H ts x) (k : Ke H H') : RowT H' ts x := h.mono fun _ _ => k.tup
theorem RowT.dk {H H' : Hp} {p : Addr} {ts : List (Int × Int)} {x : V} (h : RowT H ts x) (k : Dk p H H') (d : Deck H p) : RowT H' ts x := h.mono fun _ _ => k.tup d
theorem RowT.new {H : Hp} {p : Addr} {o : HO} {ts : List (Int × Int)} {x : V} (h : RowT H ts x) (k : H p = none) : RowT (upd H p o) ts x := h.mono fun _ _ => tup_new k
theorem Lot.nd {n : Int} {ls : List Int} (h : Lot n ls) : ls.Nodup := h.up.imp fun z => by omega
theorem Lot.wide {n m : Int} {ls : List Int} (h : Lot n ls) (hm : n ≤ m) : Lot m ls := ⟨h.ne, h.up, fun x hx => ⟨(h.ok x hx).1, Int.lt_of_lt_of_le (h.ok x hx).2 hm⟩⟩
theorem lotsF_lot {n : Nat} {m : Int} (hm : (n : Int) ≤ m) {H : Hp} {rs : List V} (h : Lots H rs ((lotsF n).filter fun l => !l.isEmpty)) : ∀ r ∈ rs, IsLot H m r := fun r hr => by
  obtain ⟨ls, q, hl, e, hq⟩ := h.tys r hr
  obtain ⟨h1, h2⟩ := List.mem_filter.mp hl
  obtain ⟨o1, o2, _⟩ := lotsF_ok n ls h1
  exact ⟨q, ls, e, hq, (⟨fun z => (by rw [z] at h2; cases h2), o1, o2⟩ : Lot (n : Int) ls).wide hm⟩
end FF
namespace FF
open PySem PySem.Spec PyProof.Rows L2
/-! ### trees -/
theorem free_new {ts : List (Int × Int)} {a b : Int} (hb : ∀ t ∈ ts, t.1 ≠ b ∧ t.2 ≠ b) (hab : a ≠ b) : foldR (fun x => x) ts a ≠ foldR (fun x => x) ts b := fun e => by
  have := foldR_fine (g := fun x => if x = b then 1 else 0) (L := ts) (r := fun x => x) (fun x y z => by rw [show x = y from z]) (fun t ht => by
    show (if t.1 = b then (1 : Int) else 0) = if t.2 = b then 1 else 0
    rw [if_neg (hb t ht).1, if_neg (hb t ht).2]) a b e
  have this : (if a = b then (1 : Int) else 0) = if b = b then 1 else 0 := this
  rw [if_neg hab, if_pos rfl] at this
  cases this
theorem ringlessF_leaf {ts : List (Int × Int)} {t : Int × Int} {a b : Int} (h : ringlessF (fun x => x) ts = true) (hb : ∀ t ∈ ts, t.1 ≠ b ∧ t.2 ≠ b) (hab : a ≠ b) (ht : t = (a, b) ∨ t = (b, a)) : ringlessF (fun x => x) (ts ++ [t]) = true := by
  rw [ringlessF_more h]
  have := free_new hb hab
  rcases ht with rfl | rfl
  · rw [decide_eq_false this]; rfl
  · rw [decide_eq_false fun z => this z.symm]; rfl
theorem inside_all {n : Int} {ts : List (Int × Int)} (ok : TOk n ts) : inside (upTo n) ts = ts.length := by
  unfold inside
  rw [List.filter_eq_self.mpr]
  intro t ht
  have := ok t ht
  rw [Bool.and_eq_true, decide_eq_true_eq, decide_eq_true_eq]
  exact ⟨upTo_mem.mpr ⟨by omega, by omega⟩, upTo_mem.mpr ⟨by omega, by omega⟩⟩
theorem laidT_len : ∀ {ts : List (Int × Int)} {ws : List V}, ws.length = ts.length → (laidT ts ws).length = laidN ws
  | [], [], _ => rfl
  | t :: ts, x :: ws, h => by
    have ih := laidT_len (ts := ts) (ws := ws) (Nat.succ.inj h)
    rw [laidT_cons, List.length_append, ih]
    unfold laidN
    rw [List.filter_cons]
    by_cases e : x = V.non
    · rw [if_pos e, if_neg (by rw [decide_eq_true e]; decide)]
      exact Nat.zero_add _
    · rw [if_neg e, if_pos (by rw [decide_eq_false e]; rfl), List.length_cons]
      exact Nat.add_comm _ _
theorem trees_iff {n : Int} {ts : List (Int × Int)} {k : Int} {ws : List V} (h : LayK ts k ws) (ok : TOk n ts) (hn : 1 ≤ n) (hk : 0 ≤ k) : ((laidN ws : Int) = k * (n - 1)) ↔ ∀ f, 0 ≤ f → f < k → ((layerOf ts ws f).length : Int) = n - 1 := by
  have := tight_iff h hk (ls := upTo n) (upTo_nd n) (fun z => by have := congrArg List.length z; rw [upTo_length] at this; simp at this; omega)
  have hl : ((upTo n).length : Int) = n := by rw [upTo_length]; omega
  rw [hl, inside_all (laidT_ok ok), laidT_len h.len] at this
  rw [this]
  constructor
  · intro z f f0 f1
    have := z f f0 f1
    rw [inside_all (layerOf_ok ok _ _)] at this
    exact this
  · intro z f f0 f1
    rw [inside_all (layerOf_ok ok _ _)]
    exact z f f0 f1
theorem layO_k {ts : List (Int × Int)} {k : Int} {ws : List V} (h : layO ts k (some ws) = true) : LayK ts k ws := by
  have h : ((decide (ws.length = ts.length) && ws.all (okE k)) && ws.all (treeB ts ws)) = true := h
  rw [Bool.and_eq_true, Bool.and_eq_true, decide_eq_true_eq, List.all_eq_true, List.all_eq_true] at h
  obtain ⟨⟨h1, h2⟩, h3⟩ := h
  refine ⟨h1, fun x hx => ?_, fun f => ?_⟩
  · have e := h2 x hx
    rcases okE_O e with rfl | ⟨f, rfl⟩
    · exact .inl rfl
    · refine .inr ⟨f, rfl, ?_⟩
      have e : (decide (0 ≤ f) && decide (f ≤ k - 1)) = true := e
      rw [Bool.and_eq_true, decide_eq_true_eq, decide_eq_true_eq] at e
      omega
  · by_cases e : V.int f ∈ ws
    · exact h3 _ e
    · have : layerOf ts ws f = [] := by
        unfold layerOf
        rw [List.map_eq_nil_iff, List.filter_eq_nil_iff]
        intro p hp z
        have := (List.of_mem_zip (a := p.1) (b := p.2) hp).2
        rw [of_decide_eq_true z] at this
        exact e this
      rw [this]
      rfl
theorem LayK.o {ts : List (Int × Int)} {k : Int} {ws : List V} (h : LayK ts k ws) : layO ts k (some ws) = true := layO_good h.len (fun x hx => by
  rcases h.each x hx with rfl | ⟨f, rfl, f0, f1⟩
  · rfl
  · show (decide (0 ≤ f) && decide (f ≤ k - 1)) = true
    rw [decide_eq_true f0, decide_eq_true (by omega : f ≤ k - 1)]; rfl) fun f _ => h.tree f
/-- k trees side by side, and other ties -/
structure Stood (n : Int) (ts : List (Int × Int)) (k : Int) (ws : List V) : Prop where
  ok : TOk n ts
  lay : LayK ts k ws
  all : ∀ f, 0 ≤ f → f < k → ((layerOf ts ws f).length : Int) = n - 1
/-! ### ties with their forests -/
abbrev TV := (Int × Int) × V
def layP (ps : List TV) (f : Int) : List (Int × Int) := (ps.filter fun p => decide (p.2 = V.int f)).map Prod.fst
theorem layP_of (ps : List TV) (f : Int) : layerOf (ps.map Prod.fst) (ps.map Prod.snd) f = layP ps f := by
  unfold layerOf layP
  rw [List.zip_map', show (ps.map fun a : TV => (a.1, a.2)) = ps from List.map_id' ps]
theorem layP_app (ps qs : List TV) (f : Int) : layP (ps ++ qs) f = layP ps f ++ layP qs f := by
  unfold layP
  rw [List.filter_append, List.map_append]
theorem layP_perm {ps qs : List TV} (h : ps.Perm qs) (f : Int) : (layP ps f).Perm (layP qs f) := (h.filter _).map _
theorem layP_same (ts : List (Int × Int)) (f : Int) : layP (ts.map fun t => (t, V.int f)) f = ts := by
  unfold layP
  rw [List.filter_eq_self.mpr, List.map_map]
  · exact List.map_id' ts
  · intro p hp
    obtain ⟨t, _, rfl⟩ := List.mem_map.mp hp
    exact decide_eq_true rfl
theorem layP_other (ts : List (Int × Int)) {f : Int} {x : V} (h : x ≠ V.int f) : layP (ts.map fun t => (t, x)) f = [] := by
  unfold layP
  rw [List.map_eq_nil_iff, List.filter_eq_nil_iff]
  intro p hp
  obtain ⟨t, _, rfl⟩ := List.mem_map.mp hp
  exact fun z => h (of_decide_eq_true z)
/-- trees laid in the forests below k, and ties left out -/
structure StoodP (n : Int) (k : Int) (ps : List TV) : Prop where
  ok : ∀ p ∈ ps, 0 ≤ p.1.1 ∧ p.1.1 < p.1.2 ∧ p.1.2 < n
  each : ∀ p ∈ ps, p.2 = V.non ∨ ∃ f, p.2 = V.int f ∧ 0 ≤ f ∧ f < k
  tree : ∀ f, ringlessF (fun x => x) (layP ps f) = true
  all : ∀ f, 0 ≤ f → f < k → ((layP ps f).length : Int) = n - 1
theorem StoodP.nil {n : Int} : StoodP n 0 [] := ⟨(fun _ z => nomatch z), (fun _ z => nomatch z), (fun _ => rfl), fun f h0 h1 => by omega⟩
theorem StoodP.tree' {n k : Int} {ps : List TV} {ts : List (Int × Int)} (h : StoodP n k ps) (ok : TOk n ts) (hr : ringlessF (fun x => x) ts = true) (hl : (ts.length : Int) = n - 1) (hk : 0 ≤ k) : StoodP n (k + 1) (ps ++ ts.map fun t => (t, V.int k)) := by
  have hp : ∀ f, f ≥ k → layP ps f = [] := fun f hf => by
    unfold layP
    rw [List.map_eq_nil_iff, List.filter_eq_nil_iff]
    intro p hp z
    have z := of_decide_eq_true z
    rcases h.each p hp with e | ⟨g, e, g0, g1⟩
    · rw [e] at z; cases z
    · rw [e] at z
      have := V.int.inj z
      omega
  refine ⟨fun p hp => ?_, fun p hp => ?_, fun f => ?_, fun f f0 f1 => ?_⟩
  · rcases List.mem_append.mp hp with hp | hp
    · exact h.ok p hp
    · obtain ⟨t, ht, rfl⟩ := List.mem_map.mp hp
      exact ok t ht
  · rcases List.mem_append.mp hp with hp | hp
    · exact (h.each p hp).imp id fun ⟨f, e, f0, f1⟩ => ⟨f, e, f0, by omega⟩
    · obtain ⟨t, ht, rfl⟩ := List.mem_map.mp hp
      exact .inr ⟨k, rfl, hk, by omega⟩
  · rw [layP_app]
    by_cases e : f = k
    · subst e
      rw [hp f (Int.le_refl _), layP_same]
      exact hr
    · rw [layP_other ts (fun z => e (V.int.inj z).symm), List.append_nil]
      exact h.tree f
  · rw [layP_app]
    by_cases e : f = k
    · subst e
      rw [hp f (Int.le_refl _), layP_same]
      exact hl
    · rw [layP_other ts (fun z => e (V.int.inj z).symm), List.append_nil]
      exact h.all f f0 (by omega)
theorem StoodP.more {n k : Int} {ps : List TV} {ts : List (Int × Int)} (h : StoodP n k ps) (ok : TOk n ts) : StoodP n k (ps ++ ts.map fun t => (t, V.non)) := by
  refine ⟨fun p hp => ?_, fun p hp => ?_, fun f => ?_, fun f f0 f1 => ?_⟩
  · rcases List.mem_append.mp hp with hp | hp
    · exact h.ok p hp
    · obtain ⟨t, ht, rfl⟩ := List.mem_map.mp hp
      exact ok t ht
  · rcases List.mem_append.mp hp with hp | hp
    · exact h.each p hp
    · obtain ⟨t, ht, rfl⟩ := List.mem_map.mp hp
      exact .inl rfl
  · rw [layP_app, layP_other (x := V.non) ts (fun z => nomatch z), List.append_nil]
    exact h.tree f
  · rw [layP_app, layP_other (x := V.non) ts (fun z => nomatch z), List.append_nil]
    exact h.all f f0 f1
theorem StoodP.perm {n k : Int} {ps qs : List TV} (h : StoodP n k ps) (p : qs.Perm ps) : StoodP n k qs :=
  ⟨fun x hx => h.ok x (p.mem_iff.mp hx), fun x hx => h.each x (p.mem_iff.mp hx), fun f => by rw [ringlessF_perm (layP_perm p f)]; exact h.tree f, fun f f0 f1 => by rw [(layP_perm p f).length_eq]; exact h.all f f0 f1⟩
theorem StoodP.stood {n k : Int} {ps : List TV} (h : StoodP n k ps) : Stood n (ps.map Prod.fst) k (ps.map Prod.snd) := by
  refine ⟨fun t ht => ?_, ⟨by rw [List.length_map, List.length_map], fun x hx => ?_, fun f => by rw [layP_of]; exact h.tree f⟩, fun f f0 f1 => by rw [layP_of]; exact h.all f f0 f1⟩
  · obtain ⟨p, hp, rfl⟩ := List.mem_map.mp ht
    exact h.ok p hp
  · obtain ⟨p, hp, rfl⟩ := List.mem_map.mp hx
    exact h.each p hp
/-! ### rows of a tie and its forest, in the heap -/
def Prs (H : Hp) (rs : List V) (ps : List TV) : Prop := Paired (fun (r : V) (p : TV) => ∃ a q, r = .ref a ∧ H a = some (.tup [.ref q, p.2]) ∧ H q = some (.tup [.int p.1.1, .int p.1.2]) ∧ IsO p.2) rs ps
theorem Prs.mono {H H' : Hp} {rs : List V} {ps : List TV} (h : Prs H rs ps) (k : ∀ q xs, H q = some (.tup xs) → H' q = some (.tup xs)) : Prs H' rs ps := L2.Paired.mapP h fun _ _ ⟨a, q, e, z1, z2, o⟩ => ⟨a, q, e, k _ _ z1, k _ _ z2, o⟩
theorem Prs.ke {H H' : Hp} {rs : List V} {ps : List TV} (h : Prs H rs ps) (k : Ke H H') : Prs H' rs ps := h.mono fun _ _ => k.tup
theorem Prs.dk {H H' : Hp} {p : Addr} {rs : List V} {ps : List TV} (h : Prs H rs ps) (k : Dk p H H') (d : Deck H p) : Prs H' rs ps := h.mono fun _ _ => k.tup d
theorem Prs.new {H : Hp} {p : Addr} {o : HO} {rs : List V} {ps : List TV} (h : Prs H rs ps) (k : H p = none) : Prs (upd H p o) rs ps := h.mono fun _ _ => tup_new k
theorem Prs.put {H : Hp} {p : Addr} {o : HO} {ys : List V} {rs : List V} {ps : List TV} (h : Prs H rs ps) (k : H p = some (.lst ys)) : Prs (upd H p o) rs ps := h.mono fun q xs e => by rw [upd_ne (ne_of e k (fun z => nomatch z))]; exact e
theorem Prs.length {H : Hp} {rs : List V} {ps : List TV} (h : Prs H rs ps) : rs.length = ps.length := Paired.length h
theorem Prs.append {H : Hp} : ∀ {rs qs : List V} {ps us : List TV}, Prs H rs ps → Prs H qs us → Prs H (rs ++ qs) (ps ++ us)
  | _, _, _, _, .nil, g => g
  | _, _, _, _, .cons h t, g => .cons h (Prs.append t g)
theorem Prs.one {H : Hp} {a q : Addr} {t : Int × Int} {x : V} (h : H a = some (.tup [.ref q, x])) (hq : H q = some (.tup [.int t.1, .int t.2])) (o : IsO x) : Prs H [.ref a] [(t, x)] := .cons ⟨a, q, rfl, h, hq, o⟩ .nil
theorem Prs.get {H : Hp} : ∀ {rs : List V} {ps : List TV} {i : Nat} {r : V}, Prs H rs ps → rs[i]? = some r → ∃ p a q, ps[i]? = some p ∧ r = .ref a ∧ H a = some (.tup [.ref q, p.2]) ∧ H q = some (.tup [.int p.1.1, .int p.1.2]) ∧ IsO p.2
  | _, _, _, _, .nil, e => by simp at e
  | _, _, 0, _, .cons (b := p) ⟨a, q, e1, e2, e3, o⟩ _, e => by simp at e; subst e; exact ⟨p, a, q, rfl, e1, e2, e3, o⟩
  | _, _, i + 1, r, .cons _ t, e => by
    obtain ⟨p, a, q, h1, h2, h3⟩ := Prs.get (i := i) (r := r) t (by simpa using e)
    exact ⟨p, a, q, by simpa using h1, h2, h3⟩
theorem Prs.dts {H : Hp} : ∀ {rs : List V} {ps : List TV}, Prs H rs ps → Dts 2 H rs
  | _, _, .nil => fun _ z => nomatch z
  | _, _, .cons (b := b) ⟨a, q, e, h, hq, o⟩ t => fun x hx => by
    rcases List.mem_cons.mp hx with rfl | hx
    · have h0 : ∃ d, DtN 0 H b.2 d := by
        rcases o with z | ⟨i, z⟩
        · exact ⟨_, .inr ⟨z, rfl⟩⟩
        · exact ⟨_, .inl ⟨i, z, rfl⟩⟩
      obtain ⟨d, hd⟩ := h0
      exact ⟨_, .inr ⟨a, _, _, e, h, .cons (.inr ⟨q, _, _, rfl, hq, .cons (.inl ⟨_, rfl, rfl⟩) (.cons (.inl ⟨_, rfl, rfl⟩) .nil), rfl⟩) (.cons (.inl hd) .nil), rfl⟩⟩
    · exact Prs.dts t x hx
theorem Prs.perm {H : Hp} {rs qs : List V} (p : qs.Perm rs) : ∀ {ts : List TV}, Prs H rs ts → ∃ us, Prs H qs us ∧ us.Perm ts := by
  induction p with
  | nil => intro ts h; exact ⟨ts, h, .refl _⟩
  | cons x _ ih =>
    intro ts h
    cases h with
    | cons h t =>
      obtain ⟨us, h1, h2⟩ := ih t
      exact ⟨_, .cons h h1, h2.cons _⟩
  | swap x y l =>
    intro ts h
    cases h with
    | cons h t =>
      cases t with
      | cons h2 t => exact ⟨_, .cons h2 (.cons h t), .swap _ _ _⟩
  | trans _ _ ih1 ih2 =>
    intro ts h
    obtain ⟨us, h1, h2⟩ := ih2 h
    obtain ⟨vs, h3, h4⟩ := ih1 h1
    exact ⟨vs, h3, h4.trans h2⟩
theorem allK {X : Cx} {K : PySem.W.Frag} (hc : X.calm = true) (h : X.K = K := by rfl) : CallR X (.builtin "all") (rAll K) := h ▸ cr_all hc
theorem anyK {X : Cx} {K : PySem.W.Frag} (hc : X.calm = true) (h : X.K = K := by rfl) : CallR X (.builtin "any") (rAny K) := h ▸ cr_any hc
/-- lists of forests' numbers and Nones, one length all -/
def LsO (H : Hp) (as : List Addr) (m : Nat) : Prop := ∀ a ∈ as, ∃ ws, H a = some (.lst ws) ∧ ws.length = m ∧ ∀ y ∈ ws, IsO y
theorem LsO.mono {H H' : Hp} {as : List Addr} {m : Nat} (h : LsO H as m) (k : ∀ q ∈ as, ∀ xs, H q = some (.lst xs) → H' q = some (.lst xs)) : LsO H' as m := fun a ha => by
  obtain ⟨ws, h1, h2⟩ := h a ha
  exact ⟨ws, k a ha _ h1, h2⟩
theorem LsO.ke {H H' : Hp} {as : List Addr} {m : Nat} (h : LsO H as m) (k : Ke H H') : LsO H' as m := h.mono fun _ _ _ => k.lst
theorem LsO.set {H : Hp} {as : List Addr} {m : Nat} {l : Addr} {v : V} {j : Nat} {ws : List V} (h : LsO H as m) (hl : ws.length = m) (ho : ∀ y ∈ ws, IsO y) (hv : IsO v) : LsO (upd H l (.lst (ws.set j v))) as m := fun a ha => by
  by_cases e : a = l
  · subst e
    refine ⟨_, upd_same, by rw [List.length_set]; exact hl, fun y hy => ?_⟩
    rcases List.mem_or_eq_of_mem_set hy with hy | rfl
    · exact ho y hy
    · exact hv
  · obtain ⟨ws', h1, h2⟩ := h a ha
    exact ⟨ws', by rw [upd_ne e]; exact h1, h2⟩
theorem paired_get {α β : Type} {R : α → β → Prop} : ∀ {xs : List α} {ys : List β} {i : Nat} {x : α}, Paired R xs ys → xs[i]? = some x → ∃ y, ys[i]? = some y ∧ R x y
  | _, _, _, _, .nil, e => by simp at e
  | _, _, 0, _, .cons (b := y) h _, e => by simp at e; subst e; exact ⟨y, rfl, h⟩
  | _, _, i + 1, x, .cons _ t, e => by
    obtain ⟨y, h1, h2⟩ := paired_get (i := i) (x := x) t (by simpa using e)
    exact ⟨y, by simpa using h1, h2⟩
end FF
namespace FF
open PySem PySem.Spec PyProof.Rows L2
theorem LayK.snocN {ts : List (Int × Int)} {k : Int} {ws : List V} {t : Int × Int} (h : LayK ts k ws) : LayK (ts ++ [t]) k (ws ++ [.non]) := by
  have hl := h.len
  refine ⟨by rw [List.length_append, List.length_append, hl]; rfl, fun x hx => ?_, fun g => ?_⟩
  · rcases List.mem_append.mp hx with hx | hx
    · exact h.each x hx
    · exact .inl (List.mem_singleton.mp hx)
  · rw [layerOf_snoc hl.symm, if_neg (fun z => nomatch z), List.append_nil]
    exact h.tree g
theorem LayK.snocF {ts : List (Int × Int)} {k : Int} {ws : List V} {t : Int × Int} {f : Int} (h : LayK ts k ws) (f0 : 0 ≤ f) (f1 : f < k) (hf : freeB ts ws t f = true) : LayK (ts ++ [t]) k (ws ++ [.int f]) := by
  have hl := h.len
  refine ⟨by rw [List.length_append, List.length_append, hl]; rfl, fun x hx => ?_, fun g => ?_⟩
  · rcases List.mem_append.mp hx with hx | hx
    · exact h.each x hx
    · exact .inr ⟨f, List.mem_singleton.mp hx, f0, f1⟩
  · rw [layerOf_snoc hl.symm]
    by_cases e : V.int f = V.int g
    · rw [if_pos e]
      have := V.int.inj e
      subst this
      exact hf
    · rw [if_neg e, List.append_nil]
      exact h.tree g
theorem LayK.nil {k : Int} : LayK [] k [] := ⟨rfl, (fun _ z => nomatch z), fun _ => rfl⟩
theorem Lays.putN {H : Hp} {p : Addr} {fs : List Addr} {ws : List V} (h : Lays H p fs ws) : Lays H p fs (ws ++ [.non]) :=
  ⟨h.at_, h.nd, h.out, fun j x hx => by rw [nums_snoc, if_neg (fun z => nomatch z), List.append_nil]; exact h.each j x hx⟩
theorem LayK.some_non {ts : List (Int × Int)} {k : Int} {ws : List V} (h : LayK ts k ws) {i : Nat} (hi : i < ws.length) : LayK ts k (ws.take i ++ [.non] ++ ws.drop (i + 1)) := by
  refine h.less ⟨?_, fun j z x hz hx => ?_⟩
  · rw [List.length_append, List.length_append, List.length_take, List.length_drop]
    show min i ws.length + 1 + _ = _
    omega
  · by_cases c : j < i
    · rw [List.append_assoc, List.getElem?_append_left (by rw [List.length_take]; omega), List.getElem?_take, if_pos c, hx] at hz
      cases hz
      exact .inl rfl
    · by_cases c2 : j = i
      · subst c2
        rw [List.append_assoc, List.getElem?_append_right (by rw [List.length_take]; omega), List.length_take, Nat.min_eq_left (by omega), Nat.sub_self] at hz
        cases hz
        exact .inr rfl
      · rw [List.getElem?_append_right (by rw [List.length_append, List.length_take]; show min i ws.length + 1 ≤ j; omega), List.length_append, List.length_take, List.getElem?_drop] at hz
        have : i + 1 + (j - (min i ws.length + [V.non].length)) = j := by
          show i + 1 + (j - (min i ws.length + 1)) = j
          omega
        rw [this, hx] at hz
        cases hz
        exact .inl rfl
theorem share2 {C : Prop} {R1 R2 : Hp → Prop} (P1 P2 : Hp → Prop) (h1 : ∀ G, R1 G → P1 G) (h2 : ∀ G, R2 G → P2 G) (main : (∀ G, R1 G → P1 G) → (∀ G, R2 G → P2 G) → C) : C := main h1 h2
theorem share1 {C : Prop} {R1 : Hp → Prop} (P1 : Hp → Prop) (h1 : ∀ G, R1 G → P1 G) (main : (∀ G, R1 G → P1 G) → C) : C := main h1
theorem shareA {C : Prop} {R : Hp → Addr → Prop} (P1 : Hp → Addr → Prop) (h1 : ∀ G a, R G a → P1 G a) (main : (∀ G a, R G a → P1 G a) → C) : C := main h1
section
variable {X : Cx} {K : PySem.W.Frag} {a b : Expr} {ta tb : TE} {rest : List Expr} {pos : Pos}
theorem pe_orTK (ha : PE X a ta) (hb : PE X (.BoolOp .Or (b :: rest) pos) tb) (h : X.K = K := by rfl) : PE X (.BoolOp .Or (a :: b :: rest) pos) (tOrT K ta tb) := h ▸ pe_orT ha hb
theorem pe_andTK (ha : PE X a ta) (hb : PE X (.BoolOp .And (b :: rest) pos) tb) (h : X.K = K := by rfl) : PE X (.BoolOp .And (a :: b :: rest) pos) (tAndT K ta tb) := h ▸ pe_andT ha hb
end
theorem dtn_ints {H : Hp} : ∀ ls : List Int, Paired (DtN 0 H) (ls.map V.int) (ls.map PyData.int)
  | [] => .nil
  | i :: r => .cons (.inl ⟨i, rfl, rfl⟩) (dtn_ints r)
theorem zip_erase {α β : Type} : ∀ (xs : List α) (ys : List β) (g : Nat), xs.length = ys.length → (xs.eraseIdx g).zip (ys.eraseIdx g) = (xs.zip ys).eraseIdx g
  | [], [], _, _ => rfl
  | x :: xs, y :: ys, 0, _ => rfl
  | x :: xs, y :: ys, g + 1, h => by
    show (x, y) :: (xs.eraseIdx g).zip (ys.eraseIdx g) = (x, y) :: (xs.zip ys).eraseIdx g
    rw [zip_erase xs ys g (Nat.succ.inj h)]
  | [], _ :: _, _, h => by cases h
  | _ :: _, [], _, h => by cases h
theorem LayK.erase {ts : List (Int × Int)} {k : Int} {ws : List V} (h : LayK ts k ws) {g : Nat} (hg : g < ts.length) : LayK (ts.eraseIdx g) k (ws.eraseIdx g) := by
  have hl := h.len
  refine ⟨by rw [List.length_eraseIdx, List.length_eraseIdx, if_pos hg, if_pos (by omega), hl], fun x hx => h.each x (List.mem_of_mem_eraseIdx hx), fun f => ringlessF_sub ?_ (h.tree f)⟩
  unfold layerOf
  rw [zip_erase ts ws g hl.symm]
  exact ((List.eraseIdx_sublist _ _).filter _).map _
theorem rep_v (n : Nat) (v : V) : (List.replicate n [v]).flatten = List.replicate n v := by
  induction n with
  | zero => rfl
  | succ n ih => rw [List.replicate_succ, List.flatten_cons, ih, List.replicate_succ]; rfl
theorem two_trees {n : Int} {ts us : List (Int × Int)} (o1 : TOk n ts) (o2 : TOk n us) (r1 : ringlessF (fun x => x) ts = true) (r2 : ringlessF (fun x => x) us = true) (l1 : (ts.length : Int) = n - 1) (l2 : (us.length : Int) = n - 1) : LayK (ts ++ us) 2 (List.replicate (n - 1).toNat (.int 0) ++ List.replicate (n - 1).toNat (.int 1)) := by
  have h := ((StoodP.nil (n := n)).tree' o1 r1 l1 (by decide)).tree' o2 r2 l2 (by decide)
  have := h.stood.lay
  rw [List.map_append, List.map_append, List.map_append, List.map_append, List.map_map, List.map_map, List.map_map, List.map_map] at this
  have e1 : ts.map (Prod.fst ∘ fun t => (t, V.int 0)) = ts := List.map_id' ts
  have e2 : us.map (Prod.fst ∘ fun t => (t, V.int (0 + 1))) = us := List.map_id' us
  have e3 : ts.map (Prod.snd ∘ fun t => (t, V.int 0)) = List.replicate (n - 1).toNat (.int 0) := by
    rw [List.eq_replicate_iff]
    refine ⟨by rw [List.length_map]; omega, fun b hb => ?_⟩
    obtain ⟨_, _, rfl⟩ := List.mem_map.mp hb
    rfl
  have e4 : us.map (Prod.snd ∘ fun t => (t, V.int (0 + 1))) = List.replicate (n - 1).toNat (.int 1) := by
    rw [List.eq_replicate_iff]
    refine ⟨by rw [List.length_map]; omega, fun b hb => ?_⟩
    obtain ⟨_, _, rfl⟩ := List.mem_map.mp hb
    rfl
  rw [e1, e2, e3, e4] at this
  exact this
theorem Ties.erase {H : Hp} : ∀ {rs : List V} {ts : List (Int × Int)} (g : Nat), Ties H rs ts → Ties H (rs.eraseIdx g) (ts.eraseIdx g)
  | _, _, _, .nil => .nil
  | _, _, 0, .cons _ t => t
  | _, _, g + 1, .cons h t => .cons h (Ties.erase g t)
end FF
namespace FF
open PySem PySem.Spec PyProof.Rows L2
/-! ### exchanges in forests -/
abbrev tk (ts : List (Int × Int)) (a : Int) : Int × Int := ts.getD a.toNat (0, 0)
abbrev jn (ts : List (Int × Int)) (ms : List Int) (x y : Int) : Prop := foldR (fun x => x) (pick ts ms) x = foldR (fun x => x) (pick ts ms) y
theorem way_of {ts : List (Int × Int)} : ∀ (n : Nat) (ms : List Int), ms.length = n → ms.Nodup → ∀ x y, jn ts ms x y → ∃ ns, Way ts x ns y ∧ ns.Nodup ∧ ∀ m ∈ ns, m ∈ ms
  | 0, ms, hl, _, x, y, h => by
    have : ms = [] := List.length_eq_zero_iff.mp hl
    subst this
    have h : x = y := h
    subst h
    exact ⟨[], .nil x, List.nodup_nil, fun _ z => nomatch z⟩
  | n + 1, ms, hl, hnd, x, y, h => by
    have hne : ms ≠ [] := fun z => by rw [z] at hl; cases hl
    obtain ⟨is, m, rfl⟩ : ∃ is m, ms = is ++ [m] := ⟨ms.dropLast, ms.getLast hne, (List.dropLast_concat_getLast hne).symm⟩
    have hnd' := List.nodup_append.mp hnd
    have hmi : m ∉ is := fun z => hnd'.2.2 m z m List.mem_cons_self rfl
    have hil : is.length = n := by rw [List.length_append] at hl; exact Nat.succ.inj hl
    have ih := way_of (ts := ts) n is hil hnd'.1
    by_cases c : jn ts is x y
    · obtain ⟨ns, w, nd, hm⟩ := ih x y c
      exact ⟨ns, w, nd, fun k hk => List.mem_append_left _ (hm k hk)⟩
    have e : foldR (fun x => x) (pick ts (is ++ [m])) = rstep (foldR (fun x => x) (pick ts is)) (tk ts m) := by rw [pick_append]; exact foldR_snoc _ _ _
    unfold jn at h
    rw [e] at h
    -- a way over m
    have go : ∀ u v p q, jn ts is u p → jn ts is q v → ¬ jn ts is u v → Leads ts m p q → ∃ ns, Way ts u ns v ∧ ns.Nodup ∧ ∀ k ∈ ns, k ∈ is ++ [m] := fun u v p q h1 h2 h3 hL => by
      obtain ⟨n1, w1, d1, s1⟩ := ih u p h1
      obtain ⟨n2, w2, d2, s2⟩ := ih q v h2
      refine ⟨n1 ++ m :: n2, w1.append (.cons hL w2), ?_, fun k hk => ?_⟩
      · rw [List.nodup_append, List.nodup_cons]
        refine ⟨d1, ⟨fun z => hmi (s2 m z), d2⟩, fun a ha b hb => ?_⟩
        rcases List.mem_cons.mp hb with rfl | hb
        · exact fun z => hmi (z ▸ s1 a ha)
        · rintro rfl
          obtain ⟨l1, l2, u1, v1, el, x1, x2, x3⟩ := w1.cut ha
          obtain ⟨k1, k2, u2, v2, ek, z1, z2, z3⟩ := w2.cut hb
          have e1 : jn ts is u u1 := x1.joined fun k hk => s1 k (by rw [el]; exact List.mem_append_left _ hk)
          have e2 : jn ts is v2 v := z3.joined fun k hk => s2 k (by rw [ek]; exact List.mem_append_right _ (List.mem_cons_of_mem _ hk))
          have e3 : jn ts is u2 v2 := z2.foldR (s2 a hb)
          have e4 : jn ts is u1 v1 := x2.foldR (s1 a ha)
          have e5 : jn ts is u1 v2 := by
            rcases x2 with x2 | x2 <;> rcases z2 with z2 | z2 <;> rw [x2] at z2
            · cases z2; exact e4
            · have := Prod.mk.inj z2; rw [this.1]
            · have := Prod.mk.inj z2; rw [← this.2]
            · cases z2; exact e4
          exact h3 (e1.trans (e5.trans e2))
      · rcases List.mem_append.mp hk with hk | hk
        · exact List.mem_append_left _ (s1 k hk)
        · rcases List.mem_cons.mp hk with rfl | hk
          · exact List.mem_append_right _ List.mem_cons_self
          · exact List.mem_append_left _ (s2 k hk)
    have h : (if foldR (fun x => x) (pick ts is) x = foldR (fun x => x) (pick ts is) (tk ts m).2 then foldR (fun x => x) (pick ts is) (tk ts m).1 else foldR (fun x => x) (pick ts is) x) = (if foldR (fun x => x) (pick ts is) y = foldR (fun x => x) (pick ts is) (tk ts m).2 then foldR (fun x => x) (pick ts is) (tk ts m).1 else foldR (fun x => x) (pick ts is) y) := h
    by_cases c1 : jn ts is x (tk ts m).2
    · by_cases c2 : jn ts is y (tk ts m).2
      · exact absurd (c1.trans c2.symm) c
      · rw [if_pos c1, if_neg c2] at h
        exact go x y (tk ts m).2 (tk ts m).1 c1 h c (.inr rfl)
    · by_cases c2 : jn ts is y (tk ts m).2
      · rw [if_neg c1, if_pos c2] at h
        exact go x y (tk ts m).1 (tk ts m).2 h c2.symm c (.inl rfl)
      · rw [if_neg c1, if_neg c2] at h
        exact absurd h c
theorem ring_exists {ts : List (Int × Int)} {ms : List Int} (hn : ms.Nodup) {x y : Int} (h : jn ts ms x y) : ∃ ns, IsRing ts ms x y ns := by
  obtain ⟨ns, w, nd, hm⟩ := way_of _ ms rfl hn x y h
  exact ⟨ns, w, nd, hm⟩
/-- a forest: its ties by their numbers -/
structure Fo (ts : List (Int × Int)) (ms : List Int) : Prop where
  nd : ms.Nodup
  rl : ringlessF (fun x => x) (pick ts ms) = true
/-- x is on the ring that a closes in ms -/
def OnR (ts : List (Int × Int)) (ms : List Int) (a x : Int) : Prop := x ∈ ms ∧ ¬ jn ts (but x ms) (tk ts a).1 (tk ts a).2
theorem Fo.same {ts : List (Int × Int)} {ms ns : List Int} (h : Fo ts ms) (hn : ns.Nodup) (hm : ∀ x, x ∈ ns ↔ x ∈ ms) : Fo ts ns := by
  have p : ns.Perm ms := (List.perm_ext_iff_of_nodup hn h.nd).mpr hm
  refine ⟨hn, ?_⟩
  exact (ringlessF_perm (show (pick ts ns).Perm (pick ts ms) from p.map _) _).trans h.rl
theorem Fo.but {ts : List (Int × Int)} {ms : List Int} (h : Fo ts ms) (b : Int) : Fo ts (but b ms) :=
  ⟨h.nd.filter _, ringlessF_sub (List.filter_sublist.map _) h.rl⟩
theorem Fo.add {ts : List (Int × Int)} {ms : List Int} {a : Int} (h : Fo ts ms) (ha : a ∉ ms) (hj : ¬ jn ts ms (tk ts a).1 (tk ts a).2) : Fo ts (ms ++ [a]) := by
  refine ⟨?_, ?_⟩
  · rw [List.nodup_append]
    exact ⟨h.nd, by simp, fun x hx y hy => by rw [List.mem_singleton.mp hy]; exact fun z => ha (z ▸ hx)⟩
  · rw [pick_append]
    show ringlessF _ (pick ts ms ++ [tk ts a]) = true
    rw [ringlessF_more h.rl, decide_eq_false hj]
    rfl
theorem jn_sub {ts : List (Int × Int)} {ms ns : List Int} (h : ∀ x ∈ ms, x ∈ ns) {x y : Int} (hj : jn ts ms x y) : jn ts ns x y := foldR_sub (fun t ht => by
  obtain ⟨m, hm, rfl⟩ := List.mem_map.mp ht
  exact List.mem_map.mpr ⟨m, h m hm, rfl⟩) x y hj
theorem OnR.not_in {ts : List (Int × Int)} {ms : List Int} {a b : Int} (h : OnR ts ms a b) (ha : a ∉ ms) : a ∉ FF.but b ms := fun z => ha (mem_but.mp z).1
theorem Fo.swap {ts : List (Int × Int)} {ms : List Int} {a b : Int} (h : Fo ts ms) (ha : a ∉ ms) (hb : OnR ts ms a b) : Fo ts (FF.but b ms ++ [a]) := (h.but b).add (hb.not_in ha) hb.2
/-- the ring of another tie stays, if what goes is not on it -/
theorem ring_stays {ts : List (Int × Int)} {ms ns : List Int} {a : Int} (h : Fo ts ms) (h' : Fo ts ns) (hj : jn ts ms (tk ts a).1 (tk ts a).2) (hs : ∀ x, OnR ts ms a x → x ∈ ns) : jn ts ns (tk ts a).1 (tk ts a).2 ∧ ∀ x, OnR ts ns a x ↔ OnR ts ms a x := by
  obtain ⟨rs, hR⟩ := ring_exists h.nd hj
  have h1 := hR.mem_iff h.rl h.nd
  have hR' : IsRing ts ns (tk ts a).1 (tk ts a).2 rs := ⟨hR.way, hR.nd, fun m hm => hs m ((h1 m).mp hm)⟩
  have h2 := hR'.mem_iff h'.rl h'.nd
  exact ⟨hR'.way.joined hR'.mem, fun x => (h2 x).symm.trans (h1 x)⟩
theorem OnR.jn {ts : List (Int × Int)} {ms : List Int} {a b : Int} (_ : OnR ts ms a b) (hj : jn ts ms (tk ts a).1 (tk ts a).2) : FF.jn ts ms (tk ts a).1 (tk ts a).2 := hj
/-- several exchanges one after another: each next pair of the list comes earlier in the row -/
theorem Fo.swaps {ts : List (Int × Int)} : ∀ (ps : List (Int × Int)) {ms : List Int}, Fo ts ms → (ps.map Prod.fst).Nodup → (∀ p ∈ ps, p.1 ∉ ms ∧ FF.jn ts ms (tk ts p.1).1 (tk ts p.1).2 ∧ OnR ts ms p.1 p.2) → ps.Pairwise (fun p q => ¬ OnR ts ms q.1 p.2) → ∃ ns, Fo ts ns ∧ ∀ x, x ∈ ns ↔ (x ∈ ms ∧ x ∉ ps.map Prod.snd) ∨ x ∈ ps.map Prod.fst
  | [], ms, h, _, _, _ => ⟨ms, h, fun x => by simp⟩
  | (a, b) :: ps, ms, h, hnd, hp, hw => by
    obtain ⟨ha, hj, hb⟩ := hp (a, b) List.mem_cons_self
    obtain ⟨w1, w2⟩ := List.pairwise_cons.mp hw
    obtain ⟨n1, n2⟩ := List.nodup_cons.mp (show (a :: ps.map Prod.fst).Nodup from hnd)
    have h' := h.swap ha hb
    have keep : ∀ p ∈ ps, FF.jn ts (FF.but b ms ++ [a]) (tk ts p.1).1 (tk ts p.1).2 ∧ ∀ x, OnR ts (FF.but b ms ++ [a]) p.1 x ↔ OnR ts ms p.1 x := fun p hpm => by
      obtain ⟨_, hj', _⟩ := hp p (List.mem_cons_of_mem _ hpm)
      refine ring_stays h h' hj' fun x hx => List.mem_append_left _ (mem_but.mpr ⟨hx.1, fun z => w1 p hpm (z ▸ hx)⟩)
    obtain ⟨ns, hF, hm⟩ := Fo.swaps ps h' n2 (fun p hpm => by
      obtain ⟨p1, p2, p3⟩ := hp p (List.mem_cons_of_mem _ hpm)
      obtain ⟨k1, k2⟩ := keep p hpm
      refine ⟨fun z => ?_, k1, (k2 _).mpr p3⟩
      rcases List.mem_append.mp z with z | z
      · exact p1 (mem_but.mp z).1
      · exact n1 (List.mem_map.mpr ⟨p, hpm, List.mem_singleton.mp z⟩)) (w2.imp_of_mem fun {p q} hpm hqm hpq => fun z => hpq (((keep q hqm).2 _).mp z))
    refine ⟨ns, hF, fun x => ?_⟩
    rw [hm x, List.mem_append, mem_but, List.mem_singleton, List.map_cons, List.map_cons, List.mem_cons, List.mem_cons]
    constructor
    · rintro (⟨⟨x1, x2⟩ | x1, x3⟩ | x1)
      · exact .inl ⟨x1, fun z => z.elim x2 x3⟩
      · exact .inr (.inl x1)
      · exact .inr (.inr x1)
    · rintro (⟨x1, x2⟩ | x1 | x1)
      · exact .inl ⟨.inl ⟨x1, fun z => x2 (.inl z)⟩, fun z => x2 (.inr z)⟩
      · refine .inl ⟨.inr x1, fun z => ?_⟩
        obtain ⟨p, hpm, e⟩ := List.mem_map.mp z
        have := (hp p (List.mem_cons_of_mem _ hpm)).2.2.1
        rw [e, x1] at this
        exact ha this
      · exact .inr x1
end FF
namespace FF
open PySem PySem.Spec PyProof.Rows L2
/-- a laying after pushes -/
def pushL (ws : List V) (es : List (Int × Int)) : List V := es.foldl (fun w e => w.set e.1.toNat (.int e.2)) ws
theorem pushL_length (es : List (Int × Int)) : ∀ ws : List V, (pushL ws es).length = ws.length := by
  induction es with
  | nil => exact fun _ => rfl
  | cons e es ih => exact fun ws => (ih _).trans List.length_set
theorem pushL_snoc (ws : List V) (es : List (Int × Int)) (e : Int × Int) : pushL ws (es ++ [e]) = (pushL ws es).set e.1.toNat (.int e.2) := by
  unfold pushL
  rw [List.foldl_append]
  rfl
theorem pushL_OK (es : List (Int × Int)) : ∀ {ws : List V}, (∀ x ∈ ws, IsO x) → ∀ x ∈ pushL ws es, IsO x := by
  induction es with
  | nil => exact fun h => h
  | cons e es ih =>
    intro ws h
    refine ih (ws := ws.set e.1.toNat (.int e.2)) fun x hx => ?_
    rcases List.mem_or_eq_of_mem_set hx with hx | rfl
    · exact h x hx
    · exact .inr ⟨_, rfl⟩
theorem onR_ring {ts : List (Int × Int)} {ws : List V} {e : Int × Int} {x : Int} : OnRing ts ws e x ↔ OnR ts (numsFrom e.2 0 ws) e.1 x := Iff.rfl
theorem nums_iff {f : Int} {ws : List V} {x : Int} : x ∈ numsFrom f 0 ws ↔ 0 ≤ x ∧ ws[x.toNat]? = some (.int f) := by
  constructor
  · intro h
    obtain ⟨k, e, hk⟩ := nums_at h
    have := nums_bd f 0 ws x h
    rw [show x.toNat = k by omega]
    exact ⟨by omega, hk⟩
  · rintro ⟨h0, h⟩
    have := mem_nums (i := 0) h
    rw [Nat.zero_add, Int.toNat_of_nonneg h0] at this
    exact this
theorem fo_nums {ts : List (Int × Int)} {ws : List V} {f : Int} (hl : ws.length = ts.length) : Fo ts (numsFrom f 0 ws) ↔ ringlessF (fun x => x) (layerOf ts ws f) = true := by
  have e : pick ts (numsFrom f 0 ws) = layerOf ts ws f := pick_nums f [] ts ws hl.symm
  exact ⟨fun h => by rw [← e]; exact h.rl, fun h => ⟨nums_nd f 0 ws, by rw [e]; exact h⟩⟩
theorem jn_join {ts : List (Int × Int)} {ws : List V} {e : Int × Int} (hl : ws.length = ts.length) : joinB ts ws e = true ↔ jn ts (numsFrom e.2 0 ws) (tk ts e.1).1 (tk ts e.1).2 := by
  unfold joinB jn
  rw [decide_eq_true_eq, show pick ts (numsFrom e.2 0 ws) = layerOf ts ws e.2 from pick_nums e.2 [] ts ws hl.symm]
/-! ### what a row without short cuts makes of a laying -/
theorem pushL_in : ∀ (es : List (Int × Int)) {ws : List V} {e : Int × Int}, (es.map Prod.fst).Nodup → (∀ e ∈ es, 0 ≤ e.1 ∧ e.1 < (ws.length : Int)) → e ∈ es → (pushL ws es)[e.1.toNat]? = some (.int e.2)
  | d :: es, ws, e, hn, hb, he => by
    obtain ⟨n1, n2⟩ := List.nodup_cons.mp (show (d.1 :: es.map Prod.fst).Nodup from hn)
    show (pushL (ws.set d.1.toNat (.int d.2)) es)[e.1.toNat]? = _
    have hb' : ∀ e ∈ es, 0 ≤ e.1 ∧ e.1 < ((ws.set d.1.toNat (.int d.2)).length : Int) := fun e' h' => by rw [List.length_set]; exact hb e' (List.mem_cons_of_mem _ h')
    rcases List.mem_cons.mp he with rfl | he
    · rw [pushL_out es (fun z => n1 z) hb' (hb e List.mem_cons_self).1]
      have := hb e List.mem_cons_self
      exact List.getElem?_set_self (by omega)
    · exact pushL_in es n2 hb' he
where
  pushL_out : ∀ (es : List (Int × Int)) {ws : List V} {x : Int}, x ∉ es.map Prod.fst → (∀ e ∈ es, 0 ≤ e.1 ∧ e.1 < (ws.length : Int)) → 0 ≤ x → (pushL ws es)[x.toNat]? = ws[x.toNat]?
    | [], _, _, _, _, _ => rfl
    | d :: es, ws, x, hx, hb, x0 => by
      have hx : x ∉ d.1 :: es.map Prod.fst := hx
      have h1 : x ≠ d.1 := fun z => hx (by rw [z]; exact List.mem_cons_self)
      have h2 : x ∉ es.map Prod.fst := fun z => hx (List.mem_cons_of_mem _ z)
      show (pushL (ws.set d.1.toNat (.int d.2)) es)[x.toNat]? = _
      rw [pushL_out es h2 (fun e' h' => by rw [List.length_set]; exact hb e' (List.mem_cons_of_mem _ h')) x0]
      have := (hb d List.mem_cons_self).1
      exact List.getElem?_set_ne (by omega)
def pairsF (f : Int) : List (Int × Int) → List (Int × Int)
  | e :: e' :: r => (if e.2 = f then [(e.1, e'.1)] else []) ++ pairsF f (e' :: r)
  | _ => []
/-- no short cut -/
def NoCut (ts : List (Int × Int)) (ws : List V) : List (Int × Int) → Prop
  | [] => True
  | e :: r => (∀ q ∈ r.tail, ¬ OnRing ts ws e q.1) ∧ NoCut ts ws r
theorem pairs_snd {f : Int} : ∀ {e : Int × Int} {r : List (Int × Int)} {p : Int × Int}, p ∈ pairsF f (e :: r) → ∃ q ∈ r, q.1 = p.2
  | e, e' :: r, p, h => by
    rcases List.mem_append.mp (show p ∈ (if e.2 = f then [(e.1, e'.1)] else []) ++ pairsF f (e' :: r) from h) with h | h
    · split at h
      · rw [List.mem_singleton.mp h]
        exact ⟨e', List.mem_cons_self, rfl⟩
      · cases h
    · obtain ⟨q, hq, e⟩ := pairs_snd h
      exact ⟨q, List.mem_cons_of_mem _ hq, e⟩
theorem pairs_fst {f : Int} : ∀ {es : List (Int × Int)}, ((pairsF f es).map Prod.fst).Sublist (es.map Prod.fst)
  | [] => .refl _
  | [e] => List.nil_sublist _
  | e :: e' :: r => by
    have ih := pairs_fst (f := f) (es := e' :: r)
    show (((if e.2 = f then [(e.1, e'.1)] else []) ++ pairsF f (e' :: r)).map Prod.fst).Sublist (e.1 :: (e' :: r).map Prod.fst)
    rw [List.map_append]
    split
    · exact ih.cons₂ _
    · exact ih.cons _
theorem pairs_ok {ts : List (Int × Int)} {ws : List V} {f : Int} (hl : ws.length = ts.length) : ∀ {es : List (Int × Int)}, pushB ts ws es = true → ∀ p ∈ pairsF f es, (p.1, f) ∈ es ∧ jn ts (numsFrom f 0 ws) (tk ts p.1).1 (tk ts p.1).2 ∧ OnR ts (numsFrom f 0 ws) p.1 p.2
  | e :: e' :: r, h, p, hp => by
    have h : ((joinB ts ws e && @decide (OnRing ts ws e e'.1) (Classical.propDecidable _)) && pushB ts ws (e' :: r)) = true := h
    rw [Bool.and_eq_true, Bool.and_eq_true] at h
    obtain ⟨⟨h1, h2⟩, h3⟩ := h
    rcases List.mem_append.mp (show p ∈ (if e.2 = f then [(e.1, e'.1)] else []) ++ pairsF f (e' :: r) from hp) with hp | hp
    · split at hp
      · rename_i ef
        rw [List.mem_singleton.mp hp]
        subst ef
        exact ⟨List.mem_cons_self, (jn_join hl).mp h1, @of_decide_eq_true _ (Classical.propDecidable _) h2⟩
      · cases hp
    · obtain ⟨a, b, c⟩ := pairs_ok hl h3 p hp
      exact ⟨List.mem_cons_of_mem _ a, b, c⟩
theorem pairs_apart {ts : List (Int × Int)} {ws : List V} {f : Int} : ∀ {es : List (Int × Int)}, NoCut ts ws es → (pairsF f es).Pairwise fun p q => ¬ OnR ts (numsFrom f 0 ws) p.1 q.2
  | [], _ => .nil
  | [e], _ => .nil
  | e :: e' :: r, h => by
    have ih := pairs_apart (f := f) (es := e' :: r) h.2
    show ((if e.2 = f then [(e.1, e'.1)] else []) ++ pairsF f (e' :: r)).Pairwise _
    rw [List.pairwise_append]
    refine ⟨by split <;> simp, ih, fun p hp q hq => ?_⟩
    split at hp
    · rename_i ef
      rw [List.mem_singleton.mp hp]
      obtain ⟨q', hq', e2⟩ := pairs_snd hq
      subst ef
      have := h.1 q' hq'
      rw [e2] at this
      exact this
    · cases hp
theorem pairs_has {f : Int} : ∀ {es : List (Int × Int)} {e : Int × Int}, e ∈ es → e.2 = f → (∃ b, (e.1, b) ∈ pairsF f es) ∨ es.getLast? = some e
  | [d], e, he, _ => .inr (by rw [List.mem_singleton.mp he]; rfl)
  | d :: d' :: r, e, he, ef => by
    rcases List.mem_cons.mp he with rfl | he
    · refine .inl ⟨d'.1, ?_⟩
      show (e.1, d'.1) ∈ (if e.2 = f then [(e.1, d'.1)] else []) ++ pairsF f (d' :: r)
      rw [if_pos ef]
      exact List.mem_cons_self
    · rcases pairs_has he ef with ⟨b, hb⟩ | h
      · exact .inl ⟨b, List.mem_append_right _ hb⟩
      · exact .inr (by rw [List.getLast?_cons_cons]; exact h)
/-- what is pushed away from a forest -/
theorem pairs_gone {ts : List (Int × Int)} {ws : List V} {f : Int} : ∀ {e : Int × Int} {r : List (Int × Int)}, pushB ts ws (e :: r) = true → ∀ q ∈ r, q.1 ∈ numsFrom f 0 ws → q.1 ∈ (pairsF f (e :: r)).map Prod.snd
  | e, e' :: r, h, q, hq, hm => by
    have h : ((joinB ts ws e && @decide (OnRing ts ws e e'.1) (Classical.propDecidable _)) && pushB ts ws (e' :: r)) = true := h
    rw [Bool.and_eq_true, Bool.and_eq_true] at h
    obtain ⟨⟨h1, h2⟩, h3⟩ := h
    show q.1 ∈ (((if e.2 = f then [(e.1, e'.1)] else []) ++ pairsF f (e' :: r)).map Prod.snd)
    rw [List.map_append, List.mem_append]
    rcases List.mem_cons.mp hq with rfl | hq
    · have h2 : OnRing ts ws e q.1 := @of_decide_eq_true _ (Classical.propDecidable _) h2
      have a := (nums_iff.mp h2.1).2
      have b := (nums_iff.mp hm).2
      rw [a] at b
      have ef : e.2 = f := V.int.inj (Option.some.inj b)
      rw [if_pos ef]
      exact .inl List.mem_cons_self
    · exact .inr (pairs_gone h3 q hq hm)
theorem push_last {ts : List (Int × Int)} {ws : List V} : ∀ {es : List (Int × Int)} {e : Int × Int}, pushB ts ws es = true → es.getLast? = some e → joinB ts ws e = false
  | [d], e, h, hl => by
    have h : (!joinB ts ws d) = true := h
    have : d = e := Option.some.inj hl
    subst this
    cases e : joinB ts ws d with
    | false => rfl
    | true => rw [e] at h; cases h
  | d :: d' :: r, e, h, hl => by
    have h : ((joinB ts ws d && @decide (OnRing ts ws d d'.1) (Classical.propDecidable _)) && pushB ts ws (d' :: r)) = true := h
    rw [Bool.and_eq_true] at h
    rw [List.getLast?_cons_cons] at hl
    exact push_last h.2 hl
theorem pairs_not_last {f : Int} : ∀ {es : List (Int × Int)} {p e : Int × Int}, (es.map Prod.fst).Nodup → p ∈ pairsF f es → es.getLast? = some e → p.1 ≠ e.1
  | d :: d' :: r, p, e, hn, hp, hl => by
    obtain ⟨n1, n2⟩ := List.nodup_cons.mp (show (d.1 :: (d' :: r).map Prod.fst).Nodup from hn)
    rw [List.getLast?_cons_cons] at hl
    rcases List.mem_append.mp (show p ∈ (if d.2 = f then [(d.1, d'.1)] else []) ++ pairsF f (d' :: r) from hp) with hp | hp
    · split at hp
      · rw [List.mem_singleton.mp hp]
        exact fun z => n1 (List.mem_map.mpr ⟨e, List.mem_of_getLast? hl, z.symm⟩)
      · cases hp
    · exact pairs_not_last n2 hp hl
/-- a row of pushes without short cuts leaves no ring -/
theorem row_lays {ts : List (Int × Int)} {ws : List V} {e0 : Int × Int} {r : List (Int × Int)} (hl : ws.length = ts.length) (hf : ∀ f, ringlessF (fun x => x) (layerOf ts ws f) = true) (hn : ((e0 :: r).map Prod.fst).Nodup) (hb : ∀ e ∈ e0 :: r, 0 ≤ e.1 ∧ e.1 < (ts.length : Int)) (hlay : ∀ e ∈ e0 :: r, layB ws e = false) (hp : pushB ts ws (e0 :: r) = true) (h0 : ws[e0.1.toNat]? = some .non) (hc : NoCut ts ws (e0 :: r)) (f : Int) : ringlessF (fun x => x) (layerOf ts (pushL ws (e0 :: r)) f) = true := by
  have hb' : ∀ e ∈ e0 :: r, 0 ≤ e.1 ∧ e.1 < (ws.length : Int) := fun e he => by rw [hl]; exact hb e he
  rw [← fo_nums ((pushL_length _ _).trans hl)]
  have hF := (fo_nums hl).mpr (hf f)
  have hout : ∀ e ∈ e0 :: r, e.2 = f → e.1 ∉ numsFrom f 0 ws := fun e he ef z => by
    have := hlay e he
    unfold layB at this
    rw [ef, (nums_iff.mp z).2, decide_eq_true rfl] at this
    cases this
  have hps := pairs_ok (f := f) hl hp
  have hap := pairs_apart (f := f) hc
  have hnd := hn.sublist (pairs_fst (f := f) (es := e0 :: r))
  -- a free tie at the end
  obtain ⟨ms, hM, hms, hkeep⟩ : ∃ ms, Fo ts ms ∧ (∀ x, x ∈ ms ↔ x ∈ numsFrom f 0 ws ∨ ∃ e, (e0 :: r).getLast? = some e ∧ e.2 = f ∧ e.1 = x) ∧ ∀ p ∈ pairsF f (e0 :: r), p.1 ∉ ms ∧ jn ts ms (tk ts p.1).1 (tk ts p.1).2 ∧ ∀ x, OnR ts ms p.1 x ↔ OnR ts (numsFrom f 0 ws) p.1 x := by
    by_cases c : ∃ e, (e0 :: r).getLast? = some e ∧ e.2 = f
    · obtain ⟨e, he, ef⟩ := c
      have hem := List.mem_of_getLast? he
      have hj : ¬ jn ts (numsFrom f 0 ws) (tk ts e.1).1 (tk ts e.1).2 := fun z => by
        have := push_last hp he
        subst ef
        rw [(jn_join hl).mpr z] at this
        cases this
      have hM := hF.add (hout e hem ef) hj
      refine ⟨_, hM, fun x => ?_, fun p hpm => ?_⟩
      · rw [List.mem_append, List.mem_singleton]
        constructor
        · rintro (h | h)
          · exact .inl h
          · exact .inr ⟨e, he, ef, h.symm⟩
        · rintro (h | ⟨e', h1, _, h3⟩)
          · exact .inl h
          · rw [he] at h1
            cases h1
            exact .inr h3.symm
      · obtain ⟨p1, p2, p3⟩ := hps p hpm
        refine ⟨fun z => ?_, ring_stays hF hM p2 fun x hx => List.mem_append_left _ hx.1⟩
        rcases List.mem_append.mp z with z | z
        · exact hout (p.1, f) p1 rfl z
        · exact pairs_not_last hn hpm he (List.mem_singleton.mp z)
    · refine ⟨_, hF, fun x => ⟨.inl, fun h => h.elim id fun ⟨e, h1, h2, _⟩ => absurd ⟨e, h1, h2⟩ c⟩, fun p hpm => ?_⟩
      obtain ⟨p1, p2, p3⟩ := hps p hpm
      exact ⟨hout (p.1, f) p1 rfl, p2, fun _ => Iff.rfl⟩
  obtain ⟨ns, hN, hns⟩ := Fo.swaps (pairsF f (e0 :: r)).reverse hM (by rw [List.map_reverse]; exact (List.reverse_perm _).nodup_iff.mpr hnd) (fun p hpm => by
    have hpm := List.mem_reverse.mp hpm
    obtain ⟨a, b, c⟩ := hkeep p hpm
    exact ⟨a, b, (c _).mpr (hps p hpm).2.2⟩) (by
    rw [List.pairwise_reverse]
    exact hap.imp_of_mem fun {p q} hpm hqm hpq => fun z => hpq (((hkeep p hpm).2.2 _).mp z))
  refine hN.same (nums_nd _ _ _) fun x => ?_
  rw [hns x, hms x, List.map_reverse, List.map_reverse, List.mem_reverse, List.mem_reverse]
  have hgone : ∀ y, y ∈ (pairsF f (e0 :: r)).map Prod.snd → y ∈ numsFrom f 0 ws ∧ y ∈ (e0 :: r).map Prod.fst := fun y hy => by
    obtain ⟨p, hpm, rfl⟩ := List.mem_map.mp hy
    obtain ⟨q, hq, e⟩ := pairs_snd hpm
    exact ⟨(hps p hpm).2.2.1, List.mem_map.mpr ⟨q, List.mem_cons_of_mem _ hq, e⟩⟩
  constructor
  · intro h
    obtain ⟨x0, hx⟩ := nums_iff.mp h
    by_cases c : x ∈ (e0 :: r).map Prod.fst
    · obtain ⟨e, he, rfl⟩ := List.mem_map.mp c
      rw [pushL_in _ hn hb' he] at hx
      have ef : e.2 = f := V.int.inj (Option.some.inj hx)
      rcases pairs_has he ef with ⟨b, hbm⟩ | hla
      · exact .inr (List.mem_map.mpr ⟨_, hbm, rfl⟩)
      · exact .inl ⟨.inr ⟨e, hla, ef, rfl⟩, fun z => hout e he ef (hgone _ z).1⟩
    · rw [pushL_in.pushL_out _ c hb' x0] at hx
      exact .inl ⟨.inl (nums_iff.mpr ⟨x0, hx⟩), fun z => c (hgone _ z).2⟩
  · rintro (⟨h | ⟨e, h1, h2, rfl⟩, hx⟩ | h)
    · obtain ⟨x0, hw⟩ := nums_iff.mp h
      refine nums_iff.mpr ⟨x0, ?_⟩
      rw [pushL_in.pushL_out _ (fun z => ?_) hb' x0]
      · exact hw
      · obtain ⟨q, hq, rfl⟩ := List.mem_map.mp z
        rcases List.mem_cons.mp hq with rfl | hq
        · rw [h0] at hw
          cases hw
        · exact hx (pairs_gone hp q hq h)
    · have hem := List.mem_of_getLast? h1
      exact nums_iff.mpr ⟨(hb e hem).1, by rw [pushL_in _ hn hb' hem, h2]⟩
    · obtain ⟨p, hpm, rfl⟩ := List.mem_map.mp h
      have := (hps p hpm).1
      exact nums_iff.mpr ⟨(hb _ this).1, pushL_in _ hn hb' this⟩
end FF
namespace FF
open PySem PySem.Spec PyProof.Rows L2
/-! ### what is reached and closed is full -/
theorem nub_one {ls : List Int} {g : Int → Int} (hne : ls ≠ []) (h : ∀ x ∈ ls, ∀ y ∈ ls, g x = g y) : (nub (ls.map g)).length = 1 := by
  cases ls with
  | nil => exact absurd rfl hne
  | cons x r =>
    have : (nub ((x :: r).map g)).length = [g x].length := nd_eq (nub_nd _) (by simp) fun k => by
      rw [mem_nub, List.mem_singleton]
      constructor
      · intro hk
        obtain ⟨y, hy, rfl⟩ := List.mem_map.mp hk
        exact h y hy x List.mem_cons_self
      · rintro rfl
        exact List.mem_map.mpr ⟨x, List.mem_cons_self, rfl⟩
    exact this
theorem tree_count {ts : List (Int × Int)} {ms : List Int} {ls : List Int} (h : Fo ts ms) (hin : ∀ m ∈ ms, (tk ts m).1 ∈ ls ∧ (tk ts m).2 ∈ ls) (hn : ls.Nodup) (hne : ls ≠ []) (hj : ∀ x ∈ ls, ∀ y ∈ ls, jn ts ms x y) : ms.length + 1 = ls.length := by
  have := lot_count (ls := ls) h.rl fun t ht => by
    obtain ⟨m, hm, rfl⟩ := List.mem_map.mp ht
    exact hin m hm
  rw [nub_one hne hj, List.map_id', nub_of_nd hn, pick_length] at this
  exact this
/-- ties that are reached: closed under pushes, and hanging together -/
structure Closed (ts : List (Int × Int)) (ws : List V) (k : Int) (R : List Int) : Prop where
  nd : R.Nodup
  rng : ∀ t ∈ R, 0 ≤ t ∧ t < (ts.length : Int)
  ring : ∀ t ∈ R, ∀ f, 0 ≤ f → f < k → ws[t.toNat]? ≠ some (.int f) → jn ts (numsFrom f 0 ws) (tk ts t).1 (tk ts t).2 ∧ ∀ x, OnR ts (numsFrom f 0 ws) t x → x ∈ R
  one : ∀ t ∈ R, ∀ s ∈ R, jn ts R (tk ts t).1 (tk ts s).1
/-- the ends of some ties -/
structure EndsOf (ts : List (Int × Int)) (R : List Int) (ls : List Int) : Prop where
  nd : ls.Nodup
  mem : ∀ x, x ∈ ls ↔ ∃ t ∈ R, x = (tk ts t).1 ∨ x = (tk ts t).2
theorem Closed.joins {ts : List (Int × Int)} {ws : List V} {k : Int} {R ls : List Int} (h : Closed ts ws k R) (hE : EndsOf ts R ls) {x y : Int} (hx : x ∈ ls) (hy : y ∈ ls) : jn ts R x y := by
  have go : ∀ z ∈ ls, ∃ t ∈ R, jn ts R z (tk ts t).1 := fun z hz => by
    obtain ⟨t, ht, e⟩ := (hE.mem z).mp hz
    refine ⟨t, ht, ?_⟩
    rcases e with rfl | rfl
    · rfl
    · exact (Leads.foldR (ts := ts) ht (.inl rfl)).symm
  obtain ⟨t, ht, e1⟩ := go x hx
  obtain ⟨s, hs, e2⟩ := go y hy
  exact e1.trans ((h.one t ht s hs).trans e2.symm)
/-- in each forest the reached ties are a tree on their ends -/
theorem Closed.tree {ts : List (Int × Int)} {ws : List V} {k : Int} {R ls : List Int} (hl : ws.length = ts.length) (h : Closed ts ws k R) (hE : EndsOf ts R ls) (hne : R ≠ []) (hf : ∀ f, ringlessF (fun x => x) (layerOf ts ws f) = true) {f : Int} (f0 : 0 ≤ f) (f1 : f < k) : inside ls (layerOf ts ws f) + 1 = ls.length := by
  have hF := (fo_nums hl).mpr (hf f)
  have hFo : Fo ts ((numsFrom f 0 ws).filter fun m => decide (m ∈ R)) := ⟨hF.nd.filter _, ringlessF_sub (List.filter_sublist.map _) hF.rl⟩
  have hlne : ls ≠ [] := by
    cases R with
    | nil => exact absurd rfl hne
    | cons t r => exact fun z => by have := (hE.mem (tk ts t).1).mpr ⟨t, List.mem_cons_self, .inl rfl⟩; rw [z] at this; cases this
  have hj : ∀ x ∈ ls, ∀ y ∈ ls, jn ts ((numsFrom f 0 ws).filter fun m => decide (m ∈ R)) x y := fun x hx y hy => by
    refine foldR_fine (g := foldR (fun x => x) (pick ts ((numsFrom f 0 ws).filter fun m => decide (m ∈ R)))) (L := pick ts R) (r := fun x => x) (fun a b e => by rw [show a = b from e]) (fun t ht => ?_) x y (h.joins hE hx hy)
    obtain ⟨m, hm, rfl⟩ := List.mem_map.mp ht
    by_cases c : ws[m.toNat]? = some (.int f)
    · have : m ∈ (numsFrom f 0 ws).filter fun m => decide (m ∈ R) := List.mem_filter.mpr ⟨nums_iff.mpr ⟨(h.rng m hm).1, c⟩, decide_eq_true hm⟩
      exact Leads.foldR (ts := ts) this (.inl rfl)
    · obtain ⟨j1, j2⟩ := h.ring m hm f f0 f1 c
      obtain ⟨ns, hR⟩ := ring_exists hF.nd j1
      have h1 := hR.mem_iff hF.rl hF.nd
      exact hR.way.joined fun x hx => List.mem_filter.mpr ⟨hR.mem x hx, decide_eq_true (j2 x ((h1 x).mp hx))⟩
  have h1 := tree_count hFo (fun m hm => by
    have := of_decide_eq_true (List.mem_filter.mp hm).2
    exact ⟨(hE.mem _).mpr ⟨m, this, .inl rfl⟩, (hE.mem _).mpr ⟨m, this, .inr rfl⟩⟩) hE.nd hlne hj
  have h2 := inside_forest (hf f) hE.nd hlne
  have h3 : ((numsFrom f 0 ws).filter fun m => decide (m ∈ R)).length ≤ inside ls (layerOf ts ws f) := by
    have e : layerOf ts ws f = pick ts (numsFrom f 0 ws) := (pick_nums f [] ts ws hl.symm).symm
    unfold inside
    rw [e]
    unfold pick
    rw [List.filter_map, List.length_map]
    refine (List.Sublist.length_le ?_)
    rw [show ((numsFrom f 0 ws).filter fun m => decide (m ∈ R)) = ((numsFrom f 0 ws).filter ((fun t => decide (t.1 ∈ ls) && decide (t.2 ∈ ls)) ∘ fun m => ts.getD m.toNat (0, 0))).filter fun m => decide (m ∈ R) from ?_]
    · exact List.filter_sublist
    · rw [List.filter_filter]
      apply List.filter_congr
      intro m _
      by_cases c : m ∈ R
      · rw [decide_eq_true c]
        show true = (true && (decide ((tk ts m).1 ∈ ls) && decide ((tk ts m).2 ∈ ls)))
        rw [decide_eq_true ((hE.mem _).mpr ⟨m, c, .inl rfl⟩), decide_eq_true ((hE.mem _).mpr ⟨m, c, .inr rfl⟩)]
        rfl
      · rw [decide_eq_false c]
        rfl
  omega
end FF
namespace FF
open PySem PySem.Spec PyProof.Rows L2
theorem laid_inside (ls : List Int) : ∀ {ts : List (Int × Int)} {ws : List V}, inside ls (laidT ts ws) ≤ inside ls ts
  | [], ws => by
    unfold laidT
    rw [List.zip_nil_left]
    exact Nat.le_refl _
  | t :: ts, [] => by
    unfold laidT
    rw [List.zip_nil_right]
    exact Nat.zero_le _
  | t :: ts, x :: ws => by
    have ih := laid_inside ls (ts := ts) (ws := ws)
    rw [laidT_cons, inside_app, show t :: ts = [t] ++ ts from rfl, inside_app]
    split
    · have : inside ls [] = 0 := rfl
      omega
    · omega
theorem left_inside {ls : List Int} : ∀ {ts : List (Int × Int)} {ws : List V} {i : Nat} {t : Int × Int}, ts[i]? = some t → ws[i]? = some .non → t.1 ∈ ls → t.2 ∈ ls → inside ls (laidT ts ws) + 1 ≤ inside ls ts
  | u :: ts, x :: ws, 0, t, h1, h2, a, b => by
    cases h1
    cases h2
    rw [laidT_cons, if_pos rfl, List.nil_append, inside_cons, decide_eq_true a, decide_eq_true b]
    have := laid_inside ls (ts := ts) (ws := ws)
    show _ ≤ 1 + _
    omega
  | u :: ts, x :: ws, i + 1, t, h1, h2, a, b => by
    have ih := left_inside (ts := ts) (ws := ws) (i := i) h1 h2 a b
    rw [laidT_cons, inside_app, show u :: ts = [u] ++ ts from rfl, inside_app]
    split
    · have : inside ls [] = 0 := rfl
      omega
    · omega
  | [], _, _, _, h1, _, _, _ => by simp at h1
  | _ :: _, [], _, _, _, h2, _, _ => by simp at h2
/-- the ends of what is reached and closed are full -/
theorem Closed.full {ts : List (Int × Int)} {ws : List V} {k : Int} {R ls : List Int} (hL : LayK ts k ws) (hk : 0 ≤ k) (h : Closed ts ws k R) (hE : EndsOf ts R ls) {e : Int} (he : e ∈ R) (hn : ws[e.toNat]? = some .non) : (inside ls ts : Int) > k * ((ls.length : Int) - 1) := by
  have hne : R ≠ [] := fun z => by rw [z] at he; cases he
  have ht : (inside ls (laidT ts ws) : Int) = k * ((ls.length : Int) - 1) := by
    refine (tight_iff hL hk hE.nd ?_).mpr fun f f0 f1 => ?_
    · intro z
      have := (hE.mem (tk ts e).1).mpr ⟨e, he, .inl rfl⟩
      rw [z] at this
      cases this
    · have := h.tree hL.len hE hne hL.tree f0 f1
      omega
  have := left_inside (ls := ls) (getD_at (h.rng e he).1 (h.rng e he).2) hn ((hE.mem _).mpr ⟨e, he, .inl rfl⟩) ((hE.mem _).mpr ⟨e, he, .inr rfl⟩)
  omega
/-- a full lot lets no whole laying -/
theorem whole_inside {ts : List (Int × Int)} {ws : List V} (hl : ws.length = ts.length) (hw : ∀ x ∈ ws, x ≠ V.non) : laidT ts ws = ts := by
  induction ts generalizing ws with
  | nil =>
    unfold laidT
    rw [List.zip_nil_left]
    rfl
  | cons t ts ih =>
    cases ws with
    | nil => cases hl
    | cons x ws =>
      rw [laidT_cons, if_neg (hw x List.mem_cons_self), ih (Nat.succ.inj hl) fun y hy => hw y (List.mem_cons_of_mem _ hy)]
      rfl
theorem not_full {ts : List (Int × Int)} {k : Int} {ws : List V} (hL : LayK ts k ws) (hk : 0 ≤ k) (hw : ∀ x ∈ ws, x ≠ V.non) {ls : List Int} (hn : ls.Nodup) (hne : ls ≠ []) : (inside ls ts : Int) ≤ k * ((ls.length : Int) - 1) := by
  have e := inside_laid ls hL.len hL.each
  rw [whole_inside hL.len hw] at e
  rw [e]
  have hm := sum_most (s := (ls.length : Int) - 1) (g := fun f => (inside ls (layerOf ts ws f) : Int)) (l := upTo k) fun f _ => by
    have := inside_forest (hL.tree f) hn hne
    show (inside ls (layerOf ts ws f) : Int) ≤ _
    omega
  have hl : ((upTo k).length : Int) = k := by rw [upTo_length]; omega
  rw [hl] at hm
  exact hm.1
/-- a laying after a row of pushes without short cuts -/
theorem LayK.push {ts : List (Int × Int)} {k : Int} {ws : List V} {e0 : Int × Int} {r : List (Int × Int)} (hL : LayK ts k ws) (hn : ((e0 :: r).map Prod.fst).Nodup) (hb : ∀ e ∈ e0 :: r, (0 ≤ e.1 ∧ e.1 < (ts.length : Int)) ∧ 0 ≤ e.2 ∧ e.2 < k) (hlay : ∀ e ∈ e0 :: r, layB ws e = false) (hp : pushB ts ws (e0 :: r) = true) (h0 : ws[e0.1.toNat]? = some .non) (hc : NoCut ts ws (e0 :: r)) : LayK ts k (pushL ws (e0 :: r)) := by
  refine ⟨(pushL_length _ _).trans hL.len, ?_, row_lays hL.len hL.tree hn (fun e he => (hb e he).1) hlay hp h0 hc⟩
  have go : ∀ (es : List (Int × Int)) {ws : List V}, (∀ e ∈ es, 0 ≤ e.2 ∧ e.2 < k) → (∀ x ∈ ws, x = V.non ∨ ∃ f, x = V.int f ∧ 0 ≤ f ∧ f < k) → ∀ x ∈ pushL ws es, x = V.non ∨ ∃ f, x = V.int f ∧ 0 ≤ f ∧ f < k := fun es => by
    induction es with
    | nil => exact fun _ h => h
    | cons e es ih =>
      intro ws he h
      refine ih (ws := ws.set e.1.toNat (.int e.2)) (fun e' h' => he e' (List.mem_cons_of_mem _ h')) fun x hx => ?_
      rcases List.mem_or_eq_of_mem_set hx with hx | rfl
      · exact h x hx
      · exact .inr ⟨_, rfl, he e List.mem_cons_self⟩
  exact go _ (fun e he => (hb e he).2) hL.each
end FF
namespace FF
open PySem PySem.Spec PyProof.Rows L2
/-! ### where no lot is full a whole laying is there -/
structure PRow (ts : List (Int × Int)) (ws : List V) (k : Int) (es : List (Int × Int)) : Prop where
  ne : es ≠ []
  bd : ∀ e ∈ es, (0 ≤ e.1 ∧ e.1 < (ts.length : Int)) ∧ 0 ≤ e.2 ∧ e.2 < k
  lay : ∀ e ∈ es, layB ws e = false
  push : pushB ts ws es = true
section
variable {ts : List (Int × Int)} {ws : List V} {k : Int}
theorem pushB_parts {e e' : Int × Int} {r : List (Int × Int)} : pushB ts ws (e :: e' :: r) = true ↔ joinB ts ws e = true ∧ OnRing ts ws e e'.1 ∧ pushB ts ws (e' :: r) = true := by
  show ((joinB ts ws e && @decide (OnRing ts ws e e'.1) (Classical.propDecidable _)) && pushB ts ws (e' :: r)) = true ↔ _
  rw [Bool.and_eq_true, Bool.and_eq_true, @decide_eq_true_eq _ (Classical.propDecidable _), and_assoc]
theorem PRow.tail {e e' : Int × Int} {r : List (Int × Int)} (h : PRow ts ws k (e :: e' :: r)) : PRow ts ws k (e' :: r) :=
  ⟨List.cons_ne_nil _ _, fun q hq => h.bd q (List.mem_cons_of_mem _ hq), fun q hq => h.lay q (List.mem_cons_of_mem _ hq), (pushB_parts.mp h.push).2.2⟩
theorem PRow.cons {e e' : Int × Int} {r : List (Int × Int)} (b : (0 ≤ e.1 ∧ e.1 < (ts.length : Int)) ∧ 0 ≤ e.2 ∧ e.2 < k) (l : layB ws e = false) (j : joinB ts ws e = true) (o : OnRing ts ws e e'.1) (h : PRow ts ws k (e' :: r)) : PRow ts ws k (e :: e' :: r) :=
  ⟨List.cons_ne_nil _ _, fun q hq => (List.mem_cons.mp hq).elim (fun z => z ▸ b) (h.bd q), fun q hq => (List.mem_cons.mp hq).elim (fun z => z ▸ l) (h.lay q), pushB_parts.mpr ⟨j, o, h.push⟩⟩
theorem PRow.drop : ∀ {es : List (Int × Int)} {l1 l2 : List (Int × Int)} {q : Int × Int}, PRow ts ws k es → es = l1 ++ q :: l2 → PRow ts ws k (q :: l2)
  | es, [], l2, q, h, e => by subst e; exact h
  | es, [d], l2, q, h, e => by subst e; exact PRow.tail h
  | es, d :: d' :: l1, l2, q, h, e => by subst e; exact PRow.drop (es := d' :: l1 ++ q :: l2) (PRow.tail h) rfl
/-- no row from its first tie is shorter -/
def Least (ts : List (Int × Int)) (ws : List V) (k : Int) : List (Int × Int) → Prop
  | [] => True
  | e :: r => ∀ e' r', PRow ts ws k (e' :: r') → e'.1 = e.1 → r.length ≤ r'.length
theorem Least.tail {e e' : Int × Int} {r : List (Int × Int)} (h : PRow ts ws k (e :: e' :: r)) (m : Least ts ws k (e :: e' :: r)) : Least ts ws k (e' :: r) := fun d r' hd ed => by
  have p := pushB_parts.mp h.push
  have := m e (d :: r') (PRow.cons (h.bd e List.mem_cons_self) (h.lay e List.mem_cons_self) p.1 (by rw [ed]; exact p.2.1) hd) rfl
  rw [List.length_cons, List.length_cons] at this
  omega
theorem Least.nocut : ∀ {es : List (Int × Int)}, PRow ts ws k es → Least ts ws k es → NoCut ts ws es ∧ (es.map Prod.fst).Nodup
  | [], h, _ => absurd rfl h.ne
  | [e], _, _ => ⟨⟨(fun _ z => nomatch z), trivial⟩, by simp⟩
  | e :: e' :: r, h, m => by
    obtain ⟨i1, i2⟩ := Least.nocut (PRow.tail h) (m.tail h)
    have p := pushB_parts.mp h.push
    refine ⟨⟨fun q hq z => ?_, i1⟩, ?_⟩
    · obtain ⟨l1, l2, el⟩ := List.append_of_mem (show q ∈ r from hq)
      have hd := PRow.drop (l1 := e :: e' :: l1) (l2 := l2) (q := q) h (by rw [el]; rfl)
      have := m e (q :: l2) (PRow.cons (h.bd e List.mem_cons_self) (h.lay e List.mem_cons_self) p.1 z hd) rfl
      rw [el, List.length_cons, List.length_append, List.length_cons] at this
      omega
    · show (e.1 :: (e' :: r).map Prod.fst).Nodup
      rw [List.nodup_cons]
      refine ⟨fun z => ?_, i2⟩
      obtain ⟨q, hq, eq⟩ := List.mem_map.mp z
      obtain ⟨l1, l2, el⟩ := List.append_of_mem hq
      have hd := PRow.drop (l1 := e :: l1) (l2 := l2) (q := q) h (by rw [el]; rfl)
      have := m q l2 hd eq
      rw [el, List.length_append, List.length_cons] at this
      omega
/-- if there is a row there is a shortest one -/
theorem least_row {t : Int} : ∀ (n : Nat) {e : Int × Int} {r : List (Int × Int)}, r.length ≤ n → PRow ts ws k (e :: r) → e.1 = t → ∃ e' r', PRow ts ws k (e' :: r') ∧ e'.1 = t ∧ Least ts ws k (e' :: r')
  | 0, e, r, hl, h, he => ⟨e, r, h, he, fun _ _ _ _ => by omega⟩
  | n + 1, e, r, hl, h, he => by
    by_cases c : ∃ e' r', PRow ts ws k (e' :: r') ∧ e'.1 = t ∧ r'.length < r.length
    · obtain ⟨e', r', h', e2, hlt⟩ := c
      exact least_row n (by omega) h' e2
    · refine ⟨e, r, h, he, fun e' r' h' e2 => ?_⟩
      by_cases z : r.length ≤ r'.length
      · exact z
      · exact absurd ⟨e', r', h', e2.trans he, by omega⟩ c
/-- what pushes come to from e -/
inductive Rch (ts : List (Int × Int)) (ws : List V) (k : Int) (e : Int) : Int → Prop where
  | base : Rch ts ws k e e
  | step {s t f : Int} (h : Rch ts ws k e s) (f0 : 0 ≤ f) (f1 : f < k) (hn : ws[s.toNat]? ≠ some (.int f)) (hj : jn ts (numsFrom f 0 ws) (tk ts s).1 (tk ts s).2) (ho : OnR ts (numsFrom f 0 ws) s t) : Rch ts ws k e t
theorem Rch.rng {e t : Int} (hl : ws.length = ts.length) (h : Rch ts ws k e t) (he : 0 ≤ e ∧ e < (ts.length : Int)) : 0 ≤ t ∧ t < (ts.length : Int) := by
  induction h with
  | base => exact he
  | step _ _ _ _ _ ho _ =>
    obtain ⟨h0, h1⟩ := nums_iff.mp ho.1
    have := (List.getElem?_eq_some_iff.mp h1).1
    exact ⟨h0, by omega⟩
theorem layB_ne {s f : Int} (h : ws[s.toNat]? ≠ some (.int f)) : layB ws (s, f) = false := decide_eq_false h
theorem Rch.back {e t : Int} (hl : ws.length = ts.length) (h : Rch ts ws k e t) (he : 0 ≤ e ∧ e < (ts.length : Int)) : (∃ d r, PRow ts ws k (d :: r) ∧ d.1 = t) → ∃ d r, PRow ts ws k (d :: r) ∧ d.1 = e := by
  induction h with
  | base => exact id
  | @step s t f hs f0 f1 hn hj ho ih =>
    rintro ⟨d, r, hp, rfl⟩
    exact ih ⟨(s, f), d :: r, PRow.cons ⟨hs.rng hl he, f0, f1⟩ (layB_ne hn) ((jn_join (e := (s, f)) hl).mpr hj) ho hp, rfl⟩
open Classical in
theorem closed_of {e : Int} (hL : LayK ts k ws) (he : 0 ≤ e ∧ e < (ts.length : Int)) (hno : ¬ ∃ d r, PRow ts ws k (d :: r) ∧ d.1 = e) : ∃ R, Closed ts ws k R ∧ e ∈ R := by
  have hl := hL.len
  have mem : ∀ t, t ∈ (upTo ts.length).filter (fun t => decide (Rch ts ws k e t)) ↔ Rch ts ws k e t := fun t => by
    rw [List.mem_filter, decide_eq_true_eq]
    exact ⟨fun h => h.2, fun h => ⟨upTo_mem.mpr (h.rng hl he), h⟩⟩
  have ring : ∀ t, Rch ts ws k e t → ∀ f, 0 ≤ f → f < k → ws[t.toNat]? ≠ some (.int f) → jn ts (numsFrom f 0 ws) (tk ts t).1 (tk ts t).2 ∧ ∀ x, OnR ts (numsFrom f 0 ws) t x → Rch ts ws k e x := fun t ht f f0 f1 hn => by
    have hj : jn ts (numsFrom f 0 ws) (tk ts t).1 (tk ts t).2 := by
      by_cases c : jn ts (numsFrom f 0 ws) (tk ts t).1 (tk ts t).2
      · exact c
      · refine absurd (ht.back hl he ⟨(t, f), [], ⟨List.cons_ne_nil _ _, fun q hq => ?_, fun q hq => ?_, ?_⟩, rfl⟩) hno
        · rw [List.mem_singleton.mp hq]
          exact ⟨ht.rng hl he, f0, f1⟩
        · rw [List.mem_singleton.mp hq]
          exact layB_ne hn
        · show (!joinB ts ws (t, f)) = true
          cases z : joinB ts ws (t, f) with
          | false => rfl
          | true => exact absurd ((jn_join (e := (t, f)) hl).mp z) c
    exact ⟨hj, fun x hx => .step ht f0 f1 hn hj hx⟩
  refine ⟨_, ⟨(upTo_nd _).filter _, fun t ht => ((mem t).mp ht).rng hl he, fun t ht f f0 f1 hn => ?_, fun t ht s hs => ?_⟩, (mem e).mpr .base⟩
  · obtain ⟨a, b⟩ := ring t ((mem t).mp ht) f f0 f1 hn
    exact ⟨a, fun x hx => (mem x).mpr (b x hx)⟩
  · generalize hR : (upTo ts.length).filter (fun t => decide (Rch ts ws k e t)) = R at *
    have go : ∀ t, Rch ts ws k e t → jn ts R (tk ts t).1 (tk ts e).1 := fun t ht => by
      induction ht with
      | base => rfl
      | @step s t f hs f0 f1 hn hj ho ih =>
        obtain ⟨_, hring⟩ := ring s hs f f0 f1 hn
        have hF := (fo_nums hl).mpr (hL.tree f)
        obtain ⟨ns, hRg⟩ := ring_exists hF.nd hj
        have h1 := hRg.mem_iff hF.rl hF.nd
        have hsub : ∀ x ∈ ns, x ∈ R := fun x hx => (mem x).mpr (hring x ((h1 x).mp hx))
        obtain ⟨l1, l2, u, v, el, w1, w2, w3⟩ := hRg.way.cut ((h1 t).mpr ho)
        have e1 : jn ts R (tk ts s).1 u := w1.joined fun x hx => hsub x (by rw [el]; exact List.mem_append_left _ hx)
        have htR : t ∈ R := (mem t).mpr (.step hs f0 f1 hn hj ho)
        have e2 : jn ts R (tk ts t).1 (tk ts t).2 := Leads.foldR (ts := ts) htR (.inl rfl)
        have e3 : jn ts R (tk ts t).1 u := by
          rcases w2 with w2 | w2
          · have : (tk ts t) = (u, v) := w2
            rw [this]
          · have : (tk ts t) = (v, u) := w2
            rw [this] at e2 ⊢
            exact e2
        exact e3.trans (e1.symm.trans ih)
    exact (go t ((mem t).mp ht)).trans (go s ((mem s).mp hs)).symm
end
end FF
namespace FF
open PySem PySem.Spec PyProof.Rows L2
theorem laidN_cons (x : V) (ws : List V) : laidN (x :: ws) = (if x = V.non then 0 else 1) + laidN ws := by
  unfold laidN
  rw [List.filter_cons]
  by_cases e : x = V.non
  · rw [if_pos e, if_neg (by rw [decide_eq_true e]; decide), Nat.zero_add]
  · rw [if_neg e, if_pos (by rw [decide_eq_false e]; rfl), List.length_cons, Nat.add_comm]
theorem laidN_set : ∀ {ws : List V} {i : Nat} {f : Int}, laidN ws ≤ laidN (ws.set i (.int f))
  | [], _, _ => Nat.le_refl _
  | x :: ws, 0, f => by
    rw [List.set_cons_zero, laidN_cons, laidN_cons, if_neg (show ¬ V.int f = V.non from fun z => nomatch z)]
    split <;> omega
  | x :: ws, i + 1, f => by
    rw [List.set_cons_succ, laidN_cons, laidN_cons]
    have := laidN_set (ws := ws) (i := i) (f := f)
    omega
theorem laidN_set_non : ∀ {ws : List V} {i : Nat} {f : Int}, ws[i]? = some .non → laidN ws < laidN (ws.set i (.int f))
  | [], _, _, h => by simp at h
  | x :: ws, 0, f, h => by
    cases h
    rw [List.set_cons_zero, laidN_cons, laidN_cons, if_neg (show ¬ V.int f = V.non from fun z => nomatch z), if_pos rfl]
    omega
  | x :: ws, i + 1, f, h => by
    rw [List.set_cons_succ, laidN_cons, laidN_cons]
    have := laidN_set_non (ws := ws) (i := i) (f := f) h
    omega
theorem laidN_push : ∀ (es : List (Int × Int)) {ws : List V}, laidN ws ≤ laidN (pushL ws es)
  | [], _ => Nat.le_refl _
  | e :: es, ws => Nat.le_trans laidN_set (laidN_push es (ws := ws.set e.1.toNat (.int e.2)))
open Classical in
theorem ends_lot {n : Int} {ts : List (Int × Int)} (ok : TOk n ts) {R : List Int} (hR : ∀ t ∈ R, 0 ≤ t ∧ t < (ts.length : Int)) (hne : R ≠ []) : ∃ ls, EndsOf ts R ls ∧ Lot n ls := by
  have hb : ∀ t ∈ R, 0 ≤ (tk ts t).1 ∧ (tk ts t).1 < (tk ts t).2 ∧ (tk ts t).2 < n := fun t ht => ok _ (List.mem_of_getElem? (getD_at (hR t ht).1 (hR t ht).2))
  have mem : ∀ x, x ∈ (upTo n).filter (fun x => decide (∃ t ∈ R, x = (tk ts t).1 ∨ x = (tk ts t).2)) ↔ ∃ t ∈ R, x = (tk ts t).1 ∨ x = (tk ts t).2 := fun x => by
    rw [List.mem_filter, decide_eq_true_eq]
    refine ⟨fun h => h.2, fun h => ⟨?_, h⟩⟩
    obtain ⟨t, ht, e⟩ := h
    have := hb t ht
    refine upTo_mem.mpr ?_
    rcases e with rfl | rfl <;> omega
  refine ⟨_, ⟨(upTo_nd n).filter _, mem⟩, fun z => ?_, (upTo_up n).filter _, fun x hx => upTo_mem.mp (List.mem_filter.mp hx).1⟩
  cases R with
  | nil => exact hne rfl
  | cons t r =>
    have := (mem (tk ts t).1).mpr ⟨t, List.mem_cons_self, .inl rfl⟩
    rw [z] at this
    cases this
theorem augment {n : Int} {ts : List (Int × Int)} {k : Int} {ws : List V} (ok : TOk n ts) (hL : LayK ts k ws) (hk : 0 ≤ k) (hno : ∀ ls, Lot n ls → (inside ls ts : Int) ≤ k * ((ls.length : Int) - 1)) {e : Int} (he : 0 ≤ e ∧ e < (ts.length : Int)) (hn : ws[e.toNat]? = some .non) : ∃ ws', LayK ts k ws' ∧ laidN ws < laidN ws' := by
  by_cases c : ∃ d r, PRow ts ws k (d :: r) ∧ d.1 = e
  · obtain ⟨d, r, hp, hd⟩ := c
    obtain ⟨e0, r0, hp0, h0, hm⟩ := least_row r.length (Nat.le_refl _) hp hd
    obtain ⟨nc, nd⟩ := hm.nocut hp0
    subst h0
    exact ⟨_, hL.push nd hp0.bd hp0.lay hp0.push hn nc, Nat.lt_of_lt_of_le (laidN_set_non hn) (laidN_push r0)⟩
  · obtain ⟨R, hC, heR⟩ := closed_of hL he c
    obtain ⟨ls, hE, hlot⟩ := ends_lot ok hC.rng (fun z => by rw [z] at heR; cases heR)
    have := hC.full hL hk hE heR hn
    have := hno ls hlot
    omega
theorem whole_of {n : Int} {ts : List (Int × Int)} {k : Int} (ok : TOk n ts) (hk : 0 ≤ k) (hno : ∀ ls, Lot n ls → (inside ls ts : Int) ≤ k * ((ls.length : Int) - 1)) : ∀ (m : Nat) {ws : List V}, LayK ts k ws → ts.length ≤ laidN ws + m → ∃ ws', LayK ts k ws' ∧ ∀ x ∈ ws', x ≠ V.non
  | m, ws, hL, hm => by
    by_cases c : ∀ x ∈ ws, x ≠ V.non
    · exact ⟨ws, hL, c⟩
    · have : ∃ x ∈ ws, x = V.non := by
        by_cases z : ∃ x ∈ ws, x = V.non
        · exact z
        · exact absurd (fun x hx e => z ⟨x, hx, e⟩) c
      obtain ⟨x, hx, rfl⟩ := this
      obtain ⟨i, hi⟩ := List.getElem?_of_mem hx
      have hil := (List.getElem?_eq_some_iff.mp hi).1
      have hlw := hL.len
      obtain ⟨ws', hL', hlt⟩ := augment ok hL hk hno (e := (i : Int)) ⟨by omega, by omega⟩ (by rw [Int.toNat_natCast]; exact hi)
      have hle := laidN_le ws'
      have hlw' := hL'.len
      match m, hm with
      | 0, hm => omega
      | m + 1, hm => exact whole_of ok hk hno m hL' (by omega)
/-- all ties can be laid in k forests just where no lot is full -/
theorem nash {n : Int} {ts : List (Int × Int)} {k : Int} (ok : TOk n ts) (hk : 0 ≤ k) : (∃ ws, LayK ts k ws ∧ ∀ x ∈ ws, x ≠ V.non) ↔ ∀ ls, Lot n ls → (inside ls ts : Int) ≤ k * ((ls.length : Int) - 1) :=
  ⟨fun ⟨_, hL, hw⟩ _ hlot => not_full hL hk hw hlot.nd hlot.ne, fun h => whole_of ok hk h ts.length (LayK.none ts) (by omega)⟩
/-! ### all ways to lay -/
def waysF (k : Int) : Nat → List (List Int)
  | 0 => [[]]
  | n + 1 => (waysF k n).flatMap fun w => (upTo k).map fun f => w ++ [f]
theorem waysF_mem {k : Int} : ∀ (n : Nat) (w : List Int), w ∈ waysF k n ↔ w.length = n ∧ ∀ f ∈ w, 0 ≤ f ∧ f < k
  | 0, w => by
    show w ∈ [[]] ↔ _
    rw [List.mem_singleton]
    constructor
    · rintro rfl
      exact ⟨rfl, fun _ z => nomatch z⟩
    · intro h
      exact List.length_eq_zero_iff.mp h.1
  | n + 1, w => by
    show w ∈ (waysF k n).flatMap (fun w => (upTo k).map fun f => w ++ [f]) ↔ _
    rw [List.mem_flatMap]
    constructor
    · rintro ⟨u, hu, hw⟩
      obtain ⟨f, hf, rfl⟩ := List.mem_map.mp hw
      obtain ⟨h1, h2⟩ := (waysF_mem n u).mp hu
      refine ⟨by rw [List.length_append, h1]; rfl, fun g hg => ?_⟩
      rcases List.mem_append.mp hg with hg | hg
      · exact h2 g hg
      · rw [List.mem_singleton.mp hg]
        exact upTo_mem.mp hf
    · rintro ⟨h1, h2⟩
      have hne : w ≠ [] := fun z => by rw [z] at h1; cases h1
      have e := (List.dropLast_concat_getLast hne).symm
      refine ⟨w.dropLast, (waysF_mem n _).mpr ⟨by rw [List.length_dropLast, h1]; rfl, fun f hf => h2 f (List.dropLast_subset _ hf)⟩, List.mem_map.mpr ⟨w.getLast hne, upTo_mem.mpr (h2 _ (List.getLast_mem hne)), e.symm⟩⟩
theorem waysF_len {k : Int} : ∀ n : Nat, (waysF k n).length = k.toNat ^ n
  | 0 => rfl
  | n + 1 => by
    show ((waysF k n).flatMap fun w => (upTo k).map fun f => w ++ [f]).length = _
    rw [List.length_flatMap, Nat.pow_succ, ← waysF_len n]
    have : ∀ l : List (List Int), (l.map fun w => ((upTo k).map fun f => w ++ [f]).length).sum = l.length * k.toNat := fun l => by
      induction l with
      | nil => simp
      | cons x l ih =>
        rw [List.map_cons, List.sum_cons, ih, List.length_map, upTo_length, List.length_cons, Nat.add_mul, Nat.one_mul, Nat.add_comm]
    exact this _
theorem ways_lay {ts : List (Int × Int)} {k : Int} : (∃ w ∈ waysF k ts.length, layO ts k (some (w.map V.int)) = true) ↔ ∃ ws, LayK ts k ws ∧ ∀ x ∈ ws, x ≠ V.non := by
  constructor
  · rintro ⟨w, hw, h⟩
    refine ⟨_, layO_k h, fun x hx => ?_⟩
    obtain ⟨i, _, rfl⟩ := List.mem_map.mp hx
    exact fun z => nomatch z
  · rintro ⟨ws, hL, hw⟩
    have e : ws = (intsOf ws).map V.int := by
      unfold intsOf
      rw [List.map_map]
      conv => lhs; rw [← List.map_id' ws]
      apply List.map_congr_left
      intro x hx
      rcases hL.each x hx with rfl | ⟨f, rfl, _⟩
      · exact absurd rfl (hw _ hx)
      · rfl
    refine ⟨intsOf ws, (waysF_mem _ _).mpr ⟨?_, fun f hf => ?_⟩, by rw [← e]; exact hL.o⟩
    · have := congrArg List.length e
      rw [List.length_map] at this
      rw [← this]
      exact hL.len
    · have hm : V.int f ∈ ws := by rw [e]; exact List.mem_map.mpr ⟨f, hf, rfl⟩
      rcases hL.each _ hm with z | ⟨g, z, g0, g1⟩
      · cases z
      · cases z
        exact ⟨g0, g1⟩
theorem lots_full {n : Nat} {ts : List (Int × Int)} {k : Int} : (∃ l ∈ (lotsF n).filter (fun l => !l.isEmpty), fullO (n : Int) ts k (some (l.map V.int)) = true) ↔ ¬ ∀ ls, Lot (n : Int) ls → (inside ls ts : Int) ≤ k * ((ls.length : Int) - 1) := by
  constructor
  · rintro ⟨l, hl, h⟩ hno
    obtain ⟨h1, h2⟩ := List.mem_filter.mp hl
    obtain ⟨o1, o2, _⟩ := lotsF_ok n l h1
    have hL : Lot (n : Int) l := ⟨fun z => (by rw [z] at h2; cases h2), o1, o2⟩
    rw [hL.full] at h
    have := hno l hL
    have := of_decide_eq_true h
    omega
  · intro hno
    by_cases c : ∃ ls, Lot (n : Int) ls ∧ ¬ (inside ls ts : Int) ≤ k * ((ls.length : Int) - 1)
    · obtain ⟨ls, hL, hc⟩ := c
      refine ⟨ls, List.mem_filter.mpr ⟨lotsF_all n hL.up hL.ok, ?_⟩, ?_⟩
      · cases ls with
        | nil => exact absurd rfl hL.ne
        | cons _ _ => rfl
      · rw [hL.full]
        exact decide_eq_true (by omega)
    · refine absurd (fun ls hL => ?_) hno
      by_cases z : (inside ls ts : Int) ≤ k * ((ls.length : Int) - 1)
      · exact z
      · exact absurd ⟨ls, hL, z⟩ c
theorem flat_len {k : Int} (l : List (List Int)) : (l.flatMap fun w => (upTo k).map fun f => w ++ [f]).length = l.length * k.toNat := by
  rw [List.length_flatMap]
  induction l with
  | nil => simp
  | cons x l ih =>
    rw [List.map_cons, List.sum_cons, ih, List.length_map, upTo_length, List.length_cons, Nat.add_mul, Nat.one_mul, Nat.add_comm]
theorem Lots.dts {H : Hp} {rs : List V} {pss : List (List Int)} (h : Lots H rs pss) : Dts 1 H rs := fun x hx => by
  obtain ⟨ls, q, _, rfl, hq⟩ := h.tys x hx
  exact ⟨_, .inr ⟨q, _, _, rfl, hq, dtn_ints ls, rfl⟩⟩
end FF
namespace FF
open PySem PySem.Spec PyProof.Rows L2
/-! ### things as entries and rows -/
/-- a thing as an entry: two values, or nothing of the kind -/
inductive EntT (H : Hp) : V → Option (V × V) → Prop where
  | no {t : V} {n : String} (h : TyN H t n) (hn : n ≠ "tuple") : EntT H t none
  | odd {a : Addr} {xs : List V} (h : H a = some (.tup xs)) (hl : xs.length ≠ 2) : EntT H (.ref a) none
  | yes {a : Addr} {x y : V} {n m : String} (h : H a = some (.tup [x, y])) (hx : TyN H x n) (hy : TyN H y m) : EntT H (.ref a) (some (x, y))
def entB (T k : Int) : Option (V × V) → Bool
  | none => false
  | some (x, y) => isNum x 0 (T - 1) && isNum y 0 (k - 1)
theorem EntT.mono {H H' : Hp} {t : V} {o : Option (V × V)} (h : EntT H t o) (k : ∀ q xs, H q = some (.tup xs) → H' q = some (.tup xs)) (y : ∀ v n, TyN H v n → TyN H' v n) : EntT H' t o := by
  cases h with
  | no h hn => exact .no (y _ _ h) hn
  | odd h hl => exact .odd (k _ _ h) hl
  | yes h hx hy => exact .yes (k _ _ h) (y _ _ hx) (y _ _ hy)
/-- a thing as a row -/
inductive RowO (H : Hp) : V → Option (List (Option (V × V))) → Prop where
  | no {v : V} {nm : String} (h : TyN H v nm) (hn : nm ≠ "tuple") : RowO H v none
  | yes {a : Addr} {xs : List V} {os : List (Option (V × V))} (h : H a = some (.tup xs)) (hx : Paired (EntT H) xs os) : RowO H (.ref a) (some os)
theorem RowO.mono {H H' : Hp} {t : V} {o : Option (List (Option (V × V)))} (h : RowO H t o) (k : ∀ q xs, H q = some (.tup xs) → H' q = some (.tup xs)) (y : ∀ v n, TyN H v n → TyN H' v n) : RowO H' t o := by
  cases h with
  | no h hn => exact .no (y _ _ h) hn
  | yes h hx => exact .yes (k _ _ h) (L2.Paired.mapP hx fun _ _ z => z.mono k y)
theorem RowO.ke {H H' : Hp} {t : V} {o : Option (List (Option (V × V)))} (h : RowO H t o) (k : Ke H H') : RowO H' t o := h.mono (fun _ _ => k.tup) fun _ _ z => z.ke k
def entOf (o : Option (V × V)) : Int × Int := match o with
  | some (.int x, .int y) => (x, y)
  | _ => (0, 0)
theorem ents_ties {H : Hp} {T k : Int} : ∀ {xs : List V} {os : List (Option (V × V))}, Paired (EntT H) xs os → (∀ o ∈ os, entB T k o = true) → Ties H xs (os.map entOf) ∧ ∀ e ∈ os.map entOf, (0 ≤ e.1 ∧ e.1 < T) ∧ 0 ≤ e.2 ∧ e.2 < k
  | _, _, .nil, _ => ⟨.nil, fun _ z => nomatch z⟩
  | _, _, .cons (b := o) h t, hb => by
    obtain ⟨i1, i2⟩ := ents_ties t fun o ho => hb o (List.mem_cons_of_mem _ ho)
    have h0 := hb o List.mem_cons_self
    cases h with
    | no _ _ => cases h0
    | odd _ _ => cases h0
    | @yes a x y _ _ h hx hy =>
      have h0 : (isNum x 0 (T - 1) && isNum y 0 (k - 1)) = true := h0
      rw [Bool.and_eq_true] at h0
      have h1 := h0.1
      have h2 := h0.2
      clear h0 hb
      cases x with
      | int x =>
        cases y with
        | int y =>
          have h1 : (decide (0 ≤ x) && decide (x ≤ T - 1)) = true := h1
          have h2 : (decide (0 ≤ y) && decide (y ≤ k - 1)) = true := h2
          rw [Bool.and_eq_true, decide_eq_true_eq, decide_eq_true_eq] at h1 h2
          refine ⟨.cons ⟨a, rfl, h⟩ i1, fun e he => ?_⟩
          rcases List.mem_cons.mp he with rfl | he
          · exact ⟨⟨h1.1, by show x < T; omega⟩, h2.1, by show y < k; omega⟩
          · exact i2 e he
        | _ => cases h2
      | _ => cases h1
theorem EntT.ty {H : Hp} {x : V} {o : Option (V × V)} (h : EntT H x o) : ∃ n, TyN H x n := by
  cases h with
  | no h _ => exact ⟨_, h⟩
  | odd h _ => exact ⟨_, .tup h⟩
  | yes h _ _ => exact ⟨_, .tup h⟩
/-- a thing that can be asked as an entry -/
def EG (H : Hp) (x : V) : Prop := ∃ o, EntT H x o
/-- a thing that can be asked as a row -/
def RG (H : Hp) (x : V) : Prop := ∃ o, RowO H x o ∧ ∀ os, o = some os → os.length ≤ 1000
theorem EG.mono {H H' : Hp} {x : V} (h : EG H x) (k : ∀ q xs, H q = some (.tup xs) → H' q = some (.tup xs)) (y : ∀ v n, TyN H v n → TyN H' v n) : EG H' x := h.elim fun o z => ⟨o, z.mono k y⟩
theorem RG.mono {H H' : Hp} {x : V} (h : RG H x) (k : ∀ q xs, H q = some (.tup xs) → H' q = some (.tup xs)) (y : ∀ v n, TyN H v n → TyN H' v n) : RG H' x := h.elim fun o z => ⟨o, z.1.mono k y, z.2⟩
theorem EG.ke {H H' : Hp} {x : V} (h : EG H x) (k : Ke H H') : EG H' x := h.mono (fun _ _ => k.tup) fun _ _ z => z.ke k
theorem RG.ke {H H' : Hp} {x : V} (h : RG H x) (k : Ke H H') : RG H' x := h.mono (fun _ _ => k.tup) fun _ _ z => z.ke k
theorem EG.new {H : Hp} {p : Addr} {o : HO} {x : V} (h : EG H x) (k : H p = none) : EG (upd H p o) x := h.ke (Ke.new k)
theorem RG.new {H : Hp} {p : Addr} {o : HO} {x : V} (h : RG H x) (k : H p = none) : RG (upd H p o) x := h.ke (Ke.new k)
theorem EG.put {H : Hp} {p : Addr} {ys zs : List V} {x : V} (h : EG H x) (k : H p = some (.lst zs)) : EG (upd H p (.lst ys)) x := h.mono (fun q xs e => by rw [upd_ne (ne_of e k (fun z => nomatch z))]; exact e) fun _ _ z => z.put k
theorem RG.put {H : Hp} {p : Addr} {ys zs : List V} {x : V} (h : RG H x) (k : H p = some (.lst zs)) : RG (upd H p (.lst ys)) x := h.mono (fun q xs e => by rw [upd_ne (ne_of e k (fun z => nomatch z))]; exact e) fun _ _ z => z.put k
theorem EG.dk {H H' : Hp} {p : Addr} {x : V} (h : EG H x) (k : Dk p H H') (d : Deck H p) : EG H' x := h.mono (fun _ _ => k.tup d) fun _ _ z => z.dk k d
theorem RG.dk {H H' : Hp} {p : Addr} {x : V} (h : RG H x) (k : Dk p H H') (d : Deck H p) : RG H' x := h.mono (fun _ _ => k.tup d) fun _ _ z => z.dk k d
theorem EG.pair {H : Hp} {a : Addr} {x y : V} {n m : String} (h : H a = some (.tup [x, y])) (hx : TyN H x n) (hy : TyN H y m) : EG H (.ref a) := ⟨_, .yes h hx hy⟩
theorem EG.odd {H : Hp} {a : Addr} {xs : List V} (h : H a = some (.tup xs)) (hl : xs.length ≠ 2) : EG H (.ref a) := ⟨_, .odd h hl⟩
theorem EG.ty {H : Hp} {x : V} {n : String} (h : TyN H x n) (hn : n ≠ "tuple") : EG H x := ⟨_, .no h hn⟩
theorem RG.ent {H : Hp} {x : V} (h : RG H x) : EG H x := by
  obtain ⟨o, h, _⟩ := h
  cases h with
  | no h hn => exact ⟨_, .no h hn⟩
  | @yes a xs os h hx =>
    by_cases c : xs.length = 2
    · match xs, os, hx with
      | [x, y], [_, _], .cons h1 (.cons h2 .nil) =>
        obtain ⟨n, hn⟩ := h1.ty
        obtain ⟨m, hm⟩ := h2.ty
        exact ⟨_, .yes h hn hm⟩
      | [], _, _ => cases c
      | [_], _, _ => cases c
      | _ :: _ :: _ :: _, _, _ => simp at c
    · exact ⟨_, .odd h c⟩
theorem RG.tup {H : Hp} {a : Addr} {xs : List V} (h : H a = some (.tup xs)) (hl : xs.length ≤ 1000) (hx : ∀ x ∈ xs, EG H x) : RG H (.ref a) := by
  have : ∃ os, Paired (EntT H) xs os := by
    clear h hl
    induction xs with
    | nil => exact ⟨[], .nil⟩
    | cons x xs ih =>
      obtain ⟨os, h2⟩ := ih fun y hy => hx y (List.mem_cons_of_mem _ hy)
      obtain ⟨o, h1⟩ := hx x List.mem_cons_self
      exact ⟨o :: os, .cons h1 h2⟩
  obtain ⟨os, hp⟩ := this
  refine ⟨some os, .yes h hp, fun os' e => ?_⟩
  cases e
  rw [← Paired.length hp]
  exact hl
theorem RG.ty {H : Hp} {x : V} {n : String} (h : TyN H x n) (hn : n ≠ "tuple") : RG H x := ⟨none, .no h hn, fun _ e => nomatch e⟩
structure ThR (H : Hp) (xs : List V) : Prop where
  all : ∀ x ∈ xs, RG H x
theorem ThR.nil {H : Hp} : ThR H [] := ⟨fun _ z => nomatch z⟩
theorem ThR.cons {H : Hp} {x : V} {xs : List V} (h : RG H x) (t : ThR H xs) : ThR H (x :: xs) := ⟨fun y hy => by
  rcases List.mem_cons.mp hy with rfl | hy
  · exact h
  · exact t.all y hy⟩
theorem ThR.app {H : Hp} {xs ys : List V} (a : ThR H xs) (b : ThR H ys) : ThR H (xs ++ ys) := ⟨fun x hx => (List.mem_append.mp hx).elim (a.all x) (b.all x)⟩
theorem ThR.ke {H H' : Hp} {xs : List V} (h : ThR H xs) (k : Ke H H') : ThR H' xs := ⟨fun x hx => (h.all x hx).ke k⟩
theorem ThR.new {H : Hp} {p : Addr} {o : HO} {xs : List V} (h : ThR H xs) (k : H p = none) : ThR (upd H p o) xs := h.ke (Ke.new k)
theorem ThR.put {H : Hp} {p : Addr} {ys zs : List V} {xs : List V} (h : ThR H xs) (k : H p = some (.lst zs)) : ThR (upd H p (.lst ys)) xs := ⟨fun x hx => (h.all x hx).put k⟩
theorem ThR.dk {H H' : Hp} {p : Addr} {xs : List V} (h : ThR H xs) (k : Dk p H H') (d : Deck H p) : ThR H' xs := ⟨fun x hx => (h.all x hx).dk k d⟩
theorem ThR.tup {H : Hp} {a : Addr} {xs : List V} (h : ThR H xs) (ha : H a = some (.tup xs)) (hl : xs.length ≤ 1000 := by simp) : RG H (.ref a) := RG.tup ha hl fun x hx => (h.all x hx).ent
theorem tr_non {H : Hp} : RG H .non := RG.ty .non (by decide)
theorem tr_bl {H : Hp} (b : Bool) : RG H (.bl b) := RG.ty (.bl b) (by decide)
theorem tr_int {H : Hp} (i : Int) : RG H (.int i) := RG.ty (.int i) (by decide)
theorem tr_str {H : Hp} (z : Str) : RG H (.str z) := RG.ty (.str z) (by decide)
theorem tr_lst {H : Hp} {a : Addr} {xs : List V} (h : H a = some (.lst xs)) : RG H (.ref a) := RG.ty (.lst h) (by decide)
theorem tr_dic {H : Hp} {a : Addr} {xs : List (Key × V)} (h : H a = some (.dK xs)) : RG H (.ref a) := RG.ty (.dic h) (by decide)
theorem Ties.eg {H : Hp} {rs : List V} {es : List (Int × Int)} (h : Ties H rs es) : ∀ x ∈ rs, EG H x := fun x hx => by
  obtain ⟨i, hi⟩ := List.getElem?_of_mem hx
  obtain ⟨e, q, _, rfl, hq⟩ := h.get hi
  exact EG.pair hq (.int _) (.int _)
/-- a list of things that can be asked as entries -/
def LE (m : Nat) (H : Hp) (x : V) : Prop := ∃ a ws, x = .ref a ∧ H a = some (.lst ws) ∧ ws.length ≤ m ∧ ∀ y ∈ ws, EG H y
theorem LE.ke {m : Nat} {H H' : Hp} {x : V} (h : LE m H x) (k : Ke H H') : LE m H' x := by
  obtain ⟨a, ws, e, h1, h2, h3⟩ := h
  exact ⟨a, ws, e, k.lst h1, h2, fun y hy => (h3 y hy).ke k⟩
theorem LE.off {m : Nat} {H : Hp} {p : Addr} {ys zs : List V} {x : V} (h : LE m H x) (hp : x ≠ .ref p) (k : H p = some (.lst zs)) : LE m (upd H p (.lst ys)) x := by
  obtain ⟨a, ws, e, h1, h2, h3⟩ := h
  exact ⟨a, ws, e, by rw [upd_ne fun z => hp (by rw [e, z])]; exact h1, h2, fun y hy => (h3 y hy).put k⟩
theorem LE.ne {m : Nat} {H : Hp} {p : Addr} {x : V} (h : LE m H x) (k : H p = none) : x ≠ .ref p := fun z => by
  obtain ⟨a, ws, e, h1, _⟩ := h
  rw [z] at e
  cases e
  rw [k] at h1
  cases h1
end FF
namespace FF
open PySem PySem.Spec PyProof.Rows L2
/-! ### levels, and all pushers with their rings -/
open Classical in
noncomputable def lowB (ts : List (Int × Int)) (ws : List V) (e : Int × Int) (m : Int) (ls : List Int) : Bool := if joinB ts ws e = true then decide (∀ x, OnRing ts ws e x → hat ls x ≤ hat ls e.1 + 1) else decide (hat ls e.1 ≥ m - 1)
/-- what is pushed out of forest f is low enough -/
def LowF (ts : List (Int × Int)) (ws : List V) (tie : Nat) (m : Int) (ls : List Int) (f : Int) : Prop := ∀ i : Nat, i < ts.length → (i = tie ∨ ws[i]? ≠ some .non) → ws[i]? ≠ some (.int f) → lowB ts ws ((i : Int), f) m ls = true
def LevP (ts : List (Int × Int)) (k : Int) (ws : List V) (tie : Nat) (m : Int) (ls : List Int) : Prop := hat ls (tie : Int) = 0 ∧ ∀ f, 0 ≤ f → f < k → LowF ts ws tie m ls f
open Classical in
noncomputable def levP (ts : List (Int × Int)) (k : Int) (ws : List V) (tie : Nat) (m : Int) (ls : List Int) : Bool := decide (LevP ts k ws tie m ls)
noncomputable def levO (ts : List (Int × Int)) (k : Int) (ws : List V) (tie : Nat) (m : Int) : Option (List V) → Bool
  | none => false
  | some xs => (decide (xs.length = ts.length) && xs.all fun x => isNum x 0 121) && levP ts k ws tie m (intsOf xs)
theorem levO_len {ts : List (Int × Int)} {k : Int} {ws : List V} {tie : Nat} {m : Int} {xs : List V} (h : xs.length ≠ ts.length) : levO ts k ws tie m (some xs) = false := by
  show ((decide (xs.length = ts.length) && _) && _) = false
  rw [decide_eq_false h]
  rfl
theorem levO_bad {ts : List (Int × Int)} {k : Int} {ws : List V} {tie : Nat} {m : Int} {xs : List V} {x : V} (hx : x ∈ xs) (h : isNum x 0 121 = false) : levO ts k ws tie m (some xs) = false := by
  show ((_ && xs.all fun x => isNum x 0 121) && _) = false
  rw [List.all_eq_false.mpr ⟨x, hx, by rw [h]; decide⟩, Bool.and_false, Bool.false_and]
theorem nums_ints : ∀ {xs : List V}, (∀ x ∈ xs, isNum x 0 121 = true) → xs = (intsOf xs).map V.int
  | [], _ => rfl
  | x :: xs, h => by
    have h0 := h x List.mem_cons_self
    obtain ⟨i, rfl⟩ : ∃ i, x = .int i := by
      cases x with
      | int i => exact ⟨i, rfl⟩
      | _ => cases h0
    have := nums_ints fun y hy => h y (List.mem_cons_of_mem _ hy)
    show V.int i :: xs = V.int i :: (intsOf xs).map V.int
    rw [← this]
theorem levO_off {ts : List (Int × Int)} {k : Int} {ws : List V} {tie : Nat} {m : Int} {xs : List V} (h : ¬ LevP ts k ws tie m (intsOf xs)) : levO ts k ws tie m (some xs) = false := by
  show (_ && levP _ _ _ _ _ _) = false
  rw [show levP ts k ws tie m (intsOf xs) = false from by unfold levP; exact @decide_eq_false _ (Classical.propDecidable _) h, Bool.and_false]
theorem levO_on {ts : List (Int × Int)} {k : Int} {ws : List V} {tie : Nat} {m : Int} {xs : List V} (hl : xs.length = ts.length) (ha : ∀ x ∈ xs, isNum x 0 121 = true) (h : LevP ts k ws tie m (intsOf xs)) : levO ts k ws tie m (some xs) = true := by
  show ((decide _ && _) && levP _ _ _ _ _ _) = true
  rw [show levP ts k ws tie m (intsOf xs) = true from by unfold levP; exact @decide_eq_true _ (Classical.propDecidable _) h, decide_eq_true hl, List.all_eq_true.mpr ha]
  rfl
/-- a pusher with the ring of a forest -/
def PshV (ts : List (Int × Int)) (ws : List V) (k : Int) (tie : Nat) (H : Hp) (x : V) : Prop := ∃ (q : Addr) (i : Nat) (f : Int) (rv : V), x = .ref q ∧ H q = some (.tup [.int (i : Int), rv]) ∧ i < ts.length ∧ (i = tie ∨ ws[i]? ≠ some .non) ∧ 0 ≤ f ∧ f < k ∧ ws[i]? ≠ some (.int f) ∧ RingV ts ws H rv ((i : Int), f)
theorem PshV.ke {ts : List (Int × Int)} {ws : List V} {k : Int} {tie : Nat} {H H' : Hp} {x : V} (h : PshV ts ws k tie H x) (kk : ∀ q xs, H q = some (.tup xs) → H' q = some (.tup xs)) : PshV ts ws k tie H' x := by
  obtain ⟨q, i, f, rv, e1, e2, r1, r2, r3, r4, r5, r6⟩ := h
  exact ⟨q, i, f, rv, e1, kk _ _ e2, r1, r2, r3, r4, r5, r6.ke kk⟩
/-- the pusher i in forest f is among them -/
def HasP (ts : List (Int × Int)) (ws : List V) (H : Hp) (xs : List V) (i : Nat) (f : Int) : Prop := ∃ x ∈ xs, ∃ (q : Addr) (rv : V), x = .ref q ∧ H q = some (.tup [.int (i : Int), rv]) ∧ RingV ts ws H rv ((i : Int), f)
theorem HasP.ke {ts : List (Int × Int)} {ws : List V} {H H' : Hp} {xs : List V} {i : Nat} {f : Int} (h : HasP ts ws H xs i f) (kk : ∀ q xs, H q = some (.tup xs) → H' q = some (.tup xs)) : HasP ts ws H' xs i f := by
  obtain ⟨x, hx, q, rv, e1, e2, r⟩ := h
  exact ⟨x, hx, q, rv, e1, kk _ _ e2, r.ke kk⟩
theorem HasP.left {ts : List (Int × Int)} {ws : List V} {H : Hp} {xs ys : List V} {i : Nat} {f : Int} (h : HasP ts ws H xs i f) : HasP ts ws H (xs ++ ys) i f := by
  obtain ⟨x, hx, r⟩ := h
  exact ⟨x, List.mem_append_left _ hx, r⟩
theorem HasP.right {ts : List (Int × Int)} {ws : List V} {H : Hp} {xs ys : List V} {i : Nat} {f : Int} (h : HasP ts ws H ys i f) : HasP ts ws H (xs ++ ys) i f := by
  obtain ⟨x, hx, r⟩ := h
  exact ⟨x, List.mem_append_right _ hx, r⟩
/-- all pushers with the rings of all forests but their own -/
structure AllPu (ts : List (Int × Int)) (ws : List V) (k : Int) (tie : Nat) (H : Hp) (xs : List V) : Prop where
  each : ∀ x ∈ xs, PshV ts ws k tie H x
  all : ∀ i : Nat, i < ts.length → (i = tie ∨ ws[i]? ≠ some .non) → ∀ f, 0 ≤ f → f < k → ws[i]? ≠ some (.int f) → HasP ts ws H xs i f
theorem AllPu.ke {ts : List (Int × Int)} {ws : List V} {k : Int} {tie : Nat} {H H' : Hp} {xs : List V} (h : AllPu ts ws k tie H xs) (kk : ∀ q xs, H q = some (.tup xs) → H' q = some (.tup xs)) : AllPu ts ws k tie H' xs := ⟨fun x hx => (h.each x hx).ke kk, fun i a b f c d e => (h.all i a b f c d e).ke kk⟩
theorem low_none {ts : List (Int × Int)} {ws : List V} {H : Hp} {e : Int × Int} {m : Int} {ls : List Int} (h : RingV ts ws H .non e) : lowB ts ws e m ls = decide (m - 1 ≤ hat ls e.1) := by
  rcases h with ⟨_, hj⟩ | ⟨c, ns, e1, _⟩
  · unfold lowB
    rw [if_neg (by rw [hj]; decide)]
  · cases e1
theorem low_ring {ts : List (Int × Int)} {ws : List V} {H : Hp} {e : Int × Int} {m : Int} {ls ns : List Int} {c : Addr} (h : RingV ts ws H (.ref c) e) (hc : H c = some (.tup (ns.map V.int))) : lowB ts ws e m ls = true ↔ ∀ x ∈ ns, hat ls x ≤ hat ls e.1 + 1 := by
  rcases h with ⟨z, _⟩ | ⟨c', ns', e1, e2, hj, _, hm⟩
  · cases z
  · cases e1
    rw [hc] at e2
    have e3 : ns.map V.int = ns'.map V.int := by injection e2 with e2; injection e2
    have e4 : ns = ns' := by have := congrArg intsOf e3; rwa [intsOf_map, intsOf_map] at this
    subst e4
    unfold lowB
    rw [if_pos hj]
    constructor
    · intro z x hx
      exact (@of_decide_eq_true _ (Classical.propDecidable _) z) x ((hm x).mp hx)
    · intro z
      exact @decide_eq_true _ (Classical.propDecidable _) fun x hx => z x ((hm x).mpr hx)
theorem shareV {C : Prop} {R : Hp → V → Prop} (P1 : Hp → V → Prop) (h1 : ∀ G a, R G a → P1 G a) (main : (∀ G a, R G a → P1 G a) → C) : C := main h1
end FF
namespace FF
open PySem PySem.Spec PyProof.Rows L2
/-! ### slices of tuples that are known to the object -/
section
variable {X : Cx} {K : PySem.W.Frag}
def rSlF (_ : PySem.W.Frag) : V → Option Int → Option Int → Hp → VK → Prop := fun x lo hi H Q => ∃ a xs, x = .ref a ∧ TF H a xs ∧ ∀ p H', Ke H H' → TF H' p (cutV xs lo hi) → Q (.ref p) H'
theorem cut_whole {xs : List V} {lo hi : Option Int} (h : HT.sIx xs.length 0 lo = 0 ∧ HT.sIx xs.length xs.length hi = xs.length) : cutV xs lo hi = xs := by
  unfold cutV
  rw [h.1, h.2, List.drop_zero, Nat.sub_zero, List.take_length]
theorem sl_tupF (h : X.K = K := by rfl) : L2.SlR X (rSlF K) := by
  subst h
  intro pins s σ H x v vl vu lo hi sl Q I rx hs pl pu hq
  obtain ⟨a, xs, rfl, hx, q⟩ := hq
  by_cases hw : HT.sIx xs.length 0 lo = 0 ∧ HT.sIx xs.length xs.length hi = xs.length
  · exact sl_tupA pins s σ H _ v vl vu lo hi sl Q I rx hs pl pu ⟨a, xs, rfl, hx.sq, fun _ => q a H .refl (by rw [cut_whole hw]; exact hx), fun z => absurd hw z⟩
  · cases rx
    obtain ⟨its, r', tt, hz⟩ := I.tuple (hx.sq (K := X.K))
    have hsz := r'.length
    have esz : its.toArray.size = xs.length := by rw [List.size_toArray]; omega
    have vc := (r'.drop (HT.sIx xs.length 0 lo)).take (HT.sIx xs.length xs.length hi - HT.sIx xs.length 0 lo)
    have np : H s.heap.objs.size = none := I.hok.fresh (Nat.le_refl _)
    have lc := Nat.le_trans (cutV_length xs lo hi) (by omega : xs.length ≤ sizeLine)
    refine ⟨"tuple", _, PyProof.Rows.slot_tuple_getitem.lookup, tt.typeIs, HT.getItem_tuple_cut tt hs pl pu (by rw [esz]; exact hw) ?_ (by omega)⟩
    refine ⟨.ref s.heap.objs.size, upd H s.heap.objs.size (.frz { cls := .type "tuple", data := .seq (((its.drop (HT.sIx xs.length 0 lo)).take (HT.sIx xs.length xs.length hi - HT.sIx xs.length 0 lo))).toArray } (.tup (cutV xs lo hi))), ?_, rfl, q _ _ (Ke.new np) ⟨_, upd_same, rfl⟩⟩
    rw [esz]
    refine I.laid (t' := s.toks) (fun b ob e => Heap.get?_push_of_some _ e) (Nat.le_refl _) ?_
    exact ⟨Heap.get?_push_size _ rfl, lc, _, vc, IsTup.new _ _⟩
end
/-! ### layers of ways: how many earlier ties go the same way -/
def lysL (ws : List Int) : List Int := (List.range ws.length).map fun i => ((ws.take i).count (ws.getD i 0) : Int)
theorem lysL_length (ws : List Int) : (lysL ws).length = ws.length := by unfold lysL; rw [List.length_map, List.length_range]
theorem lysL_get {ws : List Int} {i : Nat} {w : Int} (h : ws[i]? = some w) : (lysL ws)[i]? = some ((ws.take i).count w : Int) := by
  have hi := (List.getElem?_eq_some_iff.mp h).1
  unfold lysL
  rw [List.getElem?_map, List.getElem?_range hi, Option.map_some, List.getD_eq_getElem?_getD, h]
  rfl
theorem lysL_snoc (ws : List Int) (w : Int) : lysL (ws ++ [w]) = lysL ws ++ [(ws.count w : Int)] := by
  refine List.ext_getElem? fun i => ?_
  by_cases c : i < ws.length
  · rw [List.getElem?_append_left (by rw [lysL_length]; exact c)]
    have e := List.getElem?_eq_getElem c
    rw [lysL_get e, lysL_get (by rw [List.getElem?_append_left c]; exact e), List.take_append_of_le_length (by omega)]
  · by_cases c2 : i = ws.length
    · subst c2
      rw [lysL_get (w := w) (by rw [List.getElem?_append_right (Nat.le_refl _), Nat.sub_self]; rfl), List.take_append_of_le_length (Nat.le_refl _), List.take_length, List.getElem?_append_right (by rw [lysL_length]; exact Nat.le_refl _), lysL_length, Nat.sub_self]
      rfl
    · rw [List.getElem?_eq_none (by rw [lysL_length, List.length_append]; show ws.length + 1 ≤ i; omega), List.getElem?_eq_none (by rw [List.length_append, lysL_length]; show ws.length + 1 ≤ i; omega)]
theorem count_take_lt {ws : List Int} {i : Nat} {w : Int} (h : ws[i]? = some w) : (ws.take i).count w < ws.count w := by
  have e : ws = ws.take i ++ w :: ws.drop (i + 1) := by
    have hi := (List.getElem?_eq_some_iff.mp h).1
    have := List.take_append_drop i ws
    rw [List.drop_eq_getElem_cons hi] at this
    rw [List.getElem?_eq_getElem hi] at h
    rw [← Option.some.inj h]
    exact this.symm
  have : ws.count w = (ws.take i).count w + (w :: ws.drop (i + 1)).count w := by rw [← List.count_append, ← e]
  rw [this, List.count_cons_self]
  omega
theorem count_take_mono {ws : List Int} {i j : Nat} {w : Int} (h : ws[i]? = some w) (hij : i < j) : (ws.take i).count w < (ws.take j).count w := by
  have h2 : (ws.take j)[i]? = some w := by rw [List.getElem?_take, if_pos hij]; exact h
  have := count_take_lt h2
  rw [List.take_take, Nat.min_eq_left (by omega)] at this
  exact this
end FF
namespace FF
open PySem PySem.Spec PyProof.Rows L2
/-! ### each piece of a layer of ways has no more ties than points -/
theorem piece_tie {n : Int} {L : List (Int × Int)} {p : List Int} (ok : TOk n L) (hp : p ∈ piecesF (foldR (fun x => x) L) n) {t : Int × Int} (ht : t ∈ L) : t.1 ∈ p ↔ t.2 ∈ p := by
  obtain ⟨z, _, rfl⟩ := List.mem_map.mp hp
  have e : foldR (fun x => x) L t.1 = foldR (fun x => x) L t.2 := foldR_tie ht
  obtain ⟨h1, h2, h3⟩ := ok t ht
  unfold piece
  rw [List.mem_filter, List.mem_filter, upTo_mem, upTo_mem, e]
  constructor
  · rintro ⟨_, a⟩
    exact ⟨⟨by omega, h3⟩, a⟩
  · rintro ⟨_, a⟩
    exact ⟨⟨h1, by omega⟩, a⟩
/-- ties that begin in a lot -/
def beginIn (p : List Int) (L : List (Int × Int)) : Nat := (L.filter fun t => decide (t.1 ∈ p)).length
theorem begin_inside {n : Int} {L : List (Int × Int)} {p : List Int} (ok : TOk n L) (hp : p ∈ piecesF (foldR (fun x => x) L) n) : beginIn p L = inside p L := by
  unfold beginIn inside
  congr 1
  refine List.filter_congr fun t ht => ?_
  have := piece_tie ok hp ht
  by_cases c : t.1 ∈ p
  · rw [decide_eq_true c, decide_eq_true (this.mp c)]
    rfl
  · rw [decide_eq_false c]
    rfl
theorem nums_lys {ws : List Int} {f m : Int} (h : m ∈ numsFrom f 0 ((lysL ws).map V.int)) : ∃ (i : Nat) (w : Int), m = i ∧ ws[i]? = some w ∧ ((ws.take i).count w : Int) = f := by
  obtain ⟨m0, hm⟩ := nums_iff.mp h
  obtain ⟨i, rfl⟩ : ∃ i : Nat, m = i := ⟨m.toNat, by omega⟩
  rw [Int.toNat_natCast, List.getElem?_map] at hm
  cases e : (lysL ws)[i]? with
  | none => rw [e] at hm; cases hm
  | some y =>
    have hi : i < ws.length := by
      have := (List.getElem?_eq_some_iff.mp e).1
      rw [lysL_length] at this
      exact this
    have hw := List.getElem?_eq_getElem hi
    rw [lysL_get hw] at hm
    refine ⟨i, ws[i], rfl, hw, ?_⟩
    rw [Option.map_some] at hm
    injection hm with hm
    injection hm
theorem lys_thin {n : Int} {ts : List (Int × Int)} {ws : List Int} (hW : WOk ts ws) (f : Int) {p : List Int} : inside p (layerOf ts ((lysL ws).map V.int) f) ≤ p.length := by
  have hl : ((lysL ws).map V.int).length = ts.length := by rw [List.length_map, lysL_length]; exact hW.1
  have epk : pick ts (numsFrom f 0 ((lysL ws).map V.int)) = layerOf ts ((lysL ws).map V.int) f := pick_nums f [] ts _ hl.symm
  rw [← epk]
  let N := (numsFrom f 0 ((lysL ws).map V.int)).filter fun m => decide ((ts.getD m.toNat (0, 0)).1 ∈ p) && decide ((ts.getD m.toNat (0, 0)).2 ∈ p)
  have e1 : inside p (pick ts (numsFrom f 0 ((lysL ws).map V.int))) = N.length := by
    unfold inside pick
    rw [List.filter_map, List.length_map]
    rfl
  rw [e1]
  have hN : ∀ m ∈ N, m ∈ numsFrom f 0 ((lysL ws).map V.int) := fun m hm => (List.mem_filter.mp hm).1
  have nd : N.Nodup := (nums_nd f 0 _).filter _
  have h2 : (N.map fun m => ws.getD m.toNat 0).Nodup := by
    show List.Pairwise _ _
    rw [List.pairwise_map]
    refine List.Pairwise.imp_of_mem (fun {a b} ha hb hab e => ?_) nd
    obtain ⟨i, w, rfl, hi, ci⟩ := nums_lys (hN a ha)
    obtain ⟨j, v, rfl, hj, cj⟩ := nums_lys (hN b hb)
    rw [Int.toNat_natCast, Int.toNat_natCast, List.getD_eq_getElem?_getD, List.getD_eq_getElem?_getD, hi, hj] at e
    have e : w = v := e
    subst e
    rcases Nat.lt_trichotomy i j with c | c | c
    · have := count_take_mono hi c
      omega
    · exact hab (by rw [c])
    · have := count_take_mono hj c
      omega
  have h3 := nd_le h2 (m := p) fun x hx => by
    obtain ⟨m, hm, rfl⟩ := List.mem_map.mp hx
    obtain ⟨i, w, rfl, hi, _⟩ := nums_lys (hN m hm)
    have hb := (List.mem_filter.mp hm).2
    rw [Int.toNat_natCast] at hb ⊢
    rw [List.getD_eq_getElem?_getD, hi]
    have il : i < ts.length := by rw [← hW.1]; exact (List.getElem?_eq_some_iff.mp hi).1
    have ht := List.getElem?_eq_getElem il
    rw [List.getD_eq_getElem?_getD, ht] at hb
    simp only [Option.getD_some, Bool.and_eq_true, decide_eq_true_eq] at hb
    show w ∈ p
    rcases hW.2 i _ w ht hi with e | e <;> rw [e]
    · exact hb.1
    · exact hb.2
  rw [List.length_map] at h3
  exact h3
/-- the greatest number of outs is the number of layers -/
theorem lys_lt {n : Int} {ws : List Int} {M : Int} (hbd : ∀ w ∈ ws, 0 ≤ w ∧ w < n) (hx : ∀ y ∈ outsL n ws, y ≤ M) : ∀ x ∈ lysL ws, 0 ≤ x ∧ x < M := fun x hxm => by
  obtain ⟨i, hi⟩ := List.getElem?_of_mem hxm
  have hil : i < ws.length := by
    have := (List.getElem?_eq_some_iff.mp hi).1
    rw [lysL_length] at this
    exact this
  have hw := List.getElem?_eq_getElem hil
  rw [lysL_get hw] at hi
  have e := Option.some.inj hi
  have h1 := count_take_lt hw
  obtain ⟨w0, w1⟩ := hbd _ (List.mem_of_getElem? hw)
  have h2 := outsL_hat (ws := ws) w0 w1
  have h3 := hx _ (hat_mem (hs := outsL n ws) w0 (by rw [outsL_length]; omega))
  omega
theorem count_last {w : Int} : ∀ {ws : List Int}, 0 < ws.count w → ∃ i : Nat, ws[i]? = some w ∧ (ws.take i).count w + 1 = ws.count w := by
  intro ws
  induction h : ws.length generalizing ws with
  | zero =>
    intro hc
    rw [List.length_eq_zero_iff.mp h] at hc
    simp at hc
  | succ m ih =>
    intro hc
    obtain ⟨us, v, rfl⟩ : ∃ us v, ws = us ++ [v] := ⟨ws.dropLast, ws.getLast (fun z => by rw [z] at h; cases h), (List.dropLast_concat_getLast _).symm⟩
    have hul : us.length = m := by rw [List.length_append] at h; exact Nat.succ.inj h
    by_cases e : v = w
    · subst e
      refine ⟨us.length, by rw [List.getElem?_append_right (Nat.le_refl _), Nat.sub_self]; rfl, ?_⟩
      rw [List.take_append_of_le_length (Nat.le_refl _), List.take_length, List.count_append]
      simp
    · have ec : (us ++ [v]).count w = us.count w := by
        rw [List.count_append, List.count_cons_of_ne e]
        rfl
      rw [ec] at hc ⊢
      obtain ⟨i, h1, h2⟩ := ih hul hc
      have hi := (List.getElem?_eq_some_iff.mp h1).1
      exact ⟨i, by rw [List.getElem?_append_left hi]; exact h1, by rw [List.take_append_of_le_length (by omega)]; exact h2⟩
theorem lys_top {n : Int} {ws : List Int} {M : Int} (hM : M ∈ outsL n ws) (h0 : 0 < M) : M - 1 ∈ lysL ws := by
  obtain ⟨p, hp, rfl⟩ := List.mem_map.mp hM
  obtain ⟨i, h1, h2⟩ := count_last (w := p) (ws := ws) (by omega)
  have := List.mem_of_getElem? (lysL_get h1)
  have e : ((ws.take i).count p : Int) = (ws.count p : Int) - 1 := by omega
  rw [e] at this
  exact this
end FF
namespace FF
open PySem PySem.Spec PyProof.Rows L2
/-! ### {e for x in xs for y in ys}: a set of ints of two walks, no test -/
section
open PySem.Spec
abbrev two (elt t0 i0 t1 i1 : Expr) (scope : Scope) (pos : Pos) : Expr := .SetComp elt [⟨t0, i0, [], 0⟩, ⟨t1, i1, [], 0⟩] scope pos
theorem two_turn0 (elt t0 i0 t1 i1 : Expr) (scope : Scope) (pos : Pos) (it acc : Value) (env : Env) : compTurn (two elt t0 i0 t1 i1 scope pos) 0 it acc env = (standAt i0.pos >>= fun _ => pyNext it >>= fun r =>
    match r with
    | none => pure (.done .next)
    | some v => letOwnedTupleGo t0 it v >>= fun _ => assign t0 env v >>= fun _ => eval i1 env >>= fun x => standAt i1.pos >>= fun _ => foldedSetIterable i1 env x >>= fun x => holding [x] (pyIter x) >>= fun j =>
        runOwn (.compStart (two elt t0 i0 t1 i1 scope pos) 1 j acc env) env >>= fun _ => again (.compLoop (two elt t0 i0 t1 i1 scope pos) 0 it acc env)) := by rfl
theorem two_turn1 (elt t0 i0 t1 i1 : Expr) (scope : Scope) (pos : Pos) (it acc : Value) (env : Env) : compTurn (two elt t0 i0 t1 i1 scope pos) 1 it acc env = (standAt i1.pos >>= fun _ => pyNext it >>= fun r =>
    match r with
    | none => pure (.done .next)
    | some v => letOwnedTupleGo t1 it v >>= fun _ => assign t1 env v >>= fun _ => (eval elt env >>= fun y => standAt elt.pos >>= fun _ => call (.builtin "set.add") [acc, y] >>= fun _ => pure PUnit.unit) >>= fun _ =>
        again (.compLoop (two elt t0 i0 t1 i1 scope pos) 1 it acc env)) := by rfl
/-- one clause's loop: a walk, a store, and what follows in the same turn -/
theorem clause {Y : Cx} (cm : Y.calm = true) {c : Code} (qc : c.quiet = true) (hu : Y.A.under c = Y.A) {tg : Expr} {J : It} {fp : List Addr} {it : Addr} {tn : Nat → Heap → Prop} (wk : Turn Y.prog Y.w Y.K tg J fp it tn) {g : TG} (pg : PG Y tg g) {at_ : Pos} {body : Sem Fin} {R : Result → Shared → Prop} {pins : List (Addr × Obj)} {σ0 : L2.St}
    (stat : ∀ H', (∀ b ∈ fp, H' b = none) → ∀ b ∈ fp, FpOk Y pins H' b)
    (den : (model Y.prog Y.w).den c = (standAt at_ >>= fun _ => pyNext (.ref it) >>= fun r => match r with
      | none => pure (.done .next)
      | some v => letOwnedTupleGo tg (.ref it) v >>= fun _ => assign tg Y.env v >>= fun _ => body).onRaise (fun x => do noteFrame x Y.env; theTreesLotGoes x))
    (W : Nat → Nat → Hp → Prop)
    (turn : ∀ i m H, W i m H → (J.stop i H ∧ ∀ s, Inv Y pins σ0 H s → R (.ok .next) s) ∨ (J.go i H ∧ ∃ P : L2.St → Hp → Prop, (∀ x H', J.yld i H x H' → g x σ0 H' P) ∧ ∀ σ2 H2, P σ2 H2 → ∀ pins' s, Inv Y pins' σ2 H2 s →
      wpAny (model Y.prog Y.w) Y.A body (fun fin s' => fin = .again c ∧ ∃ H3 σ3 m', Inv Y pins' σ3 H3 s' ∧ σ0.length = σ3.length ∧ (∀ (j : Nat) v, σ0[j]? = some (some v) → σ3[j]? = some (some v)) ∧ m' < m ∧ W (i + 1) m' H3) (fun _ _ => False) s))
    (hx : ∀ v s, ¬ Y.xe v s) {m0 : Nat} {H0 : Hp} {s0 : Shared} (I0 : Inv Y pins σ0 H0 s0) (t0 : tn 0 s0.heap) (n0 : ∀ b ∈ fp, H0 b = none) (w0 : W 0 m0 H0) : codeAny (model Y.prog Y.w) Y.A c R s0 := by
  refine codeAny_loop qc (fun m s => ∃ i H, Inv Y pins σ0 H s ∧ tn i s.heap ∧ (∀ b ∈ fp, H b = none) ∧ W i m H) (fun m s hI => ?_) m0 ⟨0, H0, I0, t0, n0, w0⟩
  obtain ⟨i, H, I, tt, nn, ww⟩ := hI
  rw [hu, den]
  refine wpAny_noted (wpAny_mono (Q := fun fin s' => match fin with | .done f => R (.ok f) s' | .again c' => c' = c ∧ ∃ m', m' < m ∧ ∃ i H, Inv Y pins σ0 H s' ∧ tn i s'.heap ∧ (∀ b ∈ fp, H b = none) ∧ W i m' H) (E := fun _ _ => False) ?_ (fun _ _ z => z) fun _ _ z => z.elim)
  refine wpAny_bind (wpAny_standAt (wpAny_bind ?_))
  rcases turn i m H ww with ⟨st, fin⟩ | ⟨go, P, step, rest⟩
  · refine thn (wk.done Y rfl rfl rfl cm i pins s σ0 H (fun _ _ => False) I (stat H nn) tt st) fun r s1 hr => ?_
    rw [hr.1]
    exact wpAny_pure (fin s1 hr.2)
  · refine thn (wk.item Y rfl rfl rfl cm i pins s σ0 H (fun _ _ => False) I (stat H nn) tt go) fun r s1 hr => ?_
    obtain ⟨u, rfl, h1⟩ := hr
    refine wpAny_bind (thn h1 fun _ s2 h2 => ?_)
    obtain ⟨x, H2, I2, rx, yy, t2, n2⟩ := h2
    have ob := wk.obj (i + 1) s2.heap t2
    have P2 := I2.pinned (stat H2 n2) ob
    refine wpAny_bind (wpAny_mono (pg.run _ s2 σ0 H2 x u _ P2 rx (step x H2 yy)) (fun _ s3 h3 => ?_) fun v s z => (hx v s z).elim)
    obtain ⟨σ3, H3, I3, q3⟩ := h3
    refine thn (rest σ3 H3 q3 _ s3 I3) fun fin s4 h4 => ?_
    obtain ⟨rfl, H4, σ4, m', I4, hl, hk, hm, w4⟩ := h4
    have pin : ∀ b ∈ fp, ∀ o, s2.heap.get? b = some o → s4.heap.get? b = some o ∧ H4 b = none := fun b hb o e =>
      have z := I4.pin (b, o) (List.mem_append_right _ (List.mem_append_right _ (mem_pinsAt hb e)))
      ⟨z.1, z.2.1⟩
    refine ⟨rfl, m', hm, i + 1, H4, I4.unpinned.weak hl hk, wk.keep _ _ _ t2 fun b hb o e => (pin b hb o e).1, fun b hb => ?_, w4⟩
    obtain ⟨o, e, _⟩ := ob b hb
    exact (pin b hb o e).2
end
section
open PySem.Spec
variable {prog : Program} {w : World} {A : Around} {R : Result → Shared → Prop} {s : Shared}
theorem start_at {elt : Expr} {gs : List Comprehension} {scope : Scope} {pos : Pos} {e : Expr} (he : e = .SetComp elt gs scope pos) {d : Nat} {cl : Comprehension} {it : Addr} {acc : Value} {env : Env} (hu : A.under (.compStart e d (.ref it) acc env) = A) (hq : (Code.compLoop e d (.ref it) acc env).quiet = true) (hcl : (clausesOf e)[d]? = some cl) (ha : (cl.is_async != 0) = false)
    (self : ∀ (Q : Value → Shared → Prop) (E : Value → Shared → Prop), Q (.ref it) s → wpAny (model prog w) A (pyIter (.ref it)) Q E s) (h0 : codeAny (model prog w) A (.compLoop e d (.ref it) acc env) R s) : codeAny (model prog w) A (.compStart e d (.ref it) acc env) R s := by
  refine codeAny_of_tree ?_
  subst he
  rw [hu]
  show wpAny _ _ ((compStart (.SetComp elt gs scope pos) d (.ref it) acc env).onRaise (fun x => do noteFrame x env; standAt theWindowsPlace)) _ _ s
  refine wpAny_notedAt ?_
  unfold compStart
  have ha' : ((clausesOf (.SetComp elt gs scope pos))[d]?).elim false (fun x => x.is_async != 0) = false := by rw [hcl]; exact ha
  refine wpAny_ite ?_
  split
  · rename_i hz
    rw [ha'] at hz
    cases hz
  refine wpAny_bind (wpAny_askSetting (wpAny_ite ?_))
  split
  · exact wpAny_pure ⟨hq, h0⟩
  · refine wpAny_bind (wpAny_rule ?_)
    rw [hcl]
    exact wpAny_bind (wpAny_standAt (wpAny_bind (self _ _ (wpAny_pure ⟨hq, h0⟩))))
end
section
variable {X : Cx}
/-- the set D that grows by the ints of an inner walk in each turn of an outer one; W, W1: what stands between turns, with measures -/
def In2 (w : World) (g1 : TG) (te : TE) (vs1 : List Nat) (σ2 : L2.St) (D : Addr) (Nx : Hp → Prop) (J1 : It) (H3 : Hp) : Prop := ∃ W1 : Nat → Nat → Hp → Prop, (∃ m1, W1 0 m1 H3) ∧ ∀ j k H, W1 j k H →
    (J1.stop j H ∧ Nx H) ∨ (J1.go j H ∧ ∃ N1 : Hp → Prop, (∀ H', N1 H' → ∃ k', k' < k ∧ W1 (j + 1) k' H') ∧ ∀ y H', J1.yld j H y H' → g1 y (wipe σ2 vs1) H' fun σ3 H5 => wipe σ3 vs1 = wipe σ2 vs1 ∧ te σ3 H5 fun z H6 =>
      ∃ (a : Int) (S : Int → Bool) (c : Nat), z = .int a ∧ H6 D = some (SetO w D S c) ∧ c + 1 < scanBound ∧ N1 (upd H6 D (SetO w D (fun b => S b || decide (b = a)) (if S a = true then c else c + 1))))
def tSc2 (w : World) (wi : TI) (g : TG) (wi1 : TI) (g1 : TG) (te : TE) (vs vs1 : List Nat) : TE := fun σ H Q => wi σ H fun J H1 => ∀ D, H1 D = none → ∃ W : Nat → Nat → Hp → Prop, (∃ m, W 0 m (upd H1 D (SetO w D (fun _ => false) 0))) ∧ ∀ i m H, W i m H →
  (J.stop i H ∧ Q (.ref D) H) ∨ (J.go i H ∧ ∃ Nx : Hp → Prop, (∀ H', Nx H' → ∃ m', m' < m ∧ W (i + 1) m' H') ∧ ∀ x H', J.yld i H x H' → g x (wipe σ vs) H' fun σ2 H2 => wipe σ2 vs = wipe σ vs ∧ wi1 σ2 H2 (In2 w g1 te vs1 σ2 D Nx))
theorem out2_it {w : World} {J : It} {n : Nat} {Gd : Hp → Prop} {Y : Nat → Hp → V → Hp → Prop} (wk : Walk J n Gd Y) {g g1 : TG} {wi1 : TI} {te : TE} {vs vs1 : List Nat} {σ : L2.St} {H0 : Hp} {D : Addr} {Qd : Hp → Prop} (Pv : Nat → Hp → Prop) (h0 : Pv 0 H0) (hG : ∀ i H, i ≤ n → Pv i H → Gd H)
    (hs : ∀ i x H H', i < n → Pv i H → Y i H x H' → g x (wipe σ vs) H' fun σ2 H2 => wipe σ2 vs = wipe σ vs ∧ wi1 σ2 H2 (In2 w g1 te vs1 σ2 D (Pv (i + 1)))) (hd : ∀ H, Pv n H → Qd H) :
    ∃ W : Nat → Nat → Hp → Prop, (∃ m, W 0 m H0) ∧ ∀ i m H, W i m H → (J.stop i H ∧ Qd H) ∨ (J.go i H ∧ ∃ Nx : Hp → Prop, (∀ H', Nx H' → ∃ m', m' < m ∧ W (i + 1) m' H') ∧ ∀ x H', J.yld i H x H' → g x (wipe σ vs) H' fun σ2 H2 => wipe σ2 vs = wipe σ vs ∧ wi1 σ2 H2 (In2 w g1 te vs1 σ2 D Nx)) := by
  refine ⟨fun i m H => (i + m = n) ∧ Pv i H, ⟨n, by omega, h0⟩, fun i m H hW => ?_⟩
  obtain ⟨e, p⟩ := hW
  have gd := hG i H (by omega) p
  cases m with
  | zero =>
    have e' : i = n := by omega
    subst e'
    exact .inl ⟨wk.stops H gd, hd H p⟩
  | succ m => exact .inr ⟨wk.goes i H (by omega) gd, Pv (i + 1), fun H' p' => ⟨m, Nat.lt_succ_self m, by omega, p'⟩, fun x H' y => hs i x H H' (by omega) p (wk.yields i H x H' (by omega) gd y)⟩
theorem in2_it {w : World} {J1 : It} {n : Nat} {Gd : Hp → Prop} {Y : Nat → Hp → V → Hp → Prop} (wk : Walk J1 n Gd Y) {g1 : TG} {te : TE} {vs1 : List Nat} {σ2 : L2.St} {D : Addr} {Nx : Hp → Prop} {H3 : Hp} (Pv : Nat → Hp → Prop) (h0 : Pv 0 H3) (hG : ∀ i H, i ≤ n → Pv i H → Gd H)
    (hs : ∀ j y H H', j < n → Pv j H → Y j H y H' → g1 y (wipe σ2 vs1) H' fun σ3 H5 => wipe σ3 vs1 = wipe σ2 vs1 ∧ te σ3 H5 fun z H6 => ∃ (a : Int) (S : Int → Bool) (c : Nat), z = .int a ∧ H6 D = some (SetO w D S c) ∧ c + 1 < scanBound ∧ Pv (j + 1) (upd H6 D (SetO w D (fun b => S b || decide (b = a)) (if S a = true then c else c + 1))))
    (hd : ∀ H, Pv n H → Nx H) : In2 w g1 te vs1 σ2 D Nx J1 H3 := by
  refine ⟨fun i m H => (i + m = n) ∧ Pv i H, ⟨n, by omega, h0⟩, fun i m H hW => ?_⟩
  obtain ⟨e, p⟩ := hW
  have gd := hG i H (by omega) p
  cases m with
  | zero =>
    have e' : i = n := by omega
    subst e'
    exact .inl ⟨wk.stops H gd, hd H p⟩
  | succ m => exact .inr ⟨wk.goes i H (by omega) gd, Pv (i + 1), fun H' p' => ⟨m, Nat.lt_succ_self m, by omega, p'⟩, fun y H' yy => hs i y H H' (by omega) p (wk.yields i H y H' (by omega) gd yy)⟩
theorem kept_of {σ σ2 : L2.St} {vs : List Nat} (h : wipe σ2 vs = wipe σ vs) : (wipe σ vs).length = σ2.length ∧ ∀ (j : Nat) v, (wipe σ vs)[j]? = some (some v) → σ2[j]? = some (some v) := by
  rw [← h]
  exact ⟨wipe_length _ _, fun j v e => (wipe_some e).1⟩
theorem pe_sc2 {elt tg iter tg1 iter1 : Expr} {scope : Scope} {own : List (Str × Nat)} {vs1 : List Nat} {pos : Pos} {wi wi1 : TI} {g g1 : TG} {te : TE} (hc : X.calm = true) (hN : X.N.Nodup) (hi : PI X tg iter wi) (ok : BlkOk X.N X.env.scope scope own) (hv : ∀ i ∈ vs1, i ∈ own.map (·.2))
    (hg : ∀ s H C cl fp, PG (X.blk s H scope (compEnvC scope cl C X.env) fp) tg g) (hi1 : ∀ s H C cl fp, PI (X.blk s H scope (compEnvC scope cl C X.env) fp) tg1 iter1 wi1) (hg1 : ∀ s H C cl fp, PG (X.blk s H scope (compEnvC scope cl C X.env) fp) tg1 g1)
    (he : ∀ s H C cl fp, PE (X.blk s H scope (compEnvC scope cl C X.env) fp) elt te) (hs : ∀ x, foldedSetIterable iter X.env x = pure x := by intro _; rfl) (hs1 : ∀ env x, foldedSetIterable iter1 env x = pure x := by intro _ _; rfl) :
    PE X (two elt tg iter tg1 iter1 scope pos) (tSc2 X.w wi g wi1 g1 te (own.map (·.2)) vs1) := by
  refine ⟨fun pins s σ H Q I h => ?_⟩
  have seen : ∀ y ∈ scope.names, y.2 = .free → ∃ c, X.env.cells.lookup y.1 = some c := fun y hy e => (ok.free y hy e).elim (fun z => I.ok.has _ (.inl z)) fun z => I.ok.has _ (.inr z)
  show wpAny _ _ (comprehension (two elt tg iter tg1 iter1 scope pos) scope X.env (firstIterPos [⟨tg, iter, [], 0⟩, ⟨tg1, iter1, [], 0⟩] pos) (newSet (.type "set")) false (eval iter X.env)) _ _ s
  refine wpAny_comprehension_free (use := none) rfl hs (closure_ok seen) ok.kind (fun y hy e => (ok.uniq y hy).trans (by rw [e])) (thn (hi.run pins s σ H _ I h) fun _ s1 h1 => thn h1 fun _ s2 h2 => ?_)
  obtain ⟨it, fp, tn, J, H2, rfl, I2, wk, t2, f2, q⟩ := h2
  refine PpSet.newSet_ok (newEnv_comp ?_)
  obtain ⟨D, eD⟩ : ∃ D, D = s2.heap.objs.size := ⟨_, rfl⟩
  have nD : H2 D = none := I2.hok.fresh (Nat.le_of_eq eD.symm)
  obtain ⟨W, ⟨m0, w0⟩, turn⟩ := q D nD
  rw [← eD]
  obtain ⟨s3, e3⟩ : ∃ s3 : Shared, s3 = { s2 with heap := s2.heap.push { cls := .type "set", dict := none, data := .set #[] 0 (.fresh 0 0 (!X.w.params.followText "set-order")) } } := ⟨_, rfl⟩
  have I3 : Inv X pins σ (upd H2 D (SetO X.w D (fun _ => false) 0)) s3 := by
    rw [e3]
    refine I2.laid (t' := s2.toks) (fun b o e => Heap.get?_push_of_some _ e) (Nat.le_of_eq eD.symm) (setO_new ?_)
    rw [eD]
    exact setR_fresh X.w
  have up3 : ∀ b o, s2.heap.get? b = some o → s3.heap.get? b = some o := fun b o e => by rw [e3]; exact Heap.get?_push_of_some _ e
  have old : ∀ b ∈ fp, b < s2.heap.objs.size := fun b hb => (wk.obj _ _ t2 b hb).elim fun o z => Heap.lt_size z.1
  have f3 : ∀ b ∈ fp, FpOk X pins (upd H2 D (SetO X.w D (fun _ => false) 0)) b ∧ b < s3.heap.objs.size := fun b hb => by
    have l := old b hb
    refine ⟨⟨?_, (f2 b hb).2⟩, ?_⟩
    · rw [upd_ne (by rw [eD]; exact Nat.ne_of_lt l)]
      exact (f2 b hb).1
    · rw [e3]
      show b < (s2.heap.push _).objs.size
      rw [Heap.size_push]
      exact Nat.lt_succ_of_lt l
  have t3 : tn 0 s3.heap := wk.keep _ _ _ t2 fun b _ => up3 b
  have I4 := block_start I3 ok hN f3
  obtain ⟨ce, ece⟩ : ∃ ce, ce = compEnvC scope (cellsFrom (s3.heap.objs.size + 1) scope.names (cloFrom X.env.cells scope.names [])) s3.heap.objs.size X.env := ⟨_, rfl⟩
  obtain ⟨H3, eH⟩ : ∃ H3, H3 = upd H2 D (SetO X.w D (fun _ => false) 0) := ⟨_, rfl⟩
  obtain ⟨s4, e4⟩ : ∃ s4 : Shared, s4 = { s3 with heap := pushCells (s3.heap.push { cls := .type "dict", data := .dict #[] }) scope.names } := ⟨_, rfl⟩
  have pg := hg s3 H3 s3.heap.objs.size (cellsFrom (s3.heap.objs.size + 1) scope.names (cloFrom X.env.cells scope.names [])) fp
  have pg1 := hg1 s3 H3 s3.heap.objs.size (cellsFrom (s3.heap.objs.size + 1) scope.names (cloFrom X.env.cells scope.names [])) fp
  have pi1 := hi1 s3 H3 s3.heap.objs.size (cellsFrom (s3.heap.objs.size + 1) scope.names (cloFrom X.env.cells scope.names [])) fp
  have pe := he s3 H3 s3.heap.objs.size (cellsFrom (s3.heap.objs.size + 1) scope.names (cloFrom X.env.cells scope.names [])) fp
  rw [← ece] at pg pg1 pi1 pe I4
  rw [← eH] at I3 I4 f3 w0
  rw [← e4] at I4
  have here : ce.locals = s3.heap.objs.size := by rw [ece]; rfl
  have t4 : tn 0 s4.heap := wk.keep _ _ _ t3 fun b _ o e => by rw [e4]; exact pushCells_keeps _ _ _ _ (Heap.get?_push_of_some _ e)
  have goal : codeAny (model X.prog X.w) X.A (.compStart (two elt tg iter tg1 iter1 scope pos) 0 (.ref it) (.ref D) ce) (compPost (model X.prog X.w) X.A X.xe none (EP X pins σ Q) (.ref D) s3.heap.objs.size) s4 := by
    have nfp : ∀ b ∈ fp, H3 b = none := fun b hb => (f3 b hb).1.1
    have stat : ∀ H', (∀ b ∈ fp, H' b = none) → ∀ b ∈ fp, FpOk (X.blk s3 H3 scope ce fp) [] H' b := fun H' hn b hb =>
      ⟨hn b hb, (I4.ok.exf b hb).1, I4.ok.exfs b hb, .inl hb, fun x c e => (I4.ok.exf b hb).2 x c e, fun p hp => absurd (show p ∈ ([] : List (Addr × Obj)) from hp) (by simp)⟩
    refine start_at rfl rfl rfl (cl := ⟨tg, iter, [], 0⟩) rfl rfl (fun Q' E' z => wk.self X.A 0 _ Q' E' t4 z) ?_
    refine clause (Y := X.blk s3 H3 scope ce fp) hc rfl rfl wk pg stat (at_ := iter.pos) (body := _) (by
      show (compTurn (two elt tg iter tg1 iter1 scope pos) 0 (.ref it) (.ref D) ce).onRaise _ = _
      rw [two_turn0]) W (fun i m H ww => ?_) (fun _ _ z => z) I4 t4 nfp w0
    rcases turn i m H ww with ⟨st, qq⟩ | ⟨go, Nx, hNx, step⟩
    · refine .inl ⟨st, fun s5 I5 => ?_⟩
      have I6 : Inv X pins σ H s5 := I3.call' (ch := fp) I5.os I5.base I5.hok I5.bare fun b hb => by
        obtain ⟨_, z1, _, z3, z4, z5⟩ := (f3 b hb).1
        exact ⟨z3, z1, z4, z5⟩
      have free : H s3.heap.objs.size = none := by rw [← here]; exact I5.free
      obtain ⟨k, hk, _⟩ := I5.loc
      have hk : s5.heap.Ns ce.locals k := hk
      rw [here] at hk
      refine ⟨k, hk, fun h' sb => ?_⟩
      obtain ⟨z0, z1, _, z3, z4, z5⟩ := I3.fpOk (Nat.le_refl _) free
      exact ⟨.ref D, H, I6.turned (t' := s5.toks) (fun b o hb e => (sb.2 b hb).trans e) z0 z1 z3 z4 z5, rfl, qq⟩
    · refine .inr ⟨go, _, step, fun σ2 H4 hP pins' s5 I5 => ?_⟩
      obtain ⟨ew, hin⟩ := hP
      have kn : ∀ (j : Nat) v, (wipe σ (own.map (·.2)))[j]? = some (some v) → (wipe σ2 vs1)[j]? = some (some v) := fun j v e => by
        rw [← ew] at e
        obtain ⟨a1, a2⟩ := wipe_some e
        rw [wipe_out fun z => a2 (hv j z)]
        exact a1
      have ln : (wipe σ (own.map (·.2))).length = (wipe σ2 vs1).length := by rw [← ew, wipe_length, wipe_length]
      refine wpAny_bind (thn (pi1.run _ s5 σ2 H4 _ I5 hin) fun xv s6 h6 => ?_)
      refine wpAny_bind (wpAny_standAt (wpAny_bind (wpAny_of_eq (hs1 ce xv) (wpAny_bind (wpAny_holding (thn h6 fun jv s7 h7 => ?_))))))
      obtain ⟨it1, fp1, tn1, J1, H5, rfl, I7, wk1, t7, f7, W1, ⟨m1, w1⟩, turn1⟩ := h7
      refine wpAny_bind (wpAny_runOwn ?_)
      rw [Around.mark_none]
      refine codeAny_mono (R := fun r s' => match r with
        | .ok _ => ∃ H8 σ3 m', Inv (X.blk s3 H3 scope ce fp) pins' σ3 H8 s' ∧ (wipe σ (own.map (·.2))).length = σ3.length ∧ (∀ (j : Nat) v, (wipe σ (own.map (·.2)))[j]? = some (some v) → σ3[j]? = some (some v)) ∧ m' < m ∧ W (i + 1) m' H8
        | .error _ => False) ?_ (fun r s' hr => ?_)
      · refine start_at rfl rfl rfl (cl := ⟨tg1, iter1, [], 0⟩) rfl rfl (fun Q' E' z => wk1.self X.A 0 _ Q' E' t7 z) ?_
        refine clause (Y := X.blk s3 H3 scope ce fp) (pins := pins') (σ0 := wipe σ2 vs1) hc rfl rfl wk1 pg1 (fun H' hn b hb => ⟨hn b hb, (f7 b hb).2⟩) (at_ := iter1.pos) (body := _) (by
          show (compTurn (two elt tg iter tg1 iter1 scope pos) 1 (.ref it1) (.ref D) ce).onRaise _ = _
          rw [two_turn1]) W1 (fun j k H ww1 => ?_) (fun _ _ z => z) (I7.weak (wipe_length _ _) fun j v e => (wipe_some e).1) t7 (fun b hb => (f7 b hb).1) w1
        rcases turn1 j k H ww1 with ⟨st1, nx⟩ | ⟨go1, N1, hN1, step1⟩
        · obtain ⟨m', hm, w'⟩ := hNx H nx
          exact .inl ⟨st1, fun s8 I8 => ⟨H, wipe σ2 vs1, m', I8, ln, kn, hm, w'⟩⟩
        · refine .inr ⟨go1, _, step1, fun σ3 H6 hP1 pins2 s8 I8 => ?_⟩
          obtain ⟨ew1, hel⟩ := hP1
          refine wpAny_bind (wpAny_bind (thn (pe.run _ s8 σ3 H6 _ I8 hel) fun z s9 h9 => ?_))
          obtain ⟨yv, H7, I9, r9, a, S, c, rfl, hD7, room, nx1⟩ := h9
          obtain ⟨k', hk', w'⟩ := hN1 _ nx1
          refine wpAny_bind (wpAny_standAt (wpAny_bind (thn (mt_sadd (X := X.blk s3 H3 scope ce fp) _ s9 σ3 H7 (.ref D) [.int a] (.ref D) [z] (fun _ H9 => H9 = upd H7 D (SetO X.w D (fun b => S b || decide (b = a)) (if S a = true then c else c + 1))) I9 rfl (.cons r9 .nil) ⟨D, a, S, c, rfl, rfl, hD7, room, rfl⟩) fun u s10 h10 => ?_)))
          obtain ⟨_, H9, I10, _, rfl⟩ := h10
          obtain ⟨l3, k3⟩ := kept_of ew1
          exact wpAny_pure (wpAny_pure ⟨rfl, _, σ3, k', I10, l3, k3, hk', w'⟩)
      · cases r with
        | ok f => exact wpAny_pure ⟨rfl, hr⟩
        | error e => exact hr.elim
  rw [e4, ece, e3] at goal
  exact goal
end
end FF
namespace FF
open PySem PySem.Spec PyProof.Rows L2
/-! ### rows as the program and the laws tell of them -/
theorem atI_last {xs : List V} {x : V} (h : xs[xs.length - 1]? = some x) : atI xs (-1) = some x := by
  have hl := (List.getElem?_eq_some_iff.mp h).1
  have e : ixN xs.length (-1) = some (xs.length - 1) := by
    unfold ixN
    rw [if_neg (by omega), if_pos (by omega)]
    congr 1
    omega
  unfold atI
  rw [e]
  exact h
open Classical in
theorem pushB_on {ts : List (Int × Int)} {ws : List V} {e e' : Int × Int} {r : List (Int × Int)} (h1 : joinB ts ws e = true) (h2 : OnRing ts ws e e'.1) : pushB ts ws (e :: e' :: r) = pushB ts ws (e' :: r) := by
  show ((joinB ts ws e && decide (OnRing ts ws e e'.1)) && _) = _
  rw [h1, decide_eq_true h2]
  rfl
open Classical in
theorem pushB_off {ts : List (Int × Int)} {ws : List V} {e e' : Int × Int} {r : List (Int × Int)} (h2 : ¬ OnRing ts ws e e'.1) : pushB ts ws (e :: e' :: r) = false := by
  show ((joinB ts ws e && decide (OnRing ts ws e e'.1)) && _) = false
  rw [decide_eq_false h2, Bool.and_false]
  rfl
noncomputable def pushedB (ts : List (Int × Int)) (ws : List V) (es : List (Int × Int)) : Bool := !(es.any (layB ws)) && pushB ts ws es
theorem pushL_O (es : List (Int × Int)) : ∀ {ws : List V}, (∀ x ∈ ws, IsO x) → ∀ x ∈ pushL ws es, IsO x := by
  induction es with
  | nil => exact fun h => h
  | cons e es ih =>
    intro ws h
    refine ih (ws := ws.set e.1.toNat (.int e.2)) fun x hx => ?_
    rcases List.mem_or_eq_of_mem_set hx with hx | rfl
    · exact h x hx
    · exact .inr ⟨_, rfl⟩
noncomputable def rowE (ts : List (Int × Int)) (k : Int) (ws : List V) (tie : Int) (es : List (Int × Int)) : Bool := (decide ((es.map Prod.fst).head? = some tie) && decide ((nub (es.map Prod.fst)).length = es.length)) && (pushedB ts ws es && layO ts k (some (pushL ws es)))
noncomputable def rowB (ts : List (Int × Int)) (k : Int) (ws : List V) (tie : Int) : Option (List (Option (V × V))) → Bool
  | none => false
  | some os => (!os.isEmpty && os.all (entB ts.length k)) && rowE ts k ws tie (os.map entOf)
end FF
namespace FF
open PySem PySem.Spec PyProof.Rows L2
/-! ### the search for a free tie: who pushes whom, and how far each is -/
section
variable {ts : List (Int × Int)} {ws : List V} {k : Int}
/-- levels tell how short a row may be -/
theorem LevP.least {tie : Nat} {m : Int} {ls : List Int} (hw : ws.length = ts.length) (h : LevP ts k ws tie m ls) : ∀ {es : List (Int × Int)} {e : Int × Int} {r : List (Int × Int)}, es = e :: r → PRow ts ws k es → (e.1 = tie ∨ ws[e.1.toNat]? ≠ some .non) → m ≤ es.length + hat ls e.1
  | [], _, _, h0, _, _ => nomatch h0
  | [e], _, _, h0, hp, hx => by
    cases h0
    obtain ⟨⟨a0, a1⟩, f0, f1⟩ := hp.bd e (List.mem_singleton.mpr rfl)
    have hj : joinB ts ws e = false := by
      have := hp.push
      show joinB ts ws e = false
      have this : (!joinB ts ws e) = true := this
      cases z : joinB ts ws e with
      | false => rfl
      | true => rw [z] at this; cases this
    obtain ⟨i, hi⟩ : ∃ i : Nat, e.1 = i := ⟨e.1.toNat, by omega⟩
    have hl := h.2 e.2 f0 f1 i (by omega) (hx.imp (fun z => by omega) fun z => by rw [hi, Int.toNat_natCast] at z; exact z) (fun z => by
      have := hp.lay e (List.mem_singleton.mpr rfl)
      unfold layB at this
      rw [hi, Int.toNat_natCast, decide_eq_true z] at this
      cases this)
    rw [show (((i : Nat) : Int), e.2) = e by rw [← hi]] at hl
    unfold lowB at hl
    rw [if_neg (by rw [hj]; decide)] at hl
    have := of_decide_eq_true hl
    show m ≤ 1 + hat ls e.1
    omega
  | e :: e' :: r, _, _, h0, hp, hx => by
    cases h0
    obtain ⟨⟨a0, a1⟩, f0, f1⟩ := hp.bd e List.mem_cons_self
    obtain ⟨hj, ho, _⟩ := pushB_parts.mp hp.push
    obtain ⟨i, hi⟩ : ∃ i : Nat, e.1 = i := ⟨e.1.toNat, by omega⟩
    have hl := h.2 e.2 f0 f1 i (by omega) (hx.imp (fun z => by omega) fun z => by rw [hi, Int.toNat_natCast] at z; exact z) (fun z => by
      have := hp.lay e List.mem_cons_self
      unfold layB at this
      rw [hi, Int.toNat_natCast, decide_eq_true z] at this
      cases this)
    rw [show (((i : Nat) : Int), e.2) = e by rw [← hi]] at hl
    unfold lowB at hl
    rw [if_pos hj] at hl
    have h1 := (@of_decide_eq_true _ (Classical.propDecidable _) hl) e'.1 ho
    have h2 := LevP.least hw h rfl hp.tail (.inr fun z => by
      have := (nums_iff.mp ho.1).2
      rw [this] at z
      cases z)
    rw [List.length_cons] at h2 ⊢
    have : ((r.length + 1 + 1 : Nat) : Int) = ((r.length + 1 : Nat) : Int) + 1 := by omega
    show m ≤ (((e' :: r).length + 1 : Nat) : Int) + hat ls e.1
    rw [List.length_cons]
    omega
theorem LevP.Least {tie : Nat} {ls : List Int} (hw : ws.length = ts.length) {e : Int × Int} {r : List (Int × Int)} (h : LevP ts k ws tie ((e :: r).length : Int) ls) (he : e.1 = tie) : FF.Least ts ws k (e :: r) := fun e' r' hp he' => by
  have := LevP.least hw h (es := e' :: r') rfl hp (.inl (he'.trans he))
  rw [he'.trans he, h.1, List.length_cons, List.length_cons] at this
  omega
/-- what pushes come to, closed -/
theorem closed_keys {e : Int} {R : List Int} (hL : LayK ts k ws) (he : 0 ≤ e ∧ e < (ts.length : Int)) (hnd : R.Nodup) (mem : ∀ t, t ∈ R ↔ Rch ts ws k e t) (ring : ∀ t, Rch ts ws k e t → ∀ f, 0 ≤ f → f < k → ws[t.toNat]? ≠ some (.int f) → jn ts (numsFrom f 0 ws) (tk ts t).1 (tk ts t).2 ∧ ∀ x, OnR ts (numsFrom f 0 ws) t x → Rch ts ws k e x) : Closed ts ws k R := by
  have hl := hL.len
  refine ⟨hnd, fun t ht => ((mem t).mp ht).rng hl he, fun t ht f f0 f1 hn => ?_, fun t ht s hs => ?_⟩
  · obtain ⟨a, b⟩ := ring t ((mem t).mp ht) f f0 f1 hn
    exact ⟨a, fun x hx => (mem x).mpr (b x hx)⟩
  · have go : ∀ t, Rch ts ws k e t → jn ts R (tk ts t).1 (tk ts e).1 := fun t ht => by
      induction ht with
      | base => rfl
      | @step s t f hs f0 f1 hn hj ho ih =>
        obtain ⟨_, hring⟩ := ring s hs f f0 f1 hn
        have hF := (fo_nums hl).mpr (hL.tree f)
        obtain ⟨ns, hRg⟩ := ring_exists hF.nd hj
        have h1 := hRg.mem_iff hF.rl hF.nd
        have hsub : ∀ x ∈ ns, x ∈ R := fun x hx => (mem x).mpr (hring x ((h1 x).mp hx))
        obtain ⟨l1, l2, u, v, el, w1, w2, w3⟩ := hRg.way.cut ((h1 t).mpr ho)
        have e1 : jn ts R (tk ts s).1 u := w1.joined fun x hx => hsub x (by rw [el]; exact List.mem_append_left _ hx)
        have htR : t ∈ R := (mem t).mpr (.step hs f0 f1 hn hj ho)
        have e2 : jn ts R (tk ts t).1 (tk ts t).2 := Leads.foldR (ts := ts) htR (.inl rfl)
        have e3 : jn ts R (tk ts t).1 u := by
          rcases w2 with w2 | w2
          · have : (tk ts t) = (u, v) := w2
            rw [this]
          · have : (tk ts t) = (v, u) := w2
            rw [this] at e2 ⊢
            exact e2
        exact e3.trans (e1.symm.trans ih)
    exact (go t ((mem t).mp ht)).trans (go s ((mem s).mp hs)).symm
/-- keys with who pushes them, in the order of coming; lv: how far they are; the first a of them looked through -/
structure Bfs (ts : List (Int × Int)) (ws : List V) (k : Int) (tie : Nat) (fl : List (Int × Option (Int × Int))) (lv : Nat → Nat) (a : Nat) : Prop where
  head : fl[0]? = some ((tie : Int), none)
  nd : (fl.map Prod.fst).Nodup
  rng : ∀ x ∈ fl.map Prod.fst, 0 ≤ x ∧ x < (ts.length : Int)
  par : ∀ (i : Nat) x s f, fl[i]? = some (x, some (s, f)) → ∃ j, j < i ∧ (∃ o, fl[j]? = some (s, o)) ∧ lv i = lv j + 1 ∧ (0 ≤ f ∧ f < k) ∧ ws[s.toNat]? ≠ some (.int f) ∧ joinB ts ws (s, f) = true ∧ OnRing ts ws (s, f) x
  root : ∀ (i : Nat) x, fl[i]? = some (x, none) → i = 0
  lv0 : lv 0 = 0
  mono : ∀ i j, i ≤ j → j < fl.length → lv i ≤ lv j
  near : ∀ i, i < fl.length → a < fl.length → lv i ≤ lv a + 1
  done : ∀ j, j < a → ∀ s o, fl[j]? = some (s, o) → ∀ f, 0 ≤ f → f < k → ws[s.toNat]? ≠ some (.int f) → joinB ts ws (s, f) = true ∧ ∀ x, OnRing ts ws (s, f) x → ∃ i o', fl[i]? = some (x, o') ∧ lv i ≤ lv j + 1
variable {tie : Nat} {fl : List (Int × Option (Int × Int))} {lv : Nat → Nat} {a : Nat}
theorem Bfs.start (ht : tie < ts.length) : Bfs ts ws k tie [((tie : Int), none)] (fun _ => 0) 0 :=
  ⟨rfl, by simp, fun x hx => by rw [List.mem_singleton.mp hx]; omega, fun i x s f h => by
    cases i with
    | zero => cases h
    | succ i => simp at h, fun i x h => by
    cases i with
    | zero => rfl
    | succ i => simp at h, rfl, fun _ _ _ _ => Nat.le_refl _, fun _ _ _ => Nat.zero_le _, fun j hj => by omega⟩
theorem Bfs.add (h : Bfs ts ws k tie fl lv a) (hw : ws.length = ts.length) {s x f : Int} {o : Option (Int × Int)} (ha : fl[a]? = some (s, o)) (hx : x ∉ fl.map Prod.fst) (f0 : 0 ≤ f) (f1 : f < k) (hn : ws[s.toNat]? ≠ some (.int f)) (hj : joinB ts ws (s, f) = true) (ho : OnRing ts ws (s, f) x) : Bfs ts ws k tie (fl ++ [(x, some (s, f))]) (fun i => if i = fl.length then lv a + 1 else lv i) a := by
  have al : a < fl.length := (List.getElem?_eq_some_iff.mp ha).1
  have old : ∀ {i : Nat} {p}, fl[i]? = some p → (fl ++ [(x, some (s, f))])[i]? = some p ∧ i ≠ fl.length := fun {i p} e => by
    have := (List.getElem?_eq_some_iff.mp e).1
    exact ⟨by rw [List.getElem?_append_left this]; exact e, by omega⟩
  have cases_ : ∀ {i : Nat} {p}, (fl ++ [(x, some (s, f))])[i]? = some p → fl[i]? = some p ∨ (i = fl.length ∧ p = (x, some (s, f))) := fun {i p} e => by
    by_cases c : i < fl.length
    · rw [List.getElem?_append_left c] at e
      exact .inl e
    · have := (List.getElem?_eq_some_iff.mp e).1
      rw [List.length_append] at this
      have ei : i = fl.length := by
        have : i < fl.length + 1 := this
        omega
      rw [ei, List.getElem?_append_right (Nat.le_refl _), Nat.sub_self] at e
      exact .inr ⟨ei, (Option.some.inj e).symm⟩
  refine ⟨(old h.head).1, ?_, fun y hy => ?_, fun i y s' f' e => ?_, fun i y e => ?_, ?_, fun i j hij hj' => ?_, fun i hi _ => ?_, fun j hj' s' o' e f' g0 g1 hn' => ?_⟩
  · rw [List.map_append, List.nodup_append]
    exact ⟨h.nd, by simp, fun y hy z hz => by
      have e9 : z = x := List.mem_singleton.mp hz
      rw [e9]
      exact fun q => hx (by rw [← q]; exact hy)⟩
  · rw [List.map_append] at hy
    rcases List.mem_append.mp hy with hy | hy
    · exact h.rng y hy
    · have e9 : y = x := List.mem_singleton.mp hy
      rw [e9]
      have := nums_iff.mp ho.1
      refine ⟨this.1, ?_⟩
      have := (List.getElem?_eq_some_iff.mp this.2).1
      omega
  · rcases cases_ e with e | ⟨ei, e2⟩
    · obtain ⟨j, hj1, ⟨o', e'⟩, hl, r⟩ := h.par i y s' f' e
      refine ⟨j, hj1, ⟨o', (old e').1⟩, ?_, r⟩
      rw [if_neg (old e).2, if_neg (old e').2]
      exact hl
    · cases e2
      rw [ei]
      refine ⟨a, al, ⟨o, (old ha).1⟩, ?_, ⟨f0, f1⟩, hn, hj, ho⟩
      rw [if_pos rfl, if_neg (by omega)]
  · rcases cases_ e with e | ⟨_, e2⟩
    · exact h.root i y e
    · cases e2
  · show (if 0 = fl.length then _ else _) = 0
    rw [if_neg (by omega)]
    exact h.lv0
  · rw [List.length_append] at hj'
    have hj' : j < fl.length + 1 := hj'
    show (if i = fl.length then _ else _) ≤ (if j = fl.length then _ else _)
    by_cases c2 : j = fl.length
    · rw [if_pos c2]
      by_cases c1 : i = fl.length
      · rw [if_pos c1]
        exact Nat.le_refl _
      · rw [if_neg c1]
        exact h.near i (by omega) al
    · rw [if_neg c2, if_neg (by omega)]
      exact h.mono i j hij (by omega)
  · rw [List.length_append] at hi
    have hi : i < fl.length + 1 := hi
    show (if i = fl.length then _ else _) ≤ (if a = fl.length then _ else _) + 1
    rw [if_neg (show ¬ a = fl.length by omega)]
    by_cases c1 : i = fl.length
    · rw [if_pos c1]
      exact Nat.le_refl _
    · rw [if_neg c1]
      exact h.near i (by omega) al
  · rcases cases_ e with e | ⟨rfl, e⟩
    · obtain ⟨b1, b2⟩ := h.done j hj' s' o' e f' g0 g1 hn'
      refine ⟨b1, fun y hy => ?_⟩
      obtain ⟨i, o'', e', hl⟩ := b2 y hy
      refine ⟨i, o'', (old e').1, ?_⟩
      rw [if_neg (old e').2, if_neg (old e).2]
      exact hl
    · omega
theorem Bfs.next (h : Bfs ts ws k tie fl lv a) {s : Int} {o : Option (Int × Int)} (ha : fl[a]? = some (s, o)) (hd : ∀ f, 0 ≤ f → f < k → ws[s.toNat]? ≠ some (.int f) → joinB ts ws (s, f) = true ∧ ∀ x, OnRing ts ws (s, f) x → x ∈ fl.map Prod.fst) : Bfs ts ws k tie fl lv (a + 1) := by
  have al : a < fl.length := (List.getElem?_eq_some_iff.mp ha).1
  refine ⟨h.head, h.nd, h.rng, h.par, h.root, h.lv0, h.mono, fun i hi ha' => ?_, fun j hj s' o' e f f0 f1 hn => ?_⟩
  · have h1 := h.near i hi al
    have h2 := h.mono a (a + 1) (by omega) ha'
    omega
  · by_cases c : j < a
    · exact h.done j c s' o' e f f0 f1 hn
    · have ej : j = a := by omega
      subst ej
      rw [ha] at e
      cases e
      obtain ⟨b1, b2⟩ := hd f f0 f1 hn
      refine ⟨b1, fun x hx => ?_⟩
      obtain ⟨p, hp, rfl⟩ := List.mem_map.mp (b2 x hx)
      obtain ⟨i, hi⟩ := List.getElem?_of_mem hp
      exact ⟨i, p.2, hi, h.near i (List.getElem?_eq_some_iff.mp hi).1 al⟩
/-- one push more ahead of a row -/
theorem Bfs.step (h : Bfs ts ws k tie fl lv a) {i : Nat} {x s f g : Int} {r : List (Int × Int)} (e : fl[i]? = some (x, some (s, f))) (hp : PRow ts ws k ((x, g) :: r)) : PRow ts ws k ((s, f) :: (x, g) :: r) ∧ ∃ j o, j < i ∧ fl[j]? = some (s, o) ∧ lv i = lv j + 1 := by
  obtain ⟨j, hj, ⟨o', e'⟩, hlv, hf, hn, hjn, ho⟩ := h.par i x s f e
  exact ⟨hp.cons ⟨h.rng s (List.mem_map.mpr ⟨_, List.mem_of_getElem? e', rfl⟩), hf⟩ (layB_ne hn) hjn ho, j, o', hj, e', hlv⟩
theorem Bfs.key (h : Bfs ts ws k tie fl lv a) {i : Nat} {p : Int × Option (Int × Int)} (e : fl[i]? = some p) : p.1 ∈ fl.map Prod.fst := List.mem_map.mpr ⟨p, List.mem_of_getElem? e, rfl⟩
theorem Bfs.one (h : Bfs ts ws k tie fl lv a) {i j : Nat} {x : Int} {o o' : Option (Int × Int)} (e : fl[i]? = some (x, o)) (e' : fl[j]? = some (x, o')) : i = j := by
  have hi : (fl.map Prod.fst)[i]? = some x := by rw [List.getElem?_map, e]; rfl
  have hj : (fl.map Prod.fst)[j]? = some x := by rw [List.getElem?_map, e']; rfl
  obtain ⟨li, ei⟩ := List.getElem?_eq_some_iff.mp hi
  obtain ⟨lj, ej⟩ := List.getElem?_eq_some_iff.mp hj
  exact (List.getElem_inj h.nd).mp (ei.trans ej.symm)
theorem Bfs.levels (h : Bfs ts ws k tie fl lv a) (al : a < fl.length) {ls : List Int} (h1 : ∀ i x o, fl[i]? = some (x, o) → hat ls x = lv i) (h2 : ∀ x, 0 ≤ x → x < (ts.length : Int) → x ∉ fl.map Prod.fst → hat ls x = (lv a : Int) + 1) (hw : ws.length = ts.length) : LevP ts k ws tie ((lv a : Int) + 1) ls := by
  refine ⟨(h1 0 _ _ h.head).trans (by rw [h.lv0]; rfl), fun f f0 f1 s hs hp hn => ?_⟩
  have top : ∀ x, 0 ≤ x → x < (ts.length : Int) → hat ls x ≤ (lv a : Int) + 1 := fun x x0 x1 => by
    by_cases c : x ∈ fl.map Prod.fst
    · obtain ⟨p, hp, rfl⟩ := List.mem_map.mp c
      obtain ⟨i, hi⟩ := List.getElem?_of_mem hp
      rw [h1 i p.1 p.2 hi]
      have := h.near i (List.getElem?_eq_some_iff.mp hi).1 al
      omega
    · rw [h2 x x0 x1 c]
      exact Int.le_refl _
  have ringr : ∀ x, OnRing ts ws ((s : Int), f) x → 0 ≤ x ∧ x < (ts.length : Int) := fun x hx => by
    obtain ⟨x0, hx'⟩ := nums_iff.mp hx.1
    have := (List.getElem?_eq_some_iff.mp hx').1
    exact ⟨x0, by omega⟩
  unfold lowB
  by_cases cj : joinB ts ws ((s : Int), f) = true
  · rw [if_pos cj]
    refine @decide_eq_true _ (Classical.propDecidable _) fun x hx => ?_
    obtain ⟨x0, x1⟩ := ringr x hx
    have ht := top x x0 x1
    by_cases c : (s : Int) ∈ fl.map Prod.fst
    · obtain ⟨p, hp', ep⟩ := List.mem_map.mp c
      obtain ⟨j, hj⟩ := List.getElem?_of_mem hp'
      have ej := h1 j p.1 p.2 hj
      rw [ep] at ej
      show hat ls x ≤ hat ls (s : Int) + 1
      by_cases cja : j < a
      · obtain ⟨_, b2⟩ := h.done j cja p.1 p.2 hj f f0 f1 (by rw [ep, Int.toNat_natCast]; exact hn)
        rw [ep] at b2
        obtain ⟨i, o', hi, hl⟩ := b2 x hx
        rw [h1 i x o' hi, ej]
        omega
      · have := h.mono a j (by omega) (List.getElem?_eq_some_iff.mp hj).1
        omega
    · have := h2 (s : Int) (by omega) (by omega) c
      show hat ls x ≤ hat ls (s : Int) + 1
      omega
  · have cj : joinB ts ws ((s : Int), f) = false := by simpa using cj
    rw [if_neg (by rw [cj]; decide)]
    refine decide_eq_true ?_
    show hat ls (s : Int) ≥ (lv a : Int) + 1 - 1
    by_cases c : (s : Int) ∈ fl.map Prod.fst
    · obtain ⟨p, hp', ep⟩ := List.mem_map.mp c
      obtain ⟨j, hj⟩ := List.getElem?_of_mem hp'
      have ej := h1 j p.1 p.2 hj
      rw [ep] at ej
      by_cases cja : j < a
      · obtain ⟨b1, _⟩ := h.done j cja p.1 p.2 hj f f0 f1 (by rw [ep, Int.toNat_natCast]; exact hn)
        rw [ep, cj] at b1
        cases b1
      · have := h.mono a j (by omega) (List.getElem?_eq_some_iff.mp hj).1
        omega
    · have := h2 (s : Int) (by omega) (by omega) c
      omega
theorem Bfs.rch (h : Bfs ts ws k tie fl lv a) (hw : ws.length = ts.length) : ∀ (n i : Nat), i ≤ n → ∀ x o, fl[i]? = some (x, o) → Rch ts ws k (tie : Int) x
  | n, i, _, x, none, e => by
    have ei := h.root i x e
    subst ei
    rw [h.head] at e
    cases e
    exact .base
  | 0, i, hi, x, some (s, f), e => by
    obtain ⟨j, hj, _⟩ := h.par i x s f e
    omega
  | n + 1, i, hi, x, some (s, f), e => by
    obtain ⟨j, hj, ⟨o', e'⟩, _, ⟨f0, f1⟩, hn, hjn, ho⟩ := h.par i x s f e
    exact .step (h.rch hw n j (by omega) s o' e') f0 f1 hn ((jn_join (e := (s, f)) hw).mp hjn) ho
theorem Bfs.mem_rch (h : Bfs ts ws k tie fl lv a) (ha : fl.length ≤ a) (hw : ws.length = ts.length) : ∀ t, t ∈ fl.map Prod.fst ↔ Rch ts ws k (tie : Int) t := fun t => by
  constructor
  · intro z
    obtain ⟨p, hp, rfl⟩ := List.mem_map.mp z
    obtain ⟨i, hi⟩ := List.getElem?_of_mem hp
    exact h.rch hw i i (Nat.le_refl _) p.1 p.2 hi
  · intro z
    induction z with
    | base => exact h.key h.head
    | @step s t f hs f0 f1 hn hj ho ih =>
      obtain ⟨p, hp, rfl⟩ := List.mem_map.mp ih
      obtain ⟨j, hj'⟩ := List.getElem?_of_mem hp
      have jl := (List.getElem?_eq_some_iff.mp hj').1
      obtain ⟨_, b2⟩ := h.done j (by omega) p.1 p.2 hj' f f0 f1 hn
      obtain ⟨i, o', hi, _⟩ := b2 t ho
      exact h.key hi
theorem Bfs.closed (h : Bfs ts ws k tie fl lv a) (ha : fl.length ≤ a) (hL : LayK ts k ws) (ht : tie < ts.length) : Closed ts ws k (fl.map Prod.fst) := by
  have hw := hL.len
  have mem := h.mem_rch ha hw
  refine closed_keys hL ⟨by omega, by omega⟩ h.nd mem fun t ht' f f0 f1 hn => ?_
  obtain ⟨p, hp, rfl⟩ := List.mem_map.mp ((mem t).mpr ht')
  obtain ⟨j, hj'⟩ := List.getElem?_of_mem hp
  have jl := (List.getElem?_eq_some_iff.mp hj').1
  obtain ⟨b1, b2⟩ := h.done j (by omega) p.1 p.2 hj' f f0 f1 hn
  refine ⟨(jn_join (e := (p.1, f)) hw).mp b1, fun x hx => ?_⟩
  obtain ⟨i, o', hi, _⟩ := b2 x hx
  exact h.rch hw i i (Nat.le_refl _) x o' hi
/-- a row as long as the levels tell lays the tie -/
theorem PRow.lays {ls : List Int} {e : Int × Int} {r : List (Int × Int)} (hL : LayK ts k ws) (hp : PRow ts ws k (e :: r)) (he : e.1 = tie) (hl : LevP ts k ws tie ((e :: r).length : Int) ls) (h0 : ws[tie]? = some .non) : LayK ts k (pushL ws (e :: r)) ∧ ((e :: r).map Prod.fst).Nodup := by
  obtain ⟨hc, nd⟩ := Least.nocut hp (hl.Least hL.len he)
  refine ⟨hL.push nd hp.bd hp.lay hp.push (by rw [he, Int.toNat_natCast]; exact h0) hc, nd⟩
end
theorem Bfs.adds {ts : List (Int × Int)} {ws : List V} {k : Int} {tie : Nat} {a : Nat} (hw : ws.length = ts.length) {s f : Int} (f0 : 0 ≤ f) (f1 : f < k) (hn : ws[s.toNat]? ≠ some (.int f)) (hj : joinB ts ws (s, f) = true) : ∀ (xs : List Int) {fl : List (Int × Option (Int × Int))} {lv : Nat → Nat} {o : Option (Int × Int)}, Bfs ts ws k tie fl lv a → fl[a]? = some (s, o) → xs.Nodup → (∀ x ∈ xs, x ∉ fl.map Prod.fst ∧ OnRing ts ws (s, f) x) → ∃ lv', Bfs ts ws k tie (fl ++ xs.map fun x => (x, some (s, f))) lv' a
  | [], fl, lv, o, h, _, _, _ => ⟨lv, by rw [List.map_nil, List.append_nil]; exact h⟩
  | x :: xs, fl, lv, o, h, ha, nd, hx => by
    obtain ⟨h1, h2⟩ := List.nodup_cons.mp nd
    obtain ⟨x1, x2⟩ := hx x List.mem_cons_self
    have h' := h.add hw ha x1 f0 f1 hn hj x2
    have al := (List.getElem?_eq_some_iff.mp ha).1
    obtain ⟨lv', hb⟩ := Bfs.adds hw f0 f1 hn hj xs h' (by rw [List.getElem?_append_left al]; exact ha) h2 fun y hy => by
      obtain ⟨y1, y2⟩ := hx y (List.mem_cons_of_mem _ hy)
      refine ⟨fun z => ?_, y2⟩
      rw [List.map_append] at z
      rcases List.mem_append.mp z with z | z
      · exact y1 z
      · have z : y = x := List.mem_singleton.mp z
        rw [z] at hy
        exact h1 hy
    rw [List.append_assoc] at hb
    exact ⟨lv', hb⟩
theorem Bfs.lv_le {ts : List (Int × Int)} {ws : List V} {k : Int} {tie : Nat} {fl : List (Int × Option (Int × Int))} {lv : Nat → Nat} {a : Nat} (h : Bfs ts ws k tie fl lv a) : ∀ i, i < fl.length → lv i ≤ i := by
  intro i
  induction i using Nat.strongRecOn with
  | _ i ih =>
    intro hi
    obtain ⟨x', o', hx'⟩ : ∃ x' o', fl[i]? = some (x', o') := ⟨fl[i].1, fl[i].2, List.getElem?_eq_getElem hi⟩
    cases o' with
    | none =>
      rw [h.root i x' hx', h.lv0]
      exact Nat.le_refl _
    | some sf =>
      obtain ⟨j, hj, _, hl, _⟩ := h.par i x' sf.1 sf.2 hx'
      have := ih j hj (by omega)
      omega
/-- from what is closed no row comes -/
theorem Closed.no_row {ts : List (Int × Int)} {ws : List V} {k : Int} {R : List Int} (h : Closed ts ws k R) (hw : ws.length = ts.length) : ∀ {es : List (Int × Int)} {e : Int × Int} {r : List (Int × Int)}, es = e :: r → PRow ts ws k es → e.1 ∈ R → False
  | [], _, _, h0, _, _ => nomatch h0
  | [e], _, _, h0, hp, hR => by
    cases h0
    obtain ⟨_, f0, f1⟩ := hp.bd e (List.mem_singleton.mpr rfl)
    have hl := hp.lay e (List.mem_singleton.mpr rfl)
    obtain ⟨hj, _⟩ := h.ring e.1 hR e.2 f0 f1 (of_decide_eq_false hl)
    have := push_last hp.push (e := e) rfl
    rw [(jn_join hw).mpr hj] at this
    cases this
  | e :: e' :: r, _, _, h0, hp, hR => by
    cases h0
    obtain ⟨_, f0, f1⟩ := hp.bd e List.mem_cons_self
    have hl := hp.lay e List.mem_cons_self
    obtain ⟨_, hr⟩ := h.ring e.1 hR e.2 f0 f1 (of_decide_eq_false hl)
    exact h.no_row hw rfl hp.tail (hr e'.1 (pushB_parts.mp hp.push).2.1)
/-- pushes that lead to x -/
def Lead (ts : List (Int × Int)) (ws : List V) (k : Int) (tie : Nat) (es : List (Int × Int)) (x : Int) : Prop := (∀ g r, PRow ts ws k ((x, g) :: r) → PRow ts ws k (es ++ (x, g) :: r)) ∧ ∀ g, ∃ d r, es ++ [(x, g)] = d :: r ∧ d.1 = (tie : Int)
theorem Lead.nil {ts : List (Int × Int)} {ws : List V} {k : Int} {tie : Nat} : Lead ts ws k tie [] (tie : Int) := ⟨fun _ _ h => h, fun _ => ⟨_, [], rfl, rfl⟩⟩
theorem Lead.snoc {ts : List (Int × Int)} {ws : List V} {k : Int} {tie : Nat} {es : List (Int × Int)} {s f x : Int} (h : Lead ts ws k tie es s) (hs : 0 ≤ s ∧ s < (ts.length : Int)) (f0 : 0 ≤ f) (f1 : f < k) (hn : ws[s.toNat]? ≠ some (.int f)) (hj : joinB ts ws (s, f) = true) (ho : OnRing ts ws (s, f) x) : Lead ts ws k tie (es ++ [(s, f)]) x := by
  refine ⟨fun g r hp => ?_, fun g => ?_⟩
  · rw [List.append_assoc]
    exact h.1 f _ (hp.cons ⟨hs, f0, f1⟩ (layB_ne hn) hj ho)
  · obtain ⟨d, r, e, hd⟩ := h.2 f
    rw [e]
    exact ⟨d, r ++ [(x, g)], rfl, hd⟩
structure CamB (ts : List (Int × Int)) (ws : List V) (k : Int) (tie : Nat) (H : Hp) (fl : List (Int × Addr)) (bf : List (Int × Option (Int × Int))) (lv : Nat → Nat) (a : Nat) : Prop where
  bfs : Bfs ts ws k tie bf lv a
  keys : fl.map Prod.fst = bf.map Prod.fst
  row : ∀ (i : Nat) x c, fl[i]? = some (x, c) → ∃ (xs : List V) (es : List (Int × Int)), H c = some (.tup xs) ∧ Ties H xs es ∧ es.length = lv i ∧ Lead ts ws k tie es x
section
variable {ts : List (Int × Int)} {ws : List V} {k : Int} {tie : Nat} {H H' : Hp} {fl : List (Int × Addr)} {bf : List (Int × Option (Int × Int))} {lv : Nat → Nat} {a : Nat}
theorem CamB.mono (h : CamB ts ws k tie H fl bf lv a) (kk : ∀ q xs, H q = some (.tup xs) → H' q = some (.tup xs)) : CamB ts ws k tie H' fl bf lv a := ⟨h.bfs, h.keys, fun i x c e => by
  obtain ⟨xs, es, h1, h2, r⟩ := h.row i x c e
  exact ⟨xs, es, kk _ _ h1, h2.mono kk, r⟩⟩
theorem CamB.lens (h : CamB ts ws k tie H fl bf lv a) : fl.length = bf.length := by
  have := congrArg List.length h.keys
  rw [List.length_map, List.length_map] at this
  exact this
theorem CamB.len (h : CamB ts ws k tie H fl bf lv a) : fl.length ≤ ts.length := by
  have := nd_le h.bfs.nd (m := upTo ts.length) fun x hx => upTo_mem.mpr (h.bfs.rng x hx)
  rw [List.length_map, upTo_length] at this
  have := h.lens
  omega
theorem CamB.bkey (h : CamB ts ws k tie H fl bf lv a) {i : Nat} {x : Int} {c : Addr} (e : fl[i]? = some (x, c)) : ∃ o, bf[i]? = some (x, o) := by
  have h1 : (fl.map Prod.fst)[i]? = some x := by rw [List.getElem?_map, e]; rfl
  rw [h.keys, List.getElem?_map] at h1
  cases e2 : bf[i]? with
  | none => rw [e2] at h1; cases h1
  | some p =>
    rw [e2] at h1
    exact ⟨p.2, by rw [← Option.some.inj h1]⟩
theorem CamB.start (ht : tie < ts.length) {c : Addr} (hc : H c = some (.tup [])) : CamB ts ws k tie H [((tie : Int), c)] [((tie : Int), none)] (fun _ => 0) 0 := ⟨Bfs.start ht, rfl, fun i x c' e => by
  cases i with
  | zero =>
    cases e
    exact ⟨[], [], hc, .nil, rfl, Lead.nil⟩
  | succ i => simp at e⟩
theorem CamB.add (h : CamB ts ws k tie H fl bf lv a) (hw : ws.length = ts.length) {s m f : Int} {c' c2 : Addr} {xs2 : List V} {es : List (Int × Int)} (ha : fl[a]? = some (s, c')) (hes : es.length = lv a) (hl : Lead ts ws k tie es s) (hin : m ∉ fl.map Prod.fst) (f0 : 0 ≤ f) (f1 : f < k) (hn : ws[s.toNat]? ≠ some (.int f)) (hj : joinB ts ws (s, f) = true) (ho : OnRing ts ws (s, f) m)
    (hc : H c2 = some (.tup xs2)) (hT : Ties H xs2 (es ++ [(s, f)])) : CamB ts ws k tie H (fl ++ [(m, c2)]) (bf ++ [(m, some (s, f))]) (fun i => if i = bf.length then lv a + 1 else lv i) a := by
  obtain ⟨o, hb⟩ := h.bkey ha
  have hs := h.bfs.rng s (h.bfs.key hb)
  refine ⟨h.bfs.add hw hb (by rw [← h.keys]; exact hin) f0 f1 hn hj ho, by rw [List.map_append, List.map_append, h.keys]; rfl, fun i x c e => ?_⟩
  have hlen := h.lens
  by_cases ci : i < fl.length
  · rw [List.getElem?_append_left ci] at e
    obtain ⟨xs, es', h1, h2, h3, h4⟩ := h.row i x c e
    exact ⟨xs, es', h1, h2, by rw [if_neg (by omega)]; exact h3, h4⟩
  · have il := (List.getElem?_eq_some_iff.mp e).1
    rw [List.length_append] at il
    have il : i < fl.length + 1 := il
    have ei : i = fl.length := by omega
    rw [ei, List.getElem?_append_right (Nat.le_refl _), Nat.sub_self] at e
    cases e
    refine ⟨xs2, es ++ [(s, f)], hc, hT, ?_, hl.snoc hs f0 f1 hn hj ho⟩
    rw [ei, if_pos hlen, List.length_append, hes]
    rfl
end
end FF
namespace FF
open PySem PySem.Spec PyProof.Rows L2
/-! ### dicts from ints to any values -/
def kvV (pl : List (Int × V)) : List (Key × V) := pl.map fun p => (Sum.inl p.1, p.2)
theorem kvV_length (pl : List (Int × V)) : (kvV pl).length = pl.length := List.length_map _
theorem kvV_in : ∀ {pl : List (Int × V)} {x : Int} {v : V}, (pl.map Prod.fst).Nodup → (x, v) ∈ pl → valV (kvV pl) (Sum.inl x) = some v
  | p :: pl, x, v, nd, h => by
    rw [List.map_cons, List.nodup_cons] at nd
    rcases List.mem_cons.mp h with h | h
    · rw [← h]
      exact valV_pos rfl
    · have hne : p.1 ≠ x := fun z => nd.1 (List.mem_map.mpr ⟨(x, v), h, z.symm⟩)
      exact (valV_neg (p := (Sum.inl p.1, p.2)) (r := kvV pl) fun z => hne (Sum.inl.inj z)).trans (kvV_in nd.2 h)
theorem kvV_out {pl : List (Int × V)} {x : Int} (h : x ∉ pl.map Prod.fst) : valV (kvV pl) (Sum.inl x) = none := by
  unfold valV kvV
  rw [List.find?_eq_none.mpr fun y hy => ?_]
  · rfl
  · obtain ⟨p, hp, rfl⟩ := List.mem_map.mp hy
    rw [decide_eq_false fun z => h (List.mem_map.mpr ⟨p, hp, Sum.inl.inj z⟩)]
    decide
theorem kvV_put {pl : List (Int × V)} {x : Int} {v : V} (h : x ∉ pl.map Prod.fst) : putK (kvV pl) (Sum.inl x) v = kvV (pl ++ [(x, v)]) := by
  unfold putK
  rw [valV_any, kvV_out h]
  show kvV pl ++ [(Sum.inl x, v)] = _
  unfold kvV
  rw [List.map_append]
  rfl
/-- who pushes a tie, as a value -/
def PaV (H : Hp) (v : V) (o : Option (Int × Int)) : Prop := match o with
  | none => v = .non
  | some (s, f) => ∃ q, v = .ref q ∧ H q = some (.tup [.int s, .int f])
theorem PaV.mono {H H' : Hp} {v : V} {o : Option (Int × Int)} (h : PaV H v o) (k : ∀ q xs, H q = some (.tup xs) → H' q = some (.tup xs)) : PaV H' v o := by
  cases o with
  | none => exact h
  | some e =>
    obtain ⟨q, e1, e2⟩ := h
    exact ⟨q, e1, k _ _ e2⟩
def PaL (H : Hp) (pl : List (Int × V)) (fl : List (Int × Option (Int × Int))) : Prop := Paired (fun (p : Int × V) (e : Int × Option (Int × Int)) => p.1 = e.1 ∧ PaV H p.2 e.2) pl fl
theorem PaL.mono {H H' : Hp} {pl : List (Int × V)} {fl : List (Int × Option (Int × Int))} (h : PaL H pl fl) (k : ∀ q xs, H q = some (.tup xs) → H' q = some (.tup xs)) : PaL H' pl fl := L2.Paired.mapP h fun _ _ ⟨a, b⟩ => ⟨a, b.mono k⟩
theorem PaL.length {H : Hp} {pl : List (Int × V)} {fl : List (Int × Option (Int × Int))} (h : PaL H pl fl) : pl.length = fl.length := Paired.length h
theorem PaL.keys {H : Hp} {pl : List (Int × V)} {fl : List (Int × Option (Int × Int))} (h : PaL H pl fl) : pl.map Prod.fst = fl.map Prod.fst := by
  unfold PaL at h
  induction h with
  | nil => rfl
  | cons a _ ih => rw [List.map_cons, List.map_cons, a.1, ih]
theorem PaL.append {H : Hp} {pl pl2 : List (Int × V)} {fl fl2 : List (Int × Option (Int × Int))} (h : PaL H pl fl) (h2 : PaL H pl2 fl2) : PaL H (pl ++ pl2) (fl ++ fl2) := by
  unfold PaL at *
  induction h with
  | nil => exact h2
  | cons a _ ih => exact .cons a ih
theorem PaL.get {H : Hp} {pl : List (Int × V)} {fl : List (Int × Option (Int × Int))} (h : PaL H pl fl) {i : Nat} {x : Int} {o : Option (Int × Int)} (e : fl[i]? = some (x, o)) : ∃ v, (x, v) ∈ pl ∧ pl[i]? = some (x, v) ∧ PaV H v o := by
  have hi : i < pl.length := by rw [h.length]; exact (List.getElem?_eq_some_iff.mp e).1
  obtain ⟨p, hp, e1, e2⟩ := paired_get h (List.getElem?_eq_getElem hi)
  rw [e] at hp
  cases hp
  refine ⟨pl[i].2, ?_, ?_, e2⟩
  · have := List.getElem_mem hi
    rw [show pl[i] = (x, pl[i].2) by rw [← show pl[i].1 = x from e1]] at this
    exact this
  · rw [List.getElem?_eq_getElem hi]
    congr 1
    rw [← show pl[i].1 = x from e1]
theorem PaL.news {H : Hp} {q : Addr} {s f : Int} (hq : H q = some (.tup [.int s, .int f])) : ∀ (xs : List Int), PaL H (xs.map fun x => (x, V.ref q)) (xs.map fun x => (x, some (s, f)))
  | [] => .nil
  | _ :: xs => .cons ⟨rfl, q, rfl, hq⟩ (PaL.news hq xs)
theorem Ties.reverse {H : Hp} {rs : List V} {ts : List (Int × Int)} (h : Ties H rs ts) : Ties H rs.reverse ts.reverse := by
  unfold Ties at h
  induction h with
  | nil => exact .nil
  | cons a _ ih =>
    rw [List.reverse_cons, List.reverse_cons]
    exact Ties.append ih (.cons a .nil)
end FF
namespace FF
open PySem PySem.Spec PyProof.Rows L2
/-! ### the heap while a free tie is sought -/
structure FfS (H : Hp) (n : Int) (ts : List (Int × Int)) (ws : List V) (k : Int) (tie : Nat) (d nb hg wt : Addr) (bl : List (Int × Addr)) (G : Hp) (pl : List (Int × V)) (fl : List (Int × Option (Int × Int))) (lv : Nat → Nat) (a : Nat) (gl : List (Int × Addr)) : Prop where
  ke : Kx (fun b => b = d) H G
  gd : G d = some (.dK (kvV pl))
  pa : PaL G pl fl
  bf : Bfs ts ws k tie fl lv a
  gn : G nb = some (.dK (kvF bl))
  by_ : Byf G ws bl
  wo : wt ∉ bl.map Prod.snd
  gh : G hg = some (.dK (kvF gl))
  gnd : (gl.map Prod.fst).Nodup
  grg : ∀ p ∈ gl, 0 ≤ p.1 ∧ p.1 < k
  gea : ∀ p ∈ gl, p.2 ≠ wt ∧ ∃ ds, Hg G p.2 ds ∧ Hung n ts (numsFrom p.1 0 ws) ds
  gw : G wt = some (.lst ((fl.map Prod.fst).map V.int))
section
variable {H : Hp} {n : Int} {ts : List (Int × Int)} {ws : List V} {k : Int} {tie : Nat} {d nb hg wt : Addr} {bl : List (Int × Addr)} {G G' : Hp} {pl pl' : List (Int × V)} {fl fl' : List (Int × Option (Int × Int))} {lv lv' : Nat → Nat} {a a' : Nat} {gl gl' : List (Int × Addr)}
theorem Hg.lst {G : Hp} {h : Addr} {ds : Nds} (g : Hg G h ds) : ∃ vs, G h = some (.lst vs) := ⟨_, g.ex.choose_spec.1⟩
theorem FfS.glen (h : FfS H n ts ws k tie d nb hg wt bl G pl fl lv a gl) : gl.length ≤ k.toNat := by
  have := nd_le h.gnd (m := upTo k) fun x hx => by
    obtain ⟨p, hp, rfl⟩ := List.mem_map.mp hx
    exact upTo_mem.mpr (h.grg p hp)
  rw [List.length_map, upTo_length] at this
  exact this
theorem FfS.flen (h : FfS H n ts ws k tie d nb hg wt bl G pl fl lv a gl) : fl.length ≤ ts.length := by
  have := nd_le h.bf.nd (m := upTo ts.length) fun x hx => upTo_mem.mpr (h.bf.rng x hx)
  rw [List.length_map, upTo_length] at this
  omega
theorem FfS.step (h : FfS H n ts ws k tie d nb hg wt bl G pl fl lv a gl) (nd : ∃ o, H d = some o) (hn : H nb = none) (hh : H hg = none) (hw : H wt = none) (nh : nb ≠ hg) {S : Addr → Prop} (kk : Kx S G G') (hS : ∀ b, S b → b = d ∨ b = hg ∨ b = wt)
    (gd : G' d = some (.dK (kvV pl'))) (pa : PaL G' pl' fl') (bf : Bfs ts ws k tie fl' lv' a') (gh : G' hg = some (.dK (kvF gl'))) (gnd : (gl'.map Prod.fst).Nodup) (grg : ∀ p ∈ gl', 0 ≤ p.1 ∧ p.1 < k) (gea : ∀ p ∈ gl', p ∈ gl ∨ (p.2 ≠ wt ∧ ∃ ds, Hg G' p.2 ds ∧ Hung n ts (numsFrom p.1 0 ws) ds)) (gw : G' wt = some (.lst ((fl'.map Prod.fst).map V.int))) : FfS H n ts ws k tie d nb hg wt bl G' pl' fl' lv' a' gl' := by
  obtain ⟨od, hod⟩ := nd
  have nbd : nb ≠ d := fun z => by rw [z, hod] at hn; cases hn
  have nbw : nb ≠ wt := fun z => by have := h.gn; rw [z, h.gw] at this; cases this
  have nS : ¬ S nb := fun z => by
    rcases hS nb z with z | z | z
    · exact nbd z
    · exact nh z
    · exact nbw z
  have lst_ok : ∀ q xs, G q = some (.lst xs) → q ≠ wt → ¬ S q := fun q xs e hq z => by
    rcases hS q z with z | z | z
    · rw [z, h.gd] at e; cases e
    · rw [z, h.gh] at e; cases e
    · exact hq z
  have tup_ok : ∀ q xs, G q = some (.tup xs) → ¬ S q := fun q xs e z => by
    rcases hS q z with z | z | z
    · rw [z, h.gd] at e; cases e
    · rw [z, h.gh] at e; cases e
    · rw [z, h.gw] at e; cases e
  refine ⟨⟨fun b o e nt q => ?_, fun b t => kk.tab b (h.ke.tab b t), fun b e => h.ke.dom b (kk.dom b e)⟩, gd, pa, bf, kk.at_ _ _ h.gn (fun _ z => nomatch z) nS, ⟨h.by_.nd, h.by_.na, fun p hp => ?_, h.by_.mem⟩, h.wo, gh, gnd, grg, fun p hp => ?_, gw⟩
  · refine kk.at_ b o (h.ke.at_ b o e nt q) nt fun z => ?_
    rcases hS b z with z | z | z
    · exact q z
    · rw [z, hh] at e; cases e
    · rw [z, hw] at e; cases e
  · exact kk.at_ _ _ (h.by_.each p hp) (fun _ z => nomatch z) (lst_ok _ _ (h.by_.each p hp) fun z => h.wo (List.mem_map.mpr ⟨p, hp, z⟩))
  · rcases gea p hp with hp | z
    · obtain ⟨h1, ds, h2, h3⟩ := h.gea p hp
      obtain ⟨vs, e⟩ := h2.lst
      exact ⟨h1, ds, h2.kx kk (lst_ok _ _ e h1) tup_ok, h3⟩
    · exact z
end
end FF
namespace FF
open PySem PySem.Spec PyProof.Rows L2
/-! ### l.count(k) of ints and Nones -/
theorem eqk_gapped {k : Int} {A : Around} {s : Shared} {t : Tok} : ∀ {xs : List V} {us : List Value}, Vals xs us → (∀ y ∈ xs, IsO y) → ∀ y ∈ us, PySem.SeqAt.EqAt A s y (.int k t) (eqk k y)
  | _, _, .nil, _, y, hy => by cases hy
  | v :: vs, u :: us, .cons r rest, ho, y, hy => by
    rcases List.mem_cons.mp hy with rfl | hy
    · rcases ho v List.mem_cons_self with rfl | ⟨i, rfl⟩
      · cases (show y = Value.none from r)
        exact PySem.SeqAt.EqAt.none_int k t
      · obtain ⟨t', rfl⟩ := (show ∃ t', y = Value.int i t' from r)
        exact PySem.SeqAt.EqAt.int_int i t' k t
    · exact eqk_gapped rest (fun z hz => ho z (List.mem_cons_of_mem _ hz)) y hy
theorem eqk_many {k : Int} : ∀ {xs : List V} {us : List Value}, Vals xs us → (∀ y ∈ xs, IsO y) → us.countP (eqk k) = (xs.filter fun v => decide (v = V.int k)).length
  | _, _, .nil, _ => rfl
  | v :: vs, u :: us, .cons r rest, ho => by
    have ih := eqk_many (k := k) rest fun z hz => ho z (List.mem_cons_of_mem _ hz)
    rw [List.countP_cons, ih, List.filter_cons]
    rcases ho v List.mem_cons_self with rfl | ⟨i, rfl⟩
    · cases (show u = Value.none from r)
      rfl
    · obtain ⟨t', rfl⟩ := (show ∃ t', u = Value.int i t' from r)
      show _ + (if (i == k) = true then 1 else 0) = _
      rw [decide_int]
      by_cases c : i = k
      · rw [if_pos (show (i == k) = true by rw [c]; exact beq_self_eq_true k), decide_eq_true c]
        rfl
      · rw [if_neg (show ¬ (i == k) = true by simpa using c), decide_eq_false c]
        rfl
def rCntO (K : PySem.W.Frag) : V → List V → Hp → VK → Prop := fun x as H Q => ∃ (p : Addr) (xs : List V) (k : Int), x = .ref p ∧ as = [.int k] ∧ SqL K H p xs ∧ (∀ y ∈ xs, IsO y) ∧ Q (.int ((xs.filter fun v => decide (v = V.int k)).length : Nat)) H
theorem mt_lcountO {X : Cx} {K : PySem.W.Frag} (h : X.K = K := by rfl) : MtR X "list.count" (rCntO K) := by
  subst h
  intro pins s σ H x as v us Q I rx ras hq
  obtain ⟨p, xs, k, rfl, rfl, hs, ho, q⟩ := hq
  cases rx
  obtain ⟨u, rfl, t, rfl⟩ := ras.one
  obtain ⟨its, rv, ⟨⟨cls, dd, data, sl⟩, n, hob, hc, hdn, hd⟩, hlen⟩ := I.list hs
  simp only at hc hd
  subst hc hd
  refine call_meets PySem.F.slot_list_count ⟨_, hob, rfl⟩ PySem.F.entry_list_count (PySem.F.args_list_count_2 _ _) (PySem.SeqAt.list_countAt p its.toArray n dd sl (.int k t) (eqk k)) ⟨hob, fun y hy => eqk_gapped rv ho y (by simpa using hy), ?_⟩
  have em : its.toArray.toList.countP (eqk k) = _ := eqk_many rv ho
  refine ⟨.int ((xs.filter fun v => decide (v = V.int k)).length : Nat), H, I.tok _, ⟨s.toks, ?_⟩, q⟩
  show Value.int ((its.toArray.toList.countP (eqk k) : Nat) : Int) s.toks = _
  rw [em]
end FF
namespace FF
open PySem PySem.Spec PyProof.Rows L2
/-! ### a ring in a forest is one sequence -/
theorem Way.split {ts : List (Int × Int)} : ∀ {p : List Int} {x z m : Int} {q : List Int}, Way ts x (p ++ m :: q) z → ∃ u v, Way ts x p u ∧ Leads ts m u v ∧ Way ts v q z
  | [], x, z, m, q, h => by
    obtain ⟨y, h1, h2⟩ := Way.inv h
    exact ⟨x, y, .nil x, h1, h2⟩
  | c :: p, x, z, m, q, h => by
    obtain ⟨y, h1, h2⟩ := Way.inv (show Way ts x (c :: (p ++ m :: q)) z from h)
    obtain ⟨u, v, a, b, d⟩ := Way.split h2
    exact ⟨u, v, .cons h1 a, b, d⟩
/-- m comes from a without m' -/
def Ere (ts : List (Int × Int)) (ms : List Int) (a m m' : Int) : Prop := foldR (fun x => x) (pick ts (but m' ms)) a = foldR (fun x => x) (pick ts (but m' ms)) (ts.getD m.toNat (0, 0)).1
theorem leads_end {ts : List (Int × Int)} {m u v : Int} (h : Leads ts m u v) : (ts.getD m.toNat (0, 0)).1 = u ∨ (ts.getD m.toNat (0, 0)).1 = v := by
  rcases h with h | h
  · exact .inl (by rw [h])
  · exact .inr (by rw [h])
section
variable {ts : List (Int × Int)} {ms : List Int} {a b : Int} {l : List Int}
theorem IsRing.ere (h : IsRing ts ms a b l) {p q : List Int} {m m' : Int} (e : l = p ++ m :: q) (hm : m' ∈ q) : Ere ts ms a m m' := by
  have hnd := h.nd
  subst e
  obtain ⟨u, v, w1, w2, _⟩ := Way.split h.way
  rw [List.nodup_append] at hnd
  obtain ⟨n1, n2, n3⟩ := hnd
  have n4 := (List.nodup_cons.mp n2).1
  have inb : ∀ x ∈ p, x ∈ but m' ms := fun x hx => mem_but.mpr ⟨h.mem x (List.mem_append_left _ hx), n3 x hx m' (List.mem_cons_of_mem _ hm)⟩
  have mb : m ∈ but m' ms := mem_but.mpr ⟨h.mem m (List.mem_append_right _ List.mem_cons_self), fun z => n4 (by rw [z]; exact hm)⟩
  have e1 := w1.joined inb
  have e2 := w2.foldR mb
  unfold Ere
  rcases leads_end w2 with z | z <;> rw [z]
  · exact e1
  · exact e1.trans e2
theorem IsRing.not_ere (h : IsRing ts ms a b l) (hf : ringlessF (fun x => x) (pick ts ms) = true) (hn : ms.Nodup) {p q : List Int} {m m' : Int} (e : l = p ++ m :: q) (hm : m' ∈ q) : ¬ Ere ts ms a m' m := fun z => by
  have hmi := (h.mem_iff hf hn m).mp (by rw [e]; exact List.mem_append_right _ List.mem_cons_self)
  have hnd := h.nd
  have hmem := h.mem
  have hway := h.way
  rw [e] at hnd hmem hway
  obtain ⟨u, v, _, _, w3⟩ := Way.split hway
  rw [List.nodup_append] at hnd
  obtain ⟨_, n2, _⟩ := hnd
  have n4 := (List.nodup_cons.mp n2).1
  have inb : ∀ x ∈ q, x ∈ but m ms := fun x hx => mem_but.mpr ⟨hmem x (List.mem_append_right _ (List.mem_cons_of_mem _ hx)), fun y => n4 (by rw [← y]; exact hx)⟩
  have e1 := w3.joined inb
  obtain ⟨q1, q2, u2, v2, eq, w4, w5, _⟩ := w3.cut hm
  have e2 := w4.joined fun x hx => inb x (by rw [eq]; exact List.mem_append_left _ hx)
  have e3 := w5.foldR (inb m' hm)
  refine hmi.2 ?_
  unfold Ere at z
  rcases leads_end w5 with y | y <;> rw [y] at z
  · exact z.trans (e2.symm.trans e1)
  · exact z.trans (e3.symm.trans (e2.symm.trans e1))
theorem split_at {l : List Int} {i j : Nat} (hi : i < l.length) (hj : j < l.length) (hij : i < j) : l = l.take i ++ l[i] :: l.drop (i + 1) ∧ l[j] ∈ l.drop (i + 1) := by
  refine ⟨?_, ?_⟩
  · rw [← List.drop_eq_getElem_cons hi, List.take_append_drop]
  · rw [List.mem_iff_getElem]
    refine ⟨j - (i + 1), by rw [List.length_drop]; omega, ?_⟩
    rw [List.getElem_drop]
    congr 1
    omega
theorem IsRing.up (h : IsRing ts ms a b l) : l.Pairwise (Ere ts ms a) := by
  rw [List.pairwise_iff_getElem]
  intro i j hi hj hij
  obtain ⟨e, hm⟩ := split_at hi hj hij
  exact h.ere e hm
theorem ring_same {l' : List Int} (h : IsRing ts ms a b l) (h' : IsRing ts ms a b l') (hf : ringlessF (fun x => x) (pick ts ms) = true) (hn : ms.Nodup) : l = l' := by
  refine List.Perm.eq_of_pairwise (le := Ere ts ms a) (fun m m' hm hm' e1 e2 => ?_) h.up h'.up ((List.perm_ext_iff_of_nodup h.nd h'.nd).mpr fun x => (h.mem_iff hf hn x).trans (h'.mem_iff hf hn x).symm)
  have hm'l : m' ∈ l := (h.mem_iff hf hn m').mpr ((h'.mem_iff hf hn m').mp hm')
  obtain ⟨i, hi, rfl⟩ := List.mem_iff_getElem.mp hm
  obtain ⟨j, hj, rfl⟩ := List.mem_iff_getElem.mp hm'l
  rcases Nat.lt_trichotomy i j with c | c | c
  · obtain ⟨e, hq⟩ := split_at hi hj c
    exact (h.not_ere hf hn e hq e2).elim
  · subst c
    rfl
  · obtain ⟨e, hq⟩ := split_at hj hi c
    exact (h.not_ere hf hn e hq e1).elim
end
/-! ### the search is one: which ties come, in which order -/
abbrev FlT := List (Int × Option (Int × Int))
open Classical in
noncomputable def ringL (ts : List (Int × Int)) (ws : List V) (s f : Int) : List Int := if h : ∃ l, IsRing ts (numsFrom f 0 ws) (tk ts s).1 (tk ts s).2 l then h.choose else []
theorem ringL_is {ts : List (Int × Int)} {ws : List V} {s f : Int} (hw : ws.length = ts.length) (hf : ringlessF (fun x => x) (layerOf ts ws f) = true) {l : List Int} (h : IsRing ts (numsFrom f 0 ws) (tk ts s).1 (tk ts s).2 l) : ringL ts ws s f = l := by
  have hex : ∃ l, IsRing ts (numsFrom f 0 ws) (tk ts s).1 (tk ts s).2 l := ⟨l, h⟩
  unfold ringL
  rw [dif_pos hex]
  refine ring_same hex.choose_spec h ?_ (nums_nd _ _ _)
  rw [show pick ts (numsFrom f 0 ws) = layerOf ts ws f from pick_nums f [] ts ws hw.symm]
  exact hf
noncomputable def grow (ts : List (Int × Int)) (ws : List V) (fl : FlT) (s f : Int) : FlT := fl ++ ((ringL ts ws s f).filter fun x => !decide (x ∈ fl.map Prod.fst)).map fun x => (x, some (s, f))
noncomputable def inF (ts : List (Int × Int)) (ws : List V) (s : Int) (fl : FlT) : Nat → FlT
  | 0 => fl
  | j + 1 => if ws[s.toNat]? = some (.int (j : Int)) then inF ts ws s fl j else grow ts ws (inF ts ws s fl j) s j
noncomputable def outF (ts : List (Int × Int)) (ws : List V) (k : Int) (tie : Nat) : Nat → FlT
  | 0 => [((tie : Int), none)]
  | a + 1 => match (outF ts ws k tie a)[a]? with
    | some p => inF ts ws p.1 (outF ts ws k tie a) k.toNat
    | none => outF ts ws k tie a
/-- the a-th is free in f -/
def Stp_ (ts : List (Int × Int)) (ws : List V) (k : Int) (tie : Nat) (a : Nat) (f : Int) : Prop := ∃ s o, (outF ts ws k tie a)[a]? = some (s, o) ∧ (0 ≤ f ∧ f < k) ∧ ws[s.toNat]? ≠ some (.int f) ∧ joinB ts ws (s, f) = false
/-- what the search has come to: the first that is free -/
structure Fst (ts : List (Int × Int)) (ws : List V) (k : Int) (tie : Nat) (a : Nat) (x f : Int) (fl : FlT) : Prop where
  fl_ : fl = inF ts ws x (outF ts ws k tie a) f.toNat
  key : ∃ o, (outF ts ws k tie a)[a]? = some (x, o)
  stop : Stp_ ts ws k tie a f
  ahead : ∀ a' f', (a' < a ∨ (a' = a ∧ f' < f)) → ¬ Stp_ ts ws k tie a' f'
theorem Fst.same {ts : List (Int × Int)} {ws : List V} {k : Int} {tie a a' : Nat} {x x' f f' : Int} {fl fl' : FlT} (h : Fst ts ws k tie a x f fl) (h' : Fst ts ws k tie a' x' f' fl') : a = a' ∧ x = x' ∧ f = f' ∧ fl = fl' := by
  have ea : a = a' := by
    rcases Nat.lt_trichotomy a a' with c | c | c
    · exact (h'.ahead a f (.inl c) h.stop).elim
    · exact c
    · exact (h.ahead a' f' (.inl c) h'.stop).elim
  subst ea
  have ef : f = f' := by
    by_cases c : f = f'
    · exact c
    · by_cases c2 : f < f'
      · exact (h'.ahead a f (.inr ⟨rfl, c2⟩) h.stop).elim
      · exact (h.ahead a f' (.inr ⟨rfl, by omega⟩) h'.stop).elim
  subst ef
  obtain ⟨o, e⟩ := h.key
  obtain ⟨o', e'⟩ := h'.key
  rw [e] at e'
  have ex : x = x' := by cases e'; rfl
  subst ex
  exact ⟨rfl, rfl, rfl, h.fl_.trans h'.fl_.symm⟩
/-- the pushes that lead to x -/
inductive Pth (fl : FlT) : Int → List (Int × Int) → Prop where
  | root {x : Int} (h : (x, none) ∈ fl) : Pth fl x []
  | step {x s f : Int} {es : List (Int × Int)} (h : (x, some (s, f)) ∈ fl) (p : Pth fl s es) : Pth fl x (es ++ [(s, f)])
theorem fl_one {fl : FlT} (nd : (fl.map Prod.fst).Nodup) {x : Int} {o o' : Option (Int × Int)} (h : (x, o) ∈ fl) (h' : (x, o') ∈ fl) : o = o' := by
  obtain ⟨i, hi⟩ := List.getElem?_of_mem h
  obtain ⟨j, hj⟩ := List.getElem?_of_mem h'
  have ei : (fl.map Prod.fst)[i]? = some x := by rw [List.getElem?_map, hi]; rfl
  have ej : (fl.map Prod.fst)[j]? = some x := by rw [List.getElem?_map, hj]; rfl
  obtain ⟨li, e1⟩ := List.getElem?_eq_some_iff.mp ei
  obtain ⟨lj, e2⟩ := List.getElem?_eq_some_iff.mp ej
  have := (List.getElem_inj nd).mp (e1.trans e2.symm)
  subst this
  rw [hi] at hj
  cases hj
  rfl
theorem Pth.same {fl : FlT} (nd : (fl.map Prod.fst).Nodup) {x : Int} {es es' : List (Int × Int)} (h : Pth fl x es) (h' : Pth fl x es') : es = es' := by
  induction h generalizing es' with
  | root h =>
    cases h' with
    | root _ => rfl
    | step h2 _ => cases fl_one nd h h2
  | step h p ih =>
    cases h' with
    | root h2 => cases fl_one nd h h2
    | step h2 p2 =>
      cases fl_one nd h h2
      rw [ih p2]
theorem Bfs.lv_same {ts : List (Int × Int)} {ws : List V} {k : Int} {tie : Nat} {fl : FlT} {lv lv' : Nat → Nat} {a a' : Nat} (h : Bfs ts ws k tie fl lv a) (h' : Bfs ts ws k tie fl lv' a') : ∀ i, i < fl.length → lv i = lv' i := by
  intro i
  induction i using Nat.strongRecOn with
  | _ i ih =>
    intro hi
    obtain ⟨x, o, hx⟩ : ∃ x o, fl[i]? = some (x, o) := ⟨fl[i].1, fl[i].2, List.getElem?_eq_getElem hi⟩
    cases o with
    | none => rw [h.root i x hx, h.lv0, h'.lv0]
    | some sf =>
      obtain ⟨j, hj, ⟨o1, e1⟩, l1, _⟩ := h.par i x sf.1 sf.2 hx
      obtain ⟨j', hj', ⟨o2, e2⟩, l2, _⟩ := h'.par i x sf.1 sf.2 hx
      have := h.one e1 e2
      subst this
      rw [l1, l2, ih j hj (by omega)]
end FF
namespace FF
open PySem PySem.Spec PyProof.Rows L2
/-! ### what push_tie tells -/
def Laid_ (ts : List (Int × Int)) (k : Int) (ws : List V) (tie : Nat) (e : Int × Int) (es : List (Int × Int)) (ls : List Int) : Prop :=
  PRow ts ws k (e :: es) ∧ e.1 = (tie : Int) ∧ ls.length = ts.length ∧ (∀ y ∈ ls, 0 ≤ y ∧ y ≤ 121) ∧ LevP ts k ws tie ((e :: es).length : Int) ls ∧
  ∃ (fl : FlT) (lv : Nat → Nat) (a : Nat) (x g : Int) (mid : List (Int × Int)), Fst ts ws k tie a x g fl ∧ Bfs ts ws k tie fl lv a ∧ e :: es = mid ++ [(x, g)] ∧ Pth fl x mid ∧ (∀ (i : Nat) y o, fl[i]? = some (y, o) → hat ls y = lv i) ∧ ∀ y, 0 ≤ y → y < (ts.length : Int) → y ∉ fl.map Prod.fst → hat ls y = ((e :: es).length : Int)
def Full_ (ts : List (Int × Int)) (n k : Int) (ws : List V) (tie : Nat) (ls R : List Int) : Prop := Lot n ls ∧ EndsOf ts R ls ∧ Closed ts ws k R ∧ (tie : Int) ∈ R ∧ ∀ t, t ∈ R ↔ Rch ts ws k (tie : Int) t
def Told (ts : List (Int × Int)) (n k : Int) (ws : List V) (tie : Nat) (H : Hp) (x : Addr) : Prop :=
  (∃ (r c : Addr) (xs : List V) (e : Int × Int) (es : List (Int × Int)) (ls : List Int), H x = some (.tup [.str "laid", .ref r, .ref c]) ∧ H r = some (.tup xs) ∧ Ties H xs (e :: es) ∧ H c = some (.tup (ls.map V.int)) ∧ Laid_ ts k ws tie e es ls) ∨
  ∃ (c : Addr) (ls R : List Int), H x = some (.tup [.str "full", .ref c]) ∧ H c = some (.tup (ls.map V.int)) ∧ Full_ ts n k ws tie ls R
theorem Told.mono {ts : List (Int × Int)} {n k : Int} {ws : List V} {tie : Nat} {H H' : Hp} {x : Addr} (h : Told ts n k ws tie H x) (kk : ∀ q xs, H q = some (.tup xs) → H' q = some (.tup xs)) : Told ts n k ws tie H' x := by
  rcases h with ⟨r, c, xs, e, es, ls, h1, h2, h3, h4, h5⟩ | ⟨c, ls, R, h1, h2, h3⟩
  · exact .inl ⟨r, c, xs, e, es, ls, kk _ _ h1, kk _ _ h2, h3.mono kk, kk _ _ h4, h5⟩
  · exact .inr ⟨c, ls, R, kk _ _ h1, kk _ _ h2, h3⟩
theorem Laid_.same {ts : List (Int × Int)} {k : Int} {ws : List V} {tie : Nat} {e e' : Int × Int} {es es' : List (Int × Int)} {ls ls' : List Int} (h : Laid_ ts k ws tie e es ls) (h' : Laid_ ts k ws tie e' es' ls') : e :: es = e' :: es' ∧ ls = ls' := by
  obtain ⟨_, _, l1, _, _, fl, lv, a, x, g, mid, hF, hB, he, hp, hl, ho⟩ := h
  obtain ⟨_, _, l2, _, _, fl', lv', a', x', g', mid', hF', hB', he', hp', hl', ho'⟩ := h'
  obtain ⟨rfl, rfl, rfl, rfl⟩ := hF.same hF'
  have em := hp.same hB.nd hp'
  have ee : e :: es = e' :: es' := by rw [he, he', em]
  refine ⟨ee, ext_hat (l1.trans l2.symm) fun y y0 y1 => ?_⟩
  by_cases c : y ∈ fl.map Prod.fst
  · obtain ⟨p, hp, rfl⟩ := List.mem_map.mp c
    obtain ⟨i, hi⟩ := List.getElem?_of_mem hp
    rw [hl i p.1 p.2 hi, hl' i p.1 p.2 hi, hB.lv_same hB' i (List.getElem?_eq_some_iff.mp hi).1]
  · rw [ho y y0 (by omega) c, ho' y y0 (by omega) c, ee]
theorem sorted_one : ∀ {as bs : List Int}, as.Pairwise (· < ·) → bs.Pairwise (· < ·) → (∀ x, x ∈ as ↔ x ∈ bs) → as = bs := fun {as bs} ha hb h =>
  List.Perm.eq_of_pairwise (fun a b _ _ h1 h2 => by omega) ha hb ((List.perm_ext_iff_of_nodup (ha.imp fun z => by omega) (hb.imp fun z => by omega)).mpr h)
theorem Full_.same {ts : List (Int × Int)} {n k : Int} {ws : List V} {tie : Nat} {ls ls' R R' : List Int} (h : Full_ ts n k ws tie ls R) (h' : Full_ ts n k ws tie ls' R') : ls = ls' := by
  obtain ⟨h1, h2, _, _, h5⟩ := h
  obtain ⟨g1, g2, _, _, g5⟩ := h'
  refine sorted_one h1.up g1.up fun x => (h2.mem x).trans (Iff.trans ?_ (g2.mem x).symm)
  constructor
  · rintro ⟨t, ht, z⟩
    exact ⟨t, (g5 t).mpr ((h5 t).mp ht), z⟩
  · rintro ⟨t, ht, z⟩
    exact ⟨t, (h5 t).mpr ((g5 t).mp ht), z⟩
theorem Laid_.not_full {ts : List (Int × Int)} {n k : Int} {ws : List V} {tie : Nat} {e : Int × Int} {es : List (Int × Int)} {ls ls' R : List Int} (hw : ws.length = ts.length) (h : Laid_ ts k ws tie e es ls) (h' : Full_ ts n k ws tie ls' R) : False := h'.2.2.1.no_row hw rfl h.1 (by rw [h.2.1]; exact h'.2.2.2.1)
/-- a row of entries, as a thing -/
theorem Ties.rowO {H : Hp} {a : Addr} {xs : List V} {es : List (Int × Int)} (ha : H a = some (.tup xs)) (h : Ties H xs es) : RowO H (.ref a) (some (es.map fun e => some (V.int e.1, V.int e.2))) := by
  refine .yes ha ?_
  unfold Ties at h
  clear ha
  induction h with
  | nil => exact .nil
  | cons a _ ih =>
    obtain ⟨q, rfl, hq⟩ := a
    exact .cons (.yes hq (.int _) (.int _)) ih
theorem rowB_ok {ts : List (Int × Int)} {ws : List V} {k : Int} {tie : Nat} {ls : List Int} {e : Int × Int} {r : List (Int × Int)} (hL : LayK ts k ws) (hp : PRow ts ws k (e :: r)) (he : e.1 = (tie : Int)) (hl : LevP ts k ws tie ((e :: r).length : Int) ls) (h0 : ws[tie]? = some .non) : rowB ts k ws (tie : Int) (some ((e :: r).map fun e => some (V.int e.1, V.int e.2))) = true := by
  obtain ⟨hLK, nd⟩ := hp.lays hL he hl h0
  have e1 : ((e :: r).map fun e => some (V.int e.1, V.int e.2)).map entOf = e :: r := by
    rw [List.map_map]
    exact List.map_id _
  have e2 : (((e :: r).map fun e => some (V.int e.1, V.int e.2)).all (entB ts.length k)) = true := by
    rw [List.all_eq_true]
    intro o ho
    obtain ⟨x, hx, rfl⟩ := List.mem_map.mp ho
    obtain ⟨⟨a0, a1⟩, f0, f1⟩ := hp.bd x hx
    show ((decide (0 ≤ x.1) && decide (x.1 ≤ (ts.length : Int) - 1)) && (decide (0 ≤ x.2) && decide (x.2 ≤ k - 1))) = true
    rw [decide_eq_true a0, decide_eq_true (by omega : x.1 ≤ (ts.length : Int) - 1), decide_eq_true f0, decide_eq_true (by omega : x.2 ≤ k - 1)]
    rfl
  show ((!((e :: r).map fun e => some (V.int e.1, V.int e.2)).isEmpty && (((e :: r).map fun e => some (V.int e.1, V.int e.2)).all (entB ts.length k))) && rowE ts k ws (tie : Int) (((e :: r).map fun e => some (V.int e.1, V.int e.2)).map entOf)) = true
  rw [e1, e2]
  show rowE ts k ws (tie : Int) (e :: r) = true
  unfold rowE
  have n1 : (nub ((e :: r).map Prod.fst)).length = (e :: r).length := by
    rw [nub_of_nd nd, List.length_map]
  have p1 : pushedB ts ws (e :: r) = true := by
    unfold pushedB
    rw [hp.push, List.any_eq_false.mpr fun x hx => by rw [hp.lay x hx]; exact Bool.false_ne_true]
    rfl
  rw [decide_eq_true (p := ((e :: r).map Prod.fst).head? = some (tie : Int)) (by rw [← he]; rfl), decide_eq_true n1, p1, hLK.o]
  rfl
end FF
namespace FF
open PySem PySem.Spec PyProof.Rows L2
/-! ### the data of what push_tie tells -/
def dE (es : List (Int × Int)) : PyData := .tuple (es.map fun e => .tuple [.int e.1, .int e.2])
theorem dE_sh (es : List (Int × Int)) : Sh 2 (dE es) := Sh.tup fun d hd => by
  obtain ⟨e, _, rfl⟩ := List.mem_map.mp hd
  refine (Sh.tup (k := 0) fun d hd => ?_)
  rcases List.mem_cons.mp hd with rfl | hd
  · exact Sh.int
  · rw [List.mem_singleton.mp hd]
    exact Sh.int
theorem Ties.dpA {K : PySem.W.Frag} {H : Hp} {xs : List V} {es : List (Int × Int)} (h : Ties H xs es) : DpAll K H xs (es.map fun e => .tuple [.int e.1, .int e.2]) := by
  unfold Ties at h
  induction h with
  | nil => exact .nil
  | cons a _ ih =>
    obtain ⟨q, rfl, hq⟩ := a
    exact .cons (.tup (sqT_of hq) (.cons (.int _) (.cons (.int _) .nil))) ih
theorem ints_sh (ls : List Int) : Sh 1 (.tuple (ls.map PyData.int)) := Sh.tup fun d hd => by
  obtain ⟨e, _, rfl⟩ := List.mem_map.mp hd
  exact Sh.int
theorem Sh.str {x : Str} (h : (PyData.str x).canLay0 = true := by decide +kernel) : Sh 0 (.str x) := ⟨h, Nat.le_refl _⟩
theorem Told.data {K : PySem.W.Frag} {ts : List (Int × Int)} {n k : Int} {ws : List V} {tie : Nat} {H : Hp} {x y : Addr} (hw : ws.length = ts.length) (h : Told ts n k ws tie H x) (h' : Told ts n k ws tie H y) : ∃ d, Dp K H (.ref x) d ∧ Dp K H (.ref y) d ∧ SeqAt.shaped d = true := by
  rcases h with ⟨r, c, xs, e, es, ls, h1, h2, h3, h4, h5⟩ | ⟨c, ls, R, h1, h2, h3⟩
  · rcases h' with ⟨r', c', xs', e', es', ls', g1, g2, g3, g4, g5⟩ | ⟨c', ls', R', g1, g2, g3⟩
    · obtain ⟨e1, e2⟩ := h5.same g5
      subst e2
      rw [← e1] at g3
      refine ⟨.tuple [.str "laid", dE (e :: es), .tuple (ls.map PyData.int)], .tup (sqT_of h1) (.cons (.str _) (.cons (.tup (sqT_of h2) h3.dpA) (.cons (.tup (sqT_of h4) (dp_ints ls)) .nil))), .tup (sqT_of g1) (.cons (.str _) (.cons (.tup (sqT_of g2) g3.dpA) (.cons (.tup (sqT_of g4) (dp_ints ls)) .nil))), (Sh.tup (k := 2) fun d hd => ?_).shaped⟩
      rcases List.mem_cons.mp hd with rfl | hd
      · exact Sh.up .str (Nat.zero_le _)
      rcases List.mem_cons.mp hd with rfl | hd
      · exact dE_sh _
      · rw [List.mem_singleton.mp hd]
        exact (ints_sh ls).up (by decide)
    · exact (h5.not_full hw g3).elim
  · rcases h' with ⟨r', c', xs', e', es', ls', g1, g2, g3, g4, g5⟩ | ⟨c', ls', R', g1, g2, g3⟩
    · exact (g5.not_full hw h3).elim
    · have e2 := h3.same g3
      subst e2
      refine ⟨.tuple [.str "full", .tuple (ls.map PyData.int)], .tup (sqT_of h1) (.cons (.str _) (.cons (.tup (sqT_of h2) (dp_ints ls)) .nil)), .tup (sqT_of g1) (.cons (.str _) (.cons (.tup (sqT_of g2) (dp_ints ls)) .nil)), (Sh.tup (k := 2) fun d hd => ?_).shaped⟩
      rcases List.mem_cons.mp hd with rfl | hd
      · exact Sh.up .str (Nat.zero_le _)
      · rw [List.mem_singleton.mp hd]
        exact (ints_sh ls).up (by decide)
end FF
namespace FF
open PySem PySem.Spec PyProof.Rows L2
/-! ### strips: each tie brings a point that its forest has not touched -/
theorem fresh_apart {L : List (Int × Int)} {x y : Int} (h : ∀ t ∈ L, t.1 ≠ y ∧ t.2 ≠ y) (hxy : x ≠ y) : foldR (fun x => x) L x ≠ foldR (fun x => x) L y := fun e => by
  have := foldR_fine (g := fun z => if z = y then (1 : Int) else 0) (r := fun x => x) (L := L) (fun a b z => by rw [show a = b from z]) (fun t ht => by
    obtain ⟨h1, h2⟩ := h t ht
    show (if t.1 = y then (1 : Int) else 0) = (if t.2 = y then (1 : Int) else 0)
    rw [if_neg h1, if_neg h2]) x y e
  have this : (if x = y then (1 : Int) else 0) = (if y = y then (1 : Int) else 0) := this
  rw [if_neg hxy, if_pos rfl] at this
  omega
theorem LayK.snocNew {ts : List (Int × Int)} {k : Int} {ws : List V} {x y f : Int} {t : Int × Int} (h : LayK ts k ws) (f0 : 0 ≤ f) (f1 : f < k) (hy : ∀ t ∈ layerOf ts ws f, t.1 ≠ y ∧ t.2 ≠ y) (hxy : x ≠ y) (hab : t = (x, y) ∨ t = (y, x)) : LayK (ts ++ [t]) k (ws ++ [.int f]) := h.snocF f0 f1 (by
  rw [freeB_eq (h.tree f)]
  have := fresh_apart hy hxy
  rcases hab with rfl | rfl
  · rw [decide_eq_false this]
    rfl
  · rw [decide_eq_false this.symm]
    rfl)
theorem layerOf_app {ts us : List (Int × Int)} {ws vs : List V} (h : ts.length = ws.length) (f : Int) : layerOf (ts ++ us) (ws ++ vs) f = layerOf ts ws f ++ layerOf us vs f := by
  unfold layerOf
  rw [List.zip_append h, List.filter_append, List.map_append]
theorem LayK.turn {ts : List (Int × Int)} {k : Int} {ws : List V} (h : LayK ts k ws) (r : Nat) : LayK (ts.drop r ++ ts.take r) k (ws.drop r ++ ws.take r) := by
  have hl := h.len
  refine ⟨by rw [List.length_append, List.length_append, List.length_drop, List.length_drop, List.length_take, List.length_take, hl], fun x hx => ?_, fun f => ?_⟩
  · rcases List.mem_append.mp hx with hx | hx
    · exact h.each x (List.mem_of_mem_drop hx)
    · exact h.each x (List.mem_of_mem_take hx)
  · have e : layerOf ts ws f = layerOf (ts.take r) (ws.take r) f ++ layerOf (ts.drop r) (ws.drop r) f := by
      rw [← layerOf_app (by rw [List.length_take, List.length_take, hl]), List.take_append_drop, List.take_append_drop]
    rw [layerOf_app (by rw [List.length_drop, List.length_drop, hl]), ringlessF_perm List.perm_append_comm, ← e]
    exact h.tree f
def ledF (nm : Int → Int) (t : Int × Int) : Int × Int := (min (nm t.1) (nm t.2), max (nm t.1) (nm t.2))
theorem ledF_or (nm : Int → Int) (a b : Int) : ledF nm (a, b) = (nm a, nm b) ∨ ledF nm (a, b) = (nm b, nm a) := by
  unfold ledF
  dsimp only
  by_cases h : nm a ≤ nm b
  · left
    rw [Int.min_eq_left h, Int.max_eq_right h]
  · right
    rw [Int.min_eq_right (by omega), Int.max_eq_left (by omega)]
/-- the ends of a layer's ties, by their old names, are at most B -/
def Bd (nm : Int → Int) (P B : Int) (L : List (Int × Int)) : Prop := ∀ t ∈ L, ∃ a b, t = ledF nm (a, b) ∧ (0 ≤ a ∧ a ≤ B ∧ a < P) ∧ 0 ≤ b ∧ b ≤ B ∧ b < P
theorem Bd.up {nm : Int → Int} {P B B' : Int} {L : List (Int × Int)} (h : Bd nm P B L) (hB : B ≤ B') : Bd nm P B' L := fun t ht => by
  obtain ⟨a, b, e, ⟨h1, h2, h3⟩, h4, h5, h6⟩ := h t ht
  exact ⟨a, b, e, ⟨h1, by omega, h3⟩, h4, by omega, h6⟩
theorem Bd.fresh {nm : Int → Int} {P B y : Int} {L : List (Int × Int)} (inj : ∀ a b, 0 ≤ a → a < P → 0 ≤ b → b < P → nm a = nm b → a = b) (h : Bd nm P B L) (y0 : 0 ≤ y) (y1 : y < P) (hB : B < y) : ∀ t ∈ L, t.1 ≠ nm y ∧ t.2 ≠ nm y := fun t ht => by
  obtain ⟨a, b, rfl, ⟨h1, h2, h3⟩, h4, h5, h6⟩ := h t ht
  have na : nm a ≠ nm y := fun z => by have := inj a y h1 h3 y0 y1 z; omega
  have nb : nm b ≠ nm y := fun z => by have := inj b y h4 h6 y0 y1 z; omega
  rcases ledF_or nm a b with e | e <;> rw [e]
  · exact ⟨na, nb⟩
  · exact ⟨nb, na⟩
theorem strip_step {nm : Int → Int} {P B x y f : Int} {T : List (Int × Int)} {W : List V} (inj : ∀ a b, 0 ≤ a → a < P → 0 ≤ b → b < P → nm a = nm b → a = b) (hL : LayK T 2 W) (f0 : 0 ≤ f) (f1 : f < 2) (h : Bd nm P B (layerOf T W f)) (hB : B < y) (x0 : 0 ≤ x) (xy : x < y) (y1 : y < P) : LayK (T ++ [ledF nm (x, y)]) 2 (W ++ [.int f]) ∧ Bd nm P y (layerOf (T ++ [ledF nm (x, y)]) (W ++ [.int f]) f) ∧ ∀ g, g ≠ f → layerOf (T ++ [ledF nm (x, y)]) (W ++ [.int f]) g = layerOf T W g := by
  refine ⟨hL.snocNew f0 f1 (h.fresh inj (by omega) y1 hB) (x := nm x) (fun z => by have := inj x y x0 (by omega) (by omega) y1 z; omega) (ledF_or nm x y), ?_, fun g hg => ?_⟩
  · rw [layerOf_snoc hL.len.symm, if_pos rfl]
    intro t ht
    rcases List.mem_append.mp ht with ht | ht
    · exact h.up (by omega) t ht
    · exact ⟨x, y, List.mem_singleton.mp ht, ⟨x0, by omega, by omega⟩, by omega, by omega, y1⟩
  · rw [layerOf_snoc hL.len.symm, if_neg (fun z => hg (V.int.inj z).symm), List.append_nil]
def stT (P : Int) : Nat → List (Int × Int)
  | 0 => []
  | j + 1 => stT P j ++ ([((j : Int), (j : Int) + 1)] ++ if (j : Int) + 2 < P then [((j : Int), (j : Int) + 2)] else [])
def stW (P : Int) : Nat → List V
  | 0 => []
  | j + 1 => stW P j ++ ([.int ((j : Int) % 2)] ++ if (j : Int) + 2 < P then [.int ((j : Int) % 2)] else [])
theorem strip_lay {nm : Int → Int} {P : Int} (inj : ∀ a b, 0 ≤ a → a < P → 0 ≤ b → b < P → nm a = nm b → a = b) : ∀ j : Nat, (j : Int) < P → LayK ((stT P j).map (ledF nm)) 2 (stW P j) ∧ ∀ f, Bd nm P (if (j : Int) % 2 = f then (j : Int) else (j : Int) + 1) (layerOf ((stT P j).map (ledF nm)) (stW P j) f)
  | 0, _ => ⟨LayK.nil, fun f t ht => nomatch ht⟩
  | j + 1, hj => by
    obtain ⟨hL, hB⟩ := strip_lay inj j (by omega)
    have hf := hB ((j : Int) % 2)
    rw [if_pos rfl] at hf
    obtain ⟨s1, s2, s3⟩ := strip_step (y := (j : Int) + 1) (x := (j : Int)) inj hL (by omega) (by omega) hf (by omega) (by omega) (by omega) (by omega)
    have fin : ∀ (T : List (Int × Int)) (W : List V), Bd nm P ((j : Int) + 2) (layerOf T W ((j : Int) % 2)) → (∀ g, g ≠ (j : Int) % 2 → layerOf T W g = layerOf ((stT P j).map (ledF nm)) (stW P j) g) → ∀ f, Bd nm P (if ((j + 1 : Nat) : Int) % 2 = f then ((j + 1 : Nat) : Int) else ((j + 1 : Nat) : Int) + 1) (layerOf T W f) := fun T W h1 h2 f => by
      by_cases c : f = (j : Int) % 2
      · subst c
        exact h1.up (by rw [if_neg (by omega)]; omega)
      · rw [h2 f c]
        refine (hB f).up ?_
        rw [if_neg fun z => c z.symm]
        split <;> omega
    by_cases c : (j : Int) + 2 < P
    · obtain ⟨u1, u2, u3⟩ := strip_step (y := (j : Int) + 2) (x := (j : Int)) inj s1 (by omega) (by omega) s2 (by omega) (by omega) (by omega) c
      have e1 : (stT P (j + 1)).map (ledF nm) = ((stT P j).map (ledF nm) ++ [ledF nm ((j : Int), (j : Int) + 1)]) ++ [ledF nm ((j : Int), (j : Int) + 2)] := by
        rw [stT, if_pos c, List.map_append, List.append_assoc]
        rfl
      have e2 : stW P (j + 1) = (stW P j ++ [.int ((j : Int) % 2)]) ++ [.int ((j : Int) % 2)] := by
        rw [stW, if_pos c, List.append_assoc]
      rw [e1, e2]
      exact ⟨u1, fin _ _ u2 fun g hg => (u3 g hg).trans (s3 g hg)⟩
    · have e1 : (stT P (j + 1)).map (ledF nm) = (stT P j).map (ledF nm) ++ [ledF nm ((j : Int), (j : Int) + 1)] := by
        rw [stT, if_neg c, List.append_nil, List.map_append]
        rfl
      have e2 : stW P (j + 1) = stW P j ++ [.int ((j : Int) % 2)] := by
        rw [stW, if_neg c, List.append_nil]
      rw [e1, e2]
      exact ⟨s1, fin _ _ (s2.up (by omega)) s3⟩
end FF
namespace FF
open PySem PySem.Spec PyProof.Rows L2
/-! ### laying tie after tie -/
theorem row_laid {ts : List (Int × Int)} {ws : List V} {k : Int} : ∀ {es : List (Int × Int)} {e : Int × Int} {r : List (Int × Int)}, es = e :: r → PRow ts ws k es → ∀ x ∈ r, ws[x.1.toNat]? ≠ some .non
  | [], _, _, h0, _ => nomatch h0
  | [e], _, _, h0, _ => by
    cases h0
    exact fun _ z => nomatch z
  | e :: e' :: r, _, _, h0, hp => by
    cases h0
    intro x hx
    rcases List.mem_cons.mp hx with rfl | hx
    · have h := (nums_iff.mp (pushB_parts.mp hp.push).2.1.1).2
      rw [h]
      exact fun z => nomatch z
    · exact row_laid rfl hp.tail x hx
theorem pushL_out : ∀ (es : List (Int × Int)) {ws : List V} {i : Nat}, (∀ e ∈ es, e.1.toNat ≠ i) → (pushL ws es)[i]? = ws[i]?
  | [], _, _, _ => rfl
  | e :: es, ws, i, h => by
    show (pushL (ws.set e.1.toNat (.int e.2)) es)[i]? = _
    rw [pushL_out es fun x hx => h x (List.mem_cons_of_mem _ hx), List.getElem?_set_ne (h e List.mem_cons_self)]
theorem pushL_some : ∀ (es : List (Int × Int)) {ws : List V} {i : Nat}, ws[i]? ≠ some .non → (pushL ws es)[i]? ≠ some .non
  | [], _, _, h => h
  | e :: es, ws, i, h => by
    show (pushL (ws.set e.1.toNat (.int e.2)) es)[i]? ≠ _
    refine pushL_some es ?_
    by_cases c : e.1.toNat = i
    · subst c
      rw [List.getElem?_set_self']
      cases ws[e.1.toNat]? with
      | none => exact fun z => nomatch z
      | some _ => exact fun z => nomatch z
    · rw [List.getElem?_set_ne c]
      exact h
theorem pushL_mem : ∀ (es : List (Int × Int)) {ws : List V} {e : Int × Int}, e ∈ es → (pushL ws es)[e.1.toNat]? ≠ some .non
  | d :: es, ws, e, he => by
    show (pushL (ws.set d.1.toNat (.int d.2)) es)[e.1.toNat]? ≠ _
    rcases List.mem_cons.mp he with rfl | he
    · refine pushL_some es ?_
      rw [List.getElem?_set_self']
      cases ws[e.1.toNat]? with
      | none => exact fun z => nomatch z
      | some _ => exact fun z => nomatch z
    · exact pushL_mem es he
theorem Laid_.step {ts : List (Int × Int)} {k : Int} {ws : List V} {tie : Nat} {e : Int × Int} {es : List (Int × Int)} {ls : List Int} (hL : LayK ts k ws) (h0 : ws[tie]? = some .non) (h : Laid_ ts k ws tie e es ls) :
    LayK ts k (pushL ws (e :: es)) ∧ ∀ i : Nat, (pushL ws (e :: es))[i]? = some .non ↔ ws[i]? = some .non ∧ i ≠ tie := by
  obtain ⟨h1, h2, h3, h4, h5, _⟩ := h
  refine ⟨(h1.lays hL h2 h5 h0).1, fun i => ⟨fun z => ⟨?_, fun c => ?_⟩, fun ⟨z, c⟩ => ?_⟩⟩
  · by_cases c : ws[i]? = some .non
    · exact c
    · exact (pushL_some _ c z).elim
  · have := pushL_mem (e :: es) (ws := ws) (e := e) List.mem_cons_self
    rw [show e.1.toNat = i by omega] at this
    exact this z
  · rw [pushL_out, z]
    intro x hx
    rcases List.mem_cons.mp hx with rfl | hx
    · omega
    · intro q
      have := row_laid rfl h1 x hx
      rw [q] at this
      exact this z
open Classical in
noncomputable def stepW (ts : List (Int × Int)) (n k : Int) (ws : List V) (tie : Nat) : List V ⊕ List Int :=
  if h : ∃ r : List V, ∃ e es ls, Laid_ ts k ws tie e es ls ∧ r = pushL ws (e :: es) then .inl h.choose
  else if h : ∃ ls : List Int, ∃ R, Full_ ts n k ws tie ls R then .inr h.choose else .inl ws
theorem stepW_laid {ts : List (Int × Int)} {n k : Int} {ws : List V} {tie : Nat} {e : Int × Int} {es : List (Int × Int)} {ls : List Int} (h : Laid_ ts k ws tie e es ls) : stepW ts n k ws tie = .inl (pushL ws (e :: es)) := by
  have hx : ∃ r : List V, ∃ e es ls, Laid_ ts k ws tie e es ls ∧ r = pushL ws (e :: es) := ⟨_, e, es, ls, h, rfl⟩
  unfold stepW
  rw [dif_pos hx]
  obtain ⟨e', es', ls', h', e1⟩ := hx.choose_spec
  rw [e1, (h'.same h).1]
theorem stepW_full {ts : List (Int × Int)} {n k : Int} {ws : List V} {tie : Nat} {ls R : List Int} (hw : ws.length = ts.length) (h : Full_ ts n k ws tie ls R) : stepW ts n k ws tie = .inr ls := by
  have hx : ∃ ls : List Int, ∃ R, Full_ ts n k ws tie ls R := ⟨_, _, h⟩
  have hn : ¬ ∃ r : List V, ∃ e es ls, Laid_ ts k ws tie e es ls ∧ r = pushL ws (e :: es) := fun ⟨_, e, es, ls', h', _⟩ => h'.not_full hw h
  unfold stepW
  rw [dif_neg hn, dif_pos hx]
  obtain ⟨R', h'⟩ := hx.choose_spec
  rw [h'.same h]
noncomputable def restF (ts : List (Int × Int)) (n k : Int) : List Nat → List V → List V ⊕ List Int
  | [], ws => .inl ws
  | t :: l, ws => match stepW ts n k ws t with
    | .inl ws' => restF ts n k l ws'
    | .inr ls => .inr ls
theorem restF_laid {ts : List (Int × Int)} {n k : Int} {ws : List V} {t : Nat} {l : List Nat} {e : Int × Int} {es : List (Int × Int)} {ls : List Int} (h : Laid_ ts k ws t e es ls) : restF ts n k (t :: l) ws = restF ts n k l (pushL ws (e :: es)) := by
  show (match stepW ts n k ws t with | .inl ws' => restF ts n k l ws' | .inr ls => .inr ls) = _
  rw [stepW_laid h]
theorem restF_full {ts : List (Int × Int)} {n k : Int} {ws : List V} {t : Nat} {l : List Nat} {ls R : List Int} (hw : ws.length = ts.length) (h : Full_ ts n k ws t ls R) : restF ts n k (t :: l) ws = .inr ls := by
  show (match stepW ts n k ws t with | .inl ws' => restF ts n k l ws' | .inr ls => .inr ls) = _
  rw [stepW_full hw h]
def nonsN (ws : List V) : Nat → List Nat
  | 0 => []
  | j + 1 => nonsN ws j ++ if ws[j]? = some .non then [j] else []
theorem nonsN_mem {ws : List V} : ∀ {j i : Nat}, i ∈ nonsN ws j ↔ i < j ∧ ws[i]? = some .non
  | 0, i => ⟨(fun z => nomatch z), fun z => absurd z.1 (Nat.not_lt_zero _)⟩
  | j + 1, i => by
    show i ∈ nonsN ws j ++ _ ↔ _
    rw [List.mem_append, nonsN_mem]
    constructor
    · rintro (⟨a, b⟩ | h)
      · exact ⟨by omega, b⟩
      · split at h
        · rename_i c
          rw [List.mem_singleton.mp h]
          exact ⟨by omega, c⟩
        · cases h
    · rintro ⟨a, b⟩
      by_cases c : i = j
      · subst c
        rw [if_pos b]
        exact .inr List.mem_cons_self
      · exact .inl ⟨by omega, b⟩
theorem nonsN_nd {ws : List V} : ∀ {j : Nat}, (nonsN ws j).Nodup
  | 0 => List.nodup_nil
  | j + 1 => by
    show (nonsN ws j ++ _).Nodup
    rw [List.nodup_append]
    refine ⟨nonsN_nd, by split <;> simp, fun a ha b hb => ?_⟩
    have := (nonsN_mem.mp ha).1
    split at hb
    · rw [List.mem_singleton.mp hb]
      omega
    · cases hb
theorem nonsN_len {ws : List V} : ∀ {j : Nat}, (nonsN ws j).length ≤ j
  | 0 => Nat.le_refl _
  | j + 1 => by
    show (nonsN ws j ++ _).length ≤ _
    have := nonsN_len (ws := ws) (j := j)
    rw [List.length_append]
    split
    · exact Nat.succ_le_succ this
    · exact Nat.le_succ_of_le this
noncomputable def restW (ts : List (Int × Int)) (n k : Int) (ws : List V) : List V ⊕ List Int := restF ts n k (nonsN ws ws.length) ws
/-- what lay_rest and lay_all tell -/
def RestV (ts : List (Int × Int)) (n k : Int) (ws : List V) (H : Hp) (x : Addr) : Prop :=
  (∃ (c : Addr) (ws' : List V), H x = some (.tup [.str "laid", .ref c]) ∧ H c = some (.tup ws') ∧ restW ts n k ws = .inl ws' ∧ LayK ts k ws' ∧ ∀ y ∈ ws', y ≠ .non) ∨
  ∃ (c : Addr) (ls : List Int), H x = some (.tup [.str "full", .ref c]) ∧ H c = some (.tup (ls.map V.int)) ∧ restW ts n k ws = .inr ls ∧ Lot n ls ∧ (inside ls ts : Int) > k * ((ls.length : Int) - 1)
theorem RestV.mono {ts : List (Int × Int)} {n k : Int} {ws : List V} {H H' : Hp} {x : Addr} (h : RestV ts n k ws H x) (kk : ∀ q xs, H q = some (.tup xs) → H' q = some (.tup xs)) : RestV ts n k ws H' x := by
  rcases h with ⟨c, ws', h1, h2, h3⟩ | ⟨c, ls, h1, h2, h3⟩
  · exact .inl ⟨c, ws', kk _ _ h1, kk _ _ h2, h3⟩
  · exact .inr ⟨c, ls, kk _ _ h1, kk _ _ h2, h3⟩
theorem RestV.data {K : PySem.W.Frag} {ts : List (Int × Int)} {n k : Int} {ws : List V} {H : Hp} {x y : Addr} (h : RestV ts n k ws H x) (h' : RestV ts n k ws H y) : ∃ d, Dp K H (.ref x) d ∧ Dp K H (.ref y) d ∧ SeqAt.shaped d = true := by
  rcases h with ⟨c, ws1, h1, h2, h3, h4, h5⟩ | ⟨c, ls, h1, h2, h3, _⟩
  · rcases h' with ⟨c', ws2, g1, g2, g3, _⟩ | ⟨c', ls', g1, g2, g3, _⟩
    · rw [h3] at g3
      cases g3
      refine ⟨.tuple [.str "laid", .tuple (ws1.map dO)], .tup (sqT_of h1) (.cons (.str _) (.cons (.tup (sqT_of h2) (dp_O h4.isO)) .nil)), .tup (sqT_of g1) (.cons (.str _) (.cons (.tup (sqT_of g2) (dp_O h4.isO)) .nil)), (Sh.tup (k := 2) fun d hd => ?_).shaped⟩
      rcases List.mem_cons.mp hd with rfl | hd
      · exact Sh.up .str (Nat.zero_le _)
      · rw [List.mem_singleton.mp hd]
        exact Sh.up (Sh.tup (k := 0) fun d hd => by
          obtain ⟨x, _, rfl⟩ := List.mem_map.mp hd
          exact sh_O) (by decide)
    · rw [h3] at g3
      cases g3
  · rcases h' with ⟨c', ws2, g1, g2, g3, _⟩ | ⟨c', ls', g1, g2, g3, _⟩
    · rw [h3] at g3
      cases g3
    · rw [h3] at g3
      cases g3
      refine ⟨.tuple [.str "full", .tuple (ls.map PyData.int)], .tup (sqT_of h1) (.cons (.str _) (.cons (.tup (sqT_of h2) (dp_ints ls)) .nil)), .tup (sqT_of g1) (.cons (.str _) (.cons (.tup (sqT_of g2) (dp_ints ls)) .nil)), (Sh.tup (k := 2) fun d hd => ?_).shaped⟩
      rcases List.mem_cons.mp hd with rfl | hd
      · exact Sh.up .str (Nat.zero_le _)
      · rw [List.mem_singleton.mp hd]
        exact (ints_sh ls).up (by decide)
end FF
namespace FF
open PySem PySem.Spec PyProof.Rows L2
/-! ### sorted(set), any number of members -/
section
variable {P : Program} {w : World} {A : Around} {E : Value → Shared → Prop} {s : Shared}
theorem sorted_setB {a : Addr} {S : Int → Bool} {n : Nat} {Q : Value → Shared → Prop} (R : SetR w s.heap a S n) (hh : A.handled = none) (hn0 : n ≤ 1000)
    (hQ : ∀ s' p (c : Nat) (out : Array Value) (ns : List Int), (∀ b o, s.heap.get? b = some o → s'.heap.get? b = some o) → s'.gens = s.gens → s'.os = s.os → s.heap.objs.size ≤ p →
      s'.heap.get? p = some (seqObj "list" out c) → IntsAre out.toList ns → ns.Pairwise (· < ·) → (∀ k, k ∈ ns ↔ S k = true) → ns.length = n → Q (.ref p) s') :
    wpAny (model P w) A (call (.builtin "sorted") [.ref a]) Q E s := by
  obtain ⟨o, es, ep, t, ho, hx, hd, g, nd, hm, hb, hf, hn, hr, hl⟩ := R
  refine Calls.call_function_entry kind_sorted plain_sorted entry_sorted (args_sorted1 _) ?_
  unfold Builtin.«sorted»
  refine wpAny_bind (m := checkCount "sorted" 1 1 _) (wpAny_pure ?_)
  refine wpAny_bind (collect_set (A := A.in1) hh ⟨o, ho, hx.1, hd⟩ hf hb hr hl fun s1 vs kk hz gg oo pm => ?_)
  have vl : vs.length = n := by rw [pm.length_eq, List.length_map, Array.length_toList]; exact hn
  have hI : IntsAre vs (vs.map Builtin.Re.reRawOf) := ints_of vs fun v hv => by
    obtain ⟨e, he, q⟩ := List.mem_map.mp (pm.mem_iff.mp hv)
    obtain ⟨k, tk, e1, _⟩ := g e he
    exact ⟨k, tk, by rw [← q]; exact e1⟩
  have pk : (vs.map Builtin.Re.reRawOf).Perm (es.toList.map keyOf) := by
    have := pm.map Builtin.Re.reRawOf
    rwa [List.map_map] at this
  have big : vs.length ≤ sizeLine := by rw [vl, sizeLine_eq]; omega
  refine wpAny_bind (wpAny_newList ?_ big)
  have at1 : (s1.heap.push (seqObj "list" vs.toArray 0)).get? s1.heap.objs.size = some (seqObj "list" vs.toArray 0) := Heap.get?_push_size _ rfl
  refine wpAny_bind (wpAny_holding (wpAny_call_entry slot_list_sort ⟨_, at1, rfl⟩ entry_list_sort (SrtO.list_sort_ord SrtO.swo_int at1 big (fun h2 => SrtO.ints_sortable hI h2) fun out q1 q2 => ⟨_, rfl, ?_⟩) (args_list_sort _)))
  obtain ⟨k1, k2, k3⟩ := SrtO.ints_out hI q1 q2
  obtain ⟨c, hc⟩ := sortedHeap_at (vs := vs) (out := out.toArray) at1
  have pn : (out.map SrtO.iv).Perm (es.toList.map keyOf) := k2.trans pk
  refine wpAny_pure ⟨_, rfl, hQ _ s1.heap.objs.size c out.toArray _ (fun b u e => ?_) gg oo hz hc k1 (lt_of_le_nodup _ k3 (pn.nodup_iff.mpr nd)) (fun k => by rw [pn.mem_iff, ← hm k]) ?_⟩
  · have q := kk b u e
    have hlt := Heap.lt_size q
    show (sortedHeap (s1.heap.push (seqObj "list" vs.toArray 0)) s1.heap.objs.size vs out.toArray).get? b = some u
    rw [sortedHeap_old (Nat.ne_of_lt hlt) (by rw [size_push']; exact Nat.lt_succ_of_lt hlt)]
    exact Heap.get?_push_of_some _ q
  · rw [pn.length_eq, List.length_map, Array.length_toList]; exact hn
end
def rSortedSetB (w : World) : List V → Hp → VK → Prop := fun vs H Q => ∃ (a : Addr) (S : Int → Bool) (n : Nat), vs = [V.ref a] ∧ H a = some (SetO w a S n) ∧ n ≤ 1000 ∧
  ∀ (ns : List Int) (p : Addr), ns.Pairwise (· < ·) → (∀ k : Int, k ∈ ns ↔ S k = true) → ns.length = n → H p = none → Q (.ref p) (upd H p (.lst (ns.map V.int)))
section
variable {X : Cx}
theorem cr_sortedSetB (hc : X.calm = true) : CallR X (.builtin "sorted") (rSortedSetB X.w) := by
  intro pins s σ H vs us Q I r h
  obtain ⟨a, S, n, rfl, ha, hn0, q⟩ := h
  rw [Vals.ref1 r]
  refine sorted_setB (setO_get I ha) (I.ok.hd hc) hn0 fun s' p c out ns k g o hp hg hi hs hm hl => ?_
  have hlen : (ns.map V.int).length ≤ sizeLine := by rw [List.length_map, hl, sizeLine_eq]; omega
  have hn : H p = none := I.hok.fresh hp
  have J : Inv X pins σ (upd H p (.lst (ns.map V.int))) { s with heap := s'.heap, gens := s'.gens, drawn := s'.drawn, toks := s'.toks } :=
    I.call (ch := []) (Un.laid k hp hn) (I.hok.laid k hp ⟨hlen, out.toList, c, vals_of_ints hi, hg⟩) (by rw [g]; exact I.bare) (fun _ z => nomatch z)
  have e : { s with heap := s'.heap, gens := s'.gens, drawn := s'.drawn, toks := s'.toks } = s' := by
    cases s'
    cases s
    cases o
    rfl
  rw [← e]
  exact ⟨.ref p, _, J, rfl, q ns p hs hm hl hn⟩
end
end FF
namespace FF
open PySem PySem.Spec PyProof.Rows L2
/-! ### every second one of a list -/
def ev2 {α : Type} : List α → List α
  | [] => []
  | [x] => [x]
  | x :: _ :: r => x :: ev2 r
theorem ev2_cons {α : Type} (x : α) : ∀ r : List α, ev2 (x :: r) = x :: ev2 r.tail
  | [] => rfl
  | _ :: _ => rfl
theorem ev2_eq {α : Type} : ∀ xs : List α, ((List.range ((xs.length + 1) / 2)).map fun (k : Nat) => 2 * k).filterMap (xs[·]?) = ev2 xs
  | [] => by simp [ev2]
  | [x] => by simp [ev2, List.range_succ]
  | x :: y :: r => by
    have ih := ev2_eq r
    rw [List.filterMap_map] at ih ⊢
    rw [show ((x :: y :: r).length + 1) / 2 = (r.length + 1) / 2 + 1 by rw [List.length_cons, List.length_cons]; omega, List.range_succ_eq_map, List.filterMap_cons]
    show x :: List.filterMap _ _ = x :: ev2 r
    rw [← ih, List.filterMap_map]
    rfl
theorem od2_eq {α : Type} (xs : List α) : ((List.range (xs.length / 2)).map fun (k : Nat) => 1 + 2 * k).filterMap (xs[·]?) = ev2 xs.tail := by
  cases xs with
  | nil => simp [ev2]
  | cons x r =>
    have ih := ev2_eq r
    rw [List.filterMap_map] at ih ⊢
    show _ = ev2 r
    rw [← ih, List.length_cons]
    congr 1
    funext k
    show (x :: r)[1 + 2 * k]? = r[2 * k]?
    rw [Nat.add_comm]
    rfl
theorem ev2_perm {α : Type} : ∀ xs : List α, (ev2 xs ++ ev2 xs.tail).Perm xs
  | [] => .refl _
  | x :: r => by
    rw [ev2_cons]
    exact List.Perm.cons x (List.perm_append_comm.trans (ev2_perm r))
theorem ev2_len {α : Type} (xs : List α) : (ev2 xs).length + (ev2 xs.tail).length = xs.length := by
  rw [← List.length_append]
  exact (ev2_perm xs).length_eq
theorem Paired_ev2 {α β : Type} {R : α → β → Prop} : ∀ {xs : List α} {ys : List β}, Paired R xs ys → Paired R (ev2 xs) (ev2 ys)
  | _, _, .nil => .nil
  | _, _, .cons h .nil => .cons h .nil
  | _, _, .cons h (.cons _ t) => .cons h (Paired_ev2 t)
theorem Paired_tail {α β : Type} {R : α → β → Prop} {xs : List α} {ys : List β} (h : Paired R xs ys) : Paired R xs.tail ys.tail := by
  cases h with
  | nil => exact .nil
  | cons _ t => exact t
theorem pick_ev (its : List Value) : slicePick its.toArray none none (some 2) = (ev2 its).toArray := by
  rw [← ev2_eq its]
  unfold slicePick sliceBounds sliceRange
  simp only [Option.getD_some, List.size_toArray, show (2 : Int) > 0 by decide, if_true]
  congr 2
  · funext i
    rw [List.getElem?_toArray]
  · by_cases c : (0 : Int) < (its.length : Int)
    · rw [if_pos c, show (((its.length : Int) - 0 + 2 - 1) / 2).toNat = (its.length + 1) / 2 by omega]
      apply List.map_congr_left
      intro k _
      omega
    · rw [if_neg c, show (its.length + 1) / 2 = 0 by omega]
      rfl
theorem pick_od (its : List Value) : slicePick its.toArray (some 1) none (some 2) = (ev2 its.tail).toArray := by
  rw [← od2_eq its]
  unfold slicePick sliceBounds sliceRange
  simp only [Option.getD_some, List.size_toArray, show (2 : Int) > 0 by decide, if_true, show ¬ ((1 : Int) < 0) by decide, if_false]
  congr 2
  · funext i
    rw [List.getElem?_toArray]
  · by_cases c : max (0 : Int) (min 1 (its.length : Int)) < (its.length : Int)
    · rw [if_pos c, show (((its.length : Int) - max 0 (min 1 (its.length : Int)) + 2 - 1) / 2).toNat = its.length / 2 by omega]
      apply List.map_congr_left
      intro k _
      omega
    · rw [if_neg c, show its.length / 2 = 0 by omega]
      rfl
theorem Vals_ev2 : ∀ {xs : List V} {us : List Value}, Vals xs us → Vals (ev2 xs) (ev2 us)
  | _, _, .nil => .nil
  | _, _, .cons h .nil => .cons h .nil
  | _, _, .cons h (.cons _ t) => .cons h (Vals_ev2 t)
theorem Vals_tail {xs : List V} {us : List Value} (h : Vals xs us) : Vals xs.tail us.tail := by
  cases h with
  | nil => exact .nil
  | cons _ t => exact t
def tEv (K : PySem.W.Frag) (te : TE) : TE := fun σ H Q => te σ H fun x H1 => ∃ a xs, x = .ref a ∧ SqL K H1 a xs ∧ ∀ p, H1 p = none → Q (.ref p) (upd H1 p (.lst (ev2 xs)))
def tOd (K : PySem.W.Frag) (te : TE) : TE := fun σ H Q => te σ H fun x H1 => ∃ a xs, x = .ref a ∧ SqL K H1 a xs ∧ ∀ p, H1 p = none → Q (.ref p) (upd H1 p (.lst (ev2 xs.tail)))
section
variable {X : Cx}
theorem pe_ev {K : PySem.W.Frag} {e : Expr} {te : TE} {k : Nat} {p1 p3 pos : Pos} (he : PE X e te) (hK : X.K = K := by rfl) : PE X (.Subscript e (.Slice none none (some (.Constant (.int 2) k p1)) p3) pos) (tEv K te) := by
  subst hK
  refine ⟨fun pins s σ H Q I h => ?_⟩
  refine Subscript_ (thn (he.run pins s σ H _ I h) fun v s1 ⟨x, H1, I1, r1, q1⟩ => ?_)
  obtain ⟨a, xs, ex, hx, q⟩ := q1
  subst ex
  cases r1
  have hst : PO X (some (.Constant (.int 2) k p1)) (tPart (tC (.int 2))) := po_some pe_int
  refine wpAny_Slice (thn (po_none.run pins s1 σ H1 (fun o H2 => o = none ∧ H2 = H1) I1 ⟨rfl, rfl⟩) fun vl s2 ⟨l, H2, I2, pl, el, e2⟩ => ?_)
  subst el e2
  refine thn (po_none.run pins s2 σ H2 (fun o H3 => o = none ∧ H3 = H2) I2 ⟨rfl, rfl⟩) fun vu s3 ⟨u, H3, I3, pu, eu, e3⟩ => ?_
  subst eu e3
  refine thn (hst.run pins s3 σ H3 (fun o H4 => o = some 2 ∧ H4 = H3) I3 ⟨2, rfl, rfl, rfl⟩) fun vs s4 ⟨o, H4, I4, ps, eo, e4⟩ => ?_
  subst eo e4
  have I5 : L2.Inv X pins σ H4 { s4 with heap := s4.heap.push { cls := .type "slice", data := .fields #[vl, vu, vs] } } := I4.kept (t' := s4.toks) fun b ob q => Heap.get?_push_of_some _ q
  obtain ⟨its, r, ht, hz⟩ := I5.list hx
  have hlen := r.length
  show wpAny (model X.prog X.w) X.A (subscriptTail e (.Slice none none (some (.Constant (.int 2) k p1)) p3) (.ref a) (.ref s4.heap.objs.size)) (EP X pins σ Q) X.xe { s4 with heap := s4.heap.push { cls := .type "slice", data := .fields #[vl, vu, vs] } }
  refine tail_any (ops := [.ref a, .ref s4.heap.objs.size]) ht.isList.typeIs (PySem.slot_list_getitem.lookup) ?_ (by with_unfolding_all rfl)
  refine wpAny_getItem_list_slice ht.isList (Heap.IsSliceOf.new _ vl vu vs) pl pu ps (by decide) ?_ (by rw [List.size_toArray]; omega)
  rw [pick_ev]
  refine ⟨.ref _, _, I5.laid (t' := s4.toks) (o := .lst (ev2 xs)) (fun b ob q => Heap.get?_push_of_some _ q) (Nat.le_refl _) ?_, rfl, q _ (I5.hok.fresh (Nat.le_refl _))⟩
  exact ⟨by have := ev2_len xs; omega, _, 0, Vals_ev2 r, Heap.get?_push_size _ rfl⟩
theorem pe_od {K : PySem.W.Frag} {e : Expr} {te : TE} {k k2 : Nat} {p0 p1 p3 pos : Pos} (he : PE X e te) (hK : X.K = K := by rfl) : PE X (.Subscript e (.Slice (some (.Constant (.int 1) k2 p0)) none (some (.Constant (.int 2) k p1)) p3) pos) (tOd K te) := by
  subst hK
  refine ⟨fun pins s σ H Q I h => ?_⟩
  refine Subscript_ (thn (he.run pins s σ H _ I h) fun v s1 ⟨x, H1, I1, r1, q1⟩ => ?_)
  obtain ⟨a, xs, ex, hx, q⟩ := q1
  subst ex
  cases r1
  have hlo : PO X (some (.Constant (.int 1) k2 p0)) (tPart (tC (.int 1))) := po_some pe_int
  have hst : PO X (some (.Constant (.int 2) k p1)) (tPart (tC (.int 2))) := po_some pe_int
  refine wpAny_Slice (thn (hlo.run pins s1 σ H1 (fun o H2 => o = some 1 ∧ H2 = H1) I1 ⟨1, rfl, rfl, rfl⟩) fun vl s2 ⟨l, H2, I2, pl, el, e2⟩ => ?_)
  subst el e2
  refine thn (po_none.run pins s2 σ H2 (fun o H3 => o = none ∧ H3 = H2) I2 ⟨rfl, rfl⟩) fun vu s3 ⟨u, H3, I3, pu, eu, e3⟩ => ?_
  subst eu e3
  refine thn (hst.run pins s3 σ H3 (fun o H4 => o = some 2 ∧ H4 = H3) I3 ⟨2, rfl, rfl, rfl⟩) fun vs s4 ⟨o, H4, I4, ps, eo, e4⟩ => ?_
  subst eo e4
  have I5 : L2.Inv X pins σ H4 { s4 with heap := s4.heap.push { cls := .type "slice", data := .fields #[vl, vu, vs] } } := I4.kept (t' := s4.toks) fun b ob q => Heap.get?_push_of_some _ q
  obtain ⟨its, r, ht, hz⟩ := I5.list hx
  have hlen := r.length
  show wpAny (model X.prog X.w) X.A (subscriptTail e (.Slice (some (.Constant (.int 1) k2 p0)) none (some (.Constant (.int 2) k p1)) p3) (.ref a) (.ref s4.heap.objs.size)) (EP X pins σ Q) X.xe { s4 with heap := s4.heap.push { cls := .type "slice", data := .fields #[vl, vu, vs] } }
  refine tail_any (ops := [.ref a, .ref s4.heap.objs.size]) ht.isList.typeIs (PySem.slot_list_getitem.lookup) ?_ (by with_unfolding_all rfl)
  refine wpAny_getItem_list_slice ht.isList (Heap.IsSliceOf.new _ vl vu vs) pl pu ps (by decide) ?_ (by rw [List.size_toArray]; omega)
  rw [pick_od]
  refine ⟨.ref _, _, I5.laid (t' := s4.toks) (o := .lst (ev2 xs.tail)) (fun b ob q => Heap.get?_push_of_some _ q) (Nat.le_refl _) ?_, rfl, q _ (I5.hok.fresh (Nat.le_refl _))⟩
  exact ⟨by have := ev2_len xs; omega, _, 0, Vals_ev2 (Vals_tail r), Heap.get?_push_size _ rfl⟩
end
end FF
namespace FF
open PySem PySem.Spec PyProof.Rows L2
/-! ### numbers in the order of their first places -/
theorem nub_inj {g : Int → Int} (l : List Int) : (∀ x ∈ l, ∀ y ∈ l, g x = g y → x = y) → nub (l.map g) = (nub l).map g := by
  induction h : l.length generalizing l with
  | zero =>
    intro _
    rw [List.length_eq_zero_iff.mp h]
    rfl
  | succ m ih =>
    intro hg
    have hne : l ≠ [] := fun z => by rw [z] at h; cases h
    obtain ⟨l', a, rfl⟩ : ∃ l' a, l = l' ++ [a] := ⟨_, _, (List.dropLast_concat_getLast hne).symm⟩
    have hl' : l'.length = m := by rw [List.length_append] at h; exact Nat.succ.inj h
    have i1 := ih l' hl' fun x hx y hy => hg x (List.mem_append_left _ hx) y (List.mem_append_left _ hy)
    rw [List.map_append, List.map_cons, List.map_nil, nub_snoc, nub_snoc, i1]
    by_cases c : a ∈ nub l'
    · rw [step_in c, step_in (List.mem_map.mpr ⟨a, c, rfl⟩)]
    · rw [step_out c, step_out fun z => ?_, List.map_append]
      · rfl
      · obtain ⟨y, hy, e⟩ := List.mem_map.mp z
        have := hg y (List.mem_append_left _ ((mem_nub _ _).mp hy)) a (List.mem_append_right _ List.mem_cons_self) e
        exact c (this ▸ hy)
theorem firstAt_nd {fs : List Int} (h : fs.Nodup) : fs.map (fun v => (firstAt fs v : Int)) = upTo fs.length := by
  apply List.ext_getElem
  · rw [List.length_map, upTo_length]
    omega
  intro i h1 h2
  rw [List.getElem_map]
  have hi : i < fs.length := by rw [List.length_map] at h1; exact h1
  have e : firstAt fs fs[i] = i := by
    have hm : fs[i] ∈ fs := List.getElem_mem hi
    have g := firstAt_get hm
    have l := firstAt_lt hm
    rw [List.getElem?_eq_getElem l] at g
    exact (List.getElem_inj h).mp (Option.some.inj g)
  rw [e]
  have := hat_upTo (n := (fs.length : Int)) (x := (i : Int)) (by omega) (by omega)
  rw [hat_get (List.getElem?_eq_getElem h2)] at this
  exact this.symm
def numF (hs : List Int) : List Int := hs.map fun v => (firstAt (nub hs) v : Int)
theorem numF_nub (hs : List Int) : nub (numF hs) = upTo (nub hs).length := by
  unfold numF
  rw [nub_inj hs fun x hx y hy e => (firstAt_inj ((mem_nub _ _).mpr hx) ((mem_nub _ _).mpr hy)).mp (by omega), firstAt_nd (nub_nd hs)]
theorem numF_part (hs : List Int) : partF 0 (numF hs) = true := by
  rw [part_nub0]
  refine decide_eq_true ?_
  rw [numF_nub, upTo_length]
  congr 1
theorem numF_mx {hs : List Int} (h : hs ≠ []) : mx (numF hs) + 1 = (nub hs).length := by
  have hp : 0 < (nub hs).length := by
    cases hs with
    | nil => exact absurd rfl h
    | cons a r => exact List.length_pos_of_mem ((mem_nub _ a).mpr List.mem_cons_self)
  have e : ∀ x, x ∈ numF hs ↔ 0 ≤ x ∧ x < ((nub hs).length : Int) := fun x => by
    rw [← mem_nub, numF_nub, upTo_mem]
  have := mx_is (ns := numF hs) (m := ((nub hs).length : Int) - 1) ((e _).mpr (by omega)) fun y hy => by
    have := (e y).mp hy
    omega
  omega
theorem nub_ker {g r : Int → Int} {n : Int} (hn : 0 ≤ n) (h : ∀ x y, 0 ≤ x → x < n → 0 ≤ y → y < n → (g x = g y ↔ r x = r y)) : (nub ((upTo n).map g)).length = (nub ((upTo n).map r)).length := by
  obtain ⟨m, rfl⟩ : ∃ m : Nat, n = m := ⟨n.toNat, by omega⟩
  rw [nub_mins, nub_mins, List.length_map, List.length_map]
  congr 1
  unfold mins
  refine List.filter_congr fun x hx => ?_
  obtain ⟨x0, x1⟩ := mem_upTo hx
  rw [Bool.eq_iff_iff, least_iff, least_iff]
  constructor
  · intro z y y0 y1 e
    exact z y y0 y1 ((h y x y0 (by omega) x0 x1).mpr e)
  · intro z y y0 y1 e
    exact z y y0 y1 ((h y x y0 (by omega) x0 x1).mp e)
/-! ### the parting around lots -/
def starsF (lots : List (List Int)) : List (Int × Int) := lots.flatMap fun ls => ls.map fun x => (hat ls 0, x)
def aroundR (lots : List (List Int)) : Int → Int := foldR (fun x => x) (starsF lots)
def aroundF (n : Int) (lots : List (List Int)) : List Int := numF ((upTo n).map (aroundR lots))
theorem aroundF_len {n : Int} {lots : List (List Int)} (hn : 0 ≤ n) : ((aroundF n lots).length : Int) = n := by
  unfold aroundF numF
  rw [List.length_map, List.length_map, upTo_length]
  omega
theorem aroundF_ker {n : Int} {lots : List (List Int)} {x y : Int} (x0 : 0 ≤ x) (x1 : x < n) (y0 : 0 ≤ y) (y1 : y < n) : hat (aroundF n lots) x = hat (aroundF n lots) y ↔ aroundR lots x = aroundR lots y := by
  have hl : (((upTo n).map (aroundR lots)).length : Int) = n := by
    rw [List.length_map, upTo_length]
    omega
  unfold aroundF numF
  rw [numbered_ker x0 (by omega) y0 (by omega), hat_map (f := aroundR lots) x0 (by rw [upTo_length]; omega), hat_map (f := aroundR lots) y0 (by rw [upTo_length]; omega), hat_upTo x0 x1, hat_upTo y0 y1]
theorem aroundF_part {n : Int} {lots : List (List Int)} (hn : 0 ≤ n) : partO n (some ((aroundF n lots).map V.int)) = true := by
  show (decide ((((aroundF n lots).map V.int).length : Int) = n) && partV 0 ((aroundF n lots).map V.int)) = true
  rw [List.length_map, decide_eq_true (aroundF_len hn), partV_map, Bool.true_and]
  exact numF_part _
theorem aroundR_lot {lots : List (List Int)} {ls : List Int} (h : ls ∈ lots) {x y : Int} (hx : x ∈ ls) (hy : y ∈ ls) : aroundR lots x = aroundR lots y := by
  have go : ∀ z ∈ ls, aroundR lots (hat ls 0) = aroundR lots z := fun z hz => foldR_tie (r := fun x => x) (ts := starsF lots) (t := (hat ls 0, z)) (List.mem_flatMap.mpr ⟨ls, h, List.mem_map.mpr ⟨z, hz, rfl⟩⟩)
  exact (go x hx).symm.trans (go y hy)
/-! ### tight lots -/
structure TightL (ts : List (Int × Int)) (n k : Int) (ws : List V) (ls : List Int) : Prop where
  lot : Lot n ls
  tight : ∀ f, 0 ≤ f → f < k → inside ls (layerOf ts ws f) + 1 = ls.length
theorem nub_all {l : List Int} (h : (nub l).length = 1) {a b : Int} (ha : a ∈ l) (hb : b ∈ l) : a = b := by
  have ha := (mem_nub l a).mpr ha
  have hb := (mem_nub l b).mpr hb
  match nub l, h, ha, hb with
  | [c], _, ha, hb => rw [List.mem_singleton.mp ha, List.mem_singleton.mp hb]
theorem tight_joined {n : Int} {ls : List Int} {L : List (Int × Int)} (h : ringlessF (fun x => x) L = true) (hl : Lot n ls) (ht : inside ls L + 1 = ls.length) {x y : Int} (hx : x ∈ ls) (hy : y ∈ ls) :
    foldR (fun x => x) (L.filter fun t => decide (t.1 ∈ ls) && decide (t.2 ∈ ls)) x = foldR (fun x => x) (L.filter fun t => decide (t.1 ∈ ls) && decide (t.2 ∈ ls)) y := by
  have c := lot_count (ls := ls) (ringlessF_filter (fun t => decide (t.1 ∈ ls) && decide (t.2 ∈ ls)) h) fun t ht => by
    have := (List.mem_filter.mp ht).2
    rw [Bool.and_eq_true, decide_eq_true_eq, decide_eq_true_eq] at this
    exact this
  rw [List.map_id', nub_of_nd hl.nd] at c
  have ht : (L.filter fun t => decide (t.1 ∈ ls) && decide (t.2 ∈ ls)).length + 1 = ls.length := ht
  exact nub_all (by omega) (List.mem_map.mpr ⟨x, hx, rfl⟩) (List.mem_map.mpr ⟨y, hy, rfl⟩)
/-- in a forest all parts are joined -/
theorem around_count {n : Int} {lots : List (List Int)} {L : List (Int × Int)} (ok : TOk n L) (hn : 0 ≤ n) (h : ringlessF (fun x => x) L = true) (hl : ∀ ls ∈ lots, Lot n ls ∧ inside ls L + 1 = ls.length) :
    ((L.filter fun t => decide (aroundR lots t.1 = aroundR lots t.2)).length : Int) = n - (nub ((upTo n).map (aroundR lots))).length := by
  have hF := ringlessF_filter (fun t => decide (aroundR lots t.1 = aroundR lots t.2)) h
  have c := lot_count (ls := upTo n) hF fun t ht => by
    obtain ⟨o1, o2, o3⟩ := ok t (List.mem_filter.mp ht).1
    exact ⟨upTo_mem.mpr ⟨o1, by omega⟩, upTo_mem.mpr ⟨by omega, o3⟩⟩
  rw [List.map_id', nub_of_nd (upTo_nd n), upTo_length] at c
  rw [nub_ker (r := aroundR lots) hn fun x y _ _ _ _ => ?_] at c
  · omega
  constructor
  · intro e
    exact foldR_fine (r := fun x => x) (g := aroundR lots) (fun a b e => by rw [show a = b from e]) (fun t ht => of_decide_eq_true (List.mem_filter.mp ht).2) x y e
  · intro e
    refine foldR_fine (r := fun x => x) (L := starsF lots) (g := foldR (fun x => x) (L.filter fun t => decide (aroundR lots t.1 = aroundR lots t.2))) (fun a b e => by rw [show a = b from e]) (fun t ht => ?_) x y e
    obtain ⟨ls, hls, ht⟩ := List.mem_flatMap.mp ht
    obtain ⟨z, hz, rfl⟩ := List.mem_map.mp ht
    obtain ⟨hlot, htt⟩ := hl ls hls
    have h0 : hat ls 0 ∈ ls := by
      have := List.length_pos_iff.mpr hlot.ne
      exact hat_mem (by omega) (by omega)
    refine foldR_sub (r := fun x => x) (fun t ht => ?_) _ _ (tight_joined h hlot htt h0 hz)
    obtain ⟨h1, h2⟩ := List.mem_filter.mp ht
    rw [Bool.and_eq_true, decide_eq_true_eq, decide_eq_true_eq] at h2
    exact List.mem_filter.mpr ⟨h1, decide_eq_true (aroundR_lot hls h2.1 h2.2)⟩
theorem count_laid {k : Int} (p : Int × Int → Bool) : ∀ {ts : List (Int × Int)} {ws : List V}, ws.length = ts.length → (∀ x ∈ ws, x = V.non ∨ ∃ f, x = V.int f ∧ 0 ≤ f ∧ f < k) → (((laidT ts ws).filter p).length : Int) = ((upTo k).map fun f => (((layerOf ts ws f).filter p).length : Int)).sum
  | [], [], _, _ => by
    have : ∀ f ∈ upTo k, (fun f => (((layerOf [] [] f).filter p).length : Int)) f = 0 := fun f _ => rfl
    exact (sum_zero _ this).symm
  | t :: ts, x :: ws, hl, hx => by
    have ih := count_laid p (ts := ts) (ws := ws) (Nat.succ.inj hl) fun y hy => hx y (List.mem_cons_of_mem _ hy)
    have e : (fun f => (((layerOf (t :: ts) (x :: ws) f).filter p).length : Int)) = fun f => (((if x = V.int f then [t] else []).filter p).length : Int) + (((layerOf ts ws f).filter p).length : Int) := by
      funext f
      rw [layerOf_cons, List.filter_append, List.length_append, Int.natCast_add]
    rw [e, sum_add, laidT_cons, List.filter_append, List.length_append, Int.natCast_add, ih]
    congr 1
    rcases hx x List.mem_cons_self with rfl | ⟨f, rfl, f0, f1⟩
    · rw [if_pos rfl]
      refine (sum_zero _ fun f _ => ?_).symm
      rw [if_neg (fun z => nomatch z)]
      rfl
    · rw [if_neg (fun z => nomatch z)]
      rw [sum_one (m := f) _ (upTo_nd k) (upTo_mem.mpr ⟨f0, f1⟩) fun y _ hy => ?_]
      · rw [if_pos rfl]
      · rw [if_neg fun z => hy (V.int.inj z).symm]
        rfl
theorem laidN_laidT : ∀ {ts : List (Int × Int)} {ws : List V}, ws.length = ts.length → laidN ws = (laidT ts ws).length
  | [], [], _ => rfl
  | t :: ts, x :: ws, hl => by
    rw [laidN_cons, laidT_cons, List.length_append, laidN_laidT (Nat.succ.inj hl)]
    split <;> rfl
theorem laidT_all {p : Int × Int → Bool} : ∀ {ts : List (Int × Int)} {ws : List V}, ws.length = ts.length → (∀ (i : Nat) t, ts[i]? = some t → ws[i]? = some .non → p t = false) → (laidT ts ws).filter p = ts.filter p
  | [], [], _, _ => rfl
  | t :: ts, x :: ws, hl, h => by
    rw [laidT_cons, List.filter_append, laidT_all (Nat.succ.inj hl) fun i t e1 e2 => h (i + 1) t e1 e2, List.filter_cons]
    by_cases e : x = V.non
    · subst e
      rw [if_pos rfl, h 0 t rfl rfl]
      rfl
    · rw [if_neg e, List.filter_cons]
      split <;> rfl
theorem filter_split (p : Int × Int → Bool) : ∀ l : List (Int × Int), l.length = (l.filter p).length + (l.filter fun t => !p t).length
  | [] => rfl
  | t :: l => by
    rw [List.length_cons, filter_split p l, List.filter_cons, List.filter_cons]
    cases p t with
    | true => simp only [Bool.not_true, if_true, Bool.false_eq_true, if_false, List.length_cons]; omega
    | false => simp only [Bool.not_false, if_true, Bool.false_eq_true, if_false, List.length_cons]; omega
theorem sum_const {c : Int} {g : Int → Int} : ∀ {l : List Int}, (∀ x ∈ l, g x = c) → (l.map g).sum = l.length * c
  | [], _ => by simp
  | x :: l, h => by
    rw [List.map_cons, List.sum_cons, h x List.mem_cons_self, sum_const fun y hy => h y (List.mem_cons_of_mem _ hy), List.length_cons, Int.natCast_add, Int.add_mul, Int.add_comm]
    congr 1
    exact (Int.one_mul c).symm
/-- what is laid meets the bound of the parting around the lots -/
theorem fill_meets {ts : List (Int × Int)} {n k : Int} {ws : List V} {lots : List (List Int)} (hL : LayK ts k ws) (ok : TOk n ts) (hn : 1 ≤ n) (hk : 0 ≤ k) (hl : ∀ ls ∈ lots, TightL ts n k ws ls)
    (hc : ∀ (i : Nat) t, ts[i]? = some t → ws[i]? = some .non → ∃ ls ∈ lots, t.1 ∈ ls ∧ t.2 ∈ ls) : (laidN ws : Int) = between (aroundF n lots) ts + k * (n - (mx (aroundF n lots) + 1)) := by
  have hne : (upTo n).map (aroundR lots) ≠ [] := fun z => by
    have := congrArg List.length z
    rw [List.length_map, upTo_length] at this
    have : n.toNat = 0 := this
    omega
  have em : mx (aroundF n lots) + 1 = (nub ((upTo n).map (aroundR lots))).length := numF_mx hne
  rw [em, laidN_laidT hL.len, filter_split (fun t => decide (aroundR lots t.1 = aroundR lots t.2)) (laidT ts ws), Int.natCast_add, count_laid _ hL.len hL.each]
  rw [sum_const (c := n - (nub ((upTo n).map (aroundR lots))).length) fun f hf => ?_]
  · rw [laidT_all hL.len fun i t h1 h2 => ?_, upTo_length, show ((k.toNat : Nat) : Int) = k by omega, Int.add_comm]
    · congr 1
      unfold between
      congr 2
      refine List.filter_congr fun t ht => ?_
      obtain ⟨o1, o2, o3⟩ := ok t ht
      congr 1
      exact decide_eq_decide.mpr (aroundF_ker o1 (by omega) (by omega) o3).symm
    · obtain ⟨ls, h3, h4, h5⟩ := hc i t h1 h2
      rw [decide_eq_true (aroundR_lot h3 h4 h5)]
      rfl
  · obtain ⟨f0, f1⟩ := upTo_mem.mp hf
    refine around_count (fun t ht => ok t ?_) (by omega) (hL.tree f) fun ls hls => ⟨(hl ls hls).lot, (hl ls hls).tight f f0 f1⟩
    obtain ⟨p, hp, rfl⟩ := List.mem_map.mp ht
    exact (List.of_mem_zip (a := p.1) (b := p.2) (List.mem_filter.mp hp).1).1
/-! ### a lot stays tight -/
theorem laidT_sub : ∀ {ts : List (Int × Int)} {ws ws' : List V}, ws'.length = ws.length → (∀ i : Nat, ws'[i]? = some .non → ws[i]? = some .non) → (laidT ts ws).Sublist (laidT ts ws')
  | [], _, _, _, _ => by
    unfold laidT
    rw [List.zip_nil_left]
    exact List.nil_sublist _
  | t :: ts, [], _, _, _ => by
    unfold laidT
    rw [List.zip_nil_right]
    exact List.nil_sublist _
  | t :: ts, x :: ws, [], hl, _ => by cases hl
  | t :: ts, x :: ws, y :: ws', hl, h => by
    rw [laidT_cons, laidT_cons]
    refine List.Sublist.append ?_ (laidT_sub (Nat.succ.inj hl) fun i => h (i + 1))
    by_cases e : y = V.non
    · have h0 := h 0
      have : x = V.non := Option.some.inj (h0 (by rw [e]; rfl))
      rw [if_pos this]
      exact List.nil_sublist _
    · rw [if_neg e]
      split
      · exact List.nil_sublist _
      · exact .refl _
theorem TightL.stay {ts : List (Int × Int)} {n k : Int} {ws ws' : List V} {ls : List Int} (h : TightL ts n k ws ls) (hk : 0 ≤ k) (hL : LayK ts k ws) (hL' : LayK ts k ws') (hs : ∀ i : Nat, ws'[i]? = some .non → ws[i]? = some .non) : TightL ts n k ws' ls := by
  refine ⟨h.lot, fun f f0 f1 => ?_⟩
  have h1 := (tight_iff hL hk h.lot.nd h.lot.ne).mpr fun f f0 f1 => by have := h.tight f f0 f1; omega
  have hsub : inside ls (laidT ts ws) ≤ inside ls (laidT ts ws') := ((laidT_sub (hL'.len.trans hL.len.symm) hs).filter _).length_le
  have hmost := (sum_most (s := (ls.length : Int) - 1) (g := fun f => (inside ls (layerOf ts ws' f) : Int)) (l := upTo k) fun f _ => by
    have := inside_forest (hL'.tree f) h.lot.nd h.lot.ne
    show (inside ls (layerOf ts ws' f) : Int) ≤ _
    omega).1
  rw [← inside_laid ls hL'.len hL'.each, upTo_length, show ((k.toNat : Nat) : Int) = k by omega] at hmost
  have := (tight_iff hL' hk h.lot.nd h.lot.ne).mp (by omega) f f0 f1
  omega
theorem Full_.tight {ts : List (Int × Int)} {n k : Int} {ws : List V} {tie : Nat} {ls R : List Int} (hL : LayK ts k ws) (h : Full_ ts n k ws tie ls R) : TightL ts n k ws ls ∧ (tk ts (tie : Int)).1 ∈ ls ∧ (tk ts (tie : Int)).2 ∈ ls := by
  obtain ⟨h1, h2, h3, h4, _⟩ := h
  refine ⟨⟨h1, fun f f0 f1 => h3.tree hL.len h2 (fun z => by rw [z] at h4; cases h4) hL.tree f0 f1⟩, (h2.mem _).mpr ⟨_, h4, .inl rfl⟩, (h2.mem _).mpr ⟨_, h4, .inr rfl⟩⟩
end FF
namespace FF
open PySem PySem.Spec PyProof.Rows L2
/-! ### len of a dict, and layings that grow with lots noted -/
def rLenDK : List V → Hp → VK → Prop := fun vs H Q => ∃ (p : Addr) (kvs : List (Key × V)), vs = [V.ref p] ∧ H p = some (.dK kvs) ∧ Q (.int ((kvs.length : Nat) : Int)) H
theorem cr_lenDK {X : Cx} : CallR X (.builtin "len") rLenDK := by
  intro pins s σ H vs us Q I r h
  obtain ⟨p, kvs, rfl, hp, q⟩ := h
  rw [Vals.ref1 r]
  exact d_len I (.inl hp) fun t s2 I2 => ⟨.int ((kvs.length : Nat) : Int), H, I2, ⟨t, rfl⟩, q⟩
noncomputable def fillF (ts : List (Int × Int)) (n k : Int) : List Nat → List V → List (Option (List Int)) → List V × List (Option (List Int))
  | [], ws, lo => (ws, lo)
  | t :: l, ws, lo => match stepW ts n k ws t with
    | .inl ws' => fillF ts n k l ws' lo
    | .inr ls => fillF ts n k l ws (lo.set t (some ls))
theorem fillF_laid {ts : List (Int × Int)} {n k : Int} {ws : List V} {lo : List (Option (List Int))} {t : Nat} {l : List Nat} {e : Int × Int} {es : List (Int × Int)} {ls : List Int} (h : Laid_ ts k ws t e es ls) : fillF ts n k (t :: l) ws lo = fillF ts n k l (pushL ws (e :: es)) lo := by
  show (match stepW ts n k ws t with | .inl ws' => fillF ts n k l ws' lo | .inr ls => fillF ts n k l ws (lo.set t (some ls))) = _
  rw [stepW_laid h]
theorem fillF_full {ts : List (Int × Int)} {n k : Int} {ws : List V} {lo : List (Option (List Int))} {t : Nat} {l : List Nat} {ls R : List Int} (hw : ws.length = ts.length) (h : Full_ ts n k ws t ls R) : fillF ts n k (t :: l) ws lo = fillF ts n k l ws (lo.set t (some ls)) := by
  show (match stepW ts n k ws t with | .inl ws' => fillF ts n k l ws' lo | .inr ls => fillF ts n k l ws (lo.set t (some ls))) = _
  rw [stepW_full hw h]
/-- None or a lot -/
def LoV (H : Hp) (x : V) (o : Option (List Int)) : Prop := match o with
  | none => x = .non
  | some ls => ∃ q, x = .ref q ∧ H q = some (.tup (ls.map V.int))
def LoP (H : Hp) (xs : List V) (lo : List (Option (List Int))) : Prop := Paired (LoV H) xs lo
theorem LoP.mono {H H' : Hp} {xs : List V} {lo : List (Option (List Int))} (h : LoP H xs lo) (k : ∀ q xs, H q = some (.tup xs) → H' q = some (.tup xs)) : LoP H' xs lo := L2.Paired.mapP h fun x o z => by
  cases o with
  | none => exact z
  | some ls =>
    obtain ⟨q, e, z⟩ := z
    exact ⟨q, e, k q _ z⟩
theorem LoP.ke {H H' : Hp} {xs : List V} {lo : List (Option (List Int))} (h : LoP H xs lo) (k : Ke H H') : LoP H' xs lo := h.mono fun _ _ => k.tup
theorem LoP.length {H : Hp} {xs : List V} {lo : List (Option (List Int))} (h : LoP H xs lo) : xs.length = lo.length := Paired.length h
theorem LoP.nones {H : Hp} : ∀ m : Nat, LoP H (List.replicate m .non) (List.replicate m none)
  | 0 => .nil
  | m + 1 => .cons rfl (LoP.nones m)
theorem LoP.set {H : Hp} {x : V} {o : Option (List Int)} (hx : LoV H x o) : ∀ {xs : List V} {lo : List (Option (List Int))} (i : Nat), LoP H xs lo → LoP H (xs.set i x) (lo.set i o)
  | _, _, _, .nil => .nil
  | _, _, 0, .cons _ t => .cons hx t
  | _, _, i + 1, .cons h t => .cons h (LoP.set hx i t)
theorem LoP.get {H : Hp} : ∀ {xs : List V} {lo : List (Option (List Int))} {i : Nat} {x : V}, LoP H xs lo → xs[i]? = some x → ∃ o, lo[i]? = some o ∧ LoV H x o
  | _, _, 0, _, .cons h _, e => by cases e; exact ⟨_, rfl, h⟩
  | _, _, i + 1, _, .cons _ t, e => LoP.get (i := i) t e
/-- the lots among them -/
def lotsOf (lo : List (Option (List Int))) : List (List Int) := lo.filterMap id
theorem lotsOf_snoc (lo : List (Option (List Int))) (o : Option (List Int)) : lotsOf (lo ++ [o]) = lotsOf lo ++ o.toList := by
  unfold lotsOf
  rw [List.filterMap_append]
  cases o <;> rfl
theorem lotsOf_mem {lo : List (Option (List Int))} {ls : List Int} : ls ∈ lotsOf lo ↔ ∃ i : Nat, lo[i]? = some (some ls) := by
  unfold lotsOf
  rw [List.mem_filterMap]
  constructor
  · rintro ⟨o, ho, e⟩
    obtain ⟨i, hi⟩ := List.getElem?_of_mem ho
    have e : o = some ls := e
    exact ⟨i, by rw [hi, e]⟩
  · rintro ⟨i, hi⟩
    exact ⟨_, List.mem_of_getElem? hi, rfl⟩
/-- what stands noted: each left-out tie that was asked has a tight lot with its ends -/
structure FillP (ts : List (Int × Int)) (n k : Int) (ws : List V) (lo : List (Option (List Int))) : Prop where
  lay : LayK ts k ws
  len : lo.length = ts.length
  lot : ∀ (i : Nat) ls, lo[i]? = some (some ls) → ws[i]? = some .non ∧ TightL ts n k ws ls ∧ (tk ts (i : Int)).1 ∈ ls ∧ (tk ts (i : Int)).2 ∈ ls
theorem FillP.step {ts : List (Int × Int)} {n k : Int} {ws : List V} {lo : List (Option (List Int))} {t : Nat} {e : Int × Int} {es : List (Int × Int)} {ls : List Int} (hk : 0 ≤ k) (h : FillP ts n k ws lo) (ht : ws[t]? = some .non) (hlo : lo[t]? = some none) (hl : Laid_ ts k ws t e es ls) : FillP ts n k (pushL ws (e :: es)) lo := by
  obtain ⟨h1, h2⟩ := hl.step h.lay ht
  refine ⟨h1, h.len, fun i ls' hi => ?_⟩
  obtain ⟨a, b, c⟩ := h.lot i ls' hi
  refine ⟨(h2 i).mpr ⟨a, fun z => ?_⟩, b.stay hk h.lay h1 fun j hj => ((h2 j).mp hj).1, c⟩
  rw [z, hlo] at hi
  cases hi
theorem FillP.note {ts : List (Int × Int)} {n k : Int} {ws : List V} {lo : List (Option (List Int))} {t : Nat} {ls R : List Int} (h : FillP ts n k ws lo) (ht : ws[t]? = some .non) (hf : Full_ ts n k ws t ls R) : FillP ts n k ws (lo.set t (some ls)) := by
  refine ⟨h.lay, by rw [List.length_set]; exact h.len, fun i ls' hi => ?_⟩
  by_cases c : t = i
  · subst c
    rw [List.getElem?_set_self'] at hi
    cases e : lo[t]? with
    | none =>
      rw [e] at hi
      cases hi
    | some o =>
      rw [e] at hi
      cases hi
      exact ⟨ht, hf.tight h.lay⟩
  · rw [List.getElem?_set_ne c] at hi
    exact h.lot i ls' hi
/-- what fill_in_order tells -/
structure FillV (ts : List (Int × Int)) (n k : Int) (ord : List Nat) (H : Hp) (u c : Addr) (ws : List V) (xs : List V) (lo : List (Option (List Int))) : Prop where
  hu : H u = some (.tup ws)
  hc : H c = some (.tup xs)
  lots : LoP H xs lo
  is : (ws, lo) = fillF ts n k ord (List.replicate ts.length .non) (List.replicate ts.length none)
  ok : FillP ts n k ws lo
  all : ∀ i ∈ ord, ws[i]? = some .non → ∃ ls, lo[i]? = some (some ls)
noncomputable def fillW (ts : List (Int × Int)) (n k : Int) : List V × List Int :=
  let r := fillF ts n k (List.range ts.length) (List.replicate ts.length .non) (List.replicate ts.length none)
  (r.1, aroundF n (lotsOf r.2))
/-- a laying and a parting whose bound it meets -/
structure FillR (ts : List (Int × Int)) (n k : Int) (ws : List V) (ps : List Int) : Prop where
  lay : LayK ts k ws
  len : (ps.length : Int) = n
  part : partO n (some (ps.map V.int)) = true
  meet : (laidN ws : Int) = between ps ts + k * (n - (mx ps + 1))
theorem fillR_of {ts : List (Int × Int)} {n k : Int} {ws : List V} {lo : List (Option (List Int))} (ok : TOk n ts) (hn : 1 ≤ n) (hk : 0 ≤ k) (h : FillP ts n k ws lo) (all : ∀ i, i < ts.length → ws[i]? = some .non → ∃ ls, lo[i]? = some (some ls)) : FillR ts n k ws (aroundF n (lotsOf lo)) := by
  refine ⟨h.lay, aroundF_len (by omega), aroundF_part (by omega), fill_meets h.lay ok hn hk (fun ls hls => ?_) fun i t hi hw => ?_⟩
  · obtain ⟨i, hi⟩ := lotsOf_mem.mp hls
    exact (h.lot i ls hi).2.1
  · have il := (List.getElem?_eq_some_iff.mp hi).1
    obtain ⟨ls, hls⟩ := all i il hw
    obtain ⟨_, _, h1, h2⟩ := h.lot i ls hls
    have e : tk ts (i : Int) = t := by
      show ts.getD ((i : Int)).toNat (0, 0) = t
      rw [Int.toNat_natCast, List.getD_eq_getElem?_getD, hi]
      rfl
    rw [e] at h1 h2
    exact ⟨ls, lotsOf_mem.mpr ⟨i, hls⟩, h1, h2⟩
def FillD (H : Hp) (x : Addr) (ws : List V) (ps : List Int) : Prop := ∃ u c, H x = some (.tup [.ref u, .ref c]) ∧ H u = some (.tup ws) ∧ H c = some (.tup (ps.map V.int))
theorem FillD.mono {H H' : Hp} {x : Addr} {ws : List V} {ps : List Int} (h : FillD H x ws ps) (kk : ∀ q xs, H q = some (.tup xs) → H' q = some (.tup xs)) : FillD H' x ws ps := by
  obtain ⟨u, c, h1, h2, h3⟩ := h
  exact ⟨u, c, kk _ _ h1, kk _ _ h2, kk _ _ h3⟩
theorem FillD.data {K : PySem.W.Frag} {H : Hp} {x y : Addr} {ws : List V} {ps : List Int} (hO : ∀ z ∈ ws, IsO z) (h : FillD H x ws ps) (h' : FillD H y ws ps) : ∃ d, Dp K H (.ref x) d ∧ Dp K H (.ref y) d ∧ SeqAt.shaped d = true := by
  obtain ⟨u, c, h1, h2, h3⟩ := h
  obtain ⟨u', c', g1, g2, g3⟩ := h'
  refine ⟨.tuple [.tuple (ws.map dO), .tuple (ps.map PyData.int)], .tup (sqT_of h1) (.cons (.tup (sqT_of h2) (dp_O hO)) (.cons (.tup (sqT_of h3) (dp_ints ps)) .nil)), .tup (sqT_of g1) (.cons (.tup (sqT_of g2) (dp_O hO)) (.cons (.tup (sqT_of g3) (dp_ints ps)) .nil)), (Sh.tup (k := 1) fun d hd => ?_).shaped⟩
  rcases List.mem_cons.mp hd with rfl | hd
  · exact Sh.tup (k := 0) fun d hd => by
      obtain ⟨x, _, rfl⟩ := List.mem_map.mp hd
      exact sh_O
  · rw [List.mem_singleton.mp hd]
    exact ints_sh ps
end FF
namespace FF
open PySem PySem.Spec PyProof.Rows L2
/-! ### no laying lays more than the bound of a parting -/
theorem nub_coarse {g r : Int → Int} {n : Int} (hn : 0 ≤ n) (h : ∀ x y, 0 ≤ x → x < n → 0 ≤ y → y < n → r x = r y → g x = g y) : (nub ((upTo n).map g)).length ≤ (nub ((upTo n).map r)).length := by
  obtain ⟨m, rfl⟩ : ∃ m : Nat, n = m := ⟨n.toNat, by omega⟩
  rw [nub_mins, nub_mins, List.length_map, List.length_map]
  have sub : ∀ x ∈ mins g (m : Int), x ∈ mins r (m : Int) := fun x hx => by
    obtain ⟨⟨x0, x1⟩, hl⟩ := mins_mem.mp hx
    refine mins_mem.mpr ⟨⟨x0, x1⟩, least_iff.mpr fun y y0 y1 e => ?_⟩
    exact least_iff.mp hl y y0 y1 (h y x y0 (by omega) x0 x1 e)
  exact nd_le ((mins_up g m).imp fun z => by omega) sub
theorem around_le {n : Int} {g : Int → Int} {L : List (Int × Int)} (ok : TOk n L) (hn : 0 ≤ n) (h : ringlessF (fun x => x) L = true) :
    ((L.filter fun t => decide (g t.1 = g t.2)).length : Int) ≤ n - (nub ((upTo n).map g)).length := by
  have hF := ringlessF_filter (fun t => decide (g t.1 = g t.2)) h
  have c := lot_count (ls := upTo n) hF fun t ht => by
    obtain ⟨o1, o2, o3⟩ := ok t (List.mem_filter.mp ht).1
    exact ⟨upTo_mem.mpr ⟨o1, by omega⟩, upTo_mem.mpr ⟨by omega, o3⟩⟩
  rw [List.map_id', nub_of_nd (upTo_nd n), upTo_length] at c
  have := nub_coarse (g := g) (r := foldR (fun x => x) (L.filter fun t => decide (g t.1 = g t.2))) hn fun x y _ _ _ _ e =>
    foldR_fine (r := fun x => x) (g := g) (fun a b e => by rw [show a = b from e]) (fun t ht => of_decide_eq_true (List.mem_filter.mp ht).2) x y e
  omega
theorem map_hat {ps : List Int} {n : Int} (h : (ps.length : Int) = n) : (upTo n).map (hat ps) = ps := by
  apply List.ext_getElem
  · rw [List.length_map, upTo_length]
    omega
  intro i h1 h2
  rw [List.getElem_map]
  have e := hat_upTo (n := n) (x := (i : Int)) (by omega) (by omega)
  have l : i < (upTo n).length := by rw [List.length_map] at h1; exact h1
  rw [hat_get (List.getElem?_eq_getElem l)] at e
  rw [e]
  exact hat_get (List.getElem?_eq_getElem h2)
theorem part_mx {ps : List Int} (hp : partF 0 ps = true) (hne : ps ≠ []) : mx ps + 1 = (nub ps).length := by
  rw [part_nub0] at hp
  have e := of_decide_eq_true hp
  have hp : 0 < (nub ps).length := by
    cases ps with
    | nil => exact absurd rfl hne
    | cons a r => exact List.length_pos_of_mem ((mem_nub _ a).mpr List.mem_cons_self)
  have e2 : ∀ x, x ∈ ps ↔ 0 ≤ x ∧ x < ((nub ps).length : Int) := fun x => by
    rw [← mem_nub, e, upTo_mem, upTo_length]
    have : ((((nub ps).length : Int)).toNat) = (nub ps).length := Int.toNat_natCast _
    rw [this]
  have := mx_is (ns := ps) (m := ((nub ps).length : Int) - 1) ((e2 _).mpr (by omega)) fun y hy => by
    have := (e2 y).mp hy
    omega
  omega
theorem partO_F {n : Int} {ps : List Int} (h : partO n (some (ps.map V.int)) = true) : partF 0 ps = true := by
  have h : (decide (((ps.map V.int).length : Int) = n) && partV 0 (ps.map V.int)) = true := h
  rw [Bool.and_eq_true, partV_map] at h
  exact h.2
theorem partO_of {n : Int} {ps : List Int} (hl : (ps.length : Int) = n) (h : partF 0 ps = true) : partO n (some (ps.map V.int)) = true := by
  show (decide (((ps.map V.int).length : Int) = n) && partV 0 (ps.map V.int)) = true
  rw [List.length_map, decide_eq_true hl, partV_map, Bool.true_and]
  exact h
theorem laidT_diff {p : Int × Int → Bool} : ∀ {ts : List (Int × Int)} {ws : List V}, ws.length = ts.length → ((laidT ts ws).filter p).length ≤ (ts.filter p).length
  | [], [], _ => Nat.le_refl _
  | t :: ts, x :: ws, hl => by
    have ih := laidT_diff (p := p) (ts := ts) (ws := ws) (Nat.succ.inj hl)
    rw [laidT_cons, List.filter_append, List.length_append, List.filter_cons]
    by_cases e : x = V.non
    · rw [if_pos e]
      split <;> simp only [List.length_cons, List.filter_nil, List.length_nil] <;> omega
    · rw [if_neg e, List.filter_cons]
      split <;> simp only [List.length_cons, List.filter_nil, List.length_nil] <;> omega
/-- no laying lays more than the bound of a parting -/
theorem bound_most {ts : List (Int × Int)} {n k : Int} {ws : List V} {ps : List Int} (hL : LayK ts k ws) (ok : TOk n ts) (hn : 1 ≤ n) (hk : 0 ≤ k) (hl : (ps.length : Int) = n) (hp : partF 0 ps = true) :
    (laidN ws : Int) ≤ between ps ts + k * (n - (mx ps + 1)) := by
  have hne : ps ≠ [] := fun z => by
    rw [z] at hl
    have hl : (0 : Int) = n := hl
    omega
  have em := part_mx hp hne
  rw [laidN_laidT hL.len, filter_split (fun t => decide (hat ps t.1 = hat ps t.2)) (laidT ts ws), Int.natCast_add, count_laid _ hL.len hL.each, em]
  have h1 := (sum_most (s := n - (nub ps).length) (g := fun f => (((layerOf ts ws f).filter fun t => decide (hat ps t.1 = hat ps t.2)).length : Int)) (l := upTo k) fun f _ => by
    have := around_le (g := hat ps) (L := layerOf ts ws f) (fun t ht => by
      obtain ⟨p, hp, rfl⟩ := List.mem_map.mp ht
      exact ok _ (List.of_mem_zip (a := p.1) (b := p.2) (List.mem_filter.mp hp).1).1) (by omega) (hL.tree f)
    rw [map_hat hl] at this
    exact this).1
  rw [upTo_length, show ((k.toNat : Nat) : Int) = k by omega] at h1
  have h2 := laidT_diff (p := fun t => !decide (hat ps t.1 = hat ps t.2)) hL.len (ts := ts)
  have h2 : ((laidT ts ws).filter fun t => !decide (hat ps t.1 = hat ps t.2)).length ≤ between ps ts := h2
  omega
/-- trees let no parting be thin -/
theorem trees_thick {ts : List (Int × Int)} {n k : Int} {ws : List V} {ps : List Int} (hL : LayK ts k ws) (ok : TOk n ts) (hn : 1 ≤ n) (hk : 0 ≤ k) (hall : (laidN ws : Int) = k * (n - 1)) (hl : (ps.length : Int) = n) (hp : partF 0 ps = true) : k * mx ps ≤ between ps ts := by
  have := bound_most hL ok hn hk hl hp
  rw [hall] at this
  have e : k * (n - 1) = k * (n - (mx ps + 1)) + k * mx ps := by
    rw [← Int.mul_add]
    congr 1
    omega
  omega
theorem partF_from : ∀ (n s : Nat), partF (s : Int) ((List.range' s n).map fun (i : Nat) => (i : Int)) = true
  | 0, _ => rfl
  | n + 1, s => by
    rw [List.range'_succ, List.map_cons]
    show ((decide (0 ≤ (s : Int)) && decide ((s : Int) ≤ (s : Int))) && partF (max (s : Int) ((s : Int) + 1)) ((List.range' (s + 1) n).map fun (i : Nat) => (i : Int))) = true
    rw [decide_eq_true (by omega : 0 ≤ (s : Int)), decide_eq_true (Int.le_refl _), show max (s : Int) ((s : Int) + 1) = ((s + 1 : Nat) : Int) by omega, partF_from n (s + 1)]
    rfl
theorem partF_ones (n : Int) : partF 0 (upTo n) = true := by
  unfold upTo
  rw [List.range_eq_range']
  exact partF_from n.toNat 0
theorem mx_ones {n : Int} (hn : 1 ≤ n) : mx (upTo n) = n - 1 :=
  (mx_is (upTo_mem.mpr (by omega)) fun y hy => by have := upTo_mem.mp hy; omega).symm
theorem mx_nn {ps : List Int} (hp : partF 0 ps = true) (hne : ps ≠ []) : 0 ≤ mx ps := by
  have := part_mx hp hne
  have h2 : 0 < (nub ps).length := by
    cases ps with
    | nil => exact absurd rfl hne
    | cons a r => exact List.length_pos_of_mem ((mem_nub _ a).mpr List.mem_cons_self)
  omega
/-- trees as many as can be -/
structure MostR (ts : List (Int × Int)) (n k : Int) (ws : List V) (ps : List Int) : Prop where
  k0 : 0 ≤ k
  lay : LayK ts k ws
  all : (laidN ws : Int) = k * (n - 1)
  len : (ps.length : Int) = n
  part : partF 0 ps = true
  two : 1 ≤ mx ps
  thin : (between ps ts : Int) < (k + 1) * mx ps
theorem MostR.ge {ts : List (Int × Int)} {n k k' : Int} {ws ws' : List V} {ps : List Int} (h : MostR ts n k ws ps) (ok : TOk n ts) (hn : 1 ≤ n) (hk : 0 ≤ k') (hL : LayK ts k' ws') (hall : (laidN ws' : Int) = k' * (n - 1)) : k' ≤ k := by
  have a := trees_thick hL ok hn hk hall h.len h.part
  have b := h.thin
  have c := h.two
  by_cases z : k' ≤ k
  · exact z
  · have : (k + 1) * mx ps ≤ k' * mx ps := Int.mul_le_mul_of_nonneg_right (by omega) (by omega)
    omega
theorem MostR.same {ts : List (Int × Int)} {n k k' : Int} {ws ws' : List V} {ps ps' : List Int} (h : MostR ts n k ws ps) (h' : MostR ts n k' ws' ps') (ok : TOk n ts) (hn : 1 ≤ n) : k = k' := by
  have a := h.ge ok hn h'.k0 h'.lay h'.all
  have b := h'.ge ok hn h.k0 h.lay h.all
  omega
theorem fdiv_lt {a b : Int} (hb : 0 < b) : a < (a / b + 1) * b := by
  have := Int.lt_ediv_add_one_mul_self a hb
  exact this
theorem laid_most {ts : List (Int × Int)} {n k : Int} {ws : List V} (hL : LayK ts k ws) (ok : TOk n ts) (hn : 1 ≤ n) (hk : 0 ≤ k) : (laidN ws : Int) ≤ k * (n - 1) := by
  have e : laidT ts ws = (laidT ts ws).filter fun _ => true := (List.filter_eq_self.mpr fun _ _ => rfl).symm
  rw [laidN_laidT hL.len, e, count_laid _ hL.len hL.each]
  have h1 := (sum_most (s := n - 1) (g := fun f => (((layerOf ts ws f).filter fun _ => true).length : Int)) (l := upTo k) fun f _ => by
    rw [List.filter_eq_self.mpr fun _ _ => rfl]
    have := lot_count_le (ls := upTo n) (hL.tree f) (fun t ht => by
      obtain ⟨p, hp, rfl⟩ := List.mem_map.mp ht
      obtain ⟨o1, o2, o3⟩ := ok _ (List.of_mem_zip (a := p.1) (b := p.2) (List.mem_filter.mp hp).1).1
      exact ⟨upTo_mem.mpr ⟨o1, by omega⟩, upTo_mem.mpr ⟨by omega, o3⟩⟩) (upTo_nd n) (fun z => by
        have := congrArg List.length z
        rw [upTo_length] at this
        have : n.toNat = 0 := this
        omega)
    rw [upTo_length] at this
    omega).1
  rw [upTo_length, show ((k.toNat : Nat) : Int) = k by omega] at h1
  exact h1
end FF
namespace FF
open PySem PySem.Spec PyProof.Rows L2
/-! ### min of a list -/
theorem minK {X : Cx} {K : PySem.W.Frag} (hc : X.calm = true) (h : X.K = K := by rfl) : CallR X (.builtin "min") (rMin K) := h ▸ cr_min hc
/-! ### all partings -/
def mxm (ps : List Int) : Int := ps.foldl max (-1)
def partsF : Nat → List (List Int)
  | 0 => [[]]
  | k + 1 => (partsF k).flatMap fun ps => (upTo (mxm ps + 2)).map fun i => ps ++ [i]
theorem partF_app : ∀ (ps : List Int) (m i : Int), partF m (ps ++ [i]) = (partF m ps && (decide (0 ≤ i) && decide (i ≤ ps.foldl (fun m x => max m (x + 1)) m)))
  | [], m, i => by
    show ((decide (0 ≤ i) && decide (i ≤ m)) && true) = (true && (decide (0 ≤ i) && decide (i ≤ m)))
    rw [Bool.and_true, Bool.true_and]
  | x :: ps, m, i => by
    show ((decide (0 ≤ x) && decide (x ≤ m)) && partF (max m (x + 1)) (ps ++ [i])) = (((decide (0 ≤ x) && decide (x ≤ m)) && partF (max m (x + 1)) ps) && _)
    rw [partF_app ps, ← Bool.and_assoc]
    rfl
theorem fold_mxm : ∀ (ps : List Int) (m : Int), ps.foldl (fun m x => max m (x + 1)) (m + 1) = ps.foldl max m + 1
  | [], _ => rfl
  | x :: ps, m => by
    rw [List.foldl_cons, List.foldl_cons, show max (m + 1) (x + 1) = max m x + 1 by omega]
    exact fold_mxm ps _
theorem partF_snoc (ps : List Int) (i : Int) : partF 0 (ps ++ [i]) = (partF 0 ps && (decide (0 ≤ i) && decide (i < mxm ps + 2))) := by
  rw [partF_app]
  have e := fold_mxm ps (-1)
  rw [show ((-1 : Int) + 1) = 0 by decide] at e
  rw [e]
  congr 2
  exact decide_eq_decide.mpr (by show i ≤ mxm ps + 1 ↔ _; omega)
theorem partsF_mem : ∀ (n : Nat) (ps : List Int), ps ∈ partsF n ↔ ps.length = n ∧ partF 0 ps = true
  | 0, ps => by
    show ps ∈ [[]] ↔ _
    rw [List.mem_singleton]
    constructor
    · rintro rfl
      exact ⟨rfl, rfl⟩
    · exact fun h => List.length_eq_zero_iff.mp h.1
  | n + 1, ps => by
    show ps ∈ (partsF n).flatMap (fun ps => (upTo (mxm ps + 2)).map fun i => ps ++ [i]) ↔ _
    rw [List.mem_flatMap]
    constructor
    · rintro ⟨qs, hq, hp⟩
      obtain ⟨i, hi, rfl⟩ := List.mem_map.mp hp
      obtain ⟨h1, h2⟩ := (partsF_mem n qs).mp hq
      obtain ⟨i0, i1⟩ := upTo_mem.mp hi
      refine ⟨by rw [List.length_append, h1]; rfl, ?_⟩
      rw [partF_snoc, h2, decide_eq_true i0, decide_eq_true i1]
      rfl
    · rintro ⟨h1, h2⟩
      have hne : ps ≠ [] := fun z => by rw [z] at h1; cases h1
      have e := (List.dropLast_concat_getLast hne).symm
      rw [e, partF_snoc, Bool.and_eq_true, Bool.and_eq_true, decide_eq_true_eq, decide_eq_true_eq] at h2
      exact ⟨ps.dropLast, (partsF_mem n _).mpr ⟨by rw [List.length_dropLast, h1]; rfl, h2.1⟩, List.mem_map.mpr ⟨_, upTo_mem.mpr ⟨h2.2.1, h2.2.2⟩, e.symm⟩⟩
theorem partsF_few : ∀ n : Nat, n ≤ 7 → (partsF n).length ≤ 1000 := fun n hn => by
  have : ∀ n : Fin 8, (partsF n.val).length ≤ 1000 := by decide +kernel
  exact this ⟨n, by omega⟩
theorem mxm_is {ps : List Int} {m : Int} (h : m ∈ (-1 :: ps)) (hx : ∀ y, y ∈ (-1 :: ps) → y ≤ m) : m = mxm ps := by
  have := mx_is h hx
  exact this
theorem mx_mxm {ps : List Int} (h : ps ≠ []) (h0 : ∀ x ∈ ps, 0 ≤ x) : mx ps = mxm ps := by
  cases ps with
  | nil => exact absurd rfl h
  | cons x r =>
    show r.foldl max x = r.foldl max (max (-1) x)
    rw [show max (-1) x = x by have := h0 x List.mem_cons_self; omega]
theorem partF_nn {ps : List Int} (h : partF 0 ps = true) : ∀ x ∈ ps, 0 ≤ x := by
  rw [part_nub0] at h
  have e := of_decide_eq_true h
  intro x hx
  have hx := (mem_nub ps x).mpr hx
  rw [e] at hx
  exact (upTo_mem.mp hx).1
theorem mxm_le {ps : List Int} (h : partF 0 ps = true) : mxm ps < ps.length ∧ -1 ≤ mxm ps := by
  cases ps with
  | nil => exact ⟨by decide, by decide⟩
  | cons x r =>
    have h1 := part_mx h (List.cons_ne_nil _ _)
    rw [mx_mxm (List.cons_ne_nil _ _) (partF_nn h)] at h1
    have := nub_length (x :: r)
    omega
end FF
namespace FF
open PySem PySem.Spec PyProof.Rows L2
/-! ### as few forests as do -/
def askedF (ts : List (Int × Int)) (ls : List Int) : Int := -(-(inside ls ts : Int) / ((ls.length : Int) - 1))
theorem asked_bounds {a b : Int} (hb : 0 < b) : (-(-a / b) - 1) * b < a ∧ a ≤ -(-a / b) * b := by
  have h1 := Int.ediv_mul_le (-a) (b := b) (by omega)
  have h2 := Int.lt_ediv_add_one_mul_self (-a) hb
  have e1 : -(-a / b) * b = -(-a / b * b) := Int.neg_mul _ _
  have e2 : (-(-a / b) - 1) * b = -((-a / b + 1) * b) := by
    rw [show -(-a / b) - 1 = -(-a / b + 1) by omega, Int.neg_mul]
  omega
noncomputable def fewStep (ts : List (Int × Int)) (n : Int) (s : Int × List V × Option (List Int)) (t : Nat) : Int × List V × Option (List Int) :=
  match stepW ts n s.1 s.2.1 t with
  | .inl ws' => (s.1, ws', s.2.2)
  | .inr ls => match stepW ts n (askedF ts ls) s.2.1 t with
    | .inl ws' => (askedF ts ls, ws', some ls)
    | .inr _ => s
noncomputable def fewW (ts : List (Int × Int)) (n : Int) : Nat → Int × List V × Option (List Int)
  | 0 => (0, List.replicate ts.length .non, none)
  | i + 1 => fewStep ts n (fewW ts n i) i
/-- a number of forests, a whole laying, and a lot that is full for one less -/
structure FewR (ts : List (Int × Int)) (n k : Int) (ws : List V) (lo : Option (List Int)) : Prop where
  k0 : 0 ≤ k
  k1 : k ≤ ts.length
  lay : LayK ts k ws
  all : ∀ x ∈ ws, x ≠ V.non
  none_ : k = 0 ↔ lo = none
  full : ∀ ls, lo = some ls → Lot n ls ∧ (inside ls ts : Int) > (k - 1) * ((ls.length : Int) - 1)
theorem lot_two {n : Int} {ls : List Int} {ts : List (Int × Int)} (ok : TOk n ts) (h : Lot n ls) {c : Int} (hc : 0 ≤ c) (hi : (inside ls ts : Int) > c * ((ls.length : Int) - 1)) : 2 ≤ ls.length := by
  have hne := List.length_pos_iff.mpr h.ne
  by_cases z : ls.length = 1
  · obtain ⟨y, rfl⟩ := List.length_eq_one_iff.mp z
    rw [inside_one ok] at hi
    have hi : (((0 : Nat) : Int)) > c * (((1 : Nat) : Int) - 1) := hi
    rw [show c * (((1 : Nat) : Int) - 1) = 0 by simp] at hi
    omega
  · omega
theorem FewR.le {ts ts' : List (Int × Int)} {n k k' : Int} {ws ws' : List V} {lo lo' : Option (List Int)} (h : FewR ts n k ws lo) (h' : FewR ts' n k' ws' lo') (ok : TOk n ts) {d : Nat} (hd : d ≤ 1) (hin : ∀ ls, Lot n ls → inside ls ts ≤ inside ls ts' + d) : k ≤ k' + d := by
  by_cases z : k = 0
  · have := h'.k0
    omega
  · have h0 := h.k0
    have h0' := h'.k0
    cases e : lo with
    | none => exact absurd (h.none_.mpr e) z
    | some ls =>
      obtain ⟨hl, hf⟩ := h.full ls e
      have h2 := lot_two ok hl (by omega) hf
      have h3 := not_full h'.lay h0' h'.all hl.nd hl.ne
      have h4 := hin ls hl
      by_cases c : k ≤ k' + d
      · exact c
      · have h5 : (k' + d) * ((ls.length : Int) - 1) ≤ (k - 1) * ((ls.length : Int) - 1) := Int.mul_le_mul_of_nonneg_right (by omega) (by omega)
        rw [Int.add_mul] at h5
        have h6 : (d : Int) * 1 ≤ (d : Int) * ((ls.length : Int) - 1) := Int.mul_le_mul_of_nonneg_left (by omega) (by omega)
        omega
theorem FewR.same {ts : List (Int × Int)} {n k k' : Int} {ws ws' : List V} {lo lo' : Option (List Int)} (h : FewR ts n k ws lo) (h' : FewR ts n k' ws' lo') (ok : TOk n ts) : k = k' := by
  have a := h.le h' ok (Nat.zero_le 1) fun ls _ => Nat.le_refl _
  have b := h'.le h ok (Nat.zero_le 1) fun ls _ => Nat.le_refl _
  omega
/-- what fewest_forests tells -/
def FewD (H : Hp) (x : Addr) (k : Int) (ws : List V) (lo : Option (List Int)) : Prop := ∃ u lv, H x = some (.tup [.int k, .ref u, lv]) ∧ H u = some (.tup ws) ∧ LoV H lv lo
theorem LoV.mono {H H' : Hp} {x : V} {o : Option (List Int)} (h : LoV H x o) (k : ∀ q xs, H q = some (.tup xs) → H' q = some (.tup xs)) : LoV H' x o := by
  cases o with
  | none => exact h
  | some ls =>
    obtain ⟨q, e, z⟩ := h
    exact ⟨q, e, k q _ z⟩
theorem FewD.mono {H H' : Hp} {x : Addr} {k : Int} {ws : List V} {lo : Option (List Int)} (h : FewD H x k ws lo) (kk : ∀ q xs, H q = some (.tup xs) → H' q = some (.tup xs)) : FewD H' x k ws lo := by
  obtain ⟨u, lv, h1, h2, h3⟩ := h
  exact ⟨u, lv, kk _ _ h1, kk _ _ h2, h3.mono kk⟩
/-- one tie less -/
theorem erase_count {α : Type} (p : α → Bool) : ∀ (l : List α) (i : Nat), ((l.eraseIdx i).filter p).length ≤ (l.filter p).length ∧ (l.filter p).length ≤ ((l.eraseIdx i).filter p).length + 1
  | [], _ => ⟨Nat.le_refl _, Nat.le_succ _⟩
  | x :: l, 0 => by
    rw [List.eraseIdx_cons_zero, List.filter_cons]
    split <;> (try simp only [List.length_cons]) <;> omega
  | x :: l, i + 1 => by
    obtain ⟨a, b⟩ := erase_count p l i
    rw [List.eraseIdx_cons_succ, List.filter_cons, List.filter_cons]
    split <;> (try simp only [List.length_cons]) <;> omega
theorem inside_erase (ls : List Int) (ts : List (Int × Int)) (i : Nat) : inside ls (ts.eraseIdx i) ≤ inside ls ts ∧ inside ls ts ≤ inside ls (ts.eraseIdx i) + 1 := erase_count _ ts i
theorem between_erase (ps : List Int) (ts : List (Int × Int)) (i : Nat) : between ps (ts.eraseIdx i) ≤ between ps ts ∧ between ps ts ≤ between ps (ts.eraseIdx i) + 1 := erase_count _ ts i
theorem FillR.most {ts ts' : List (Int × Int)} {n k : Int} {ws ws' : List V} {ps ps' : List Int} (h : FillR ts n k ws ps) (h' : FillR ts' n k ws' ps') (ok : TOk n ts) (hn : 1 ≤ n) (hk : 0 ≤ k) {d : Nat} (hb : ∀ ps, between ps ts ≤ between ps ts' + d) : laidN ws ≤ laidN ws' + d := by
  have a := bound_most h.lay ok hn hk h'.len (partO_F h'.part)
  have b := h'.meet
  have c := hb ps'
  omega
theorem MostR.near {ts ts' : List (Int × Int)} {n k k' : Int} {ws ws' : List V} {ps ps' : List Int} (h : MostR ts n k ws ps) (h' : MostR ts' n k' ws' ps') (ok : TOk n ts) (hn : 1 ≤ n) {d : Nat} (hd : d ≤ 1) (hb : ∀ ps, between ps ts ≤ between ps ts' + d) : k ≤ k' + d := by
  have a := trees_thick h.lay ok hn h.k0 h.all h'.len h'.part
  have b := h'.thin
  have c := h'.two
  have e := hb ps'
  by_cases z : k ≤ k' + d
  · exact z
  · have h5 : (k' + 1 + d) * mx ps' ≤ k * mx ps' := Int.mul_le_mul_of_nonneg_right (by omega) (by omega)
    rw [Int.add_mul] at h5
    have h6 : (d : Int) * 1 ≤ (d : Int) * mx ps' := Int.mul_le_mul_of_nonneg_left (by omega) (by omega)
    omega
end FF
namespace FF
open PySem PySem.Spec PyProof.Rows L2
/-! ### an empty tuple times an int -/
theorem tuple_mulWE (l : Addr) (items : Array Value) (n : Nat) (dd : Option Addr) (sl : Array (Option Value)) (k : Int) (u : Tok) (k0 : 0 ≤ k) (k1 : k ≤ 1000) (he : items.isEmpty = true) :
    Meets (Builtin.«tuple.__mul__» ⟨[.ref l, .int k u], []⟩) (fun _ R s => s.heap.get? l = some { cls := .type "tuple", dict := dd, data := .seq items n, slots := sl } ∧ R (.ok (.ret (Value.ref l))) s) :=
  .of_wp fun prog w A R s h => by
    obtain ⟨hp, g, d, tk, os⟩ := s
    obtain ⟨hl, h⟩ := h
    have f1 := AutoSeq1.idx_int
    have c0 : (decide (k < -(2 ^ 63)) || decide (k ≥ 2 ^ 63)) = false := by
      rw [decide_eq_false (by omega), decide_eq_false (by omega)]
      rfl
    have c1 : (items.isEmpty || k == 1) = true := by rw [he]; rfl
    wp_walk using AutoSeq1.wpAny_loadPart' hl
    repeat (first
      | (refine wpAny_ite_false (decide_eq_false (by rw [c0]; exact Bool.false_ne_true)) ?_; wp_walk using AutoSeq1.wpAny_loadPart' hl)
      | (refine wpAny_ite_true (decide_eq_true c1) ?_; wp_walk using AutoSeq1.wpAny_loadPart' hl))
    exact ⟨_, rfl, h⟩
def rRepE (K : PySem.W.Frag) : R2 := fun x y H Q => ∃ l k xs, x = .ref l ∧ y = .int k ∧ H l = some (.tup xs) ∧ 0 ≤ k ∧ k ≤ 1000 ∧ xs.length ≤ 1000 ∧ ∀ p H', Ke H H' → H' p = some (.tup (List.replicate k.toNat xs).flatten) → Q (.ref p) H'
theorem flat_nils {α : Type} : ∀ k : Nat, (List.replicate k ([] : List α)).flatten = []
  | 0 => rfl
  | k + 1 => by rw [List.replicate_succ, List.flatten_cons, flat_nils k]; rfl
section
variable {X : Cx}
theorem repE {K : PySem.W.Frag} (h : X.K = K := by rfl) : OpR X (binaryOp .Mult) (rRepE K) := by
  intro pins s σ H x y v u Q I rx ry hq
  by_cases hne : ∃ l k, x = .ref l ∧ y = .int k ∧ H l = some (.tup []) ∧ 0 ≤ k ∧ k ≤ 1000
  · obtain ⟨l, k, e1, e2, hT, h1, h2⟩ := hne
    obtain ⟨l', k', xs, e1', e2', hT', _, _, _, q⟩ := hq
    subst e1 e2
    cases e1'
    cases e2'
    rw [hT] at hT'
    cases hT'
    cases rx
    obtain ⟨t, rfl⟩ := ry
    obtain ⟨its, r, ⟨⟨cls, dd, data, sl⟩, ho, hc, n, hd⟩, hs⟩ := I.tuple (sqT_of hT)
    simp only at hc hd
    subst hc hd
    have hi : its.toArray.isEmpty = true := by
      have hle := r.length
      cases its with
      | nil => rfl
      | cons a b => cases hle
    refine wpAny_binaryOp_repeat_ref (T := "tuple") (U := "int") (by decide) ⟨_, ho, rfl⟩ (fun s' => typeIs_int s' k t) noFill_tuple_mul F.fills_int_mul F.slot_int_rmul repeat_tuple F.slot_int_index.lookup
      (call_meets F.slot_int_rmul (typeIs_int s k t) F.entry_int_rmul (F.args_int_rmul_2 _ _) (int_rmul_tuple k t l its.toArray n dd sl)
        ⟨ho, rfl, ⟨_, ho, rfl⟩, call_meets F.slot_tuple_mul ⟨_, ho, rfl⟩ F.entry_tuple_mul (F.args_tuple_mul_2 _ _) (tuple_mulWE l its.toArray n dd sl k t h1 h2 hi) ⟨ho, ?_⟩⟩)
    refine ⟨.ref l, H, I, rfl, q l H .refl ?_⟩
    rw [hT, flat_nils]
  · obtain ⟨l, k, xs, e1, e2, hT, h1, h2, hz, q⟩ := hq
    refine repU (h := h) pins s σ H x y v u Q I rx ry ⟨l, k, xs, e1, e2, hT, fun z => ?_, h1, h2, hz, q⟩
    subst z
    exact hne ⟨l, k, e1, e2, hT, h1, h2⟩
end
/-! ### whether no lot is full, by all lots -/
def canF (n : Nat) (ts : List (Int × Int)) (k : Int) : Bool := ((lotsF n).filter fun l => !l.isEmpty).all fun l => decide ((inside l ts : Int) ≤ k * ((l.length : Int) - 1))
theorem canF_iff {n : Nat} {ts : List (Int × Int)} {k : Int} : canF n ts k = true ↔ ∀ ls, Lot (n : Int) ls → (inside ls ts : Int) ≤ k * ((ls.length : Int) - 1) := by
  unfold canF
  rw [List.all_eq_true]
  constructor
  · intro h ls hL
    refine of_decide_eq_true (h ls (List.mem_filter.mpr ⟨lotsF_all n hL.up hL.ok, ?_⟩))
    cases ls with
    | nil => exact absurd rfl hL.ne
    | cons _ _ => rfl
  · intro h l hl
    obtain ⟨h1, h2⟩ := List.mem_filter.mp hl
    obtain ⟨o1, o2, _⟩ := lotsF_ok n l h1
    exact decide_eq_true (h l ⟨fun z => (by rw [z] at h2; cases h2), o1, o2⟩)
/-- the least number of forests, by all lots -/
structure DueN (ts : List (Int × Int)) (n k : Int) : Prop where
  k0 : 0 ≤ k
  most : ∀ ls, Lot n ls → (inside ls ts : Int) ≤ k * ((ls.length : Int) - 1)
  least : k = 0 ∨ ∃ ls, Lot n ls ∧ (inside ls ts : Int) > (k - 1) * ((ls.length : Int) - 1)
theorem FewR.due {ts : List (Int × Int)} {n k : Int} {ws : List V} {lo : Option (List Int)} (h : FewR ts n k ws lo) : DueN ts n k := by
  refine ⟨h.k0, fun ls hL => not_full h.lay h.k0 h.all hL.nd hL.ne, ?_⟩
  cases e : lo with
  | none => exact .inl (h.none_.mpr e)
  | some ls => exact .inr ⟨ls, h.full ls e⟩
theorem DueN.le {ts : List (Int × Int)} {n k k' : Int} (h : DueN ts n k) (h' : ∀ ls, Lot n ls → (inside ls ts : Int) ≤ k' * ((ls.length : Int) - 1)) (h0 : 0 ≤ k') : k ≤ k' := by
  rcases h.least with z | ⟨ls, hL, hf⟩
  · omega
  · have := h' ls hL
    have hl := List.length_pos_iff.mpr hL.ne
    by_cases c : k ≤ k'
    · exact c
    · have : k' * ((ls.length : Int) - 1) ≤ (k - 1) * ((ls.length : Int) - 1) := Int.mul_le_mul_of_nonneg_right (by omega) (by omega)
      omega
theorem DueN.same {ts : List (Int × Int)} {n k k' : Int} (h : DueN ts n k) (h' : DueN ts n k') : k = k' := by
  have a := h.le h'.most h'.k0
  have b := h'.le h.most h.k0
  omega
theorem due_top {n : Int} {ts : List (Int × Int)} (ok : TOk n ts) {k : Int} (hk : (ts.length : Int) ≤ k) : ∀ ls, Lot n ls → (inside ls ts : Int) ≤ k * ((ls.length : Int) - 1) := fun ls hL => by
  have hin : inside ls ts ≤ ts.length := List.length_filter_le _ _
  have hne := List.length_pos_iff.mpr hL.ne
  by_cases z : ls.length = 1
  · obtain ⟨y, rfl⟩ := List.length_eq_one_iff.mp z
    rw [inside_one ok]
    show (((0 : Nat) : Int)) ≤ k * (((1 : Nat) : Int) - 1)
    rw [show k * (((1 : Nat) : Int) - 1) = 0 by simp]
    exact Int.le_refl _
  · have : k * 1 ≤ k * ((ls.length : Int) - 1) := Int.mul_le_mul_of_nonneg_left (by omega) (by omega)
    omega
end FF
namespace FF
open PySem PySem.Spec PyProof.Rows L2
/-! ### webs of which the fewest forests are known -/
theorem inside_perm {ts us : List (Int × Int)} (h : ts.Perm us) (ls : List Int) : inside ls ts = inside ls us := (h.filter _).length_eq
theorem DueN.perm {ts us : List (Int × Int)} {n k : Int} (h : DueN ts n k) (p : us.Perm ts) : DueN us n k := ⟨h.k0, fun ls hL => by rw [inside_perm p]; exact h.most ls hL, h.least.imp id fun ⟨ls, hL, hf⟩ => ⟨ls, hL, by rw [inside_perm p]; exact hf⟩⟩
theorem lot_all {n : Int} (hn : 1 ≤ n) : Lot n (upTo n) := ⟨fun z => by
  have := congrArg List.length z
  rw [upTo_length] at this
  have : n.toNat = 0 := this
  omega, upTo_up n, fun x hx => upTo_mem.mp hx⟩
theorem inside_upTo {n : Int} {ts : List (Int × Int)} (ok : TOk n ts) : inside (upTo n) ts = ts.length := by
  unfold inside
  rw [List.filter_eq_self.mpr fun t ht => ?_]
  obtain ⟨a, b, c⟩ := ok t ht
  rw [decide_eq_true (upTo_mem.mpr ⟨a, by omega⟩), decide_eq_true (upTo_mem.mpr ⟨by omega, c⟩)]
  rfl
theorem due_nil {n : Int} : DueN [] n 0 := ⟨Int.le_refl _, fun ls _ => by rw [Int.zero_mul]; exact Int.le_refl _, .inl rfl⟩
theorem due_par {n : Int} (hn : 2 ≤ n) (m : Nat) : DueN (List.replicate m (0, n - 1)) n m := by
  have ok : TOk n (List.replicate m (0, n - 1)) := fun t ht => by
    rw [List.eq_of_mem_replicate ht]
    exact ⟨Int.le_refl _, by show (0 : Int) < n - 1; omega, by show n - 1 < n; omega⟩
  refine ⟨by omega, due_top ok (by rw [List.length_replicate]; exact Int.le_refl _), ?_⟩
  cases m with
  | zero => exact .inl rfl
  | succ m =>
    have hl : Lot n [0, n - 1] := Lot.two (Int.le_refl _) (by omega) (by omega)
    refine .inr ⟨_, hl, ?_⟩
    rw [inside_rep, if_pos ⟨List.mem_cons_self, List.mem_cons_of_mem _ List.mem_cons_self⟩]
    show (((m + 1 : Nat) : Int)) > (((m + 1 : Nat) : Int) - 1) * (((2 : Nat) : Int) - 1)
    rw [show (((m + 1 : Nat) : Int) - 1) * (((2 : Nat) : Int) - 1) = (m : Int) by omega]
    omega
theorem due_tree {n : Int} {ts : List (Int × Int)} (hn : 2 ≤ n) (ok : TOk n ts) (hr : ringlessF (fun x => x) ts = true) (hl : (ts.length : Int) = n - 1) : DueN ts n 1 := by
  refine ⟨by decide, fun ls hL => ?_, .inr ⟨_, lot_all (by omega), ?_⟩⟩
  · have := inside_forest hr hL.nd hL.ne
    omega
  · rw [inside_upTo ok, show (1 : Int) - 1 = 0 by decide, Int.zero_mul]
    omega
theorem due_trees {n : Int} {t1 t2 t3 : List (Int × Int)} (hn : 2 ≤ n) (o1 : TOk n t1) (o2 : TOk n t2) (o3 : TOk n t3) (r1 : ringlessF (fun x => x) t1 = true) (r2 : ringlessF (fun x => x) t2 = true) (r3 : ringlessF (fun x => x) t3 = true) (l1 : (t1.length : Int) = n - 1) (l2 : (t2.length : Int) = n - 1) (l3 : (t3.length : Int) = n - 1) : DueN ((t1 ++ t2) ++ t3) n 3 := by
  refine ⟨by decide, fun ls hL => ?_, .inr ⟨_, lot_all (by omega), ?_⟩⟩
  · have a := inside_forest r1 hL.nd hL.ne
    have b := inside_forest r2 hL.nd hL.ne
    have c := inside_forest r3 hL.nd hL.ne
    rw [inside_app, inside_app]
    omega
  · rw [inside_upTo ((o1.append o2).append o3), List.length_append, List.length_append, upTo_length]
    omega
theorem due_round {n : Int} {ts us : List (Int × Int)} (hn : 2 ≤ n) (ok : TOk n ts) (ok2 : TOk n us) (hr : ringlessF (fun x => x) ts = true) (hl : (ts.length : Int) = n - 1) (hu : (us.length : Int) = if n > 2 then 1 else 0) : DueN (ts ++ us) n (1 + if n > 2 then 1 else 0) := by
  have hlt : ((ts ++ us).length : Int) = n - 1 + us.length := by rw [List.length_append]; omega
  by_cases c : n > 2
  · rw [if_pos c] at hu ⊢
    refine ⟨by decide, fun ls hL => ?_, .inr ⟨_, lot_all (by omega), ?_⟩⟩
    · have a := inside_forest hr hL.nd hL.ne
      have b : inside ls us ≤ us.length := List.length_filter_le _ _
      have hne := List.length_pos_iff.mpr hL.ne
      by_cases z : ls.length = 1
      · obtain ⟨y, rfl⟩ := List.length_eq_one_iff.mp z
        rw [inside_one (ok.append ok2)]
        show (((0 : Nat) : Int)) ≤ 2 * (((1 : Nat) : Int) - 1)
        omega
      · rw [inside_app]
        omega
    · rw [inside_upTo (ok.append ok2), upTo_length]
      omega
  · rw [if_neg c] at hu ⊢
    have e : us = [] := List.length_eq_zero_iff.mp (by omega)
    rw [e, List.append_nil]
    exact due_tree hn ok hr hl
def fullF : Nat → List (Int × Int)
  | 0 => []
  | b + 1 => fullF b ++ (upTo (b : Int)).map fun a => (a, (b : Int))
theorem fullF_ok : ∀ b : Nat, TOk (b : Int) (fullF b)
  | 0 => TOk.nil
  | b + 1 => by
    refine TOk.append ((fullF_ok b).mono (by omega)) fun t ht => ?_
    obtain ⟨a, ha, rfl⟩ := List.mem_map.mp ht
    obtain ⟨a0, a1⟩ := upTo_mem.mp ha
    exact ⟨a0, a1, by show (b : Int) < ((b + 1 : Nat) : Int); omega⟩
theorem inside_star (ls : List Int) (b : Nat) : inside ls ((upTo (b : Int)).map fun a => (a, (b : Int))) = if (b : Int) ∈ ls then ((upTo (b : Int)).filter fun a => decide (a ∈ ls)).length else 0 := by
  unfold inside
  rw [List.filter_map, List.length_map]
  by_cases c : (b : Int) ∈ ls
  · rw [if_pos c]
    congr 1
    refine List.filter_congr fun a _ => ?_
    show (decide (a ∈ ls) && decide ((b : Int) ∈ ls)) = _
    rw [decide_eq_true c, Bool.and_true]
  · rw [if_neg c, List.length_eq_zero_iff, List.filter_eq_nil_iff]
    intro a _
    show ¬ (decide (a ∈ ls) && decide ((b : Int) ∈ ls)) = true
    rw [decide_eq_false c, Bool.and_false]
    exact Bool.false_ne_true
theorem inside_fullF (ls : List Int) : ∀ b : Nat, 2 * (inside ls (fullF b) : Int) = (((upTo (b : Int)).filter fun a => decide (a ∈ ls)).length : Int) * ((((upTo (b : Int)).filter fun a => decide (a ∈ ls)).length : Int) - 1)
  | 0 => rfl
  | b + 1 => by
    have ih := inside_fullF ls b
    show 2 * (inside ls (fullF b ++ (upTo (b : Int)).map fun a => (a, (b : Int))) : Int) = _
    rw [inside_app, inside_star, show ((b + 1 : Nat) : Int) = (b : Int) + 1 by omega, upTo_snoc, List.filter_append, List.length_append]
    generalize ((upTo (b : Int)).filter fun a => decide (a ∈ ls)).length = c at *
    by_cases d : (b : Int) ∈ ls
    · rw [if_pos d, List.filter_cons, if_pos (decide_eq_true d)]
      show 2 * ((inside ls (fullF b) + c : Nat) : Int) = ((c + 1 : Nat) : Int) * (((c + 1 : Nat) : Int) - 1)
      rw [show (((c + 1 : Nat) : Int) - 1) = (c : Int) by omega, show ((c + 1 : Nat) : Int) = (c : Int) + 1 by omega, Int.add_mul, Int.one_mul]
      rw [Int.mul_sub, Int.mul_one] at ih
      omega
    · rw [if_neg d, List.filter_cons, if_neg (by rw [decide_eq_false d]; exact Bool.false_ne_true)]
      exact ih
theorem inside_fullL {n : Nat} {ls : List Int} (h : Lot (n : Int) ls) : 2 * (inside ls (fullF n) : Int) = (ls.length : Int) * ((ls.length : Int) - 1) := by
  have e : ((upTo (n : Int)).filter fun a => decide (a ∈ ls)).length = ls.length := nd_eq ((upTo_nd _).filter _) h.nd fun x => by
    rw [List.mem_filter, decide_eq_true_eq, upTo_mem]
    exact ⟨fun z => z.2, fun z => ⟨h.ok x z, z⟩⟩
  rw [inside_fullF, e]
theorem due_full {n : Nat} (hn : 2 ≤ n) : DueN (fullF n) (n : Int) (((n : Int) + 1) / 2) := by
  refine ⟨by omega, fun ls hL => ?_, .inr ⟨_, lot_all (by omega), ?_⟩⟩
  · have e := inside_fullL hL
    have hne := List.length_pos_iff.mpr hL.ne
    have hle := nd_le hL.nd (m := upTo (n : Int)) fun y hy => upTo_mem.mpr (hL.ok y hy)
    rw [upTo_length] at hle
    have : (ls.length : Int) * ((ls.length : Int) - 1) ≤ (2 * (((n : Int) + 1) / 2)) * ((ls.length : Int) - 1) := Int.mul_le_mul_of_nonneg_right (by omega) (by omega)
    rw [Int.mul_assoc] at this
    omega
  · have e := inside_fullL (lot_all (n := (n : Int)) (by omega))
    have hl : (((upTo (n : Int)).length : Nat) : Int) = n := by rw [upTo_length]; omega
    rw [hl] at e ⊢
    have : (2 * (((n : Int) + 1) / 2 - 1)) * ((n : Int) - 1) < (n : Int) * ((n : Int) - 1) := Int.mul_lt_mul_of_pos_right (by omega) (by omega)
    rw [Int.mul_assoc] at this
    omega
theorem turned_perm {α : Type} (l : List α) {r : Nat} (hr : r ≤ l.length) : (((l ++ l).drop r).take l.length).Perm l := by
  rw [List.drop_append_of_le_length hr]
  have e : ((l.drop r ++ l).take l.length) = l.drop r ++ l.take r := by
    rw [List.take_append, List.take_of_length_le (by rw [List.length_drop]; omega), List.length_drop]
    congr 2
    omega
  rw [e]
  exact List.perm_append_comm.trans (by rw [List.take_append_drop])
end FF
namespace FF
open PySem PySem.Spec PyProof.Rows L2
/-! ### [.. for .. in .. for .. in ..] -/
section
variable {X : Cx}
def InL2 (g1 : TG) (tt1 : TT) (te : TE) (vs1 : List Nat) (σ2 : L2.St) (D : Addr) (Nx : Hp → Prop) (J1 : It) (H4 : Hp) : Prop := ∃ W1 : Nat → Nat → Hp → Prop, (∃ m, W1 0 m H4) ∧ ∀ j k H, W1 j k H →
      (J1.stop j H ∧ Nx H) ∨ (J1.go j H ∧ ∃ Nx1 : Hp → Prop, (∀ H', Nx1 H' → ∃ k', k' < k ∧ W1 (j + 1) k' H') ∧ ∀ x H', J1.yld j H x H' → g1 x (wipe σ2 vs1) H' fun σ3 H5 => wipe σ3 vs1 = wipe σ2 vs1 ∧ tt1 σ3 H5 fun b H6 =>
        if b = true then te σ3 H6 fun y H7 => ∃ acc, H7 D = some (.lst acc) ∧ acc.length < sizeLine ∧ Nx1 (upd H7 D (.lst (acc ++ [y]))) else Nx1 H6)
theorem lc2_out {J : It} {n : Nat} {Gd : Hp → Prop} {Y : Nat → Hp → V → Hp → Prop} (wk : Walk J n Gd Y) {g g1 : TG} {tt tt1 : TT} {wi1 : TI} {te : TE} {vs vs1 : List Nat} {σ : L2.St} {H0 : Hp} {D : Addr} {Qd : Hp → Prop} (Pv : Nat → Hp → Prop) (h0 : Pv 0 H0) (hG : ∀ i H, i ≤ n → Pv i H → Gd H)
    (hs : ∀ i x H H', i < n → Pv i H → Y i H x H' → g x (wipe σ vs) H' fun σ2 H2 => wipe σ2 vs = wipe σ vs ∧ tt σ2 H2 fun b H3 => if b = true then wi1 σ2 H3 (InL2 g1 tt1 te vs1 σ2 D (Pv (i + 1))) else Pv (i + 1) H3) (hd : ∀ H, Pv n H → Qd H) :
    ∃ W : Nat → Nat → Hp → Prop, (∃ m, W 0 m H0) ∧ ∀ i m H, W i m H → (J.stop i H ∧ Qd H) ∨ (J.go i H ∧ ∃ Nx : Hp → Prop, (∀ H', Nx H' → ∃ m', m' < m ∧ W (i + 1) m' H') ∧ ∀ x H', J.yld i H x H' → g x (wipe σ vs) H' fun σ2 H2 => wipe σ2 vs = wipe σ vs ∧ tt σ2 H2 fun b H3 => if b = true then wi1 σ2 H3 (InL2 g1 tt1 te vs1 σ2 D Nx) else Nx H3) := by
  refine ⟨fun i m H => (i + m = n) ∧ Pv i H, ⟨n, by omega, h0⟩, fun i m H hW => ?_⟩
  obtain ⟨e, p⟩ := hW
  have gd := hG i H (by omega) p
  cases m with
  | zero =>
    have e' : i = n := by omega
    subst e'
    exact .inl ⟨wk.stops H gd, hd H p⟩
  | succ m => exact .inr ⟨wk.goes i H (by omega) gd, Pv (i + 1), fun H' p' => ⟨m, Nat.lt_succ_self m, by omega, p'⟩, fun x H' y => hs i x H H' (by omega) p (wk.yields i H x H' (by omega) gd y)⟩
theorem lc2_in {J1 : It} {n : Nat} {Gd : Hp → Prop} {Y : Nat → Hp → V → Hp → Prop} (wk : Walk J1 n Gd Y) {g1 : TG} {tt1 : TT} {te : TE} {vs1 : List Nat} {σ2 : L2.St} {D : Addr} {Nx : Hp → Prop} {H3 : Hp} (Pv : Nat → Hp → Prop) (h0 : Pv 0 H3) (hG : ∀ i H, i ≤ n → Pv i H → Gd H)
    (hs : ∀ j y H H', j < n → Pv j H → Y j H y H' → g1 y (wipe σ2 vs1) H' fun σ3 H5 => wipe σ3 vs1 = wipe σ2 vs1 ∧ tt1 σ3 H5 fun b H6 => if b = true then te σ3 H6 fun z H7 => ∃ acc, H7 D = some (.lst acc) ∧ acc.length < sizeLine ∧ Pv (j + 1) (upd H7 D (.lst (acc ++ [z]))) else Pv (j + 1) H6)
    (hd : ∀ H, Pv n H → Nx H) : InL2 g1 tt1 te vs1 σ2 D Nx J1 H3 := by
  refine ⟨fun i m H => (i + m = n) ∧ Pv i H, ⟨n, by omega, h0⟩, fun i m H hW => ?_⟩
  obtain ⟨e, p⟩ := hW
  have gd := hG i H (by omega) p
  cases m with
  | zero =>
    have e' : i = n := by omega
    subst e'
    exact .inl ⟨wk.stops H gd, hd H p⟩
  | succ m => exact .inr ⟨wk.goes i H (by omega) gd, Pv (i + 1), fun H' p' => ⟨m, Nat.lt_succ_self m, by omega, p'⟩, fun y H' yy => hs i y H H' (by omega) p (wk.yields i H y H' (by omega) gd yy)⟩
end
theorem mxm_last {ps : List Int} {m : Int} (hm : m ∈ ps ++ [-1]) (hx : ∀ x ∈ ps ++ [-1], x ≤ m) : m = mxm ps := by
  have a : m ∈ -1 :: ps := by
    rcases List.mem_append.mp hm with h | h
    · exact List.mem_cons_of_mem _ h
    · rw [List.mem_singleton.mp h]; exact List.mem_cons_self
  exact mxm_is a fun x h => hx x (by
    rcases List.mem_cons.mp h with h | h
    · rw [h]; exact List.mem_append_right _ (List.mem_singleton.mpr rfl)
    · exact List.mem_append_left _ h)
theorem mxm_own {ps : List Int} {m : Int} (hne : 0 ≤ m) (hm : m ∈ ps) (hx : ∀ x ∈ ps, x ≤ m) : m = mxm ps := mxm_is (List.mem_cons_of_mem _ hm) fun x h => by
  rcases List.mem_cons.mp h with h | h
  · omega
  · exact hx x h
theorem partsF_one : partsF 1 = [[0]] := by decide +kernel
end FF
namespace FF
open PySem PySem.Spec PyProof.Rows L2
/-! ### xs.remove(y): data of any depth -/
section
variable {X : Cx}
open PyProof
def rRemD (K : PySem.W.Frag) : V → List V → Hp → VK → Prop := fun x xs H Q => ∃ (a : Addr) (y : V) (vs : List V) (d : PyData) (ds : List PyData) (j : Nat) (z : PyData), x = V.ref a ∧ xs = [y] ∧ H a = some (.lst vs) ∧ DpAll K H vs ds ∧ Dp K H y d ∧
  SeqAt.shaped (.list ds) = true ∧ SeqAt.shaped d = true ∧ d.depth ≤ 63 ∧ ds[j]? = some z ∧ PyData.eqv z d = true ∧ (∀ (m : Nat) (z' : PyData), m < j → ds[m]? = some z' → PyData.eqv z' d = false) ∧ Q .non (upd H a (.lst (vs.eraseIdx j)))
theorem map_eraseIdxV {α β : Type} (f : α → β) : ∀ (ns : List α) (j : Nat), (ns.map f).eraseIdx j = (ns.eraseIdx j).map f
  | [], _ => rfl
  | _ :: _, 0 => rfl
  | n :: r, j + 1 => by
    show f n :: (r.map f).eraseIdx j = f n :: (r.eraseIdx j).map f
    rw [map_eraseIdxV f r j]
theorem mt_removeD {K : PySem.W.Frag} (hu : X.A.units + 64 < cLine) (hk : X.K = K := by rfl) : MtM X "list.remove" (rRemD K) := by
  subst hk
  intro pins s σ H x xs v us Q I rx rxs h
  obtain ⟨a, y, vs, d, ds, j, z, rfl, rfl, hH, hl, hy, sl, sd, hdp, hz, hzj, hno, q⟩ := h
  cases rx
  obtain ⟨uy, rfl, ry⟩ := rxs.one
  obtain ⟨bs, r1⟩ := Dp.reads I d y uy hy ry
  have hxs : PyData.canLayAll0 ds = true := SeqAt.canLay_of_shaped sl
  have hroom : X.A.units + 1 + min (PyData.depthAll ds) d.depth < cLine := by have := Nat.min_le_right (PyData.depthAll ds) d.depth; omega
  obtain ⟨zz, its, n, r, hlen, ho⟩ := I.lstM hH
  obtain ⟨as, h4⟩ := Dp.readsAll I ds _ its hl r
  have hn : its.length = ds.length := SeqAt.ReadsAll.length ds its as h4
  have hmap : its.map (SeqAt.readOf s.heap) = ds := SeqAt.readsAll_map ds its as hxs h4
  obtain ⟨hjd, _⟩ := List.getElem?_eq_some_iff.mp hz
  have hjl : j < its.length := by omega
  have hj : j < its.toArray.size := by simpa using hjl
  have at_ : ∀ (m : Nat) (hm : m < its.toArray.size) (z' : PyData), ds[m]? = some z' → SeqAt.readOf s.heap its.toArray[m] = z' := by
    intro m hm z' hz'
    have hml : m < its.length := by simpa using hm
    rw [← hmap, List.getElem?_map, List.getElem?_eq_getElem hml] at hz'
    have e1 : SeqAt.readOf s.heap its[m] = z' := Option.some.inj (show some (SeqAt.readOf s.heap its[m]) = some z' from hz')
    simpa using e1
  have hsz : its.toArray.size ≤ sizeLine := by rw [List.size_toArray, ← hlen]; exact zz
  refine call_meets PySem.F.slot_list_remove ⟨_, ho, rfl⟩ PySem.F.entry_list_remove (PySem.F.args_list_remove_2 _ _)
    (SeqAt.list_removeAt a its.toArray n _ _ uy (fun u => PyData.eqv (SeqAt.readOf s.heap u) d) j hj ?_ ?_ hsz) ⟨ho, SeqAt.items_eqAt (vs := its.toArray) (show ReadsAll s.heap its.toArray.toList ds as from h4) r1 hxs (SeqAt.canLay_of_shaped sd) hroom, ?_⟩
  · show PyData.eqv (SeqAt.readOf s.heap its.toArray[j]) d = true
    rw [at_ j hj z hz]
    exact hzj
  · intro m hm hmj
    have hmd : m < ds.length := by
      have : m < its.length := by simpa using hm
      omega
    have hz' : ds[m]? = some ds[m] := List.getElem?_eq_getElem hmd
    show PyData.eqv (SeqAt.readOf s.heap its.toArray[m]) d = false
    rw [at_ m hm _ hz']
    exact hno m _ hmj hz'
  · refine ⟨.non, _, I.lset (its' := its.eraseIdx j) hH ho ?_ (r.eraseIdx j) ?_, rfl, q⟩
    · show its.toArray.eraseIdxIfInBounds j = (its.eraseIdx j).toArray
      rw [List.eraseIdxIfInBounds_toArray]
    · rw [List.length_eraseIdx]
      split <;> omega
end
theorem first_p {α : Type} (p : α → Bool) : ∀ {l : List α} {x : α}, x ∈ l → p x = true → ∃ j z, j < l.length ∧ l[j]? = some z ∧ p z = true ∧ ∀ m z', m < j → l[m]? = some z' → p z' = false
  | a :: r, x, h, hx => by
    cases e : p a with
    | true => exact ⟨0, a, Nat.succ_pos _, rfl, e, fun m _ hm => absurd hm (Nat.not_lt_zero _)⟩
    | false =>
      have hr : x ∈ r := by
        rcases List.mem_cons.mp h with z | z
        · rw [z, e] at hx
          cases hx
        · exact z
      obtain ⟨j, z, h0, h1, h2, h3⟩ := first_p p hr hx
      refine ⟨j + 1, z, Nat.succ_lt_succ h0, h1, h2, fun m z' hm hz => ?_⟩
      cases m with
      | zero =>
        cases (show some a = some z' from hz)
        exact e
      | succ m => exact h3 m z' (Nat.lt_of_succ_lt_succ hm) hz
/-! ### ties at a point -/
def atP (x : Int) (t : Int × Int) : Bool := decide (t.1 = x) || decide (t.2 = x)
def starP (n x : Int) : List Int := (upTo n).map fun y => if x = 0 then (if y = 0 then 0 else 1) else (if y = x then 1 else 0)
theorem starP_len {n x : Int} (hn : 1 ≤ n) : ((starP n x).length : Int) = n := by
  unfold starP
  rw [List.length_map, upTo_length]
  omega
theorem partF_le : ∀ (l : List Int) (m : Int), (∀ y ∈ l, 0 ≤ y ∧ y ≤ m) → partF m l = true
  | [], _, _ => rfl
  | y :: l, m, h => by
    have h1 := h y List.mem_cons_self
    show ((decide (0 ≤ y) && decide (y ≤ m)) && partF (max m (y + 1)) l) = true
    rw [decide_eq_true h1.1, decide_eq_true h1.2, partF_le l (max m (y + 1)) fun z hz => by have := h z (List.mem_cons_of_mem _ hz); omega]
    rfl
theorem upTo_head (m : Nat) : upTo ((m : Int) + 1) = 0 :: (upTo (m : Int)).map (· + 1) := by
  unfold upTo
  rw [show ((m : Int) + 1).toNat = m + 1 by omega, show ((m : Int)).toNat = m by omega, List.range_succ_eq_map, List.map_cons, List.map_map, List.map_map]
  rfl
theorem starP_part {n x : Int} (hn : 1 ≤ n) (hx : 0 ≤ x) : partF 0 (starP n x) = true := by
  obtain ⟨m, rfl⟩ : ∃ m : Nat, n = (m : Int) + 1 := ⟨(n - 1).toNat, by omega⟩
  unfold starP
  rw [upTo_head, List.map_cons]
  have e : (if x = 0 then (if (0 : Int) = 0 then 0 else 1) else (if (0 : Int) = x then 1 else 0)) = (0 : Int) := by
    split
    · rfl
    · rw [if_neg]
      omega
  rw [e]
  show ((decide ((0 : Int) ≤ 0) && decide ((0 : Int) ≤ 0)) && partF (max 0 (0 + 1)) _) = true
  rw [partF_le _ _ fun y hy => ?_]
  · rfl
  · obtain ⟨z, _, rfl⟩ := List.mem_map.mp hy
    show 0 ≤ (if x = 0 then (if z = 0 then 0 else 1) else (if z = x then 1 else 0)) ∧ (if x = 0 then (if z = 0 then 0 else 1) else (if z = x then 1 else 0)) ≤ max 0 ((0 : Int) + 1)
    split <;> split <;> decide
theorem starP_mx {n x : Int} (hn : 2 ≤ n) (hx : 0 ≤ x) (hxn : x < n) : mx (starP n x) = 1 := by
  refine (mx_is ?_ fun y hy => ?_).symm
  · refine List.mem_map.mpr ?_
    by_cases e : x = 0
    · exact ⟨1, upTo_mem.mpr ⟨by decide, by omega⟩, by rw [if_pos e]; rfl⟩
    · exact ⟨x, upTo_mem.mpr ⟨hx, hxn⟩, by rw [if_neg e, if_pos rfl]⟩
  · obtain ⟨z, _, rfl⟩ := List.mem_map.mp hy
    show (if x = 0 then (if z = 0 then 0 else 1) else (if z = x then 1 else 0)) ≤ (1 : Int)
    split <;> split <;> decide
theorem starP_hat {n x y : Int} (hy : 0 ≤ y) (hyn : y < n) : hat (starP n x) y = if x = 0 then (if y = 0 then 0 else 1) else (if y = x then 1 else 0) := by
  unfold hat starP upTo
  rw [List.map_map, List.getD_eq_getElem?_getD, List.getElem?_map, List.getElem?_range (by omega)]
  show (if x = 0 then (if ((y.toNat : Nat) : Int) = 0 then (0 : Int) else 1) else (if ((y.toNat : Nat) : Int) = x then 1 else 0)) = _
  rw [Int.toNat_of_nonneg hy]
theorem star_few {ts : List (Int × Int)} {n x : Int} (ok : TOk n ts) : between (starP n x) ts ≤ (ts.filter (atP x)).length := by
  unfold between
  rw [← List.countP_eq_length_filter, ← List.countP_eq_length_filter]
  refine List.countP_mono_left fun t ht h => ?_
  obtain ⟨a, b, c⟩ := ok t ht
  rw [starP_hat a (by omega), starP_hat (by omega) c] at h
  unfold atP
  by_cases e1 : t.1 = x
  · rw [decide_eq_true e1]; rfl
  by_cases e2 : t.2 = x
  · rw [decide_eq_true e2, Bool.or_true]
  exfalso
  by_cases e : x = 0
  · rw [if_pos e, if_pos e, if_neg (by omega), if_neg (by omega)] at h
    simp at h
  · rw [if_neg e, if_neg e, if_neg e1, if_neg e2] at h
    simp at h
/-- trees that span have a tie each at a point -/
theorem trees_at {ts : List (Int × Int)} {n k x : Int} {ws : List V} (hL : LayK ts k ws) (ok : TOk n ts) (hn : 2 ≤ n) (hk : 0 ≤ k) (hall : (laidN ws : Int) = k * (n - 1)) (hx : 0 ≤ x) (hxn : x < n) : k ≤ (ts.filter (atP x)).length := by
  have h := trees_thick hL ok (by omega) hk hall (starP_len (x := x) (by omega)) (starP_part (by omega) hx)
  rw [starP_mx hn hx hxn, Int.mul_one] at h
  have := star_few (x := x) ok
  omega
theorem in_at (y a b : Int) : inV (.int y) [.int a, .int b] = atP y (a, b) := by
  show (eqV (.int a) (.int y) || (eqV (.int b) (.int y) || false)) = (decide (a = y) || decide (b = y))
  rw [Bool.or_false]
  rfl
theorem filter_next {α : Type} {l : List α} {i : Nat} {x : α} (p : α → Bool) (h : l[i]? = some x) : (l.take (i + 1)).filter p = (l.take i).filter p ++ if p x = true then [x] else [] := by
  rw [take_next h, List.filter_append, List.filter_cons, List.filter_nil]
end FF
namespace FF
open PySem PySem.Spec PyProof.Rows L2
/-! ### defs that raise; try .. except; isinstance of what was caught -/
theorem DefAt.okE {P : Program} {w : World} {K : PySem.W.Frag} {mg : Str → Option Value} {base : Heap} {x : Str} {st : Stmt} {f : Addr} {fd : FuncData} {N ps : List Str} {k : Nat} {sp : Sp} (D : DefAt K mg x st ps f fd) (S : FnScope N ps (defScope st)) (len : ∀ vs H Q E, sp vs H Q E → vs.length = ps.length)
    (hbody : ∀ (A : Around) (outer : List Env) (s : Shared) (H : Hp) (vs : List V) (Q : VK) (E : XK), Room k (A.deeper (envOfC x (defScope st) s.heap.objs.size f fd.code)) → sp vs H Q E →
      ∃ t, PSs (cxOf (L2.CX P w) P w K mg base N x (defScope st) f fd.code A outer s H E) (defBody st) t ∧ t { nx := fun _ H' => Q .non H', rt := Q } (start N vs) H) : FnOk P w K mg base (L2.CX P w) (k + 1) f fd ps sp := by
  obtain ⟨oc, od, dV, kV, doc, pm, an, cdv, ct, osl, rfl, lk, hcd, _, _⟩ := D.F.ex
  exact fn_of lk hcd S len hbody
theorem ps_nox {X : Cx} {st : Stmt} {t : TS} (h : PS X.nox st t) : PS X st t := ⟨fun pins s σ H D I hw =>
  wpAny_mono (h.run pins s σ H D (I.wish _) hw) (fun _ _ q => q.unwish) fun _ _ z => False.elim z⟩
theorem takesN {X : Cx} : Takes X (fun _ _ _ _ => False) := fun _ _ x => by
  obtain ⟨_, _, _, _, _, _, _, _, _, _, _, _, _, _, _, _, z⟩ := x
  exact z.elim

/-! #### what is told of the classes -/
inductive Xf where
  | glo (x : Str) | exc (x : Str) | ec (x : Str) | exm (x y : Str) (b : Bool) | kit (x y : Str) (b : Bool) | kitT (x : Str) (t : String) (b : Bool)
  deriving DecidableEq
def ecB (K : PySem.W.Frag) (D : Addr) : Bool :=
  He.eqO (PySem.W.findIn K (.ref D) "__getattribute__") (some (some (.builtin "BaseException.__getattribute__"))) && (He.eqO (PySem.W.findIn K (.ref D) "__getattr__") (some none) &&
  (decide (PySem.W.subIn K (.ref D) (.type "BaseException") = some true) && (PySem.W.hasDictIn K D && (He.eqO (PySem.W.findIn K (.ref D) "__class__") (some (some (.builtin "object.__class__"))) &&
  (He.eqO (PySem.W.specialIn K (.builtin "object.__class__") "__get__") (some (some (.builtin "getset_descriptor.__get__"))) && (decide (PySem.W.takesIn K (.builtin "object.__class__") = some true) && decide (PySem.W.mroIn K D (.type "object") = some true)))))))
def Xf.ok (K : PySem.W.Frag) : Xf → Bool
  | .glo x => (He.Fa.glo x).ok K
  | .exc x => (He.Fa.exc x).ok K
  | .ec x => ecB K (He.ga K x)
  | .exm x y b => (He.Fa.exm x y b).ok K
  | .kit x y b => decide (PySem.W.kitOne K (.ref (He.ga K x)) (.ref (He.ga K y)) = some b)
  | .kitT x t b => decide (PySem.W.kitOne K (.ref (He.ga K x)) (.type t) = some b)
theorem ec_ok {K : PySem.W.Frag} {x : Str} (c : (Xf.ec x).ok K = true) : ExcC K (He.ga K x) := by
  obtain ⟨c1, c⟩ := He.ba c
  obtain ⟨c2, c⟩ := He.ba c
  obtain ⟨c3, c⟩ := He.ba c
  obtain ⟨c4, c⟩ := He.ba c
  obtain ⟨c5, c⟩ := He.ba c
  obtain ⟨c6, c⟩ := He.ba c
  obtain ⟨c7, c8⟩ := He.ba c
  exact ⟨He.eqO_ok c1, He.eqO_ok c2, of_decide_eq_true c3, c4, He.eqO_ok c5, He.eqO_ok c6, of_decide_eq_true c7, of_decide_eq_true c8⟩
/-- the classes' facts -/
structure Xcs (xfs : List Xf) (K : PySem.W.Frag) (mg : Str → Option Value) : Prop where
  ok : ∀ f ∈ xfs, f.ok K = true
  g : ∀ x, Xf.glo x ∈ xfs → mg x = some (.ref (He.ga K x))
theorem Xcs.mk' {xfs : List Xf} {K : PySem.W.Frag} {h : Heap} {mg : Str → Option Value} (X : K.In h) (G : h.Ns mainGlobals mg) (c : (xfs.all fun f => f.ok K) = true) : Xcs xfs K mg :=
  ⟨List.all_eq_true.mp c, fun x hx => He.glo_ok X G (List.all_eq_true.mp c _ hx)⟩
section
variable {xfs : List Xf} {K : PySem.W.Frag} {mg : Str → Option Value} (c : Xcs xfs K mg)
include c
theorem Xcs.exm {x y : Str} {b : Bool} (h : Xf.exm x y b ∈ xfs) : PySem.W.exmOne K (.ref (He.ga K x)) (.ref (He.ga K y)) = some b := He.exm_ok (c.ok _ h)
theorem Xcs.kit {x y : Str} {b : Bool} (h : Xf.kit x y b ∈ xfs) : PySem.W.kitOne K (.ref (He.ga K x)) (.ref (He.ga K y)) = some b := of_decide_eq_true (c.ok _ h)
theorem Xcs.kitT {x : Str} {t : String} {b : Bool} (h : Xf.kitT x t b ∈ xfs) : PySem.W.kitOne K (.ref (He.ga K x)) (.type t) = some b := of_decide_eq_true (c.ok _ h)
theorem Xcs.ec {x : Str} (h : Xf.ec x ∈ xfs) : ExcC K (He.ga K x) := ec_ok (c.ok _ h)
end
/-- raise C('..') -/
theorem ps_raiseC {X : Cx} {W : WX} {xfs : List Xf} {x m : Str} {j : Nat} {p p2 pos pos2 : Pos} (c : Xcs xfs X.K X.mg) (hx : Xf.exc x ∈ xfs) (hg : Xf.glo x ∈ xfs) (hc : X.calm = true) (tk : Takes X W) (hgl : Gl X x)
    (hdb : (x == ("__debug__" : Str)) = false := by decide) : PS X (.Raise (some (.Call (.Name x p) [.Constant (.str m) j p2] [] pos)) none pos2) (fun _ σ H => W (.ref (He.ga X.K x)) none σ H) := by
  obtain ⟨c1, c2, c3, c4⟩ := He.exc_ok (c.ok _ hx)
  exact ps_raise hc tk (pmk_own PySem.F.excBase_ValueError c1 (c.g _ hg) c2 (raises_own c3 c4) hgl hdb)
/-- the name of a class -/
theorem pe_cls {X : Cx} {xfs : List Xf} {x : Str} {pos : Pos} (c : Xcs xfs X.K X.mg) (hg : Xf.glo x ∈ xfs) (hgl : Gl X x) (hdb : (x == ("__debug__" : Str)) = false := by decide) : PE X (.Name x pos) (tC (.ref (He.ga X.K x))) :=
  pe_glob hgl (c.g _ hg) rfl hdb

/-! #### what was caught, frozen -/
def ExO (cls : Value) (o : Obj) : Prop := o.cls = cls ∧ o.dict = none ∧ ∃ vs, o.data = .fields vs
def FrX (H : Hp) (a : Addr) (cls : Value) : Prop := ∃ oe, H a = some (.frz oe (.own 0)) ∧ ExO cls oe
theorem FrX.ke {H H1 : Hp} {a : Addr} {cls : Value} (x : FrX H a cls) (k : Ke H H1) : FrX H1 a cls := by
  obtain ⟨oe, e, z⟩ := x
  exact ⟨oe, k.at_ _ _ e (fun _ z => nomatch z) (fun z => z), z⟩
theorem inv_freeze {X : Cx} {pins : List (Addr × Obj)} {σ : L2.St} {H : Hp} {s : Shared} {a : Addr} {oe : Obj} {vs : Array Value} (I : Inv X pins σ H s) (n0 : X.s_0.heap.get? a = none) (ha : s.heap.get? a = some oe) (hd : oe.data = .fields vs) (na : H a = none)
    (nL : a ≠ X.env.locals) (np : ∀ p ∈ X.pn ++ pins, p.1 ≠ a) : Inv X pins σ (upd H a (.frz oe (.own 0))) s := by
  have nh : ∀ b o, H b = some o → b ≠ a := fun b o e => ne_of_none e na
  refine ⟨I.ok, I.os, I.bare, ⟨I.base.keep, I.base.slot, fun b o e n hx => ?_, I.base.there, fun b xs e => ?_, fun b ob u e => ?_, fun b ps e => ?_⟩, I.loc, I.cell, ?_, fun x c e => ?_, fun p hp => ?_, fun b ob e => ?_, I.len⟩
  · have hb : b ≠ a := fun z => by rw [z, n0] at e; cases e
    rw [upd_ne hb]; exact I.base.free b o e n hx
  · have q := I.base.tups b xs e
    rw [upd_ne (nh _ _ q)]; exact q
  · have q := I.base.frzs b ob u e
    rw [upd_ne (nh _ _ q)]; exact q
  · obtain ⟨more, q⟩ := I.base.tbls b ps e
    exact ⟨more, by rw [upd_ne (nh _ _ q)]; exact q⟩
  · rw [upd_ne (Ne.symm nL)]; exact I.free
  · have hc : c ≠ a := fun z => by
      obtain ⟨v, hv⟩ := I.cell x c e
      obtain ⟨o, ho, q⟩ : ∃ o, s.heap.get? c = some o ∧ o.data = .cell v := by
        obtain ⟨o, ho, q⟩ := hv
        first
        | exact ⟨o, ho, q⟩
        | exact ⟨o, ho, q.1⟩
        | exact ⟨o, ho, q.2⟩
      rw [z, ha] at ho
      cases ho
      rw [hd] at q
      cases q
    rw [upd_ne hc]; exact I.freeC x c e
  · obtain ⟨e, n, r⟩ := I.pin p hp
    exact ⟨e, by rw [upd_ne (np p hp)]; exact n, r⟩
  · by_cases hb : b = a
    · subst hb
      rw [upd_same] at e
      cases e
      exact ⟨ha, ⟨oe, ha⟩⟩
    · rw [upd_ne hb] at e
      exact (I.hok b ob e).stay (fun c v _ q => q) (fun c q => by rw [upd_ne (nh _ _ q)]; exact q) fun c xs q => by rw [upd_ne (nh _ _ q)]; exact q
/-- isinstance(e, c), e what was caught -/
def rIsF (K : PySem.W.Frag) : List V → Hp → VK → Prop := fun xs H Q => ∃ (a D : Addr) (c : V) (cv : Value) (b : Bool), xs = [.ref a, c] ∧ FrX H a (.ref D) ∧ ExcC K D ∧ (∀ u, RelV c u → u = cv) ∧ PySem.W.kitOne K (.ref D) cv = some b ∧ Q (.bl b) H
def rIsFT (K : PySem.W.Frag) : List V → Hp → VK → Prop := fun xs H Q => ∃ (a D tp : Addr) (cs : List V) (b : Bool), xs = [.ref a, .ref tp] ∧ H tp = some (.tup cs) ∧ FrX H a (.ref D) ∧ ExcC K D ∧ (∀ us, Vals cs us → PySem.W.kitAny K (.ref D) us = some b) ∧ Q (.bl b) H
section
variable {X : Cx}
theorem call_isF : CallR X (.builtin "isinstance") (rIsF X.K) := by
  intro pins s σ H xs us Q I r h
  obtain ⟨a, D, c, cv, b, rfl, ⟨oe, hf, hz⟩, C, hcv, e, q⟩ := h
  cases r with
  | cons rx rr =>
    cases rr with
    | cons rt rr =>
      cases rr
      cases rx
      have ec := hcv _ rt
      subst ec
      have hget := (I.hok a _ hf).1
      have J : PySem.W.InstAt s.heap a oe D none := by
        obtain ⟨oc, od, oda, osl⟩ := oe
        obtain ⟨h1, h2, vs, h3⟩ := hz
        dsimp only at h1 h2 h3
        subst h1 h2 h3
        exact ⟨hget, rfl, rfl, trivial⟩
      exact PySem.W.kia_one (PySem.W.handS_kitx_exc C.hg C.hk C.hs C.hd C.ha C.hn C.ht C.hm) I.kIn J e (fun z => nomatch z) fun tk => ⟨.bl b, H, I.kept (t' := tk) fun _ _ z => z, rfl, q⟩
theorem call_isFT : CallR X (.builtin "isinstance") (rIsFT X.K) := by
  intro pins s σ H xs us Q I r h
  obtain ⟨a, D, tp, cs, b, rfl, hT, ⟨oe, hf, hz⟩, C, hcv, q⟩ := h
  cases r with
  | cons rx rr =>
    cases rr with
    | cons rt rr =>
      cases rr
      cases rx
      cases rt
      have hget := (I.hok a _ hf).1
      have J : PySem.W.InstAt s.heap a oe D none := by
        obtain ⟨oc, od, oda, osl⟩ := oe
        obtain ⟨h1, h2, vs, h3⟩ := hz
        dsimp only at h1 h2 h3
        subst h1 h2 h3
        exact ⟨hget, rfl, rfl, trivial⟩
      obtain ⟨_, its, rv, o, h1, h2, n, h3⟩ := (show ObjOk X.prog X.w H s.heap tp (.tup cs) from I.hok tp _ hT)
      have e := hcv _ rv
      obtain ⟨oc, od, dt, sl⟩ := o
      simp only at h2 h3
      subst h2 h3
      exact PySem.W.kia_tup (PySem.W.handS_kitx_exc C.hg C.hk C.hs C.hd C.ha C.hn C.ht C.hm) I.kIn J h1 e (fun z => nomatch z) fun tk => ⟨.bl b, H, I.kept (t' := tk) fun _ _ z => z, rfl, q⟩
/-- .. within the suite that caught it -/
def rIsC (K : PySem.W.Frag) (a : Addr) (cls : Value) (d : Option Addr) : List V → Hp → VK → Prop := fun xs H Q => ∃ (D : Addr) (c : V) (cv : Value) (b : Bool), xs = [.ref a, c] ∧ cls = .ref D ∧ d = none ∧ ExcC K D ∧ (∀ u, RelV c u → u = cv) ∧ PySem.W.kitOne K (.ref D) cv = some b ∧ Q (.bl b) H
theorem call_isC {a : Addr} {oe : Obj} {pn : List (Addr × Obj)} {cls : Value} {d : Option Addr} (hz : Zc cls d oe) (hf : ∃ vs, oe.data = .fields vs) : CallR (X.suite a ((a, oe) :: pn)) (.builtin "isinstance") (rIsC X.K a cls d) := by
  intro pins s σ H xs us Q I r h
  obtain ⟨D, c, cv, b, rfl, rfl, rfl, C, hcv, e, q⟩ := h
  exact call_isE (X := X) C hz hf pins s σ H _ us Q I r ⟨c, cv, b, rfl, hcv, e, q⟩
end
theorem cv_ref {a : Addr} : ∀ u, RelV (.ref a) u → u = .ref a := fun _ h => h
theorem cv_ty {n : String} : ∀ u, RelV (.ty n) u → u = .type n := fun _ h => h
/-- several classes, none of them -/
theorem kitAny_no {K : PySem.W.Frag} {D : Addr} : ∀ {cs : List Addr}, (∀ c ∈ cs, PySem.W.kitOne K (.ref D) (.ref c) = some false) → ∀ us, Vals (cs.map V.ref) us → PySem.W.kitAny K (.ref D) us = some false
  | [], _, us, r => by cases r; rfl
  | c :: cs, h, us, r => by
    cases r with
    | cons rx rr =>
      cases rx
      unfold PySem.W.kitAny
      rw [h c List.mem_cons_self]
      exact kitAny_no (fun c hc => h c (List.mem_cons_of_mem _ hc)) _ rr
/-! #### try: .. except x as n: suite; what was caught stays, frozen -/
def wAsF (K : PySem.W.Frag) (c : Value) (i : Nat) (ts : Addr → Value → Option Addr → TS) (Wo : WX) (D : Ends) : WX := fun cls d σ H =>
  ∃ b, PySem.W.exmOne K cls c = some b ∧ (b = false → Wo cls d σ H) ∧
    (b = true → ∀ a, H a = none → ts a cls d { nx := fun σ' H' => ∀ oe, Zc cls d oe → (∃ vs, oe.data = .fields vs) → D.nx (σ'.set i none) (upd H' a (.frz oe (.own 0))), rt := fun _ _ => False, bk := fun _ _ => False, ct := fun _ _ => False } (σ.set i (some (.ref a))) H)
/-- what the handlers do with the error u -/
def Caught (X : Cx) (hs : List ExceptHandler) (R : Flow → Shared → Prop) (u : Value) (s0 : Shared) : Prop :=
  wpAny (model X.prog X.w) X.A (noteFrame u X.env) (fun _ s1 => wpAny (model X.prog X.w) X.A (setFlight u none) (fun _ s2 => wpAny (model X.prog X.w) X.A (handleBy u X.env hs) R X.xe s2) X.xe s1) X.xe s0
section
variable {X : Cx} {x n : Str} {c : Value} {i : Nat} {body suite : List Stmt} {b0 : Stmt} {np pos pos' : Pos} {tb : WX → TS} {ts : Addr → Value → Option Addr → TS} {Wo : WX}
theorem not_frame {h : Heap} {B : Heap} {l : List Env} {a : Addr} {o : Obj} {vs : Array Value} (ff : h.FunFrames B l) (e : h.get? a = some o) (dd : o.data = .fields vs) : a ∉ frs l := fun hm => by
  obtain ⟨_, o2, e2, z⟩ := ff.mem hm
  cases e.symm.trans e2
  exact z vs dd
theorem ps_try_asF (e1 : X.stack = X.env :: X.outer) (e2 : X.env.frame = some X.env.locals) (nd : X.N.Nodup) (ei : X.N[i]? = some n) (el : X.env.kindOf n = some .local) (nc : Names X x c) (tk : Takes X Wo) (e3 : X.ex = [])
    (hb : ∀ (W : WX) (pn : List (Addr × Obj)) (xe : Value → Shared → Prop), Takes (X.tr pn xe) W → PassesOwn (model X.prog X.w) X.A X.env xe → PSs (X.tr pn xe) body (tb W))
    (hq : ∀ (a : Addr) (oe : Obj) (cls : Value) (d : Option Addr) (pn : List (Addr × Obj)), Zc cls d oe → (∃ vs, oe.data = .fields vs) → PSs (X.suite a ((a, oe) :: pn)) (b0 :: suite) (ts a cls d)) :
    PS X (.Try body [.ExceptHandler (some (.Name x np)) (some n) (b0 :: suite) pos'] [] [] pos) (fun D σ H => tb (wAsF X.K c i ts Wo D) D σ H) := by
  constructor
  intro pins s σ H D I h
  have okX := I.ok
  have fr : X.A.frames = some (X.env :: X.outer) := okX.frames.trans (by rw [e1])
  have main := (hb (wAsF X.K c i ts Wo D) (X.pn ++ pins) (Caught X [.ExceptHandler (some (.Name x np)) (some n) (b0 :: suite) pos'] (SP X pins D)) ?tk PassesOwn.looking).run [] s σ H D (I.toTry _) h
  · refine wpAny_Try_except (wpAny_mono main (fun f t q => ?_) fun _ _ z => z)
    cases f with
    | next => obtain ⟨σ1, H1, J, w⟩ := q; exact wpAny_execs_nil ⟨σ1, H1, J.ofTry okX, w⟩
    | ret u => obtain ⟨v, σ1, H1, J, r, w⟩ := q; exact ⟨v, σ1, H1, J.ofTry okX, r, w⟩
    | brk => obtain ⟨σ1, H1, J, w⟩ := q; exact ⟨σ1, H1, J.ofTry okX, w⟩
    | cont => obtain ⟨σ1, H1, J, w⟩ := q; exact ⟨σ1, H1, J.ofTry okX, w⟩
  intro u s' xx
  obtain ⟨a, Bh, t0, pins', σ1, H1, cls, d, rfl, J0, nb, up, sky, na, os, ag, b, hb1, hno, hyes⟩ := xx
  have J : Inv X pins σ1 H1 t0 := J0.ofTry okX
  have sky1 : Sky Bh (X.env :: X.outer) a (Zc cls d) X.env.locals s'.heap := by rw [← e1]; exact sky
  refine Sky.land Zc.steady fr e2 sky1 fun h3 fl3 up3 => ?_
  have up03 := up.trans up3
  have J3 : Inv X pins σ1 H1 { s' with heap := h3 } := J.landed nb fl3.1 up03 os ag
  obtain ⟨oe3, vs3, he3, hz3, hd3⟩ := fl3.there
  have nf := not_frame fl3.2.2.1 he3 hd3
  have nL : a ≠ X.env.locals := fun z => nf (List.mem_filterMap.mpr ⟨X.env, List.mem_cons_self, e2.trans (by rw [z])⟩)
  have nF : a ∉ X.fs := fun hm => by
    obtain ⟨e, hme, q⟩ := List.mem_filterMap.mp hm
    exact nf (List.mem_filterMap.mpr ⟨e, List.mem_cons_of_mem _ hme, q⟩)
  have nI : t0.heap.get? a = none := by
    cases e : t0.heap.get? a with
    | none => rfl
    | some o => exact absurd ((nb a o e (by rw [e1]; exact nf)).symm.trans fl3.2.1) (fun z => nomatch z)
  have n0 : X.s_0.heap.get? a = none := by
    cases e : X.s_0.heap.get? a with
    | none => rfl
    | some o =>
      obtain ⟨o', q⟩ := J.base.there a o e (by rw [e3]; exact fun z => nomatch z)
      exact absurd (q.symm.trans nI) (fun z => nomatch z)
  have npn : ∀ p ∈ X.pn ++ pins, p.1 ≠ a := fun p hp z => by
    have q := (J.pin p hp).1
    rw [z, nI] at q
    cases q
  have S3 := J3.suite he3 hd3 na nL nF
  refine wpAny_handleBy_cons (codeAny_handlers_test ?_) (by intro q; cases q)
  have LT : PySem.W.Looks (model X.prog X.w) h3 (typeOf (.ref a)) cls := fun A Q E s k q => wpAny_typeOf_ref (k _ _ he3) (by rw [hz3.1]; exact q)
  have LM := PySem.W.exm_one (M := model X.prog X.w) (J3.kIn) LT hb1
  have tst : ∀ {Q : Value → Shared → Prop} {E : Value → Shared → Prop}, Q c { s' with heap := h3 } → wpAny (model X.prog X.w) (X.A.mark (some (.ref a))) (eval (.Name x np) X.env) Q E { s' with heap := h3 } := by
    intro Q E q
    obtain ⟨hg, hd0, hm | ⟨hm, hv, hn⟩⟩ := nc
    · exact ld_glob (X := X.suite a ((a, oe3) :: (X.pn ++ pins))) S3 hg hm q hd0
    · exact ld_blt (X := X.suite a ((a, oe3) :: (X.pn ++ pins))) S3 hg hm hv q hn hd0
  refine tst (LM.here ?_)
  cases b with
  | true =>
    refine codeAny_handlers_suite_as (HandSPX.lands_againZ fl3 fun h4 fl4 up4 => ?_)
    have J4 : Inv X pins σ1 H1 { s' with heap := h4 } := J.landed nb fl4.1 (up03.trans up4) os ag
    obtain ⟨oe4, vs4, he4, hz4, hd4⟩ := fl4.there
    have S4 := J4.suite he4 hd4 na nL nF
    refine store_ok (X := X.suite a ((a, oe4) :: (X.pn ++ pins))) (v := .ref a) S4 nd ei (.inl el) rfl (fun s5 S5 => ?_) (.inr el)
    refine wpAny_mono ((hq a oe4 cls d (X.pn ++ pins) hz4 ⟨_, hd4⟩).run [] s5 _ H1 _ S5 (hyes rfl a na)) (fun f s6 q => ?_) (fun _ _ z => False.elim z)
    cases f with
    | next =>
      obtain ⟨σ6, H6, S6, q6⟩ := q
      obtain ⟨g6, f6, _⟩ := S6.pin (a, oe4) (List.mem_append_left _ List.mem_cons_self)
      have F6 : Inv X pins σ6 (upd H6 a (.frz oe4 (.own 0))) s6 := inv_freeze (S6.unsuite okX) n0 g6 hd4 f6 nL npn
      exact gone_ok F6 nd ei el fun s7 J7 => ⟨_, _, J7, q6 oe4 hz4 ⟨_, hd4⟩⟩
    | brk => obtain ⟨_, _, _, q6⟩ := q; exact False.elim q6
    | cont => obtain ⟨_, _, _, q6⟩ := q; exact False.elim q6
    | ret u => obtain ⟨_, _, _, _, _, q6⟩ := q; exact False.elim q6
  | false =>
    show wpAny _ X.A (handleBy (.ref a) X.env []) _ _ _
    refine wpAny_handleBy_nil ?_
    obtain ⟨_, _, _, oe, vs, T, oT, ts', he, hz, hd, h1, hr⟩ := id fl3
    unfold PySem.passOn
    refine wpAny_bind (wpAny_field he hd h1 ?_)
    rw [if_neg (show ¬ ((Value.ref T == Value.none) = true) from by simp)]
    have fin : wpAny (model X.prog X.w) X.A (setFlight (.ref a) X.env.frame) (fun _ s4 => wpAny (model X.prog X.w) X.A (throw (.ref a) : Sem Flow) (SP X pins D) X.xe s4) X.xe { s' with heap := h3 } := by
      rw [e2]
      refine HandSPX.setFlight_upZ fl3 fun h4 hh4 up4 => wpAny_throw (tk _ _ ⟨a, Bh, t0, pins, σ1, H1, cls, d, rfl, J, nb, up03.trans up4, .inr (.inr (by rw [e1]; exact hh4)), na, os, ag, hno rfl⟩)
    first | exact wpAny_bind (wpAny_pure (wpAny_bind fin)) | exact wpAny_bind fin
end
end FF
namespace FF
open PySem PySem.Spec PyProof.Rows L2
/-! ### drawn partings -/
theorem fold_max_le : ∀ (ps : List Int) (m : Int), m ≤ ps.foldl max m
  | [], m => Int.le_refl m
  | x :: ps, m => by
    rw [List.foldl_cons]
    have := fold_max_le ps (max m x)
    omega
theorem le_fold_max : ∀ (ps : List Int) (m w : Int), w ∈ ps → w ≤ ps.foldl max m
  | x :: ps, m, w, h => by
    rw [List.foldl_cons]
    rcases List.mem_cons.mp h with rfl | h
    · have := fold_max_le ps (max m w)
      omega
    · exact le_fold_max ps _ w h
theorem le_mxm {ps : List Int} {w : Int} (h : w ∈ ps) : w ≤ mxm ps := le_fold_max ps _ w h
theorem mxm_lo (ps : List Int) : -1 ≤ mxm ps := fold_max_le ps _
theorem Parts.part {ps : List Int} (h : Parts ps) : partF 0 ps = true := by
  have key : ∀ i : Nat, i ≤ ps.length → partF 0 (ps.take i) = true := by
    intro i
    induction i with
    | zero => intro _; rfl
    | succ i ih =>
      intro hi
      have hg := List.getElem?_eq_getElem (l := ps) (i := i) (by omega)
      rw [take_next hg, partF_snoc, ih (by omega), Bool.true_and, Bool.and_eq_true, decide_eq_true_eq, decide_eq_true_eq]
      refine ⟨h.lo _ (List.getElem_mem _), ?_⟩
      have hm := mxm_lo (ps.take i)
      rcases h.nx i _ hg with z | ⟨j, w, hj, hw, hl⟩
      · omega
      · have := le_mxm (ps := ps.take i) (w := w) (List.mem_of_getElem? (by rw [List.getElem?_take_of_lt hj]; exact hw))
        omega
  have := key ps.length (Nat.le_refl _)
  rw [List.take_length] at this
  exact this
theorem Parts.bd {ps : List Int} (h : Parts ps) : ∀ x ∈ ps, 0 ≤ x ∧ x < (ps.length : Int) := fun x hx => by
  have := (mxm_le h.part).1
  have := le_mxm hx
  exact ⟨h.lo x hx, by omega⟩
theorem shaped_lotsL (ps : List (List Int)) : SeqAt.shaped (.list (ps.map fun l => .tuple (l.map PyData.int))) = true := (Sh.lst (k := 1) fun d hd => by
  obtain ⟨l, _, rfl⟩ := List.mem_map.mp hd
  exact Sh.tup (k := 0) fun e he => by
    obtain ⟨i, _, rfl⟩ := List.mem_map.mp he
    exact Sh.int).shaped
theorem eqv_lotsL (ps : List (List Int)) : PyData.eqv (.list (ps.map fun l => .tuple (l.map PyData.int))) (.list (ps.map fun l => .tuple (l.map PyData.int))) = true :=
  SeqAt.eqv_refl _ (SeqAt.canLay_of_shaped (shaped_lotsL ps))
end FF
namespace FF
open PySem PySem.Spec PyProof.Rows L2
/-! ### webs drawn together -/
theorem dc_walk {J : It} {n : Nat} {Gd : Hp → Prop} {Y : Nat → Hp → V → Hp → Prop} {g : TG} {tt : TT} {tk tv : TE} {vs : List Nat} {σ : L2.St} {H1 : Hp} {D : Addr} {Qd : Hp → Prop} (w : Walk J n Gd Y) (Pv : Nat → Hp → Prop) (h0 : Pv 0 (upd H1 D (.dK []))) (hG : ∀ i H, i ≤ n → Pv i H → Gd H)
    (hs : ∀ i x H H', i < n → Pv i H → Y i H x H' → g x (wipe σ vs) H' fun σ2 H2 => wipe σ2 vs = wipe σ vs ∧ tt σ2 H2 fun b H3 =>
      if b = true then tk σ2 H3 fun y H4 => tv σ2 H4 fun z H5 => ∃ kvs k, y = kV k ∧ H5 D = some (.dK kvs) ∧ kvs.length < sizeLine ∧ Pv (i + 1) (upd H5 D (.dK (putK kvs k z))) else Pv (i + 1) H3) (hd : ∀ H, Pv n H → Qd H) :
    ∃ W : Nat → Nat → Hp → Prop, (∃ m, W 0 m (upd H1 D (.dK []))) ∧ ∀ i m H, W i m H →
      (J.stop i H ∧ Qd H) ∨ (J.go i H ∧ ∃ Nx : Hp → Prop, (∀ H', Nx H' → ∃ m', m' < m ∧ W (i + 1) m' H') ∧ ∀ x H', J.yld i H x H' → g x (wipe σ vs) H' fun σ2 H2 => wipe σ2 vs = wipe σ vs ∧ tt σ2 H2 fun b H3 =>
        if b = true then tk σ2 H3 fun y H4 => tv σ2 H4 fun z H5 => ∃ kvs k, y = kV k ∧ H5 D = some (.dK kvs) ∧ kvs.length < sizeLine ∧ Nx (upd H5 D (.dK (putK kvs k z))) else Nx H3) := by
  refine ⟨fun i m H => m = n - i ∧ i ≤ n ∧ Pv i H, ⟨_, rfl, Nat.zero_le _, h0⟩, ?_⟩
  rintro i m H ⟨rfl, hi, p⟩
  have ok := hG i H hi p
  by_cases hlt : i < n
  · exact .inr ⟨w.goes i H hlt ok, Pv (i + 1), fun H' p' => ⟨n - (i + 1), by omega, rfl, hlt, p'⟩, fun x H1 y => hs i x H H1 hlt p (w.yields i H x H1 hlt ok y)⟩
  · have e : i = n := by omega
    subst e
    exact .inl ⟨w.stops H ok, hd H p⟩
/-- the numbers of the ties of a kind -/
def numsP (p : Int × Int → Bool) : Nat → List (Int × Int) → List Int
  | _, [] => []
  | k, t :: r => if p t = true then (k : Int) :: numsP p (k + 1) r else numsP p (k + 1) r
theorem numsP_cons (p : Int × Int → Bool) (k : Nat) (t : Int × Int) (r : List (Int × Int)) : numsP p k (t :: r) = if p t = true then (k : Int) :: numsP p (k + 1) r else numsP p (k + 1) r := rfl
theorem numsP_app (p : Int × Int → Bool) : ∀ (k : Nat) (ts us : List (Int × Int)), numsP p k (ts ++ us) = numsP p k ts ++ numsP p (k + ts.length) us
  | _, [], _ => rfl
  | k, t :: r, us => by
    rw [List.cons_append, numsP_cons, numsP_cons, numsP_app p (k + 1) r us, show k + 1 + r.length = k + (t :: r).length by rw [List.length_cons]; omega]
    split <;> rfl
theorem numsP_take {p : Int × Int → Bool} {ts : List (Int × Int)} {i : Nat} {t : Int × Int} (h : ts[i]? = some t) : numsP p 0 (ts.take (i + 1)) = numsP p 0 (ts.take i) ++ if p t = true then [(i : Int)] else [] := by
  rw [take_next h, numsP_app, Nat.zero_add, List.length_take, Nat.min_eq_left (by have := (List.getElem?_eq_some_iff.mp h).1; omega)]
  rfl
theorem numsP_mem {p : Int × Int → Bool} : ∀ {k : Nat} {ts : List (Int × Int)} {m : Int}, m ∈ numsP p k ts ↔ ∃ (i : Nat) (t : Int × Int), m = ((k + i : Nat) : Int) ∧ ts[i]? = some t ∧ p t = true
  | k, [], m => by
    constructor
    · intro z; cases z
    · rintro ⟨i, t, _, z, _⟩; cases z
  | k, t :: r, m => by
    unfold numsP
    constructor
    · intro h
      split at h
      · rename_i hp
        rcases List.mem_cons.mp h with rfl | h
        · exact ⟨0, t, rfl, rfl, hp⟩
        · obtain ⟨i, u, e, h1, h2⟩ := numsP_mem.mp h
          exact ⟨i + 1, u, by rw [e]; omega, h1, h2⟩
      · obtain ⟨i, u, e, h1, h2⟩ := numsP_mem.mp h
        exact ⟨i + 1, u, by rw [e]; omega, h1, h2⟩
    · rintro ⟨i, u, e, h1, h2⟩
      cases i with
      | zero =>
        cases h1
        rw [if_pos h2, e]
        exact List.mem_cons_self
      | succ i =>
        have : m ∈ numsP p (k + 1) r := numsP_mem.mpr ⟨i, u, by rw [e]; omega, h1, h2⟩
        split
        · exact List.mem_cons_of_mem _ this
        · exact this
theorem numsP_len (p : Int × Int → Bool) : ∀ (k : Nat) (ts : List (Int × Int)), (numsP p k ts).length = (ts.filter p).length
  | _, [] => rfl
  | k, t :: r => by
    unfold numsP
    rw [List.filter_cons]
    split <;> simp [numsP_len p (k + 1) r]
/-- both ends in the lot -/
def inLot (ls : List Int) (t : Int × Int) : Bool := decide (t.1 ∈ ls) && decide (t.2 ∈ ls)
/-- a tie moved, the lesser end first -/
def mvT (f : Int → Int) (t : Int × Int) : Int × Int := (if f t.2 < f t.1 then f t.2 else f t.1, if f t.2 > f t.1 then f t.2 else f t.1)
def innerT (ls : List Int) (ts : List (Int × Int)) : List (Int × Int) := (ts.filter (inLot ls)).map (mvT fun x => (firstAt ls x : Int))
/-- the points that are left -/
def leftL (ls : List Int) (n : Int) : List Int := (upTo n).filter fun x => decide (x = ls.headD 0) || !decide (x ∈ ls)
def drawF (ls : List Int) (n x : Int) : Int := if x ∈ ls then (firstAt (leftL ls n) (ls.headD 0) : Int) else firstAt (leftL ls n) x
def drawnT (ls : List Int) (n : Int) (ts : List (Int × Int)) : List (Int × Int) := (ts.filter fun t => !inLot ls t).map (mvT (drawF ls n))
/-- the ties with these numbers -/
theorem numsP_pick (p : Int × Int → Bool) (ts : List (Int × Int)) : pick ts (numsP p 0 ts) = ts.filter p := by
  suffices h : ∀ (ts pre : List (Int × Int)), pick (pre ++ ts) (numsP p pre.length ts) = ts.filter p from h ts []
  intro ts
  induction ts with
  | nil => intro pre; rfl
  | cons t r ih =>
    intro pre
    have e : pre ++ t :: r = (pre ++ [t]) ++ r := by rw [List.append_assoc]; rfl
    have ih' := ih (pre ++ [t])
    rw [List.length_append] at ih'
    have ih' : pick ((pre ++ [t]) ++ r) (numsP p (pre.length + 1) r) = r.filter p := ih'
    rw [numsP_cons, List.filter_cons]
    split
    · rw [pick_cons, e, ih', ← e]
      congr 1
      rw [Int.toNat_natCast, List.getD_eq_getElem?_getD, List.getElem?_append_right (Nat.le_refl _), Nat.sub_self]
      rfl
    · rw [e]
      exact ih'
theorem numsP_lt {p : Int × Int → Bool} {ts : List (Int × Int)} : ∀ m ∈ numsP p 0 ts, 0 ≤ m ∧ m < (ts.length : Int) := fun m hm => by
  obtain ⟨i, t, rfl, h, _⟩ := numsP_mem.mp hm
  have := (List.getElem?_eq_some_iff.mp h).1
  omega
theorem numsP_le (p : Int × Int → Bool) (ts : List (Int × Int)) : (numsP p 0 ts).length ≤ ts.length := by
  rw [numsP_len]
  exact List.length_filter_le ..
theorem dgetI {H : Hp} {a : Addr} {kvs : List (Key × V)} {x : Int} {v : V} (e : H a = some (.dK kvs)) (h : valV kvs (Sum.inl x) = some v) : DGet H a (.int x) (some v) := h ▸ DGet.k (k := Sum.inl x) e
theorem firstAt_at {fs : List Int} (nd : fs.Nodup) {i : Nat} {x : Int} (h : fs[i]? = some x) : firstAt fs x = i := by
  have hx := List.mem_of_getElem? h
  have h1 := firstAt_get hx
  have l1 := (List.getElem?_eq_some_iff.mp h1).1
  have l2 := (List.getElem?_eq_some_iff.mp h).1
  have e := (List.getElem?_eq_some_iff.mp h1).2.trans (List.getElem?_eq_some_iff.mp h).2.symm
  exact (List.getElem_inj nd).mp e
theorem numsP_at {p : Int × Int → Bool} {ts : List (Int × Int)} {i : Nat} {m : Int} (h : (numsP p 0 ts)[i]? = some m) : ∃ (j : Nat) (t : Int × Int), m = (j : Int) ∧ ts[j]? = some t ∧ p t = true ∧ (ts.filter p)[i]? = some t := by
  obtain ⟨j, t, e, h1, h2⟩ := numsP_mem.mp (List.mem_of_getElem? h)
  rw [Nat.zero_add] at e
  subst e
  refine ⟨j, t, rfl, h1, h2, ?_⟩
  rw [← numsP_pick p ts]
  unfold pick
  rw [List.getElem?_map, h]
  show some (ts.getD ((j : Int).toNat) (0, 0)) = _
  rw [Int.toNat_natCast, List.getD_eq_getElem?_getD, h1]
  rfl
theorem sort2 {a b : Int} {ms : List Int} (p : ms.Perm [a, b]) (s : ms.Pairwise (· ≤ ·)) : ms = [if b < a then b else a, if b > a then b else a] := by
  have hl := p.length_eq
  match ms, hl with
  | [x, y], _ =>
    have hx : x ∈ [a, b] := p.mem_iff.mp List.mem_cons_self
    have hs : x ≤ y := (List.pairwise_cons.mp s).1 y List.mem_cons_self
    rcases List.mem_cons.mp hx with rfl | hx
    · have : [y] = [b] := List.perm_singleton.mp ((List.perm_cons x).mp p)
      have : y = b := (List.cons.inj this).1
      subst this
      congr 1
      · split <;> omega
      · congr 1
        split <;> omega
    · have hx := List.mem_singleton.mp hx
      subst hx
      have : [y] = [a] := List.perm_singleton.mp ((List.perm_cons x).mp (p.trans (List.Perm.swap x a [])))
      have : y = a := (List.cons.inj this).1
      subst this
      congr 1
      · split <;> omega
      · congr 1
        split <;> omega
theorem firstAt_cons {y x : Int} {r : List Int} (h : y ≠ x) : firstAt (y :: r) x = firstAt r x + 1 := by
  unfold firstAt
  rw [List.findIdx_cons, decide_eq_false h]
  rfl
theorem firstAt_self {x : Int} {r : List Int} : firstAt (x :: r) x = 0 := by
  unfold firstAt
  rw [List.findIdx_cons, decide_eq_true rfl]
  rfl
theorem first_less : ∀ {ls : List Int} {x : Int}, ls.Pairwise (· < ·) → x ∈ ls → (ls.filter fun y => decide (y < x)).length = firstAt ls x
  | y :: r, x, h, hx => by
    obtain ⟨h1, h2⟩ := List.pairwise_cons.mp h
    by_cases e : y = x
    · subst e
      rw [firstAt_self, List.filter_cons, decide_eq_false (by omega)]
      have : r.filter (fun z => decide (z < y)) = [] := List.filter_eq_nil_iff.mpr fun z hz => by
        have := h1 z hz
        simp
        omega
      rw [if_neg Bool.false_ne_true, this]
      rfl
    · have hx : x ∈ r := (List.mem_cons.mp hx).resolve_left (Ne.symm e)
      have := h1 x hx
      rw [firstAt_cons e, List.filter_cons, decide_eq_true (by omega), if_pos rfl, List.length_cons, first_less h2 hx]
theorem rise_nd {ls : List Int} (h : ls.Pairwise (· < ·)) : ls.Nodup := h.imp fun z => by omega
theorem upTo_get {n x : Int} (h0 : 0 ≤ x) (h1 : x < n) : (upTo n)[x.toNat]? = some x := by
  unfold upTo
  rw [List.getElem?_map, List.getElem?_range (by omega)]
  show some ((x.toNat : Int)) = some x
  rw [Int.toNat_of_nonneg h0]
/-! ### lots that are walked; the data of webs -/
theorem Lot.le {n : Int} {ls : List Int} (h : Lot n ls) : (ls.length : Int) ≤ n := by
  obtain ⟨x, hx⟩ := List.exists_mem_of_ne_nil _ h.ne
  have := h.ok x hx
  have := nd_le (rise_nd h.up) (m := upTo n) fun y hy => upTo_mem.mpr (h.ok y hy)
  rw [upTo_length] at this
  omega
theorem Lot.tie {n a b : Int} (h0 : 0 ≤ a) (h1 : a < b) (h2 : b < n) : Lot n [a, b] := ⟨List.cons_ne_nil _ _, .cons (fun y hy => by rw [List.mem_singleton.mp hy]; exact h1) (List.pairwise_singleton _ _), fun x hx => by
  rcases List.mem_cons.mp hx with rfl | hx
  · exact ⟨h0, by omega⟩
  · rw [List.mem_singleton.mp hx]
    exact ⟨by omega, h2⟩⟩
theorem IsLot.ties {H : Hp} {n : Int} : ∀ {rs : List V} {ts : List (Int × Int)}, Ties H rs ts → TOk n ts → ∀ x ∈ rs, IsLot H n x
  | _, _, .nil, _, _, hx => nomatch hx
  | _, _, .cons (b := t) ⟨q, e, h⟩ tl, ok, x, hx => by
    rcases List.mem_cons.mp hx with rfl | hx
    · obtain ⟨o1, o2, o3⟩ := ok t List.mem_cons_self
      exact ⟨q, [t.1, t.2], e, h, Lot.tie o1 o2 o3⟩
    · exact IsLot.ties tl (fun t ht => ok t (List.mem_cons_of_mem _ ht)) x hx
def dWeb (n : Int) (ts : List (Int × Int)) : PyData := .tuple [.int n, dE ts]
theorem Web.dp {K : PySem.W.Frag} {H : Hp} {v : V} {n : Int} {ts : List (Int × Int)} (W : Web H v n ts) : Dp K H v (dWeb n ts) := by
  obtain ⟨t, u, rs, rfl, h1, h2, h3⟩ := W
  exact .tup (sqT_of h1) (.cons (.int _) (.cons (.tup (sqT_of h2) h3.dpA) .nil))
theorem dWeb_sh (n : Int) (ts : List (Int × Int)) : Sh 3 (dWeb n ts) := Sh.tup fun d hd => by
  rcases List.mem_cons.mp hd with rfl | hd
  · exact Sh.int.up (by decide)
  · rw [List.mem_singleton.mp hd]
    exact dE_sh _
/-- what inner_web and drawn_web tell -/
def dTold (n : Int) (ts : List (Int × Int)) (ms : List Int) : PyData := .tuple [dWeb n ts, .tuple (ms.map PyData.int)]
theorem told_dp {K : PySem.W.Frag} {H : Hp} {r c : Addr} {v : V} {n : Int} {ts : List (Int × Int)} {ms : List Int} (hr : H r = some (.tup [v, .ref c])) (W : Web H v n ts) (hc : H c = some (.tup (ms.map V.int))) : Dp K H (.ref r) (dTold n ts ms) :=
  .tup (sqT_of hr) (.cons W.dp (.cons (.tup (sqT_of hc) (dp_ints ms)) .nil))
theorem dTold_sh (n : Int) (ts : List (Int × Int)) (ms : List Int) : Sh 4 (dTold n ts ms) := Sh.tup fun d hd => by
  rcases List.mem_cons.mp hd with rfl | hd
  · exact dWeb_sh n ts
  · rw [List.mem_singleton.mp hd]
    exact (ints_sh ms).up (by decide)
theorem dTold_shaped (n : Int) (ts : List (Int × Int)) (ms : List Int) : SeqAt.shaped (dTold n ts ms) = true := (dTold_sh n ts ms).shaped
theorem dTold_eqv (n : Int) (ts : List (Int × Int)) (ms : List Int) : PyData.eqv (dTold n ts ms) (dTold n ts ms) = true := SeqAt.eqv_refl _ (SeqAt.canLay_of_shaped (dTold_shaped n ts ms))
theorem innerT_ok {n : Int} {ls : List Int} {ts : List (Int × Int)} (ok : TOk n ts) : TOk ls.length (innerT ls ts) := fun t ht => by
  obtain ⟨u, hu, rfl⟩ := List.mem_map.mp ht
  obtain ⟨h1, h2⟩ := List.mem_filter.mp hu
  have h2 : (decide (u.1 ∈ ls) && decide (u.2 ∈ ls)) = true := h2
  rw [Bool.and_eq_true, decide_eq_true_eq, decide_eq_true_eq] at h2
  have l1 := firstAt_lt h2.1
  have l2 := firstAt_lt h2.2
  have ne : firstAt ls u.1 ≠ firstAt ls u.2 := fun z => by
    have := (firstAt_inj h2.1 h2.2).mp z
    have := (ok u h1).2.1
    omega
  unfold mvT
  dsimp only
  split <;> split <;> omega
theorem left_mem {ls : List Int} {n x : Int} : x ∈ leftL ls n ↔ (0 ≤ x ∧ x < n) ∧ (x = ls.headD 0 ∨ x ∉ ls) := by
  unfold leftL
  rw [List.mem_filter, upTo_mem, Bool.or_eq_true, decide_eq_true_eq, Bool.not_eq_true', decide_eq_false_iff_not]
theorem Lot.head {n : Int} {ls : List Int} (h : Lot n ls) : ls.headD 0 ∈ ls := by
  cases e : ls with
  | nil => exact absurd e h.ne
  | cons x r => exact List.mem_cons_self
theorem draw_lt {n x : Int} {ls : List Int} (h : Lot n ls) (h0 : 0 ≤ x) (h1 : x < n) : 0 ≤ drawF ls n x ∧ drawF ls n x < (leftL ls n).length := by
  have hh := left_mem.mpr ⟨h.ok _ h.head, .inl rfl⟩
  unfold drawF
  split
  · have := firstAt_lt hh
    omega
  · rename_i e
    have := firstAt_lt (left_mem.mpr ⟨⟨h0, h1⟩, .inr e⟩)
    omega
/-- drawn together are the points of the lot, and no others -/
theorem draw_inj {n x y : Int} {ls : List Int} (h : Lot n ls) (x0 : 0 ≤ x) (x1 : x < n) (y0 : 0 ≤ y) (y1 : y < n) : drawF ls n x = drawF ls n y ↔ x = y ∨ (x ∈ ls ∧ y ∈ ls) := by
  have hh := left_mem.mpr ⟨h.ok _ h.head, .inl rfl⟩
  unfold drawF
  by_cases hx : x ∈ ls <;> by_cases hy : y ∈ ls
  · rw [if_pos hx, if_pos hy]
    exact ⟨fun _ => .inr ⟨hx, hy⟩, fun _ => rfl⟩
  · rw [if_pos hx, if_neg hy]
    have hm := left_mem.mpr ⟨⟨y0, y1⟩, .inr hy⟩
    constructor
    · intro z
      have := (firstAt_inj hh hm).mp (by omega)
      exact absurd (this ▸ h.head) hy
    · rintro (z | z)
      · exact absurd (z ▸ hx) hy
      · exact absurd z.2 hy
  · rw [if_neg hx, if_pos hy]
    have hm := left_mem.mpr ⟨⟨x0, x1⟩, .inr hx⟩
    constructor
    · intro z
      have := (firstAt_inj hm hh).mp (by omega)
      exact absurd (this ▸ h.head) hx
    · rintro (z | z)
      · exact absurd (z ▸ hy) hx
      · exact absurd z.1 hx
  · rw [if_neg hx, if_neg hy]
    have hm := left_mem.mpr ⟨⟨x0, x1⟩, .inr hx⟩
    have hm2 := left_mem.mpr ⟨⟨y0, y1⟩, .inr hy⟩
    constructor
    · intro z
      exact .inl ((firstAt_inj hm hm2).mp (by omega))
    · rintro (z | z)
      · rw [z]
      · exact absurd z.1 hx
theorem drawnT_ok {n : Int} {ls : List Int} {ts : List (Int × Int)} (h : Lot n ls) (ok : TOk n ts) : TOk (leftL ls n).length (drawnT ls n ts) := fun t ht => by
  obtain ⟨u, hu, rfl⟩ := List.mem_map.mp ht
  obtain ⟨h1, h2⟩ := List.mem_filter.mp hu
  obtain ⟨o1, o2, o3⟩ := ok u h1
  have l1 := draw_lt h o1 (show u.1 < n by omega)
  have l2 := draw_lt h (show 0 ≤ u.2 by omega) o3
  have ne : drawF ls n u.1 ≠ drawF ls n u.2 := fun z => by
    rcases (draw_inj h o1 (by omega) (by omega) o3).mp z with e | ⟨e1, e2⟩
    · omega
    · have h2 : (!(decide (u.1 ∈ ls) && decide (u.2 ∈ ls))) = true := h2
      rw [decide_eq_true e1, decide_eq_true e2] at h2
      exact absurd h2 (by decide)
  unfold mvT
  dsimp only
  split <;> split <;> omega
theorem left_len {ls : List Int} {n : Int} (h : Lot n ls) : 1 ≤ ((leftL ls n).length : Int) ∧ ((leftL ls n).length : Int) ≤ n := by
  have hh := left_mem.mpr ⟨h.ok _ h.head, .inl rfl⟩
  have := List.length_pos_of_mem hh
  have h2 : (leftL ls n).length ≤ (upTo n).length := List.length_filter_le _ _
  rw [upTo_length] at h2
  omega
/-- the numbers of both kinds are all numbers -/
theorem nums_perm (p : Int × Int → Bool) (ts : List (Int × Int)) : (numsP p 0 ts ++ numsP (fun t => !p t) 0 ts).Perm (upTo ts.length) := by
  suffices h : ∀ (ts : List (Int × Int)) (k : Nat), (numsP p k ts ++ numsP (fun t => !p t) k ts).Perm ((List.range' k ts.length).map fun (i : Nat) => (i : Int)) from by
    have := h ts 0
    rw [← List.range_eq_range'] at this
    unfold upTo
    rw [show ((ts.length : Int)).toNat = ts.length by omega]
    exact this
  intro ts
  induction ts with
  | nil => intro k; exact .refl _
  | cons t r ih =>
    intro k
    rw [numsP_cons, numsP_cons, List.length_cons, List.range'_succ, List.map_cons]
    cases e : p t with
    | true =>
      rw [if_pos rfl, if_neg (by decide)]
      exact (ih (k + 1)).cons _
    | false =>
      rw [if_neg (by decide), if_pos (by decide)]
      exact List.perm_middle.trans ((ih (k + 1)).cons _)
end FF
namespace FF
open PySem PySem.Spec PyProof.Rows L2
/-! ### sorted(tuple of ints) -/
section
variable {prog : Program} {w : World} {A : Around} {E : Value → Shared → Prop} {s : Shared}
theorem collect_tupI {l : Addr} {vs : List Value} {Q : List Value → Shared → Prop} (hl : s.heap.IsTuple l vs.toArray) (hz : vs.length ≤ sizeLine)
    (h : ∀ h', (∀ b o, s.heap.get? b = some o → h'.get? b = some o) → s.heap.objs.size ≤ h'.objs.size → Q vs { s with heap := h' }) : wpAny (model prog w) A (collect (.ref l)) Q E s := by
  obtain ⟨o, ho, hc, n, hd⟩ := id hl
  unfold collect
  refine wpAny_bind (wpAny_runValue (codeAny_builtin entry_proto_collect' ?_))
  show wpAny _ _ (do again (.builtin "list.__iadd__" ⟨[← newList [], .ref l], []⟩)) _ _ s
  refine wpAny_bind (wpAny_newList (wpAny_pure ⟨Code.quiet_builtin _ (by decide +kernel), codeAny_builtin entry_list_iadd' ?_⟩))
  show wpAny _ _ (Builtin.List.listExtendWith (.ref s.heap.objs.size) (.ref l) (.ref s.heap.objs.size)) _ _ { s with heap := s.heap.push (seqObj "list" #[] 0) }
  have at0 : (s.heap.push (seqObj "list" #[] 0)).get? s.heap.objs.size = some (seqObj "list" #[] 0) := Heap.get?_push_size _ rfl
  have at1 : (s.heap.push (seqObj "list" #[] 0)).get? l = some o := Heap.get?_push_of_some _ ho
  unfold Builtin.List.listExtendWith
  refine wpAny_bind (wpAny_typeOf (T := "tuple") ⟨o, at1, hc⟩ ?_)
  rw [if_pos (by rw [show (Value.type "tuple" == Value.type "tuple") = true from rfl]; simp)]
  refine wpAny_bind (listItems_at at1 hd (wpAny_bind (listItems_at at0 rfl ?_)))
  rw [if_neg (by simp)]
  refine wpAny_bind (listUpdate_at at0 rfl ?_ (Nat.zero_le _) (by show (#[] ++ vs.toArray).size ≤ sizeLine + 1; simp only [Array.size_append, List.size_toArray, List.length_nil]; omega))
  refine wpAny_pure ?_
  show wpAny (model prog w) A (do
      let r ← load s.heap.objs.size
      match r.data with
      | .seq xs _ => pure xs.toList
      | _ => unsupported "internal:collect") Q E { s with heap := (s.heap.push (seqObj "list" #[] 0)).update s.heap.objs.size (Obj.mapSeq (· ++ vs.toArray)) }
  refine wpAny_bind (wpAny_load (get?_update_seq at0 _) ?_)
  show wpAny _ _ (pure ((#[] : Array Value) ++ vs.toArray).toList) Q E _
  rw [show ((#[] : Array Value) ++ vs.toArray).toList = vs by simp]
  refine wpAny_pure (h _ (fun b ob e => ?_) ?_)
  · rw [Heap.get?_update_ne _ _ _ _ (Nat.ne_of_lt (Heap.lt_size e))]
    exact Heap.get?_push_of_some _ e
  · rw [Heap.size_update, size_push']
    exact Nat.le_succ _
theorem sorted_tupI {l : Addr} {vs : List Value} {ns : List Int} {Q : Value → Shared → Prop} (hl : s.heap.IsTuple l vs.toArray) (hI : IntsAre vs ns) (hz : vs.length ≤ sizeLine)
    (hQ : ∀ h' p (c : Nat) (out : Array Value) (ms : List Int), (∀ b o, s.heap.get? b = some o → h'.get? b = some o) → s.heap.objs.size ≤ p → h'.get? p = some (seqObj "list" out c) → IntsAre out.toList ms → ms.Perm ns → ms.Pairwise (· ≤ ·) → Q (.ref p) { s with heap := h' }) :
    wpAny (model prog w) A (call (.builtin "sorted") [.ref l]) Q E s := by
  refine Calls.call_function_entry kind_sorted plain_sorted entry_sorted (args_sorted1 _) ?_
  unfold Builtin.«sorted»
  refine wpAny_bind (m := checkCount "sorted" 1 1 _) (wpAny_pure (wpAny_bind (collect_tupI hl hz fun h1 kk hs => ?_)))
  refine wpAny_bind (wpAny_newList ?_ hz)
  have at1 : (h1.push (seqObj "list" vs.toArray 0)).get? h1.objs.size = some (seqObj "list" vs.toArray 0) := Heap.get?_push_size _ rfl
  refine wpAny_bind (wpAny_holding (wpAny_call_entry slot_list_sort ⟨_, at1, rfl⟩ entry_list_sort (SrtO.list_sort_ord SrtO.swo_int at1 hz (fun h2 => SrtO.ints_sortable hI h2) fun out q1 q2 => ⟨_, rfl, ?_⟩) (args_list_sort _)))
  obtain ⟨k1, k2, k3⟩ := SrtO.ints_out hI q1 q2
  obtain ⟨c, hc⟩ := sortedHeap_at (vs := vs) (out := out.toArray) at1
  refine wpAny_pure ⟨_, rfl, hQ _ h1.objs.size c out.toArray _ (fun b u e => ?_) hs hc k1 k2 k3⟩
  have hlt := Heap.lt_size (kk b u e)
  rw [sortedHeap_old (Nat.ne_of_lt hlt) (by rw [size_push']; exact Nat.lt_succ_of_lt hlt)]
  exact Heap.get?_push_of_some _ (kk b u e)
end
/-- sorted(t), t a tuple of ints -/
def rSortedTI (K : PySem.W.Frag) : List V → Hp → VK → Prop := fun vs H Q => ∃ (a : Addr) (ns : List Int), vs = [V.ref a] ∧ SqT K H a (ns.map V.int) ∧
  ∀ (ms : List Int) (p : Addr), ms.Perm ns → ms.Pairwise (· ≤ ·) → H p = none → Q (.ref p) (upd H p (.lst (ms.map V.int)))
theorem cr_sortedTI {X : Cx} {K : PySem.W.Frag} (h : X.K = K := by rfl) : CallR X (.builtin "sorted") (rSortedTI K) := by
  subst h
  intro pins s σ H vs us Q I r h
  obtain ⟨a, ns, rfl, hs, q⟩ := h
  obtain ⟨its, rv, t1, hz⟩ := I.tuple hs
  rw [Vals.ref1 r]
  have hi := rv.ints
  refine sorted_tupI (show s.heap.IsTuple a its.toArray from t1) hi (by rw [← rv.length]; exact hz) fun h' p c out ms kk hp hg hm h2 h3 => ?_
  have hlen : (ms.map V.int).length ≤ sizeLine := by
    rw [List.length_map, h2.length_eq]
    rw [List.length_map] at hz
    exact hz
  exact ⟨.ref p, upd H p (.lst (ms.map V.int)), I.laid (t' := s.toks) kk hp ⟨hlen, out.toList, c, vals_of_ints hm, hg⟩, rfl, q ms p h2 h3 (I.hok.fresh hp)⟩
end FF
namespace FF
open PySem PySem.Spec PyProof.Rows L2
/-! ### glued layings -/
theorem ringlessF_fine : ∀ (L : List (Int × Int)) {r g : Int → Int}, (∀ x y, r x = r y → g x = g y) → ringlessF g L = true → ringlessF r L = true
  | [], _, _, _, _ => rfl
  | t :: L, r, g, h, k => by
    have k : (if g t.1 = g t.2 then false else ringlessF (rstep g t) L) = true := k
    show (if r t.1 = r t.2 then false else ringlessF (rstep r t) L) = true
    by_cases c : g t.1 = g t.2
    · rw [if_pos c] at k
      cases k
    · rw [if_neg c] at k
      rw [if_neg fun z => c (h _ _ z)]
      refine ringlessF_fine L (fun x y e => ?_) k
      unfold rstep at e ⊢
      by_cases a1 : r x = r t.2
      · rw [if_pos a1] at e
        rw [if_pos (h _ _ a1)]
        by_cases a2 : r y = r t.2
        · rw [if_pos (h _ _ a2)]
        · rw [if_neg a2] at e
          split
          · rfl
          · exact h _ _ e
      · rw [if_neg a1] at e
        by_cases a2 : r y = r t.2
        · rw [if_pos a2] at e
          rw [if_pos (h _ _ a2)]
          split
          · rfl
          · exact h _ _ e
        · rw [if_neg a2] at e
          have := h _ _ e
          rw [this]
theorem ringlessF_mv (g : Int → Int) : ∀ (L : List (Int × Int)) (r : Int → Int), ringlessF r (L.map (mvT g)) = ringlessF (fun x => r (g x)) L
  | [], _ => rfl
  | t :: L, r => by
    show (if r (mvT g t).1 = r (mvT g t).2 then false else ringlessF (rstep r (mvT g t)) (L.map (mvT g))) = (if r (g t.1) = r (g t.2) then false else ringlessF (rstep (fun x => r (g x)) t) L)
    rw [ringlessF_mv g L]
    have key : (mvT g t = (g t.1, g t.2)) ∨ mvT g t = (g t.2, g t.1) := by
      unfold mvT
      by_cases c : g t.2 < g t.1
      · rw [if_pos c, if_neg (by omega)]
        exact .inr rfl
      · rw [if_neg c]
        split
        · exact .inl rfl
        · exact .inl (by rw [show g t.1 = g t.2 by omega])
    rcases key with e | e
    · rw [e]
      rfl
    · rw [e]
      dsimp only
      by_cases c : r (g t.1) = r (g t.2)
      · rw [if_pos c, if_pos c.symm]
      · rw [if_neg c, if_neg (fun z => c z.symm)]
        refine ringlessF_ker L fun x y => ?_
        have k2 : ∀ X Y A B : Int, A ≠ B → (((if X = A then B else X) = if Y = A then B else Y) ↔ (if X = B then A else X) = if Y = B then A else Y) := by
          intro X Y A B h
          split <;> split <;> split <;> split <;> omega
        exact k2 _ _ _ _ c
/-- the entries of the ties of a kind -/
def selV (p : Int × Int → Bool) : List (Int × Int) → List V → List V
  | t :: ts, w :: ws => if p t = true then w :: selV p ts ws else selV p ts ws
  | _, _ => []
theorem selV_cons (p : Int × Int → Bool) (t : Int × Int) (ts : List (Int × Int)) (w : V) (ws : List V) : selV p (t :: ts) (w :: ws) = if p t = true then w :: selV p ts ws else selV p ts ws := rfl
theorem layer_sel (p : Int × Int → Bool) (m : Int × Int → Int × Int) (f : Int) : ∀ (ts : List (Int × Int)) (ws : List V), layerOf ((ts.filter p).map m) (selV p ts ws) f = ((layerOf ts ws f).filter p).map m
  | [], ws => rfl
  | t :: ts, [] => by
    show layerOf _ [] f = _
    unfold layerOf
    rw [List.zip_nil_right]
    rfl
  | t :: ts, w :: ws => by
    rw [selV_cons, List.filter_cons, layerOf_cons, List.filter_append, List.map_append, ← layer_sel p m f ts ws]
    by_cases hp : p t = true
    · rw [if_pos hp, if_pos hp, List.map_cons, layerOf_cons]
      congr 1
      split
      · rw [List.filter_cons, if_pos hp]
        rfl
      · rfl
    · rw [if_neg hp, if_neg hp]
      have : ((if w = V.int f then [t] else []).filter p).map m = [] := by
        split
        · rw [List.filter_cons, if_neg hp]
          rfl
        · rfl
      rw [this, List.nil_append]
theorem sel_len (p : Int × Int → Bool) : ∀ {ts : List (Int × Int)} {ws : List V}, ws.length = ts.length → (selV p ts ws).length = (ts.filter p).length
  | [], ws, h => by
    cases ws with
    | nil => rfl
    | cons _ _ => cases h
  | t :: ts, [], h => by cases h
  | t :: ts, w :: ws, h => by
    have h' : ws.length = ts.length := Nat.succ.inj h
    rw [selV_cons, List.filter_cons]
    split
    · rw [List.length_cons, List.length_cons, sel_len p h']
    · exact sel_len p h'
theorem sel_sub (p : Int × Int → Bool) : ∀ {ts : List (Int × Int)} {ws : List V}, ∀ x ∈ selV p ts ws, x ∈ ws
  | [], _, x, h => nomatch h
  | _ :: _, [], x, h => nomatch h
  | t :: ts, w :: ws, x, h => by
    rw [selV_cons] at h
    split at h
    · rcases List.mem_cons.mp h with rfl | h
      · exact List.mem_cons_self
      · exact List.mem_cons_of_mem _ (sel_sub p x h)
    · exact List.mem_cons_of_mem _ (sel_sub p x h)
theorem sel_both (p : Int × Int → Bool) : ∀ {ts : List (Int × Int)} {ws : List V}, ws.length = ts.length → ∀ x ∈ ws, x ∈ selV p ts ws ∨ x ∈ selV (fun t => !p t) ts ws
  | [], ws, h, x, hx => by
    cases ws with
    | nil => cases hx
    | cons _ _ => cases h
  | t :: ts, [], h, x, hx => nomatch hx
  | t :: ts, w :: ws, h, x, hx => by
    have h' : ws.length = ts.length := Nat.succ.inj h
    rw [selV_cons, selV_cons]
    rcases List.mem_cons.mp hx with rfl | hx
    · cases e : p t with
      | true => rw [if_pos rfl]; exact .inl List.mem_cons_self
      | false => rw [if_pos (show (!false) = true from rfl)]; exact .inr List.mem_cons_self
    · rcases sel_both p h' x hx with z | z
      · refine .inl ?_
        split
        · exact List.mem_cons_of_mem _ z
        · exact z
      · refine .inr ?_
        split
        · exact List.mem_cons_of_mem _ z
        · exact z
theorem sel_nums (p : Int × Int → Bool) {ts : List (Int × Int)} {ws : List V} (h : ws.length = ts.length) : selV p ts ws = (numsP p 0 ts).map fun m => ws.getD m.toNat .non := by
  suffices k : ∀ (ts : List (Int × Int)) (ws pre : List V), ws.length = ts.length → selV p ts ws = (numsP p pre.length ts).map fun m => (pre ++ ws).getD m.toNat .non from k ts ws [] h
  intro ts
  induction ts with
  | nil =>
    intro ws pre h
    cases ws with
    | nil => rfl
    | cons _ _ => cases h
  | cons t ts ih =>
    intro ws pre h
    cases ws with
    | nil => cases h
    | cons w ws =>
      have ih' := ih ws (pre ++ [w]) (Nat.succ.inj h)
      rw [List.length_append] at ih'
      have ih' : selV p ts ws = (numsP p (pre.length + 1) ts).map fun m => ((pre ++ [w]) ++ ws).getD m.toNat .non := ih'
      rw [show (pre ++ [w]) ++ ws = pre ++ w :: ws by rw [List.append_assoc]; rfl] at ih'
      rw [selV_cons, numsP_cons, ih']
      split
      · rw [List.map_cons]
        congr 1
        rw [Int.toNat_natCast, List.getD_eq_getElem?_getD, List.getElem?_append_right (Nat.le_refl _), Nat.sub_self]
        rfl
      · rfl
theorem sel_of {p : Int × Int → Bool} {ts : List (Int × Int)} {ws xs : List V} (h : ws.length = ts.length) (hx : xs.length = (numsP p 0 ts).length) (k : ∀ (i : Nat) m, (numsP p 0 ts)[i]? = some m → ws[m.toNat]? = xs[i]?) : selV p ts ws = xs := by
  rw [sel_nums p h]
  apply List.ext_getElem
  · rw [List.length_map, hx]
  intro i h1 h2
  rw [List.getElem_map]
  rw [List.length_map] at h1
  have := k i _ (List.getElem?_eq_getElem h1)
  rw [List.getD_eq_getElem?_getD, this, List.getElem?_eq_getElem h2]
  rfl
/-- a laying within and one of the web drawn together make one of the whole -/
theorem glue_lay {n k : Int} {ls : List Int} {ts : List (Int × Int)} {ws : List V} (hl : ws.length = ts.length) (hi : LayK (innerT ls ts) k (selV (inLot ls) ts ws)) (ho : LayK (drawnT ls n ts) k (selV (fun t => !inLot ls t) ts ws)) : LayK ts k ws := by
  refine ⟨hl, fun x hx => (sel_both (inLot ls) hl x hx).elim (hi.each x) (ho.each x), fun f => ?_⟩
  have h1 := hi.tree f
  have h2 := ho.tree f
  unfold innerT at h1
  unfold drawnT at h2
  rw [layer_sel, ringlessF_mv] at h1 h2
  have hp : (layerOf ts ws f).Perm ((layerOf ts ws f).filter (inLot ls) ++ (layerOf ts ws f).filter fun t => !inLot ls t) := (List.filter_append_perm _ _).symm
  rw [ringlessF_perm hp]
  have a1 := ringlessF_fine _ (r := fun x => x) (g := fun x => ((firstAt ls x : Nat) : Int)) (fun x y e => by rw [show x = y from e]) h1
  rw [ringlessF_split _ _ _ a1]
  refine ringlessF_fine _ (g := fun x => drawF ls n x) (foldR_fine (fun x y e => by rw [show x = y from e]) fun t ht => ?_) h2
  have ht := (List.mem_filter.mp ht).2
  have ht : (decide (t.1 ∈ ls) && decide (t.2 ∈ ls)) = true := ht
  rw [Bool.and_eq_true, decide_eq_true_eq, decide_eq_true_eq] at ht
  unfold drawF
  rw [if_pos ht.1, if_pos ht.2]
theorem shaped_OL (ws : List V) : SeqAt.shaped (.list (ws.map dO)) = true := (Sh.lst (k := 0) fun d hd => by
  obtain ⟨x, _, rfl⟩ := List.mem_map.mp hd
  exact sh_O).shaped
theorem eqv_OL (ws : List V) : PyData.eqv (.list (ws.map dO)) (.list (ws.map dO)) = true := SeqAt.eqv_refl _ (SeqAt.canLay_of_shaped (shaped_OL ws))
end FF
namespace FF
open PySem PySem.Spec PyProof.Rows L2
/-! ### lots of the inner web, in the web -/
def backL (ls lo : List Int) : List Int := lo.map fun i => ls.getD i.toNat 0
theorem back_len (ls lo : List Int) : (backL ls lo).length = lo.length := List.length_map ..
theorem getD_in {ls : List Int} {i : Int} (h0 : 0 ≤ i) (h1 : i < ls.length) : ls[i.toNat]? = some (ls.getD i.toNat 0) := by
  rw [List.getD_eq_getElem?_getD, List.getElem?_eq_getElem (by omega)]
  rfl
theorem back_lot {n : Int} {ls lo : List Int} (L : Lot n ls) (M : Lot ls.length lo) : Lot n (backL ls lo) := by
  refine ⟨fun z => M.ne (List.map_eq_nil_iff.mp z), ?_, fun x hx => ?_⟩
  · refine List.pairwise_map.mpr (M.up.imp_of_mem fun {a b} ha hb h => ?_)
    obtain ⟨a0, a1⟩ := M.ok a ha
    obtain ⟨b0, b1⟩ := M.ok b hb
    have e1 := getD_in (ls := ls) a0 a1
    have e2 := getD_in (ls := ls) b0 b1
    obtain ⟨l1, g1⟩ := List.getElem?_eq_some_iff.mp e1
    obtain ⟨l2, g2⟩ := List.getElem?_eq_some_iff.mp e2
    rw [← g1, ← g2]
    exact List.pairwise_iff_getElem.mp L.up _ _ l1 l2 (by omega)
  · obtain ⟨i, hi, rfl⟩ := List.mem_map.mp hx
    obtain ⟨a0, a1⟩ := M.ok i hi
    exact L.ok _ (List.mem_of_getElem? (getD_in a0 a1))
theorem back_mem {ls lo : List Int} (nd : ls.Nodup) (M : ∀ i ∈ lo, 0 ≤ i ∧ i < (ls.length : Int)) {a : Int} (ha : a ∈ ls) : a ∈ backL ls lo ↔ ((firstAt ls a : Nat) : Int) ∈ lo := by
  constructor
  · intro h
    obtain ⟨i, hi, e⟩ := List.mem_map.mp h
    obtain ⟨i0, i1⟩ := M i hi
    have g := getD_in (ls := ls) i0 i1
    rw [e] at g
    rw [firstAt_at nd g, show ((i.toNat : Nat) : Int) = i by omega]
    exact hi
  · intro h
    refine List.mem_map.mpr ⟨_, h, ?_⟩
    rw [Int.toNat_natCast, List.getD_eq_getElem?_getD, firstAt_get ha]
    rfl
theorem back_sub {ls lo : List Int} (M : ∀ i ∈ lo, 0 ≤ i ∧ i < (ls.length : Int)) : ∀ a ∈ backL ls lo, a ∈ ls := fun a h => by
  obtain ⟨i, hi, e⟩ := List.mem_map.mp h
  obtain ⟨i0, i1⟩ := M i hi
  have g := getD_in (ls := ls) i0 i1
  rw [e] at g
  exact List.mem_of_getElem? g
theorem mvT_in (g : Int → Int) (lo : List Int) (t : Int × Int) : (decide ((mvT g t).1 ∈ lo) && decide ((mvT g t).2 ∈ lo)) = (decide (g t.1 ∈ lo) && decide (g t.2 ∈ lo)) := by
  unfold mvT
  by_cases c : g t.2 < g t.1
  · rw [if_pos c, if_neg (by omega)]
    exact Bool.and_comm _ _
  · rw [if_neg c]
    split
    · rfl
    · rw [show g t.1 = g t.2 by omega]
theorem inside_inner {ls lo : List Int} (nd : ls.Nodup) (M : ∀ i ∈ lo, 0 ≤ i ∧ i < (ls.length : Int)) (ts : List (Int × Int)) : inside lo (innerT ls ts) = inside (backL ls lo) ts := by
  unfold inside innerT
  rw [List.filter_map, List.length_map, List.filter_filter]
  congr 1
  refine List.filter_congr fun t _ => ?_
  have e := mvT_in (fun x => ((firstAt ls x : Nat) : Int)) lo t
  show ((decide ((mvT (fun x => ((firstAt ls x : Nat) : Int)) t).1 ∈ lo) && decide ((mvT (fun x => ((firstAt ls x : Nat) : Int)) t).2 ∈ lo)) && inLot ls t) = _
  rw [e]
  show ((decide (((firstAt ls t.1 : Nat) : Int) ∈ lo) && decide (((firstAt ls t.2 : Nat) : Int) ∈ lo)) && (decide (t.1 ∈ ls) && decide (t.2 ∈ ls))) = (decide (t.1 ∈ backL ls lo) && decide (t.2 ∈ backL ls lo))
  by_cases h1 : t.1 ∈ ls
  · by_cases h2 : t.2 ∈ ls
    · rw [decide_eq_true h1, decide_eq_true h2, Bool.and_true, Bool.and_true]
      congr 1
      · exact decide_eq_decide.mpr (back_mem nd M h1).symm
      · exact decide_eq_decide.mpr (back_mem nd M h2).symm
    · rw [decide_eq_false h2, Bool.and_false, Bool.and_false, decide_eq_false (fun z => h2 (back_sub M _ z)), Bool.and_false]
  · rw [decide_eq_false h1, Bool.false_and, Bool.and_false, decide_eq_false (fun z => h1 (back_sub M _ z)), Bool.false_and]
theorem inner_all (ls : List Int) (ts : List (Int × Int)) : inside (upTo ls.length) (innerT ls ts) = inside ls ts := by
  unfold innerT
  unfold inside
  rw [List.filter_map, List.length_map, List.filter_filter]
  congr 1
  refine List.filter_congr fun t _ => ?_
  show ((decide ((mvT (fun x => ((firstAt ls x : Nat) : Int)) t).1 ∈ upTo ls.length) && decide ((mvT (fun x => ((firstAt ls x : Nat) : Int)) t).2 ∈ upTo ls.length)) && inLot ls t) = _
  rw [mvT_in]
  show (_ && (decide (t.1 ∈ ls) && decide (t.2 ∈ ls))) = (decide (t.1 ∈ ls) && decide (t.2 ∈ ls))
  by_cases h1 : t.1 ∈ ls
  · by_cases h2 : t.2 ∈ ls
    · have l1 := firstAt_lt h1
      have l2 := firstAt_lt h2
      rw [decide_eq_true (upTo_mem.mpr ⟨by omega, by omega⟩), decide_eq_true (upTo_mem.mpr ⟨by omega, by omega⟩)]
      rfl
    · rw [decide_eq_false h2, Bool.and_false, Bool.and_false]
  · rw [decide_eq_false h1, Bool.false_and, Bool.and_false]
/-- the inner web needs no more forests -/
theorem due_inner {n k1 k : Int} {ls : List Int} {ts : List (Int × Int)} (L : Lot n ls) (h1 : DueN (innerT ls ts) ls.length k1) (h : DueN ts n k) : k1 ≤ k :=
  h1.le (fun lo M => by
    rw [inside_inner (rise_nd L.up) M.ok]
    have := h.most _ (back_lot L M)
    rw [back_len] at this
    exact this) h.k0
/-- that of a full lot as many -/
theorem due_full_inner {n k1 k : Int} {ls : List Int} {ts : List (Int × Int)} (L : Lot n ls) (h1 : DueN (innerT ls ts) ls.length k1) (h : DueN ts n k) (hf : (inside ls ts : Int) > (k - 1) * ((ls.length : Int) - 1)) : k1 = k := by
  have a := due_inner L h1 h
  have hne := List.length_pos_iff.mpr L.ne
  have b := h1.most _ (lot_all (n := ls.length) (by omega))
  rw [inner_all, upTo_length] at b
  by_cases c : k ≤ k1
  · omega
  · have : k1 * ((ls.length : Int) - 1) ≤ (k - 1) * ((ls.length : Int) - 1) := Int.mul_le_mul_of_nonneg_right (by omega) (by omega)
    rw [show ((((ls.length : Int).toNat : Nat) : Int)) = (ls.length : Int) by omega] at b
    omega
theorem flat_O {ws : List V} (h : ∀ x ∈ ws, IsO x) : ws.all flatV = true := List.all_eq_true.mpr fun x hx => by
  rcases h x hx with rfl | ⟨i, rfl⟩
  · rfl
  · rfl
theorem inV_none {ws : List V} (h : ∀ x ∈ ws, IsO x) (hn : ∀ x ∈ ws, x ≠ V.non) : inV .non ws = false := by
  unfold inV
  rw [List.any_eq_false]
  intro x hx
  rcases h x hx with rfl | ⟨i, rfl⟩
  · exact absurd rfl (hn _ hx)
  · exact fun h => Bool.false_ne_true h
end FF
namespace FF
open PySem PySem.Spec PyProof.Rows L2
/-! ### things that are looked at as webs -/
def tieO (n : Int) : Option (List V) → Bool
  | some [x, .int j] => isNum (.int j) 0 (n - 1) && isNum x 0 (j - 1)
  | _ => false
theorem tieO_len {n : Int} {xs : List V} (h : xs.length ≠ 2) : tieO n (some xs) = false := by
  cases xs with
  | nil => rfl
  | cons x xs =>
    cases xs with
    | nil => rfl
    | cons y xs =>
      cases xs with
      | nil => exact absurd rfl h
      | cons z xs => cases y <;> rfl
theorem tieO_two {n : Int} {x y : V} (h : isNum y 0 (n - 1) = false) : tieO n (some [x, y]) = false := by
  cases y with
  | int j => show (isNum (.int j) 0 (n - 1) && _) = false; rw [h, Bool.false_and]
  | _ => rfl
inductive WT (H : Hp) : V → Bool → Prop
  | no {v : V} {nm : String} (h : TyN H v nm) (hn : nm ≠ "tuple") : WT H v false
  | len {a : Addr} {xs : List V} (h : H a = some (.tup xs)) (hl : xs.length ≠ 2) : WT H (.ref a) false
  | pts {a : Addr} {x y : V} {nm : String} (h : H a = some (.tup [x, y])) (hx : TyN H x nm) (hb : isNum x 1 40 = false) : WT H (.ref a) false
  | tys {a : Addr} {n : Int} {y : V} {nm : String} (h : H a = some (.tup [.int n, y])) (h0 : 1 ≤ n) (h1 : n ≤ 40) (hy : TyN H y nm) (hn : nm ≠ "tuple") : WT H (.ref a) false
  | many {a u : Addr} {n : Int} {rs : List V} (h : H a = some (.tup [.int n, .ref u])) (h0 : 1 ≤ n) (h1 : n ≤ 40) (hu : H u = some (.tup rs)) (hl : 120 < rs.length) : WT H (.ref a) false
  | ties {a u : Addr} {n : Int} {rs : List V} {os : List (Option (List V))} (h : H a = some (.tup [.int n, .ref u])) (h0 : 1 ≤ n) (h1 : n ≤ 40) (hu : H u = some (.tup rs)) (hl : rs.length ≤ 120) (hr : Paired (Tpl H) rs os) : WT H (.ref a) (os.all (tieO n))
theorem Ties.tpl {H : Hp} : ∀ {rs : List V} {ts : List (Int × Int)}, Ties H rs ts → Paired (Tpl H) rs (ts.map fun t => some [V.int t.1, .int t.2])
  | _, _, .nil => .nil
  | _, _, .cons ⟨q, e, h⟩ t => by
    subst e
    exact .cons (.yes h fun x hx => by
      rcases List.mem_cons.mp hx with rfl | hx
      · exact ⟨_, .int _⟩
      · rw [List.mem_singleton.mp hx]
        exact ⟨_, .int _⟩) (Ties.tpl t)
theorem tieO_ok {n : Int} {t : Int × Int} : tieO n (some [V.int t.1, .int t.2]) = true ↔ 0 ≤ t.1 ∧ t.1 < t.2 ∧ t.2 < n := by
  show (((decide (0 ≤ t.2) && decide (t.2 ≤ n - 1)) && (decide (0 ≤ t.1) && decide (t.1 ≤ t.2 - 1))) = true) ↔ _
  rw [Bool.and_eq_true, Bool.and_eq_true, Bool.and_eq_true, decide_eq_true_eq, decide_eq_true_eq, decide_eq_true_eq, decide_eq_true_eq]
  omega
theorem Web.wt {H : Hp} {v : V} {n : Int} {ts : List (Int × Int)} (W : Web H v n ts) (ok : TOk n ts) (h0 : 1 ≤ n) (h1 : n ≤ 40) (hl : ts.length ≤ 120) : WT H v true := by
  obtain ⟨t, u, rs, rfl, h2, h3, h4⟩ := W
  have e : ((ts.map fun t => some [V.int t.1, .int t.2]).all (tieO n)) = true := List.all_eq_true.mpr fun o ho => by
    obtain ⟨t, ht, rfl⟩ := List.mem_map.mp ho
    exact tieO_ok.mpr (ok t ht)
  rw [← e]
  exact .ties h2 h0 h1 h3 (by rw [h4.length]; exact hl) h4.tpl
theorem WT.ke {H H' : Hp} {v : V} {b : Bool} (h : WT H v b) (k : Ke H H') : WT H' v b := by
  cases h with
  | no h hn => exact .no (h.ke k) hn
  | len h hl => exact .len (k.tup h) hl
  | pts h hx hb => exact .pts (k.tup h) (hx.ke k) hb
  | tys h h0 h1 hy hn => exact .tys (k.tup h) h0 h1 (hy.ke k) hn
  | many h h0 h1 hu hl => exact .many (k.tup h) h0 h1 (k.tup hu) hl
  | ties h h0 h1 hu hl hr => exact .ties (k.tup h) h0 h1 (k.tup hu) hl (Paired.mapP hr fun _ _ z => z.ke k)
end FF
namespace FF
open PySem PySem.Spec PyProof.Rows L2
/-! ### rows of things that are not ties, and of things that are no webs -/
structure OTs (n : Int) (H : Hp) (xs : List V) : Prop where
  all : ∀ x ∈ xs, ∃ o, Tpl H x o ∧ tieO n o = false
theorem OTs.nil {n : Int} {H : Hp} : OTs n H [] := ⟨fun _ z => nomatch z⟩
theorem OTs.cons {n : Int} {H : Hp} {x : V} {xs : List V} {o : Option (List V)} (h : Tpl H x o) (e : tieO n o = false) (t : OTs n H xs) : OTs n H (x :: xs) := ⟨fun y hy => by
  rcases List.mem_cons.mp hy with rfl | hy
  · exact ⟨o, h, e⟩
  · exact t.all y hy⟩
theorem OTs.app {n : Int} {H : Hp} {xs ys : List V} (a : OTs n H xs) (b : OTs n H ys) : OTs n H (xs ++ ys) := ⟨fun x hx => (List.mem_append.mp hx).elim (a.all x) (b.all x)⟩
theorem OTs.ke {n : Int} {H H' : Hp} {xs : List V} (h : OTs n H xs) (k : Ke H H') : OTs n H' xs := ⟨fun x hx => by
  obtain ⟨o, t, e⟩ := h.all x hx
  exact ⟨o, t.ke k, e⟩⟩
theorem OTs.new {n : Int} {H : Hp} {p : Addr} {o : HO} {xs : List V} (h : OTs n H xs) (k : H p = none) : OTs n (upd H p o) xs := h.ke (Ke.new k)
theorem OTs.put {n : Int} {H : Hp} {p : Addr} {zs ys : List V} {xs : List V} (h : OTs n H xs) (k : H p = some (.lst zs)) : OTs n (upd H p (.lst ys)) xs := ⟨fun x hx => by
  obtain ⟨o, t, e⟩ := h.all x hx
  exact ⟨o, t.mono (fun q xs e => by rw [upd_ne (ne_of e k (fun z => nomatch z))]; exact e) (fun _ _ z => z.put k), e⟩⟩
/-- no tuple: no tie -/
theorem OTs.ty {n : Int} {H : Hp} {x : V} {nm : String} {xs : List V} (h : TyN H x nm) (e : nm ≠ "tuple") (t : OTs n H xs) : OTs n H (x :: xs) := t.cons (.no h e) rfl
/-- a tuple of another length -/
theorem OTs.len {n : Int} {H : Hp} {a : Addr} {ys : List V} {xs : List V} (h : H a = some (.tup ys)) (hy : ∀ y ∈ ys, ∃ nm, TyN H y nm) (e : ys.length ≠ 2) (t : OTs n H xs) : OTs n H (.ref a :: xs) := t.cons (.yes h hy) (tieO_len e)
/-- two that are none -/
theorem OTs.two {n : Int} {H : Hp} {a : Addr} {x y : V} {n1 n2 : String} {xs : List V} (h : H a = some (.tup [x, y])) (hx : TyN H x n1) (hy : TyN H y n2) (e : tieO n (some [x, y]) = false) (t : OTs n H xs) : OTs n H (.ref a :: xs) := t.cons (.yes h fun z hz => by
  rcases List.mem_cons.mp hz with rfl | hz
  · exact ⟨_, hx⟩
  · rw [List.mem_singleton.mp hz]
    exact ⟨_, hy⟩) e
theorem tieO_int {n i j : Int} (h : ¬(0 ≤ i ∧ i < j ∧ j < n)) : tieO n (some [V.int i, .int j]) = false := by
  rcases hb : tieO n (some [V.int i, .int j]) with _ | _
  · rfl
  · exact absurd (tieO_ok (t := (i, j)) |>.mp hb) h
theorem tieO_fst {n : Int} {x y : V} (h : ∀ a b, isNum x a b = false) : tieO n (some [x, y]) = false := by
  cases y with
  | int j => show (_ && isNum x 0 (j - 1)) = false; rw [h, Bool.and_false]
  | _ => rfl
structure BTs (H : Hp) (xs : List V) : Prop where
  all : ∀ x ∈ xs, WT H x false
theorem WT.mono {H H' : Hp} {v : V} {b : Bool} (h : WT H v b) (k : ∀ q xs, H q = some (.tup xs) → H' q = some (.tup xs)) (y : ∀ v n, TyN H v n → TyN H' v n) : WT H' v b := by
  cases h with
  | no h hn => exact .no (y _ _ h) hn
  | len h hl => exact .len (k _ _ h) hl
  | pts h hx hb => exact .pts (k _ _ h) (y _ _ hx) hb
  | tys h h0 h1 hy hn => exact .tys (k _ _ h) h0 h1 (y _ _ hy) hn
  | many h h0 h1 hu hl => exact .many (k _ _ h) h0 h1 (k _ _ hu) hl
  | ties h h0 h1 hu hl hr => exact .ties (k _ _ h) h0 h1 (k _ _ hu) hl (Paired.mapP hr fun _ _ z => z.mono k y)
theorem BTs.nil {H : Hp} : BTs H [] := ⟨fun _ z => nomatch z⟩
theorem BTs.cons {H : Hp} {x : V} {xs : List V} (h : WT H x false) (t : BTs H xs) : BTs H (x :: xs) := ⟨fun y hy => by
  rcases List.mem_cons.mp hy with rfl | hy
  · exact h
  · exact t.all y hy⟩
theorem BTs.app {H : Hp} {xs ys : List V} (a : BTs H xs) (b : BTs H ys) : BTs H (xs ++ ys) := ⟨fun x hx => (List.mem_append.mp hx).elim (a.all x) (b.all x)⟩
theorem BTs.ke {H H' : Hp} {xs : List V} (h : BTs H xs) (k : Ke H H') : BTs H' xs := ⟨fun x hx => (h.all x hx).ke k⟩
theorem BTs.new {H : Hp} {p : Addr} {o : HO} {xs : List V} (h : BTs H xs) (k : H p = none) : BTs (upd H p o) xs := h.ke (Ke.new k)
theorem BTs.put {H : Hp} {p : Addr} {zs ys : List V} {xs : List V} (h : BTs H xs) (k : H p = some (.lst zs)) : BTs (upd H p (.lst ys)) xs := ⟨fun x hx => (h.all x hx).mono (fun q xs e => by rw [upd_ne (ne_of e k (fun z => nomatch z))]; exact e) fun _ _ z => z.put k⟩
theorem BTs.dk {H H' : Hp} {p : Addr} {xs : List V} (h : BTs H xs) (k : Dk p H H') (d : Deck H p) : BTs H' xs := ⟨fun x hx => (h.all x hx).mono (fun _ _ => k.tup d) fun _ _ z => z.dk k d⟩
theorem OTs.dk {n : Int} {H H' : Hp} {p : Addr} {xs : List V} (h : OTs n H xs) (k : Dk p H H') (d : Deck H p) : OTs n H' xs := ⟨fun x hx => by
  obtain ⟨o, t, e⟩ := h.all x hx
  exact ⟨o, t.mono (fun _ _ => k.tup d) (fun _ _ z => z.dk k d), e⟩⟩
/-- points that are none, with any ties -/
structure PTs (H : Hp) (xs : List V) : Prop where
  all : ∀ x ∈ xs, ∃ nm, TyN H x nm ∧ isNum x 1 40 = false
theorem PTs.nil {H : Hp} : PTs H [] := ⟨fun _ z => nomatch z⟩
theorem PTs.cons {H : Hp} {x : V} {nm : String} {xs : List V} (h : TyN H x nm) (e : isNum x 1 40 = false) (t : PTs H xs) : PTs H (x :: xs) := ⟨fun y hy => by
  rcases List.mem_cons.mp hy with rfl | hy
  · exact ⟨nm, h, e⟩
  · exact t.all y hy⟩
theorem PTs.ke {H H' : Hp} {xs : List V} (h : PTs H xs) (k : Ke H H') : PTs H' xs := ⟨fun x hx => by
  obtain ⟨o, t, e⟩ := h.all x hx
  exact ⟨o, t.ke k, e⟩⟩
theorem isNum_int {i lo hi : Int} (h : ¬(lo ≤ i ∧ i ≤ hi)) : isNum (.int i) lo hi = false := by
  show (decide (lo ≤ i) && decide (i ≤ hi)) = false
  rcases hb : (decide (lo ≤ i) && decide (i ≤ hi)) with _ | _
  · rfl
  · rw [Bool.and_eq_true, decide_eq_true_eq, decide_eq_true_eq] at hb
    exact absurd hb h
/-- ties that are no tuple of ties -/
structure YTs (n : Int) (H : Hp) (xs : List V) : Prop where
  all : ∀ x ∈ xs, (∃ nm, TyN H x nm ∧ nm ≠ "tuple") ∨ ∃ (u : Addr) (rs : List V) (os : List (Option (List V))), x = .ref u ∧ H u = some (.tup rs) ∧ rs.length ≤ 120 ∧ Paired (Tpl H) rs os ∧ os.all (tieO n) = false
theorem YTs.nil {n : Int} {H : Hp} : YTs n H [] := ⟨fun _ z => nomatch z⟩
theorem YTs.cons {n : Int} {H : Hp} {x : V} {nm : String} {xs : List V} (h : TyN H x nm) (e : nm ≠ "tuple") (t : YTs n H xs) : YTs n H (x :: xs) := ⟨fun y hy => by
  rcases List.mem_cons.mp hy with rfl | hy
  · exact .inl ⟨nm, h, e⟩
  · exact t.all y hy⟩
theorem YTs.row {n : Int} {H : Hp} {u : Addr} {rs : List V} {os : List (Option (List V))} {xs : List V} (h : H u = some (.tup rs)) (hl : rs.length ≤ 120) (hp : Paired (Tpl H) rs os) (e : os.all (tieO n) = false) (t : YTs n H xs) : YTs n H (.ref u :: xs) := ⟨fun y hy => by
  rcases List.mem_cons.mp hy with rfl | hy
  · exact .inr ⟨u, rs, os, rfl, h, hl, hp, e⟩
  · exact t.all y hy⟩
theorem YTs.ke {n : Int} {H H' : Hp} {xs : List V} (h : YTs n H xs) (k : Ke H H') : YTs n H' xs := ⟨fun x hx => by
  rcases h.all x hx with ⟨nm, t, e⟩ | ⟨u, rs, os, rfl, hu, hl, hp, e⟩
  · exact .inl ⟨nm, t.ke k, e⟩
  · exact .inr ⟨u, rs, os, rfl, k.tup hu, hl, Paired.mapP hp fun _ _ z => z.ke k, e⟩⟩
theorem paired_app {α β : Type} {R : α → β → Prop} : ∀ {xs zs : List α} {ys ws : List β}, Paired R xs ys → Paired R zs ws → Paired R (xs ++ zs) (ys ++ ws)
  | _, _, _, _, .nil, q => q
  | _, _, _, _, .cons h t, q => .cons h (paired_app t q)
/-- a row of ties with a thing that is none among them -/
theorem odd_row {n : Int} {H : Hp} {rs : List V} {ts : List (Int × Int)} (h : Ties H rs ts) {x : V} {o : Option (List V)} (hx : Tpl H x o) (e : tieO n o = false) {qs : List V} {us : List (Int × Int)} (h2 : Ties H qs us) : ∃ os, Paired (Tpl H) (rs ++ [x] ++ qs) os ∧ os.all (tieO n) = false := by
  refine ⟨_, paired_app (paired_app h.tpl (.cons hx .nil)) h2.tpl, ?_⟩
  rw [List.all_append, List.all_append]
  show ((_ && (tieO n o && true)) && _) = false
  rw [e, Bool.false_and, Bool.and_false, Bool.false_and]
theorem ties_tpl {H : Hp} {u : Addr} {rs : List V} {ts : List (Int × Int)} (h : Ties H rs ts) (hu : H u = some (.tup rs)) : Tpl H (.ref u) (some rs) := .yes hu fun x hx => by
  obtain ⟨i, hi⟩ := List.getElem?_of_mem hx
  obtain ⟨t, q, _, rfl, hq⟩ := h.get hi
  exact ⟨_, .tup hq⟩
theorem ties_odd {n : Int} {H : Hp} : ∀ {rs : List V} {ts : List (Int × Int)}, Ties H rs ts → tieO n (some rs) = false
  | _, _, .nil => rfl
  | _, _, .cons ⟨q, e, _⟩ .nil => by subst e; rfl
  | _, _, .cons ⟨q, e, _⟩ (.cons ⟨q2, e2, _⟩ .nil) => by subst e e2; rfl
  | _, _, .cons _ (.cons _ (.cons _ _)) => tieO_len (by show _ + 3 ≠ 2; omega)
theorem OTs.sub {n : Int} {H : Hp} {xs ys : List V} (h : OTs n H xs) (k : ∀ y ∈ ys, y ∈ xs) : OTs n H ys := ⟨fun y hy => h.all y (k y hy)⟩
theorem OTs.rev {n : Int} {H : Hp} {xs : List V} (h : OTs n H xs) : OTs n H xs.reverse := h.sub fun _ => List.mem_reverse.mp
theorem BTs.sub {H : Hp} {xs ys : List V} (h : BTs H xs) (k : ∀ y ∈ ys, y ∈ xs) : BTs H ys := ⟨fun y hy => h.all y (k y hy)⟩
theorem PTs.sub {H : Hp} {xs ys : List V} (h : PTs H xs) (k : ∀ y ∈ ys, y ∈ xs) : PTs H ys := ⟨fun y hy => h.all y (k y hy)⟩
theorem YTs.sub {n : Int} {H : Hp} {xs ys : List V} (h : YTs n H xs) (k : ∀ y ∈ ys, y ∈ xs) : YTs n H ys := ⟨fun y hy => h.all y (k y hy)⟩
theorem PTs.new {H : Hp} {p : Addr} {o : HO} {xs : List V} (h : PTs H xs) (k : H p = none) : PTs (upd H p o) xs := h.ke (Ke.new k)
theorem YTs.new {n : Int} {H : Hp} {p : Addr} {o : HO} {xs : List V} (h : YTs n H xs) (k : H p = none) : YTs n (upd H p o) xs := h.ke (Ke.new k)
theorem tys_ints {H : Hp} (ls : List Int) : ∀ y ∈ ls.map V.int, ∃ nm, TyN H y nm := fun x hx => by
  obtain ⟨i, _, rfl⟩ := List.mem_map.mp hx
  exact ⟨_, .int i⟩
theorem YTs.wt {n : Int} {H H' : Hp} {xs : List V} {x : V} {p : Addr} (h : YTs n H xs) (hx : x ∈ xs) (k : Ke H H') (h0 : 1 ≤ n) (h1 : n ≤ 40) (hp : H' p = some (.tup [.int n, x])) : WT H' (.ref p) false := by
  rcases h.all x hx with ⟨nm, t, e⟩ | ⟨u, rs, os, rfl, hu, hl, ho, e⟩
  · exact .tys hp h0 h1 (t.ke k) e
  · rw [← e]
    exact .ties hp h0 h1 (k.tup hu) hl (Paired.mapP ho fun _ _ z => z.ke k)
theorem PTs.wt {H H' : Hp} {xs : List V} {x y : V} {p : Addr} (h : PTs H xs) (hx : x ∈ xs) (k : Ke H H') (hp : H' p = some (.tup [x, y])) : WT H' (.ref p) false := by
  obtain ⟨nm, t, e⟩ := h.all x hx
  exact .pts hp (t.ke k) e
/-- the greatest point is no number of points -/
theorem ties_top {H : Hp} {rs : List V} {ts : List (Int × Int)} (h : Ties H rs ts) {m : Int} (hm : m ∈ ts.map Prod.snd) : ∃ os, Paired (Tpl H) rs os ∧ os.all (tieO m) = false := by
  refine ⟨_, h.tpl, ?_⟩
  obtain ⟨t, ht, rfl⟩ := List.mem_map.mp hm
  rcases hb : (ts.map fun t => some [V.int t.1, .int t.2]).all (tieO t.2) with _ | _
  · exact hb
  · have := List.all_eq_true.mp hb _ (List.mem_map.mpr ⟨t, ht, rfl⟩)
    have := (tieO_ok.mp this).2.2
    omega
theorem shaped_tieT (ts : List (Int × Int)) : SeqAt.shaped (.tuple (ts.map fun e => .tuple [.int e.1, .int e.2])) = true := (Sh.tup (k := 1) fun d hd => by
  obtain ⟨l, _, rfl⟩ := List.mem_map.mp hd
  exact Sh.tup (k := 0) fun d' hd' => by
    rcases List.mem_cons.mp hd' with rfl | h
    · exact Sh.int
    · rw [List.mem_singleton.mp h]
      exact Sh.int).shaped
end FF
namespace FF
open PySem PySem.Spec PyProof.Rows L2
/-! ### l != [] by lengths alone -/
def rNeL0 (K : PySem.W.Frag) : R2 := fun x y H Q => ∃ a b xs, x = .ref a ∧ y = .ref b ∧ SqL K H a xs ∧ SqL K H b [] ∧ Q (.bl (!xs.isEmpty)) H
section
variable {X : Cx}
theorem op_neL0 {K : PySem.W.Frag} (hu : X.A.units + 64 < cLine) (hk : X.K = K := by rfl) : OpR X (compareOp .NotEq) (rNeL0 K) := by
  subst hk
  intro pins s σ H x y v u Q I rx ry h
  obtain ⟨a, b, xs, rfl, rfl, ha, hb, q⟩ := h
  cases (show v = Value.ref a from rx)
  cases (show u = Value.ref b from ry)
  obtain ⟨us, r1, p1, _⟩ := I.list ha
  obtain ⟨ws, r2, p2, _⟩ := I.list hb
  cases r2
  have hu' : X.A.units < cLine := by omega
  cases r1 with
  | nil =>
    refine (SeqAt.RcNeAt.lists (e := fun _ => true) p1.isList p2.isList rfl hu' (fun j h1 h2 => absurd h1 (Nat.not_lt_zero j))) _ _ _ _ ?_
    exact ⟨.bl _, H, I, rfl, q⟩
  | cons h t =>
    refine (SeqAt.RcNeAt.lists_lengths p1.isList p2.isList (by simp) hu') _ _ _ _ ?_
    exact ⟨.bl _, H, I, rfl, q⟩
end
theorem ints_all : ∀ {xs : List V}, (∀ x ∈ xs, ∃ i, x = .int i) → xs = (intsOf xs).map V.int
  | [], _ => rfl
  | x :: xs, h => by
    obtain ⟨i, rfl⟩ := h x List.mem_cons_self
    have := ints_all fun y hy => h y (List.mem_cons_of_mem _ hy)
    show V.int i :: xs = V.int i :: (intsOf xs).map V.int
    rw [← this]
/-! ### str(x) of an int or None -/
def strV : V → Str
  | .int i => Str.ofString (toString i)
  | _ => "None"
section
variable {X : Cx}
theorem call_str_ni : CallR X (.type "str") (fun xs H Q => ∃ x, xs = [x] ∧ (x = .non ∨ ∃ i : Int, x = .int i ∧ i.natAbs.log2 < 1920) ∧ Q (.str (strV x)) H) := by
  intro pins s σ H xs us Q I r h
  obtain ⟨x, rfl, hx, q⟩ := h
  rcases hx with rfl | ⟨i, rfl, hz⟩
  · obtain ⟨u, rfl, r1⟩ := vals1 r
    cases r1
    exact PySem.P.str_of_none ⟨.str _, H, I.tok _, ⟨_, rfl⟩, q⟩
  · obtain ⟨u, rfl, t, rfl⟩ := vals1 r
    exact PySem.P.str_of_int hz ⟨.str _, H, I.tok _, ⟨_, rfl⟩, q⟩
end
end FF
namespace FF
open PySem PySem.Spec PyProof.Rows L2
/-! ### how many ties lie between the parts: paths, rounds, full webs -/
theorem hat_lo {qs : List Int} {x i : Int} (h0 : 0 ≤ i) (h1 : i < qs.length) : hat (qs ++ [x]) i = hat qs i := by
  unfold hat
  rw [List.getD_eq_getElem?_getD, List.getD_eq_getElem?_getD, List.getElem?_append_left (by omega)]
theorem hat_hi (qs : List Int) (x : Int) : hat (qs ++ [x]) (qs.length : Int) = x := hat_get (by rw [List.getElem?_append_right (Nat.le_refl _), Nat.sub_self]; rfl)
theorem between_snoc {qs : List Int} {x : Int} {ts : List (Int × Int)} (ok : TOk (qs.length : Int) ts) : between (qs ++ [x]) ts = between qs ts := by
  unfold between
  rw [List.filter_congr fun t ht => ?_]
  obtain ⟨h0, h1, h2⟩ := ok t ht
  rw [hat_lo h0 (by omega), hat_lo (by omega) h2]
theorem between_app (ps : List Int) (ts us : List (Int × Int)) : between ps (ts ++ us) = between ps ts + between ps us := by
  unfold between
  rw [List.filter_append, List.length_append]
theorem between_one (ps : List Int) (a b : Int) : between ps [(a, b)] = if hat ps a = hat ps b then 0 else 1 := by
  unfold between
  by_cases h : hat ps a = hat ps b
  · rw [if_pos h, List.filter_cons_of_neg (by rw [decide_eq_true h]; decide)]
    rfl
  · rw [if_neg h, List.filter_cons_of_pos (by rw [decide_eq_false h]; decide)]
    rfl
theorem between_reps (ps : List Int) (ts : List (Int × Int)) : ∀ t : Nat, between ps (List.replicate t ts).flatten = t * between ps ts
  | 0 => by rw [Nat.zero_mul]; rfl
  | t + 1 => by rw [List.replicate_succ, List.flatten_cons, between_app, between_reps ps ts t, Nat.succ_mul, Nat.add_comm]
theorem len_reps {α : Type} (ts : List α) : ∀ t : Nat, (List.replicate t ts).flatten.length = t * ts.length
  | 0 => by rw [Nat.zero_mul]; rfl
  | t + 1 => by rw [List.replicate_succ, List.flatten_cons, List.length_append, len_reps ts t, Nat.succ_mul, Nat.add_comm]
theorem between_perm {ts us : List (Int × Int)} (h : ts.Perm us) (ps : List Int) : between ps ts = between ps us := (h.filter _).length_eq
/-- n ties along n + 1 points -/
def pathN : Nat → List (Int × Int)
  | 0 => []
  | n + 1 => pathN n ++ [((n : Int), (n : Int) + 1)]
theorem pathN_eq : ∀ n : Nat, pathN n = (upTo (n : Int)).map fun i => (i, i + 1)
  | 0 => rfl
  | n + 1 => by
    show pathN n ++ _ = _
    rw [pathN_eq n, show ((n + 1 : Nat) : Int) = (n : Int) + 1 by omega, upTo_snoc, List.map_append]
    rfl
theorem pathN_ok : ∀ n : Nat, TOk ((n : Int) + 1) (pathN n)
  | 0 => TOk.nil
  | n + 1 => by
    show TOk _ (pathN n ++ _)
    refine TOk.append (fun t ht => ?_) (TOk.one (by omega) (by omega) (by omega))
    have := pathN_ok n t ht
    omega
theorem mxm_snoc (qs : List Int) (x : Int) : mxm (qs ++ [x]) = max (mxm qs) x := by
  unfold mxm
  rw [List.foldl_append]
  rfl
theorem mxm_ge (ps : List Int) : ∀ x ∈ ps, x ≤ mxm ps := fun x hx => (fold_max ps (-1)).2 x (List.mem_cons_of_mem _ hx)
theorem snoc_of {α : Type} {k : Nat} {ps : List α} (h : ps.length = k + 1) : ∃ qs x, ps = qs ++ [x] ∧ qs.length = k := by
  refine ⟨ps.dropLast, ps.getLast (fun z => by rw [z] at h; cases h), (List.dropLast_concat_getLast _).symm, by rw [List.length_dropLast, h]; rfl⟩
theorem path_parts : ∀ (k : Nat) (ps : List Int), ps.length = k + 1 → partF 0 ps = true → mxm ps ≤ between ps (pathN k) ∧ (hat ps (k : Int) ≠ mxm ps → mxm ps + 1 ≤ between ps (pathN k))
  | 0, ps, hl, hp => by
    obtain ⟨qs, x, rfl, hq⟩ := snoc_of hl
    cases List.length_eq_zero_iff.mp hq
    rw [partF_snoc] at hp
    rw [Bool.and_eq_true, Bool.and_eq_true, decide_eq_true_eq, decide_eq_true_eq] at hp
    have h1 := hp.2.1
    have h2 : x < -1 + 2 := hp.2.2
    obtain rfl : x = 0 := by omega
    exact ⟨by decide, fun h => absurd rfl h⟩
  | k + 1, ps, hl, hp => by
    obtain ⟨qs, x, rfl, hq⟩ := snoc_of hl
    rw [partF_snoc] at hp
    rw [Bool.and_eq_true, Bool.and_eq_true, decide_eq_true_eq, decide_eq_true_eq] at hp
    obtain ⟨h1, h2⟩ := path_parts k qs hq hp.1
    have hx : hat (qs ++ [x]) ((k + 1 : Nat) : Int) = x := by rw [← hq]; exact hat_hi qs x
    have hk : hat (qs ++ [x]) (k : Int) = hat qs (k : Int) := hat_lo (by omega) (by omega)
    have hb : between (qs ++ [x]) (pathN (k + 1)) = between qs (pathN k) + if hat qs (k : Int) = x then 0 else 1 := by
      show between (qs ++ [x]) (pathN k ++ [((k : Int), (k : Int) + 1)]) = _
      rw [between_app, between_one, hk, show ((k : Int) + 1) = ((k + 1 : Nat) : Int) by omega, hx]
      rw [between_snoc (by rw [hq]; exact pathN_ok k)]
    rw [hb, hx, mxm_snoc]
    by_cases e : hat qs (k : Int) = x
    · rw [if_pos e]
      have : x ≤ mxm qs := by rw [← e]; exact mxm_ge qs _ (hat_mem (by omega) (by omega))
      rw [Int.max_eq_left this]
      rw [e] at h2
      omega
    · rw [if_neg e]
      by_cases hxm : x ≤ mxm qs
      · rw [Int.max_eq_left hxm]
        by_cases e2 : hat qs (k : Int) = mxm qs
        · omega
        · have := h2 e2
          omega
      · rw [Int.max_eq_right (by omega)]
        omega
/-- the first part is 0 -/
theorem part_first {ps : List Int} (hp : partF 0 ps = true) (hne : ps ≠ []) : hat ps 0 = 0 := by
  cases ps with
  | nil => exact absurd rfl hne
  | cons p ps =>
    have h : (decide (0 ≤ p) && decide (p ≤ 0) && partF (max 0 (p + 1)) ps) = true := by
      have := hp
      unfold partF at this
      exact this
    rw [Bool.and_eq_true, Bool.and_eq_true, decide_eq_true_eq, decide_eq_true_eq] at h
    show p = 0
    omega
theorem Rg_path (k : Nat) : Rg ((k : Int) + 1) = pathN k ++ [(0, (k : Int))] := by
  unfold Rg
  rw [pathN_eq, show (k : Int) + 1 - 1 = (k : Int) by omega]
theorem ring_parts {k : Nat} {ps : List Int} (hl : ps.length = k + 1) (hp : partF 0 ps = true) (hm : 1 ≤ mxm ps) : mxm ps + 1 ≤ between ps (Rg ((k : Int) + 1)) := by
  obtain ⟨h1, h2⟩ := path_parts k ps hl hp
  rw [Rg_path, between_app, between_one]
  by_cases e : hat ps (k : Int) = mxm ps
  · have h0 := part_first hp (fun z => by rw [z] at hl; cases hl)
    rw [h0, if_neg (by omega)]
    omega
  · have := h2 e
    omega
theorem filt_compl {α : Type} (p : α → Bool) : ∀ l : List α, (l.filter fun a => !p a).length + (l.filter p).length = l.length
  | [] => rfl
  | a :: l => by
    have := filt_compl p l
    rw [List.filter_cons, List.filter_cons]
    cases p a
    · show (a :: l.filter fun a => !p a).length + (l.filter p).length = _
      rw [List.length_cons, List.length_cons]
      omega
    · show (l.filter fun a => !p a).length + (a :: l.filter p).length = _
      rw [List.length_cons, List.length_cons]
      omega
def cntP (ps : List Int) (y : Int) : Nat := ((upTo (ps.length : Int)).filter fun a => decide (hat ps a = y)).length
theorem cntP_snoc (qs : List Int) (x y : Int) : cntP (qs ++ [x]) y = cntP qs y + if x = y then 1 else 0 := by
  unfold cntP
  rw [List.length_append, show ((qs.length + [x].length : Nat) : Int) = (qs.length : Int) + 1 by show ((qs.length + 1 : Nat) : Int) = _; omega, upTo_snoc, List.filter_append, List.length_append]
  congr 1
  · rw [List.filter_congr fun a ha => ?_]
    have := mem_upTo ha
    rw [hat_lo this.1 this.2]
  · by_cases e : x = y
    · rw [if_pos e, List.filter_cons_of_pos (by rw [hat_hi]; exact decide_eq_true e)]
      rfl
    · rw [if_neg e, List.filter_cons_of_neg (by rw [hat_hi, decide_eq_false e]; decide)]
      rfl
theorem full_snoc (qs : List Int) (x : Int) : between (qs ++ [x]) ((upTo (qs.length : Int)).map fun a => (a, (qs.length : Int))) + cntP qs x = qs.length := by
  have e : between (qs ++ [x]) ((upTo (qs.length : Int)).map fun a => (a, (qs.length : Int))) = ((upTo (qs.length : Int)).filter fun a => !decide (hat qs a = x)).length := by
    unfold between
    rw [List.filter_map, List.length_map, List.filter_congr fun a ha => ?_]
    have := mem_upTo ha
    show (!decide (hat (qs ++ [x]) a = hat (qs ++ [x]) (qs.length : Int))) = _
    rw [hat_lo this.1 this.2, hat_hi]
  rw [e]
  unfold cntP
  have := filt_compl (fun a => decide (hat qs a = x)) (upTo (qs.length : Int))
  rw [upTo_length] at this
  omega
theorem full_parts : ∀ (n : Nat) (ps : List Int), ps.length = n → partF 0 ps = true → mxm ps * (n : Int) ≤ 2 * (between ps (fullF n) : Int) ∧ ∀ y, 0 ≤ y → y ≤ mxm ps → (cntP ps y : Int) + mxm ps ≤ n
  | 0, ps, hl, hp => by
    cases List.length_eq_zero_iff.mp hl
    have e : mxm ([] : List Int) = -1 := rfl
    rw [e]
    exact ⟨by show _ ≤ 2 * ((0 : Nat) : Int); omega, fun y h0 h1 => by omega⟩
  | n + 1, ps, hl, hp => by
    obtain ⟨qs, x, rfl, hq⟩ := snoc_of hl
    rw [partF_snoc] at hp
    rw [Bool.and_eq_true, Bool.and_eq_true, decide_eq_true_eq, decide_eq_true_eq] at hp
    obtain ⟨h1, h2⟩ := full_parts n qs hq hp.1
    have hml := mxm_le hp.1
    have hfs := full_snoc qs x
    rw [hq] at hfs hml
    have hb : between (qs ++ [x]) (fullF (n + 1)) = between qs (fullF n) + between (qs ++ [x]) ((upTo (n : Int)).map fun a => (a, (n : Int))) := by
      show between (qs ++ [x]) (fullF n ++ _) = _
      rw [between_app, between_snoc (by rw [hq]; exact fullF_ok n)]
    rw [hb, mxm_snoc]
    by_cases hx : x ≤ mxm qs
    · rw [Int.max_eq_left hx]
      have hc := h2 x hp.2.1 hx
      refine ⟨?_, fun y y0 y1 => ?_⟩
      · rw [show ((n + 1 : Nat) : Int) = (n : Int) + 1 by omega, Int.mul_add, Int.mul_one]
        omega
      · rw [cntP_snoc]
        have hy := h2 y y0 y1
        by_cases e : x = y
        · rw [if_pos e]
          omega
        · rw [if_neg e]
          omega
    · have ex : x = mxm qs + 1 := by omega
      subst ex
      rw [Int.max_eq_right (by omega)]
      have hc0 : cntP qs (mxm qs + 1) = 0 := by
        unfold cntP
        rw [List.filter_eq_nil_iff.mpr]
        · rfl
        · intro a ha z
          have h3 := mem_upTo ha
          have h4 := mxm_ge qs _ (hat_mem h3.1 h3.2)
          rw [of_decide_eq_true z] at h4
          omega
      refine ⟨?_, fun y y0 y1 => ?_⟩
      · rw [show ((n + 1 : Nat) : Int) = (n : Int) + 1 by omega, Int.mul_add, Int.add_mul, Int.one_mul, Int.mul_one]
        omega
      · rw [cntP_snoc]
        by_cases e : mxm qs + 1 = y
        · rw [if_pos e, ← e, hc0]
          omega
        · rw [if_neg e]
          have hy := h2 y y0 (by omega)
          omega
/-! ### the most trees of webs that are known -/
theorem MostR.mxm {ts : List (Int × Int)} {n k : Int} {ws : List V} {ps : List Int} (h : MostR ts n k ws ps) (hn : 1 ≤ n) : mx ps = mxm ps := by
  refine mx_mxm (fun z => ?_) (partF_nn h.part)
  have := h.len
  rw [z] at this
  have this : (0 : Int) = n := this
  omega
theorem MostR.upper {ts : List (Int × Int)} {n k : Int} {ws : List V} {ps : List Int} (h : MostR ts n k ws ps) : k * (n - 1) ≤ ts.length := by
  rw [← h.all, ← h.lay.len]
  have := laidN_le ws
  omega
/-- of parallels -/
theorem MostR.parallel {t : Nat} {k : Int} {ws : List V} {ps : List Int} (h : MostR (List.replicate t (0, 1)) 2 k ws ps) : k = t := by
  have hu := h.upper
  rw [List.length_replicate] at hu
  have hl := h.len
  have hm := h.mxm (by decide)
  have htw := h.two
  have hth := h.thin
  rw [hm] at htw hth
  have hpl : ps.length = 1 + 1 := by omega
  have hml := mxm_le h.part
  have hp := (path_parts 1 ps hpl h.part).1
  have e : List.replicate t ((0 : Int), (1 : Int)) = (List.replicate t (pathN 1)).flatten := by
    clear hu h hth
    induction t with
    | zero => rfl
    | succ t ih => rw [List.replicate_succ, List.replicate_succ, List.flatten_cons, ← ih]; rfl
  rw [e, between_reps] at hth
  have em : FF.mxm ps = 1 := by omega
  rw [em] at hth hp
  have hb : t * 1 ≤ t * between ps (pathN 1) := Nat.mul_le_mul_left t (by omega)
  omega
/-- of rounds laid t times -/
theorem MostR.rounds {t m : Nat} {k : Int} {ws : List V} {ps : List Int} (hm1 : 1 ≤ m) (h : MostR (List.replicate t (Rg ((m : Int) + 1))).flatten ((m : Int) + 1) k ws ps) : k = (t : Int) * ((m : Int) + 1) / (((m : Int) + 1) - 1) := by
  have hu := h.upper
  have hl := h.len
  have hm := h.mxm (by omega)
  have htw := h.two
  have hth := h.thin
  rw [hm] at htw hth
  have hpl : ps.length = m + 1 := by omega
  have hml := mxm_le h.part
  have hp := ring_parts hpl h.part htw
  rw [between_reps] at hth
  have hlen : ((List.replicate t (Rg ((m : Int) + 1))).flatten.length : Int) = (t : Int) * ((m : Int) + 1) := by
    rw [len_reps]
    have := Rg_length (m := (m : Int) + 1) (by omega)
    rw [Int.natCast_mul, this]
  rw [hlen] at hu
  have e1 : (m : Int) + 1 - 1 = (m : Int) := by omega
  rw [e1] at hu ⊢
  have hk0 := h.k0
  generalize FF.mxm ps = M at *
  have hb : (t : Int) * (M + 1) ≤ (t : Int) * (between ps (Rg ((m : Int) + 1)) : Int) := Int.mul_le_mul_of_nonneg_left hp (by omega)
  have h1 : (t : Int) * (M + 1) < (k + 1) * M := by
    have : ((t * between ps (Rg ((m : Int) + 1)) : Nat) : Int) = (t : Int) * (between ps (Rg ((m : Int) + 1)) : Int) := Int.natCast_mul _ _
    omega
  -- (k + 1 - t) * M > t
  have h2 : (t : Int) < (k + 1 - t) * M := by
    have e2 : (k + 1 - (t : Int)) * M = (k + 1) * M - (t : Int) * M := Int.sub_mul _ _ _
    have e3 : (t : Int) * (M + 1) = (t : Int) * M + (t : Int) := by rw [Int.mul_add, Int.mul_one]
    omega
  have h3 : 1 ≤ k + 1 - (t : Int) := by
    by_cases h : 1 ≤ k + 1 - (t : Int)
    · exact h
    · have : (k + 1 - (t : Int)) * M ≤ 0 * M := Int.mul_le_mul_of_nonneg_right (by omega) (by omega)
      omega
  have h4 : (k + 1 - (t : Int)) * M ≤ (k + 1 - (t : Int)) * (m : Int) := Int.mul_le_mul_of_nonneg_left (by omega) (by omega)
  have h5 : (t : Int) * ((m : Int) + 1) < (k + 1) * (m : Int) := by
    rw [Int.mul_add, Int.mul_one]
    have e4 : (k + 1 - (t : Int)) * (m : Int) = (k + 1) * (m : Int) - (t : Int) * (m : Int) := Int.sub_mul _ _ _
    omega
  have hm0 : (0 : Int) < (m : Int) := by omega
  have a := Int.le_ediv_of_mul_le hm0 hu
  have b := Int.ediv_lt_of_lt_mul hm0 h5
  omega
/-- of full webs -/
theorem MostR.full {n : Nat} {ts : List (Int × Int)} {k : Int} {ws : List V} {ps : List Int} (hn : 2 ≤ n) (hts : ts.Perm (fullF n)) (h : MostR ts (n : Int) k ws ps) : k = (n : Int) / 2 := by
  have hu := h.upper
  have hl := h.len
  have hm := h.mxm (by omega)
  have htw := h.two
  have hth := h.thin
  rw [hm] at htw hth
  have hpl : ps.length = n := by omega
  have hp := (full_parts n ps hpl h.part).1
  rw [between_perm hts] at hth
  rw [hts.length_eq] at hu
  have hlen : 2 * ((fullF n).length : Int) = (n : Int) * ((n : Int) - 1) := by
    have := inside_fullF (upTo (n : Int)) n
    rw [inside_all (fullF_ok n)] at this
    rw [this, List.filter_eq_self.mpr fun a ha => decide_eq_true ha, upTo_length]
    rfl
  generalize FF.mxm ps = M at *
  have h1 : 2 * k * ((n : Int) - 1) ≤ (n : Int) * ((n : Int) - 1) := by
    rw [← hlen, Int.mul_assoc]
    omega
  have h2 : 2 * k ≤ (n : Int) := Int.le_of_mul_le_mul_right h1 (by omega)
  have h3 : (n : Int) * M < (2 * (k + 1)) * M := by
    rw [Int.mul_comm, Int.mul_assoc]
    omega
  have h4 : (n : Int) < 2 * (k + 1) := Int.lt_of_mul_lt_mul_right h3 (by omega)
  omega
/-- of a path -/
theorem MostR.path {m : Nat} {k : Int} {ws : List V} {ps : List Int} (hm1 : 1 ≤ m) (h : MostR (pathN m) ((m : Int) + 1) k ws ps) : k = 1 := by
  have hu := h.upper
  have hl := h.len
  have hm := h.mxm (by omega)
  have htw := h.two
  have hth := h.thin
  rw [hm] at htw hth
  have hp := (path_parts m ps (by omega) h.part).1
  have hlen : (pathN m).length = m := by rw [pathN_eq, List.length_map, upTo_length]; rfl
  rw [hlen, show (m : Int) + 1 - 1 = (m : Int) by omega] at hu
  generalize FF.mxm ps = M at *
  have h1 : k * (m : Int) ≤ 1 * (m : Int) := by omega
  have h2 := Int.le_of_mul_le_mul_right h1 (by omega)
  have h3 : 1 * M < (k + 1) * M := by omega
  have h4 := Int.lt_of_mul_lt_mul_right h3 (by omega)
  omega
end FF
namespace FF
open PySem PySem.Spec PyProof.Rows L2
/-! ### a class by its name, within a suite too -/
theorem pe_clsK {X : Cx} {xfs : List Xf} {K : PySem.W.Frag} {mg : Str → Option Value} {x : Str} {pos : Pos} (c : Xcs xfs K mg) (hg : Xf.glo x ∈ xfs) (hgl : Gl X x) (hK : X.K = K := by rfl) (hm : X.mg = mg := by rfl) (hdb : (x == ("__debug__" : Str)) = false := by decide) : PE X (.Name x pos) (tC (.ref (He.ga K x))) := by
  subst hK hm
  exact pe_cls c hg hgl hdb
theorem Ties.reps {H : Hp} {rs : List V} {ts : List (Int × Int)} (h : Ties H rs ts) : ∀ k : Nat, Ties H (List.replicate k rs).flatten (List.replicate k ts).flatten
  | 0 => .nil
  | k + 1 => by
    rw [List.replicate_succ, List.replicate_succ, List.flatten_cons, List.flatten_cons]
    exact h.append (h.reps k)
theorem TOk.reps {n : Int} {ts : List (Int × Int)} (h : TOk n ts) (k : Nat) : TOk n (List.replicate k ts).flatten := fun t ht => by
  obtain ⟨l, hl, hx⟩ := List.mem_flatten.mp ht
  rw [(List.mem_replicate.mp hl).2] at hx
  exact h t hx
theorem Rg_okN {m : Nat} (h : 1 ≤ m) : TOk ((m : Int) + 1) (Rg ((m : Int) + 1)) := by
  rw [Rg_path]
  exact (pathN_ok m).append (TOk.one (by omega) (by omega) (by omega))
theorem pathN_len (m : Nat) : (pathN m).length = m := by rw [pathN_eq, List.length_map, upTo_length]; rfl
theorem cut_back (qs : List V) (x : V) : cutV (qs ++ [x]) none (some (-1)) = qs := by
  unfold cutV
  rw [HT.sIx_none]
  have e : HT.sIx (qs ++ [x]).length (qs ++ [x]).length (some (-1)) = qs.length := by
    unfold HT.sIx
    rw [List.length_append]
    simp
    try omega
  rw [e]
  show ((qs ++ [x]).drop 0).take (qs.length - 0) = qs
  rw [List.drop_zero, Nat.sub_zero, List.take_left']
  rfl
end FF
namespace FF
open PySem PySem.Spec PyProof.Rows L2
/-! ### tuples that are known to the object: displays and + -/
def tTupF (t : TA) : TE := fun σ H Q => t σ H fun xs H1 => xs.length ≤ sizeLine ∧ ∀ p H2, H1 p = none → Ke H1 H2 → TF H2 p xs → Q (.ref p) H2
theorem pe_tupF {X : Cx} {es : List Expr} {t : TA} {pos : Pos} {x1} (h : PA X es t) : PE X (.Tuple es x1 pos) (tTupF t) := by
  refine ⟨fun pins s σ H Q I hq => ?_⟩
  refine wpAny_Tuple_spliced (thn (h.run pos pins s σ H _ I hq) fun us s1 ⟨xs, H1, I1, r, z, q⟩ => ⟨by rw [← r.length]; exact z, ?_⟩)
  have hf : H1 s1.heap.objs.size = none := I1.hok.fresh (Nat.le_refl _)
  refine ⟨.ref s1.heap.objs.size, upd H1 s1.heap.objs.size (.frz { cls := .type "tuple", data := .seq us.toArray } (.tup xs)), I1.laid (t' := s1.toks) (fun b u e => Heap.get?_push_of_some _ e) (Nat.le_refl _) ?_, rfl, q _ _ hf (Ke.new hf) ⟨_, upd_same, rfl⟩⟩
  exact ⟨Heap.get?_push_size _ rfl, z, us, r, IsTup.new _ _⟩
def rCatF (_ : PySem.W.Frag) : R2 := fun x y H Q => ∃ a b xs ys, x = .ref a ∧ y = .ref b ∧ TF H a xs ∧ TF H b ys ∧ xs.length + ys.length ≤ sizeLine ∧ ∀ p H', Ke H H' → TF H' p (xs ++ ys) → Q (.ref p) H'
theorem catF {X : Cx} {K : PySem.W.Frag} (h : X.K = K := by rfl) : OpR X (binaryOp .Add) (rCatF K) := by
  subst h
  intro pins s σ H x y v u Q I rx ry hq
  obtain ⟨a, b, xs, ys, rfl, rfl, ha, hb, hz, q⟩ := hq
  cases rx
  cases ry
  obtain ⟨its, r1, p1, _⟩ := I.tuple (ha.sq (K := X.K))
  obtain ⟨its2, r2, p2, _⟩ := I.tuple (hb.sq (K := X.K))
  by_cases hx : xs = []
  · subst hx
    cases r1
    exact cat_tup0 p1 p2 ⟨.ref b, H, I, rfl, q b H .refl hb⟩
  · refine HT.cat_tup p1 p2 (fun z => hx (r1.nil_iff.mp z)) (fun z => ⟨.ref a, H, I, rfl, q a H .refl (by rw [r2.nil_iff.mp z, List.append_nil]; exact ha)⟩) (fun z => ?_) (by rw [← r1.length, ← r2.length]; exact hz)
    have hf : H s.heap.objs.size = none := I.hok.fresh (Nat.le_refl _)
    refine ⟨.ref s.heap.objs.size, upd H s.heap.objs.size (.frz { cls := .type "tuple", data := .seq (its ++ its2).toArray } (.tup (xs ++ ys))), I.laid (t' := s.toks) (fun b ob q => Heap.get?_push_of_some _ q) (Nat.le_refl _) ?_, rfl, q _ _ (Ke.new hf) ⟨_, upd_same, rfl⟩⟩
    exact ⟨Heap.get?_push_size _ rfl, by rw [List.length_append]; exact hz, _, r1.append r2, IsTup.new _ _⟩
/-- kinds of things, tuples known to the object among them -/
inductive TyF (H : Hp) : V → String → Prop where
  | non : TyF H .non "NoneType"
  | bl (b : Bool) : TyF H (.bl b) "bool"
  | int (i : Int) : TyF H (.int i) "int"
  | str (x : Str) : TyF H (.str x) "str"
  | lst {a : Addr} {xs : List V} (h : H a = some (.lst xs)) : TyF H (.ref a) "list"
  | tup {a : Addr} {xs : List V} (h : H a = some (.tup xs)) : TyF H (.ref a) "tuple"
  | dic {a : Addr} {kvs : List (Key × V)} (h : H a = some (.dK kvs)) : TyF H (.ref a) "dict"
  | tf {a : Addr} {xs : List V} (h : TF H a xs) : TyF H (.ref a) "tuple"
theorem TyN.f {H : Hp} {v : V} {n : String} (h : TyN H v n) : TyF H v n := by
  cases h with
  | non => exact .non
  | bl b => exact .bl b
  | int i => exact .int i
  | str x => exact .str x
  | lst h => exact .lst h
  | tup h => exact .tup h
  | dic h => exact .dic h
theorem TyF.split {H : Hp} {v : V} {n : String} (h : TyF H v n) : TyN H v n ∨ (n = "tuple" ∧ ∃ a xs, v = .ref a ∧ TF H a xs) := by
  cases h with
  | non => exact .inl .non
  | bl b => exact .inl (.bl b)
  | int i => exact .inl (.int i)
  | str x => exact .inl (.str x)
  | lst h => exact .inl (.lst h)
  | tup h => exact .inl (.tup h)
  | dic h => exact .inl (.dic h)
  | tf h => exact .inr ⟨rfl, _, _, rfl, h⟩
theorem TyF.x {K : PySem.W.Frag} {H : Hp} {v : V} {n : String} (h : TyF H v n) : TyX K H v (.type n) := by
  rcases h.split with h | ⟨rfl, a, xs, rfl, o, ht, _⟩
  · exact h.x
  · exact .fTuple ht
theorem TyF.isi {K : PySem.W.Frag} {H : Hp} {v : V} {n : String} (h : TyF H v n) {c : String} (hc : c = "int" ∨ c = "bool" ∨ c = "tuple" ∨ c = "list") : PySem.W.kitOne K (.type n) (.type c) = some (isiB n c) := by
  rcases hc with rfl | rfl | rfl | rfl <;> cases h <;> exact kit_ty (by decide +kernel)
theorem TyF.ke {H H' : Hp} {v : V} {n : String} (h : TyF H v n) (k : Ke H H') : TyF H' v n := by
  rcases h.split with h | ⟨rfl, a, xs, rfl, ht⟩
  · exact (h.ke k).f
  · exact .tf (ht.ke k)
theorem TyF.put {H : Hp} {p : Addr} {xs ys : List V} {v : V} {n : String} (h : TyF H v n) (k : H p = some (.lst xs)) : TyF (upd H p (.lst ys)) v n := by
  rcases h.split with h | ⟨rfl, a, zs, rfl, ht⟩
  · exact (h.put k).f
  · exact .tf (ht.put k)
theorem TyF.dk {H H' : Hp} {p : Addr} {v : V} {n : String} (h : TyF H v n) (k : Dk p H H') (d : Deck H p) : TyF H' v n := by
  rcases h.split with h | ⟨rfl, a, zs, rfl, ht⟩
  · exact (h.dk k d).f
  · exact .tf (ht.dk k d)
theorem isi_noF {K : PySem.W.Frag} {H : Hp} {v : V} {nm : String} (h : TyF H v nm) (hn : nm ≠ "tuple") : PySem.W.kitOne K (.type nm) (.type "tuple") = some false := by
  rcases h.split with h | ⟨e, _⟩
  · exact isi_no h hn
  · exact absurd e hn
inductive ThG (K : PySem.W.Frag) (H : Hp) : V → Option (List V) → Prop where
  | no {v : V} {nm : String} (h : TyF H v nm) (hn : nm ≠ "tuple") : ThG K H v none
  | yes {a : Addr} {xs : List V} (h : SqT K H a xs) (ht : TyX K H (.ref a) (.type "tuple")) (hx : ∀ x ∈ xs, ∃ n, TyF H x n) : ThG K H (.ref a) (some xs)
/-- a thing: no tuple, or a tuple that is known to the object -/
inductive ThF (H : Hp) : V → Option (List V) → Prop where
  | no {v : V} {nm : String} (h : TyF H v nm) (hn : nm ≠ "tuple") : ThF H v none
  | yes {a : Addr} {xs : List V} (h : TF H a xs) (hx : ∀ x ∈ xs, ∃ n, TyF H x n) : ThF H (.ref a) (some xs)
theorem ThF.ke {H H' : Hp} {v : V} {o : Option (List V)} (h : ThF H v o) (k : Ke H H') : ThF H' v o := by
  cases h with
  | no h hn => exact .no (h.ke k) hn
  | yes h hx => exact .yes (h.ke k) fun x hm => (hx x hm).imp fun _ z => z.ke k
theorem ThF.k {K : PySem.W.Frag} {H : Hp} {v : V} {o : Option (List V)} (h : ThF H v o) : ThG K H v o := by
  cases h with
  | no h hn => exact .no h hn
  | yes h hx => exact .yes h.sq (TyF.x (.tf h)) hx
theorem Tpl.g {K : PySem.W.Frag} {H : Hp} {v : V} {o : Option (List V)} (h : Tpl H v o) : ThG K H v o := by
  cases h with
  | no h hn => exact .no h.f hn
  | yes h hx => exact .yes (sqT_of h) (TyF.x (.tup h)) fun x hm => (hx x hm).imp fun _ z => z.f
theorem ThF.put {H : Hp} {p : Addr} {zs ys : List V} {v : V} {o : Option (List V)} (h : ThF H v o) (k : H p = some (.lst zs)) : ThF (upd H p (.lst ys)) v o := by
  cases h with
  | no h hn => exact .no (h.put k) hn
  | yes h hx => exact .yes (h.put k) fun x hm => (hx x hm).imp fun _ z => z.put k
/-- rows of such things -/
structure Fths (H : Hp) (xs : List V) : Prop where
  all : ∀ x ∈ xs, ∃ o, ThF H x o
theorem Fths.nil {H : Hp} : Fths H [] := ⟨fun _ z => nomatch z⟩
theorem Fths.cons {H : Hp} {x : V} {xs : List V} (h : ∃ o, ThF H x o) (t : Fths H xs) : Fths H (x :: xs) := ⟨fun y hy => by
  rcases List.mem_cons.mp hy with rfl | hy
  · exact h
  · exact t.all y hy⟩
theorem Fths.app {H : Hp} {xs ys : List V} (a : Fths H xs) (b : Fths H ys) : Fths H (xs ++ ys) := ⟨fun x hx => (List.mem_append.mp hx).elim (a.all x) (b.all x)⟩
theorem Fths.ke {H H' : Hp} {xs : List V} (h : Fths H xs) (k : Ke H H') : Fths H' xs := ⟨fun x hx => (h.all x hx).imp fun _ z => z.ke k⟩
theorem Fths.new {H : Hp} {p : Addr} {o : HO} {xs : List V} (h : Fths H xs) (k : H p = none) : Fths (upd H p o) xs := h.ke (Ke.new k)
theorem Fths.put {H : Hp} {p : Addr} {zs ys : List V} {xs : List V} (h : Fths H xs) (k : H p = some (.lst zs)) : Fths (upd H p (.lst ys)) xs := ⟨fun x hx => (h.all x hx).imp fun _ z => z.put k⟩
theorem Fths.sub {H : Hp} {xs ys : List V} (h : Fths H xs) (k : ∀ y ∈ ys, y ∈ xs) : Fths H ys := ⟨fun y hy => h.all y (k y hy)⟩
theorem Fths.dk {H H' : Hp} {p : Addr} {xs : List V} (h : Fths H xs) (k : Dk p H H') (d : Deck H p) : Fths H' xs := ⟨fun x hx => (h.all x hx).imp fun _ z => by
  cases z with
  | no h hn => exact .no (h.dk k d) hn
  | yes h h2 => exact .yes (h.dk k d) fun x hm => (h2 x hm).imp fun _ z => z.dk k d⟩
theorem fh_ty {H : Hp} {x : V} {nm : String} (h : TyF H x nm) (e : nm ≠ "tuple") : ∃ o, ThF H x o := ⟨_, .no h e⟩
end FF
namespace FF
open PySem PySem.Spec PyProof.Rows L2
def top (i : Nat) : Stmt := PySem.Challenge.pw_fewforests_k50_ways_bent.main.body.getD i (.Pass ⟨0, 0, 0, 0⟩)
abbrev s_is_number : Stmt := top 1
abbrev s_is_rising : Stmt := top 2
abbrev s_shares_of : Stmt := top 3
abbrev s_ties_within : Stmt := top 5
abbrev s_is_lot : Stmt := top 7
abbrev s_right_ways : Stmt := top 9
abbrev s_is_ways : Stmt := top 10
abbrev s_right_crowded : Stmt := top 11
abbrev s_outs_of : Stmt := top 12
abbrev s_law_mixed : Stmt := top 14
abbrev s_law_deck : Stmt := top 15
abbrev s_law_next : Stmt := top 16
abbrev s_law_tie : Stmt := top 17
abbrev s_law_any_web : Stmt := top 18
abbrev s_law_round : Stmt := top 19
abbrev s_law_full : Stmt := top 20
abbrev s_law_tree : Stmt := top 21
abbrev s_law_web : Stmt := top 22
abbrev s_law_within : Stmt := top 23
abbrev s_law_is_int : Stmt := top 24
abbrev s_law_is_true : Stmt := top 25
abbrev s_law_lot : Stmt := top 26
abbrev s_law_odd_things : Stmt := top 27
abbrev s_law_ways : Stmt := top 28
abbrev s_law_outs : Stmt := top 29
abbrev s_law_is_ways : Stmt := top 30
abbrev s_law_is_crowded : Stmt := top 31
abbrev s_law_bent_ways : Stmt := top 32
abbrev s_law_bent_lots : Stmt := top 33
abbrev s_law : Stmt := top 34

/-! ### built-ins and constants of the text -/
structure Blt (mg : Str → Option Value) : Prop where
  b_all : mg "all" = none
  b_bool : mg "bool" = none
  b_int : mg "int" = none
  b_isinstance : mg "isinstance" = none
  b_len : mg "len" = none
  b_list : mg "list" = none
  b_max : mg "max" = none
  b_min : mg "min" = none
  b_range : mg "range" = none
  b_reversed : mg "reversed" = none
  b_str : mg "str" = none
  b_sum : mg "sum" = none
  b_tuple : mg "tuple" = none
  b_zip : mg "zip" = none
def Tabs (tb : List Addr) (H : Hp) : Prop := ∀ P ∈ tb, TabG H P
theorem Tabs.kx {tb : List Addr} {S : Addr → Prop} {H H1 : Hp} (h : Tabs tb H) (k : Kx S H H1) : Tabs tb H1 := fun P hP => k.tab P (h P hP)
theorem Tabs.dk {tb : List Addr} {p : Addr} {H H1 : Hp} (h : Tabs tb H) (k : Dk p H H1) : Tabs tb H1 := h.kx k.k
theorem Tabs.new {tb : List Addr} {p : Addr} {H : Hp} {o : HO} (h : Tabs tb H) (k : H p = none) : Tabs tb (upd H p o) := h.kx (S := fun _ => False) (Ke.new k)
abbrev nm_is_number : List Str := ["thing", "least", "most"]
theorem sc_is_number : FnScope nm_is_number ["thing", "least", "most"] (defScope s_is_number) := ⟨rfl, rfl, rfl, by decide +kernel, rfl, by decide +kernel, by decide +kernel⟩
/-! ### is_number -/
def sp_is_number (_ : PySem.W.Frag) (_ : List Addr) : Sp := fun vs H Q _ => ∃ (v : V) (lo hi : Int) (n : String), vs = [v, .int lo, .int hi] ∧ TyF H v n ∧ Q (.bl (isNum v lo hi)) H
abbrev nm_is_rising : List Str := ["thing", "most", "least", "number"]
theorem sc_is_rising : FnScope nm_is_rising ["thing", "most"] (defScope s_is_rising) := ⟨rfl, rfl, rfl, by decide +kernel, rfl, by decide +kernel, by decide +kernel⟩
/-! ### is_rising -/
def sp_is_rising (K : PySem.W.Frag) (_ : List Addr) : Sp := fun vs H Q _ => ∃ (t : V) (m : Int) (o : Option (List V)), vs = [t, .int m] ∧ ThG K H t o ∧ Q (.bl (risO m o)) H
abbrev nm_shares_of : List Str := ["points", "holders", "shares", "holder"]
theorem sc_shares_of : FnScope nm_shares_of ["points", "holders"] (defScope s_shares_of) := ⟨rfl, rfl, rfl, by decide +kernel, rfl, by decide +kernel, by decide +kernel⟩
/-! ### shares_of -/
def sp_shares_of (K : PySem.W.Frag) (_ : List Addr) : Sp := fun vs H Q _ => ∃ (n : Int) (a : Addr) (ws : List Int), vs = [.int n, .ref a] ∧ 0 ≤ n ∧ n ≤ 1000 ∧ (SqL K H a (ws.map V.int) ∨ SqT K H a (ws.map V.int)) ∧ (∀ w ∈ ws, 0 ≤ w ∧ w < n) ∧
  ∀ (H' : Hp) (p : Addr), Ke H H' → H p = none → H' p = some (.lst ((outsL n ws).map V.int)) → Q (.ref p) H'
abbrev nm_ties_within : List Str := ["web", "lot"]
theorem sc_ties_within : FnScope nm_ties_within ["web", "lot"] (defScope s_ties_within) := ⟨rfl, rfl, rfl, by decide +kernel, rfl, by decide +kernel, by decide +kernel⟩
theorem gnd_ties_within_0 : (["lot", "a", "b"] : List Str).Nodup := by decide +kernel
/-! ### ties_within -/
def sp_ties_within (K : PySem.W.Frag) (tb : List Addr) : Sp := fun vs H Q _ => ∃ (v : V) (n : Int) (ts : List (Int × Int)) (a : Addr) (ls : List Int), vs = [v, .ref a] ∧ Web H v n ts ∧ SqT K H a (ls.map V.int) ∧ ts.length ≤ 1000000 ∧ Tabs tb H ∧
  ∀ H', Ke H H' → Q (.int (inside ls ts)) H'
abbrev nm_is_lot : List Str := ["web", "thing"]
theorem sc_is_lot : FnScope nm_is_lot ["web", "thing"] (defScope s_is_lot) := ⟨rfl, rfl, rfl, by decide +kernel, rfl, by decide +kernel, by decide +kernel⟩
/-! ### is_lot -/
def sp_is_lot (K : PySem.W.Frag) (_ : List Addr) : Sp := fun vs H Q _ => ∃ (v t : V) (n : Int) (ts : List (Int × Int)) (o : Option (List V)), vs = [v, t] ∧ Web H v n ts ∧ ThG K H t o ∧ Q (.bl (lotO n o)) H
abbrev nm_is_ways : List Str := ["web", "thing"]
theorem sc_is_ways : FnScope nm_is_ways ["web", "thing"] (defScope s_is_ways) := ⟨rfl, rfl, rfl, by decide +kernel, rfl, by decide +kernel, by decide +kernel⟩
theorem gnd_is_ways_0 : (["point", "a", "b"] : List Str).Nodup := by decide +kernel
/-! ### is_ways -/
def sp_is_ways (K : PySem.W.Frag) (tb : List Addr) : Sp := fun vs H Q _ => ∃ (v th : V) (n : Int) (ts : List (Int × Int)) (o : Option (List V)), vs = [v, th] ∧ Web H v n ts ∧ TOk n ts ∧ ts.length ≤ 1000000 ∧ ThG K H th o ∧ Tabs tb H ∧
  ∀ H', Ke H H' → Q (.bl (waysO ts o)) H'
abbrev nm_outs_of : List Str := ["web", "ways"]
theorem sc_outs_of : FnScope nm_outs_of ["web", "ways"] (defScope s_outs_of) := ⟨rfl, rfl, rfl, by decide +kernel, rfl, by decide +kernel, by decide +kernel⟩
/-! ### outs_of -/
def sp_outs_of (K : PySem.W.Frag) (_ : List Addr) : Sp := fun vs H Q _ => ∃ (v : V) (n : Int) (ts : List (Int × Int)) (a : Addr) (ws : List Int), vs = [v, .ref a] ∧ Web H v n ts ∧ 0 ≤ n ∧ n ≤ 1000 ∧ (SqL K H a (ws.map V.int) ∨ SqT K H a (ws.map V.int)) ∧ (∀ w ∈ ws, 0 ≤ w ∧ w < n) ∧
  ∀ (H' : Hp) (p : Addr), Ke H H' → H' p = some (.tup ((outsL n ws).map V.int)) → Q (.ref p) H'
abbrev nm_right_ways : List Str := ["web", "d", "thing"]
theorem sc_right_ways : FnScope nm_right_ways ["web", "d", "thing"] (defScope s_right_ways) := ⟨rfl, rfl, rfl, by decide +kernel, rfl, by decide +kernel, by decide +kernel⟩
/-! ### right_ways -/
def sp_right_ways (K : PySem.W.Frag) (tb : List Addr) : Sp := fun vs H Q _ => ∃ (v th : V) (n : Int) (ts : List (Int × Int)) (d : Int) (o : Option (List V)), vs = [v, .int d, th] ∧ Web H v n ts ∧ 1 ≤ n ∧ n ≤ 1000 ∧ TOk n ts ∧ ts.length ≤ 1000000 ∧ ThG K H th o ∧ Tabs tb H ∧
  ∀ H', Ke H H' → Q (.bl (rwO n ts d o)) H'
abbrev nm_right_crowded : List Str := ["web", "d", "thing"]
theorem sc_right_crowded : FnScope nm_right_crowded ["web", "d", "thing"] (defScope s_right_crowded) := ⟨rfl, rfl, rfl, by decide +kernel, rfl, by decide +kernel, by decide +kernel⟩
/-! ### right_crowded -/
def sp_right_crowded (K : PySem.W.Frag) (tb : List Addr) : Sp := fun vs H Q _ => ∃ (v th : V) (n : Int) (ts : List (Int × Int)) (d : Int) (o : Option (List V)), vs = [v, .int d, th] ∧ Web H v n ts ∧ 0 ≤ d ∧ d ≤ 1000000 ∧ ts.length ≤ 1000000 ∧ ThG K H th o ∧ Tabs tb H ∧
  ∀ H', Ke H H' → Q (.bl (crowdO n ts d o)) H'
abbrev nm__law_mixed : List Str := ["_law_cell", "_law_k", "_law_number"]
theorem sc__law_mixed : FnScope nm__law_mixed ["_law_cell", "_law_k"] (defScope s_law_mixed) := ⟨rfl, rfl, rfl, by decide +kernel, rfl, by decide +kernel, by decide +kernel⟩
/-! ### _law_mixed -/
def sp__law_mixed (_ : PySem.W.Frag) (_ : List Addr) : Sp := fun vs H Q _ => ∃ c k : Int, vs = [.int c, .int k] ∧ 0 ≤ k ∧ k < 1000000 ∧ ∀ r : Int, 0 ≤ r → Q (.int r) H
abbrev nm__law_deck : List Str := ["_law_script", "_law_many", "_law_own", "_law_cell", "_law_rest", "_law_deck_here", "_law_k", "_law_at"]
theorem sc__law_deck : FnScope nm__law_deck ["_law_script", "_law_many"] (defScope s_law_deck) := ⟨rfl, rfl, rfl, by decide +kernel, rfl, by decide +kernel, by decide +kernel⟩
/-! ### _law_deck -/
def sp__law_deck (K : PySem.W.Frag) (_ : List Addr) : Sp := fun vs H Q _ => ∃ (a : Addr) (ns : List Int) (n : Int), vs = [.ref a, .int n] ∧ SqL K H a (ns.map V.int) ∧ ns.length ≤ 63 ∧ 0 ≤ n ∧ n ≤ 5000 ∧
  ∀ p H', H p = none → Ke H H' → Deck H' p → Q (.ref p) H'
abbrev nm__law_next : List Str := ["_law_deck_here"]
theorem sc__law_next : FnScope nm__law_next ["_law_deck_here"] (defScope s_law_next) := ⟨rfl, rfl, rfl, by decide +kernel, rfl, by decide +kernel, by decide +kernel⟩
/-! ### _law_next -/
def sp__law_next (_ : PySem.W.Frag) (_ : List Addr) : Sp := fun vs H Q _ => ∃ p : Addr, vs = [.ref p] ∧ Deck H p ∧ ∀ (r : Int) (H' : Hp), 0 ≤ r → r < 1000 → Dk p H H' → Q (.int r) H'
abbrev nm__law_tie : List Str := ["_law_deck_here", "_law_points", "_law_a", "_law_b"]
theorem sc__law_tie : FnScope nm__law_tie ["_law_deck_here", "_law_points"] (defScope s_law_tie) := ⟨rfl, rfl, rfl, by decide +kernel, rfl, by decide +kernel, by decide +kernel⟩
/-! ### _law_tie -/
def sp__law_tie (_ : PySem.W.Frag) (_ : List Addr) : Sp := fun vs H Q _ => ∃ (p : Addr) (n : Int), vs = [.ref p, .int n] ∧ Deck H p ∧ 2 ≤ n ∧
  ∀ (a b : Int) (t : Addr) (H1 : Hp), 0 ≤ a → a < b → b < n → Dk p H H1 → H1 t = none → Q (.ref t) (upd H1 t (.tup [.int a, .int b]))
abbrev nm__law_any_web : List Str := ["_law_deck_here", "_law_points", "_law_most", "_law_ties", "_law_k"]
theorem sc__law_any_web : FnScope nm__law_any_web ["_law_deck_here", "_law_points", "_law_most"] (defScope s_law_any_web) := ⟨rfl, rfl, rfl, by decide +kernel, rfl, by decide +kernel, by decide +kernel⟩
/-! ### _law_any_web -/
def sp__law_any_web (_ : PySem.W.Frag) (_ : List Addr) : Sp := fun vs H Q _ => ∃ (p : Addr) (n m : Int), vs = [.ref p, .int n, .int m] ∧ Deck H p ∧ 1 ≤ n ∧ n ≤ 1000 ∧ 0 ≤ m ∧ m ≤ 1000 ∧
  ∀ (H' : Hp) (v : V) (ts : List (Int × Int)), Dk p H H' → Web H' v n ts → (ts.length : Int) ≤ m → TOk n ts → (n = 1 → ts = []) → Q v H'
abbrev nm__law_round : List Str := ["_law_points", "_law_k"]
theorem sc__law_round : FnScope nm__law_round ["_law_points"] (defScope s_law_round) := ⟨rfl, rfl, rfl, by decide +kernel, rfl, by decide +kernel, by decide +kernel⟩
/-! ### _law_round -/
def sp__law_round (_ : PySem.W.Frag) (_ : List Addr) : Sp := fun vs H Q _ => ∃ n : Int, vs = [.int n] ∧ 2 ≤ n ∧ n ≤ 1000 ∧
  ∀ (H' : Hp) (l : Addr) (ts : List (Int × Int)), Ke H H' → H l = none → TL H' l ts → (ts.length : Int) ≤ n → TOk n ts → Q (.ref l) H'
abbrev nm__law_full : List Str := ["_law_points", "_law_found", "_law_b", "_law_a"]
theorem sc__law_full : FnScope nm__law_full ["_law_points"] (defScope s_law_full) := ⟨rfl, rfl, rfl, by decide +kernel, rfl, by decide +kernel, by decide +kernel⟩
/-! ### _law_full -/
def sp__law_full (_ : PySem.W.Frag) (_ : List Addr) : Sp := fun vs H Q _ => ∃ n : Int, vs = [.int n] ∧ 0 ≤ n ∧ n ≤ 100 ∧
  ∀ (H' : Hp) (l : Addr) (ts : List (Int × Int)), Ke H H' → H l = none → TL H' l ts → (ts.length : Int) ≤ 10000 → TOk n ts → Q (.ref l) H'
abbrev nm__law_tree : List Str := ["_law_deck_here", "_law_points", "_law_k"]
theorem sc__law_tree : FnScope nm__law_tree ["_law_deck_here", "_law_points"] (defScope s_law_tree) := ⟨rfl, rfl, rfl, by decide +kernel, rfl, by decide +kernel, by decide +kernel⟩
/-! ### _law_tree -/
def sp__law_tree (_ : PySem.W.Frag) (_ : List Addr) : Sp := fun vs H Q _ => ∃ (p : Addr) (n : Int), vs = [.ref p, .int n] ∧ Deck H p ∧ 1 ≤ n ∧ n ≤ 1000 ∧
  ∀ (H' : Hp) (l : Addr) (ts : List (Int × Int)), Dk p H H' → H l = none → TL H' l ts → (ts.length : Int) ≤ n → TOk n ts → Q (.ref l) H'
abbrev nm__law_web : List Str := ["_law_deck_here", "_law_points", "_law_most", "_law_sort", "_law_size", "_law_more", "_law_ties", "_law_turn"]
theorem sc__law_web : FnScope nm__law_web ["_law_deck_here", "_law_points", "_law_most"] (defScope s_law_web) := ⟨rfl, rfl, rfl, by decide +kernel, rfl, by decide +kernel, by decide +kernel⟩
/-! ### _law_web -/
def sp__law_web (_ : PySem.W.Frag) (_ : List Addr) : Sp := fun vs H Q _ => ∃ (p : Addr) (M m : Int), vs = [.ref p, .int M, .int m] ∧ Deck H p ∧ 1 ≤ M ∧ M ≤ 100 ∧ 0 ≤ m ∧ m ≤ 1000 ∧
  ∀ (H' : Hp) (v : V) (n : Int) (ts : List (Int × Int)), Dk p H H' → Web H' v n ts → 1 ≤ n → n ≤ M → (ts.length : Int) ≤ m → TOk n ts → Q v H'
abbrev nm__law_within : List Str := ["_law_web_here", "_law_lot_here", "_law_a", "_law_b"]
theorem sc__law_within : FnScope nm__law_within ["_law_web_here", "_law_lot_here"] (defScope s_law_within) := ⟨rfl, rfl, rfl, by decide +kernel, rfl, by decide +kernel, by decide +kernel⟩
/-! ### _law_within -/
def sp__law_within (K : PySem.W.Frag) (_ : List Addr) : Sp := fun vs H Q _ => ∃ (v : V) (n : Int) (ts : List (Int × Int)) (a : Addr) (ls : List Int), vs = [v, .ref a] ∧ Web H v n ts ∧ SqT K H a (ls.map V.int) ∧ ts.length ≤ 1000000 ∧
  ∀ H', Ke H H' → Q (.int (inside ls ts)) H'
abbrev nm__law_is_int : List Str := ["_law_thing", "_law_least", "_law_most"]
theorem sc__law_is_int : FnScope nm__law_is_int ["_law_thing", "_law_least", "_law_most"] (defScope s_law_is_int) := ⟨rfl, rfl, rfl, by decide +kernel, rfl, by decide +kernel, by decide +kernel⟩
/-! ### _law_is_int -/
def sp__law_is_int (_ : PySem.W.Frag) (_ : List Addr) : Sp := fun vs H Q _ => ∃ (v : V) (lo hi : Int) (n : String), vs = [v, .int lo, .int hi] ∧ TyF H v n ∧ Q (.bl (isNum v lo hi)) H
abbrev nm__law_is_true : List Str := ["_law_found", "_law_due"]
theorem sc__law_is_true : FnScope nm__law_is_true ["_law_found", "_law_due"] (defScope s_law_is_true) := ⟨rfl, rfl, rfl, by decide +kernel, rfl, by decide +kernel, by decide +kernel⟩
/-! ### _law_is_true -/
def sp__law_is_true (_ : PySem.W.Frag) (_ : List Addr) : Sp := fun vs H Q _ => ∃ a b : Bool, vs = [.bl a, .bl b] ∧ Q (.bl (decide (a = b))) H
abbrev nm__law_lot : List Str := ["_law_deck_here", "_law_points", "_law_cell", "_law_k", "_law_found"]
theorem sc__law_lot : FnScope nm__law_lot ["_law_deck_here", "_law_points"] (defScope s_law_lot) := ⟨rfl, rfl, rfl, by decide +kernel, rfl, by decide +kernel, by decide +kernel⟩
/-! ### _law_lot -/
def sp__law_lot (_ : PySem.W.Frag) (_ : List Addr) : Sp := fun vs H Q _ => ∃ (p : Addr) (n : Int), vs = [.ref p, .int n] ∧ Deck H p ∧ 1 ≤ n ∧ n ≤ 1000 ∧
  ∀ (H' : Hp) (a : Addr) (ls : List Int), Dk p H H' → H a = none → H' a = some (.tup (ls.map V.int)) → Lot n ls → Q (.ref a) H'
abbrev nm__law_odd_things : List Str := ["_law_found"]
theorem sc__law_odd_things : FnScope nm__law_odd_things [] (defScope s_law_odd_things) := ⟨rfl, rfl, rfl, by decide +kernel, rfl, by decide +kernel, by decide +kernel⟩
/-! ### _law_odd_things -/
def sp__law_odd_things (_ : PySem.W.Frag) (_ : List Addr) : Sp := fun vs H Q _ => vs = [] ∧ ∀ H' l xs, Ke H H' → H l = none → H' l = some (.lst xs) → Fths H' xs → xs.length ≤ 100 → Q (.ref l) H'
abbrev nm__law_ways : List Str := ["_law_deck_here", "_law_web_here", "_law_tie_here"]
theorem sc__law_ways : FnScope nm__law_ways ["_law_deck_here", "_law_web_here"] (defScope s_law_ways) := ⟨rfl, rfl, rfl, by decide +kernel, rfl, by decide +kernel, by decide +kernel⟩
/-! ### _law_ways -/
def sp__law_ways (_ : PySem.W.Frag) (_ : List Addr) : Sp := fun vs H Q _ => ∃ (p : Addr) (v : V) (n : Int) (ts : List (Int × Int)), vs = [.ref p, v] ∧ Deck H p ∧ Web H v n ts ∧ ts.length ≤ 1000000 ∧
  ∀ (H' : Hp) (a : Addr) (ws : List Int), Dk p H H' → TF H' a (ws.map V.int) → WOk ts ws → Q (.ref a) H'
abbrev nm__law_outs : List Str := ["_law_web_here", "_law_ways_here", "_law_k"]
theorem sc__law_outs : FnScope nm__law_outs ["_law_web_here", "_law_ways_here"] (defScope s_law_outs) := ⟨rfl, rfl, rfl, by decide +kernel, rfl, by decide +kernel, by decide +kernel⟩
/-! ### _law_outs -/
def sp__law_outs (_ : PySem.W.Frag) (_ : List Addr) : Sp := fun vs H Q _ => ∃ (v : V) (n : Int) (ts : List (Int × Int)) (a : Addr) (ws : List Int), vs = [v, .ref a] ∧ Web H v n ts ∧ 0 ≤ n ∧ n ≤ 1000 ∧ TF H a (ws.map V.int) ∧
  ∀ (H' : Hp) (p : Addr), Ke H H' → H' p = some (.tup ((outsL n ws).map V.int)) → Q (.ref p) H'
abbrev nm__law_is_ways : List Str := ["_law_web_here", "_law_d", "_law_thing", "_law_tie_here", "_law_own"]
theorem sc__law_is_ways : FnScope nm__law_is_ways ["_law_web_here", "_law_d", "_law_thing"] (defScope s_law_is_ways) := ⟨rfl, rfl, rfl, by decide +kernel, rfl, by decide +kernel, by decide +kernel⟩
/-! ### _law_is_ways -/
def sp__law_is_ways (_ : PySem.W.Frag) (_ : List Addr) : Sp := fun vs H Q _ => ∃ (v th : V) (n : Int) (ts : List (Int × Int)) (d : Int) (o : Option (List V)), vs = [v, .int d, th] ∧ Web H v n ts ∧ TOk n ts ∧ 1 ≤ n ∧ n ≤ 1000 ∧ ts.length ≤ 1000 ∧ ThF H th o ∧
  ∀ H', Ke H H' → Q (.bl (rwO n ts d o)) H'
abbrev nm__law_is_crowded : List Str := ["_law_web_here", "_law_d", "_law_thing", "_law_low", "_law_point"]
theorem sc__law_is_crowded : FnScope nm__law_is_crowded ["_law_web_here", "_law_d", "_law_thing"] (defScope s_law_is_crowded) := ⟨rfl, rfl, rfl, by decide +kernel, rfl, by decide +kernel, by decide +kernel⟩
/-! ### _law_is_crowded -/
def sp__law_is_crowded (K : PySem.W.Frag) (_ : List Addr) : Sp := fun vs H Q _ => ∃ (v th : V) (n : Int) (ts : List (Int × Int)) (d : Int) (o : Option (List V)), vs = [v, .int d, th] ∧ Web H v n ts ∧ 0 ≤ d ∧ d ≤ 1000000 ∧ ts.length ≤ 1000000 ∧ ThG K H th o ∧
  ∀ H', Ke H H' → Q (.bl (crowdO n ts d o)) H'
abbrev nm__law_bent_ways : List Str := ["_law_deck_here", "_law_web_here", "_law_ways_here", "_law_own", "_law_found", "_law_at", "_law_odd"]
theorem sc__law_bent_ways : FnScope nm__law_bent_ways ["_law_deck_here", "_law_web_here", "_law_ways_here"] (defScope s_law_bent_ways) := ⟨rfl, rfl, rfl, by decide +kernel, rfl, by decide +kernel, by decide +kernel⟩
/-! ### _law_bent_ways -/
def sp__law_bent_ways (_ : PySem.W.Frag) (_ : List Addr) : Sp := fun vs H Q _ => ∃ (p t u w : Addr) (n : Int) (rs : List V) (ts : List (Int × Int)) (ws : List Int), vs = [.ref p, .ref t, .ref w] ∧ Deck H p ∧ H t = some (.tup [.int n, .ref u]) ∧ H u = some (.tup rs) ∧ Ties H rs ts ∧ TOk n ts ∧ TF H w (ws.map V.int) ∧ WOk ts ws ∧ ts.length ≤ 60 ∧ 1 ≤ n ∧ n ≤ 60 ∧
  ∀ H' l xs, Dk p H H' → H l = none → H' l = some (.lst xs) → Fths H' xs → xs.length ≤ 100 → Q (.ref l) H'
abbrev nm__law_bent_lots : List Str := ["_law_deck_here", "_law_web_here", "_law_lot_here", "_law_at", "_law_found", "_law_odd"]
theorem sc__law_bent_lots : FnScope nm__law_bent_lots ["_law_deck_here", "_law_web_here", "_law_lot_here"] (defScope s_law_bent_lots) := ⟨rfl, rfl, rfl, by decide +kernel, rfl, by decide +kernel, by decide +kernel⟩
/-! ### _law_bent_lots -/
def sp__law_bent_lots (_ : PySem.W.Frag) (_ : List Addr) : Sp := fun vs H Q _ => ∃ (p t u a : Addr) (n : Int) (ls : List Int), vs = [.ref p, .ref t, .ref a] ∧ Deck H p ∧ H t = some (.tup [.int n, .ref u]) ∧ H a = some (.tup (ls.map V.int)) ∧ Lot n ls ∧ 1 ≤ n ∧ n ≤ 60 ∧
  ∀ H' l xs, Dk p H H' → H l = none → H' l = some (.lst xs) → Ths H' xs → xs.length ≤ 100 → Q (.ref l) H'
abbrev nm_law : List Str := ["_law_script", "_law_deck_here", "_law_turn", "_law_web_here", "_law_ways_here", "_law_most", "_law_thing", "_law_d", "_law_lot_here"]
theorem sc_law : FnScope nm_law ["_law_script"] (defScope s_law) := ⟨rfl, rfl, rfl, by decide +kernel, rfl, by decide +kernel, by decide +kernel⟩
/-! ### law -/
def sp_law (K : PySem.W.Frag) (tb : List Addr) : Sp := fun vs H Q _ => ∃ (a : Addr) (ns : List Int), vs = [.ref a] ∧ SqL K H a (ns.map V.int) ∧ ns.length ≤ 63 ∧ Tabs tb H ∧ ∀ H', Q (.bl true) H'
theorem law_start {K : PySem.W.Frag} {tb : List Addr} {H : Hp} {a : Addr} {ns : List Int} (hl : ns.length ≤ 63) (_ : ∀ z ∈ ns, Builtin.Int.intBits z ≤ 1048576) (hT : Tabs tb H) (hS : SqL K H a (ns.map V.int)) : sp_law K tb [.ref a] H (fun v _ => v = .bl true) (fun _ _ _ => False) :=
  ⟨a, ns, rfl, hS, hl, hT, fun _ => rfl⟩
end FF
namespace FF
open PySem PySem.Spec PyProof.Rows L2
theorem ok_is_number {P : Program} {w : World} {K : PySem.W.Frag} {mg : Str → Option Value} {base : Heap} {tb : List Addr} {f : Addr} {fd : FuncData} (T : Blt mg) (D_is_number : DefAt K mg "is_number" s_is_number ["thing", "least", "most"] f fd) :
    FnOk P w K mg base CX0 1 f fd ["thing", "least", "most"] (sp_is_number K tb) := by
  refine D_is_number.ok sc_is_number (fun vs H Q E h => by
    obtain ⟨v, lo, hi, n, rfl, hv, q⟩ := h
    rfl) fun A outer s H vs Q E hr h => ?_
  obtain ⟨v, lo, hi, n, rfl, hv, q⟩ := h
  refine ⟨_, pss_cons (ps_if (PW.pt (pw_or (pt_not (pt_val (pe_callB (isiK (K := K)) (by rfl) T.b_isinstance (by decide +kernel) (pa_cons (pv 0) (pa_cons (pe_bltn (v := .ty "int") (u := .type "int") (by rfl) T.b_int (by decide +kernel) rfl) pa_nil))))) (pw_or1 (pt_val (pe_callB (isiK (K := K)) (by rfl) T.b_isinstance (by decide +kernel) (pa_cons (pv 0) (pa_cons (pe_bltn (v := .ty "bool") (u := .type "bool") (by rfl) T.b_bool (by decide +kernel) rfl) pa_nil)))))))
     (pss_one (ps_ret (pe_bl)))
     (pss_nil))
     (pss_one (ps_ret (pe_chain op_le op_le (pv 1) (pv 0) (pv 2)))), ?_⟩
  refine ⟨_, rfl, v, _, _, _, _, rfl, .ty _, hv.x, hv.isi (.inl rfl), _, rfl, ?_⟩
  cases hv with
  | int i =>
    refine iteF ⟨_, rfl, _, _, _, _, false, rfl, .ty _, (TyF.int i).x, (TyF.int (H := H) i).isi (.inr (.inl rfl)), false, rfl, iteF ?_⟩
    refine ⟨_, rfl, _, rfl, _, _, rfl, rfl, _, rfl, iteB (fun e => ⟨_, rfl, _, _, rfl, rfl, ?_⟩) (fun e => ?_)⟩
    · have z : isNum (.int i) lo hi = decide (i ≤ hi) := by show (decide (lo ≤ i) && decide (i ≤ hi)) = _; rw [e, Bool.true_and]
      rw [z] at q
      exact q
    · have z : isNum (.int i) lo hi = false := by show (decide (lo ≤ i) && decide (i ≤ hi)) = _; rw [e, Bool.false_and]
      rw [z] at q
      exact q
  | bl b => exact iteF ⟨_, rfl, _, _, _, _, true, rfl, .ty _, (TyF.bl b).x, (TyF.bl (H := H) b).isi (.inr (.inl rfl)), true, rfl, iteT q⟩
  | non => exact iteT (iteT q)
  | str x => exact iteT (iteT q)
  | lst h => exact iteT (iteT q)
  | tup h => exact iteT (iteT q)
  | dic h => exact iteT (iteT q)
  | tf h => exact iteT (iteT q)
theorem ok_is_rising {P : Program} {w : World} {K : PySem.W.Frag} {mg : Str → Option Value} {base : Heap} {tb : List Addr} {f : Addr} {fd : FuncData} {f_is_number : Addr} {fd_is_number : FuncData} (T : Blt mg) (D_is_rising : DefAt K mg "is_rising" s_is_rising ["thing", "most"] f fd) (D_is_number : DefAt K mg "is_number" s_is_number ["thing", "least", "most"] f_is_number fd_is_number) (G_is_number : FnOk P w K mg base CX0 1 f_is_number fd_is_number ["thing", "least", "most"] (sp_is_number K tb)) :
    FnOk P w K mg base CX0 2 f fd ["thing", "most"] (sp_is_rising K tb) := by
  refine D_is_rising.ok sc_is_rising (fun vs H Q E h => by
    obtain ⟨t, m, o, rfl, ht, q⟩ := h
    rfl) fun A outer s H vs Q E hr h => ?_
  obtain ⟨t, m, o, rfl, ht, q⟩ := h
  refine ⟨_, pss_cons (ps_if (pt_not (pt_val (pe_callB (isiK (K := K)) (by rfl) T.b_isinstance (by decide +kernel) (pa_cons (pv 0) (pa_cons (pe_bltn (v := .ty "tuple") (u := .type "tuple") (by rfl) T.b_tuple (by decide +kernel) rfl) pa_nil)))))
     (pss_one (ps_ret (pe_bl)))
     (pss_nil))
     (pss_cons (ps_set (i := 2) sc_is_rising.nd rfl (.inl rfl) (pe_int))
     (pss_cons (ps_for PassesOwn.never rfl (pi_tup (pv 0)) (pg_name (i := 3) sc_is_rising.nd rfl (.inl rfl))
     (pss_cons (ps_if (pt_not (pt_val (pe_call G_is_number (hr.mono (by decide)) (by rfl) D_is_number.g D_is_number.F.kp D_is_number.b .nil pass0 (pa_cons (pv 3) (pa_cons (pv 2) (pa_cons (pv 1) pa_nil))))))
     (pss_one (ps_ret (pe_bl)))
     (pss_nil))
     (pss_one (ps_set (i := 2) sc_is_rising.nd rfl (.inl rfl) (pe_op op_add (pv 3) (pe_int))))))
     (pss_one (ps_ret (pe_bl))))), ?_⟩
  cases ht with
  | @no _ nm h hn =>
    refine ⟨_, rfl, t, _, _, _, _, rfl, .ty _, h.x, isi_noF h hn, _, rfl, ?_⟩
    exact iteT q
  | @yes a xs h ht hx =>
    refine ⟨_, rfl, _, _, _, _, true, rfl, .ty _, ht, isi_yes, true, rfl, iteF ?_⟩
    refine ⟨_, rfl, a, rfl, ⟨_, h⟩, ?_⟩
    refine for_tup (K := K) (a := a) (xs := xs) (fun i σ G => ∃ (lo : Int) (y : Option V), σ = [some (.ref a), some (.int m), some (.int lo), y] ∧ G = H ∧ rising (m + 1) 0 xs = rising (m + 1) lo (xs.drop i)) ⟨0, none, rfl, rfl, rfl⟩ (fun i σ G _ hG => ?_) (fun i x σ G hxi hG => ?_) (fun σ G hG => ?_)
    · obtain ⟨lo, y, _, rfl, _⟩ := hG
      exact h
    · obtain ⟨lo, y, rfl, rfl, hr⟩ := hG
      have hi : i < xs.length := (List.getElem?_eq_some_iff.mp hxi).1
      have hd : xs.drop i = x :: xs.drop (i + 1) := by
        rw [List.drop_eq_getElem_cons hi]
        congr 1
        exact Option.some.inj ((List.getElem?_eq_getElem hi).symm.trans hxi)
      rw [hd] at hr
      obtain ⟨nm, hty⟩ := hx x (List.mem_of_getElem? hxi)
      refine ⟨_, rfl, _, rfl, _, rfl, x, lo, m, nm, rfl, hty, _, rfl, ?_⟩
      cases x with
      | int j =>
        have hr2 : rising (m + 1) 0 xs = (isNum (.int j) lo (m + 1 - 1) && rising (m + 1) (j + 1) (xs.drop (i + 1))) := hr
        rw [Int.add_sub_cancel] at hr2
        cases hb : isNum (.int j) lo m with
        | false =>
          rw [hb, Bool.false_and] at hr2
          have q : Q (.bl (rising (m + 1) 0 xs)) G := q
          rw [hr2] at q
          exact iteT q
        | true =>
          rw [hb, Bool.true_and] at hr2
          exact iteF ⟨_, rfl, _, _, rfl, rfl, j + 1, _, rfl, rfl, hr2⟩
      | _ =>
        have hr2 : rising (m + 1) 0 xs = false := hr
        have q : Q (.bl (rising (m + 1) 0 xs)) G := q
        rw [hr2] at q
        exact iteT q
    · obtain ⟨lo, y, rfl, rfl, hr⟩ := hG
      rw [List.drop_of_length_le (Nat.le_refl _)] at hr
      have hr2 : rising (m + 1) 0 xs = true := hr
      have q : Q (.bl (rising (m + 1) 0 xs)) G := q
      rw [hr2] at q
      exact q
theorem ok_shares_of {P : Program} {w : World} {K : PySem.W.Frag} {mg : Str → Option Value} {base : Heap} {tb : List Addr} {f : Addr} {fd : FuncData} (T : Blt mg) (D_shares_of : DefAt K mg "shares_of" s_shares_of ["points", "holders"] f fd) :
    FnOk P w K mg base CX0 1 f fd ["points", "holders"] (sp_shares_of K tb) := by
  refine D_shares_of.ok sc_shares_of (fun vs H Q E h => by
    obtain ⟨n, a, ws, rfl, hn0, hn1, ha, hbd, q⟩ := h
    rfl) fun A outer s H vs Q E hr h => ?_
  obtain ⟨n, a, ws, rfl, hn0, hn1, ha, hbd, q⟩ := h
  refine ⟨_, pss_cons (ps_set (i := 2) sc_shares_of.nd rfl (.inl rfl) (pe_op op_rep (pe_lst (pa_cons (pe_int) pa_nil)) (pv 0)))
     (pss_cons (ps_for PassesOwn.never rfl ((pi_seq (K := K)) (pv 1)) (pg_name (i := 3) sc_shares_of.nd rfl (.inl rfl))
     (pss_one (ps_augS (pv 2) (pv 3) (get_listK (K := K)) (pe_int) ip_add set_list)))
     (pss_one (ps_ret (pv 2)))), ?_⟩
  have LB := line_big
  refine ⟨by show 1 ≤ sizeLine; decide, fun z nz => ?_⟩
  refine ⟨_, rfl, z, n, _, rfl, rfl, upd_same, by omega, by omega, by show 1 * n.toNat ≤ sizeLine; omega, fun o no => ?_⟩
  rw [rep_ints, ← outsL_nil]
  have k0 : Ke H (upd (upd H z (.lst [.int 0])) o (.lst ((outsL n []).map V.int))) := (Ke.new nz).trans (Ke.new no)
  have nHo := (Ke.new (S := fun _ => False) (o := .lst [.int 0]) nz).dom _ no
  refine ⟨_, rfl, a, ws.map V.int, rfl, ?_⟩
  rcases ha with ha | ha
  · refine .inl ⟨sqL_ke ha k0, ?_⟩
    refine for_list (K := K) (a := a) (xs := ws.map V.int) (fun i σ G => ∃ y3 : Option V, σ = [some (.int n), some (.ref a), some (.ref o), y3] ∧ Ke H G ∧ G o = some (.lst ((outsL n (ws.take i)).map V.int))) ⟨_, rfl, k0, upd_same⟩ (fun i σ G _ hG => ?_) (fun i x σ G hx hG => ?_) (fun σ G hG => ?_)
    · obtain ⟨_, _, k, _⟩ := hG
      exact sqL_ke ha k
    · obtain ⟨y3, rfl, kG, go⟩ := hG
      obtain ⟨w, hw, rfl⟩ := int_at hx
      obtain ⟨w0, w1⟩ := hbd w (List.mem_of_getElem? hw)
      have hl : ((outsL n (ws.take i)).length : Int) = n := by rw [outsL_length]; omega
      refine ⟨_, rfl, _, rfl, o, _, w, _, rfl, rfl, sqL_of go, hat_at w0 (by omega), _, _, rfl, rfl, ?_⟩
      refine ⟨o, _, w, w.toNat, rfl, rfl, go, ix_in w0 (by rw [List.length_map]; omega), ?_⟩
      refine ⟨_, rfl, kG.over nHo, ?_⟩
      rw [upd_same, take_next hw, ← outsL_snoc w0 w1, List.map_set]
    · obtain ⟨y3, rfl, kG, go⟩ := hG
      rw [List.length_map, List.take_length] at go
      exact ⟨_, rfl, q _ o kG nHo go⟩
  · refine .inr ⟨sqT_ke ha k0, ?_⟩
    refine for_tup (K := K) (a := a) (xs := ws.map V.int) (fun i σ G => ∃ y3 : Option V, σ = [some (.int n), some (.ref a), some (.ref o), y3] ∧ Ke H G ∧ G o = some (.lst ((outsL n (ws.take i)).map V.int))) ⟨_, rfl, k0, upd_same⟩ (fun i σ G _ hG => ?_) (fun i x σ G hx hG => ?_) (fun σ G hG => ?_)
    · obtain ⟨_, _, k, _⟩ := hG
      exact sqT_ke ha k
    · obtain ⟨y3, rfl, kG, go⟩ := hG
      obtain ⟨w, hw, rfl⟩ := int_at hx
      obtain ⟨w0, w1⟩ := hbd w (List.mem_of_getElem? hw)
      have hl : ((outsL n (ws.take i)).length : Int) = n := by rw [outsL_length]; omega
      refine ⟨_, rfl, _, rfl, o, _, w, _, rfl, rfl, sqL_of go, hat_at w0 (by omega), _, _, rfl, rfl, ?_⟩
      refine ⟨o, _, w, w.toNat, rfl, rfl, go, ix_in w0 (by rw [List.length_map]; omega), ?_⟩
      refine ⟨_, rfl, kG.over nHo, ?_⟩
      rw [upd_same, take_next hw, ← outsL_snoc w0 w1, List.map_set]
    · obtain ⟨y3, rfl, kG, go⟩ := hG
      rw [List.length_map, List.take_length] at go
      exact ⟨_, rfl, q _ o kG nHo go⟩
theorem ok_ties_within {P : Program} {w : World} {K : PySem.W.Frag} {mg : Str → Option Value} {base : Heap} {tb : List Addr} {f : Addr} {fd : FuncData} (T : Blt mg) (D_ties_within : DefAt K mg "ties_within" s_ties_within ["web", "lot"] f fd) {c Pt : Addr} (TB : LamX.TabB base mg c Pt) (hcd : fd.code = .ref c) (hPt : Pt ∈ tb) :
    FnOk P w K mg base CX0 4 f fd ["web", "lot"] (sp_ties_within K tb) := by
  refine D_ties_within.ok sc_ties_within (fun vs H Q E h => by
    obtain ⟨v, n, ts, a, ls, rfl, W, hl, hlen, hT0, q⟩ := h
    rfl) fun A outer s H vs Q E hr h => ?_
  obtain ⟨v, n, ts, a, ls, rfl, W, hl, hlen, hT0, q⟩ := h
  refine ⟨_, pss_one (ps_ret (pe_sum (k := 0) (vs := [1, 2]) (hr.mono (by decide)) (by rfl) T.b_sum TB hcd (gxs_of (XN := nm_ties_within) (xsc := defScope s_ties_within) (N := ["lot", "a", "b"]) (src := [some 1, none, none]) (by decide +kernel)) (pi_tup (pe_ix (ix_tupK (K := K)) (pv 0) (pe_int) (fun _ _ => rfl))) ⟨fun _ _ _ _ _ _ => tgtK (K := K) (n := 2) (pgs_cons (pg_name (i := 1) gnd_ties_within_0 rfl (.inl rfl)) (pgs_cons (pg_name (i := 2) gnd_ties_within_0 rfl (.inl rfl)) pgs_nil)), fun _ _ _ _ _ _ hz => pts_one (PW.pt (pw_and (pt_cmpR (in_seqK (K := K)) (pv 1) (pv 0) (by rfl)) (pw_and1 (pt_cmpR (in_seqK (K := K)) (pv 2) (pv 0) (by rfl))))), fun _ _ _ _ _ _ hz => pe_int⟩)), ?_⟩
  obtain ⟨t, u, rs, rfl, ht, hu, hT⟩ := W
  refine ⟨_, rfl, t, _, 1, _, rfl, rfl, sqT_of ht, atI_nat (j := 1) rfl, u, rfl, ⟨_, sqT_of hu⟩, hT0 _ hPt, fun H2 htb => ?_⟩
  have k := Ke.tabd (hT0 _ hPt) htb
  refine gx_tup (K := K) (u := u) (xs := rs) (fun i c G => G = H2 ∧ c = (inside ls (ts.take i) : Int)) ⟨rfl, by simp [inside]⟩ (fun i c G _ hG => ?_) (fun i r c G hr hG => ?_) (fun c G hG => ?_)
  · rw [hG.1]
    exact sqT_of (k.tup hu)
  · obtain ⟨rfl, rfl⟩ := hG
    obtain ⟨⟨x, y⟩, r', hti, rfl, hr'⟩ := hT.get hr
    have hs := inside_take (ls := ls) hti
    dsimp only at hs
    have h1 := inside_le ls (ts.take i)
    have h3 : (ts.take i).length ≤ ts.length := List.length_take_le' i ts
    refine ⟨r', _, rfl, sqT_of (k.tup hr'), rfl, _, _, rfl, _, [], rfl, rfl, rfl, ?_⟩
    refine ⟨_, rfl, _, rfl, a, _, rfl, .inr (sqT_ke hl k), rfl, flat_ints ls, _, rfl, ?_⟩
    rw [inV_int]
    refine iteB (fun (e1 : decide (x ∈ ls) = true) => ?_) (fun (e1 : decide (x ∈ ls) = false) => ?_)
    · refine ⟨_, rfl, _, rfl, a, _, rfl, .inr (sqT_ke hl k), rfl, flat_ints ls, _, rfl, ?_⟩
      rw [inV_int]
      refine iteB (fun (e2 : decide (y ∈ ls) = true) => ?_) (fun (e2 : decide (y ∈ ls) = false) => ?_)
      · refine ⟨1, rfl, ⟨by omega, by omega⟩, ⟨by decide, by decide⟩, rfl, ?_⟩
        rw [hs, e1, e2]
        simp
      · refine ⟨rfl, ?_⟩
        rw [hs, e1, e2]
        simp
    · refine ⟨rfl, ?_⟩
      rw [hs, e1]
      simp
  · obtain ⟨rfl, rfl⟩ := hG
    rw [hT.length, List.take_length]
    exact q _ k
theorem ok_is_lot {P : Program} {w : World} {K : PySem.W.Frag} {mg : Str → Option Value} {base : Heap} {tb : List Addr} {f : Addr} {fd : FuncData} {f_is_rising : Addr} {fd_is_rising : FuncData} (T : Blt mg) (D_is_lot : DefAt K mg "is_lot" s_is_lot ["web", "thing"] f fd) (D_is_rising : DefAt K mg "is_rising" s_is_rising ["thing", "most"] f_is_rising fd_is_rising) (G_is_rising : FnOk P w K mg base CX0 2 f_is_rising fd_is_rising ["thing", "most"] (sp_is_rising K tb)) :
    FnOk P w K mg base CX0 3 f fd ["web", "thing"] (sp_is_lot K tb) := by
  refine D_is_lot.ok sc_is_lot (fun vs H Q E h => by
    obtain ⟨v, t, n, ts, o, rfl, W, ht, q⟩ := h
    rfl) fun A outer s H vs Q E hr h => ?_
  obtain ⟨v, t, n, ts, o, rfl, W, ht, q⟩ := h
  refine ⟨_, pss_one (ps_ret (pe_and (pe_call G_is_rising (hr.mono (by decide)) (by rfl) D_is_rising.g D_is_rising.F.kp D_is_rising.b .nil pass0 (pa_cons (pv 1) (pa_cons (pe_op op_sub (pe_ix (ix_tupK (K := K)) (pv 0) (pe_int) (fun _ _ => rfl)) (pe_int)) pa_nil))) (pe_one (pe_cmpR op_gt (pe_callB (lenK (K := K)) (by rfl) T.b_len PySem.boot_len (pa_cons (pv 1) pa_nil)) (pe_int) (nomark _))))), ?_⟩
  obtain ⟨tw, u, rs, rfl, htw, hu, hT⟩ := W
  refine ⟨_, rfl, _, rfl, tw, _, 0, _, rfl, rfl, sqT_of htw, atI_nat (j := 0) rfl, _, _, rfl, rfl, t, n - 1, o, rfl, ht, _, rfl, ?_⟩
  rw [lotO_ris] at q
  cases hb : risO (n - 1) o with
  | false =>
    rw [hb, Bool.false_and] at q
    exact iteF q
  | true =>
    rw [hb, Bool.true_and] at q
    cases ht with
    | no h hn => cases hb
    | @yes a xs h ht hx =>
      refine iteT ⟨_, rfl, a, _, rfl, .inr h, _, _, rfl, rfl, ?_⟩
      have e : decide ((0 : Int) < (xs.length : Int)) = !xs.isEmpty := by
        cases xs with
        | nil => rfl
        | cons x r => exact decide_eq_true (by rw [List.length_cons]; omega)
      show Q (.bl (decide ((0 : Int) < (xs.length : Int)))) H
      rw [e]
      exact q
theorem ok_is_ways {P : Program} {w : World} {K : PySem.W.Frag} {mg : Str → Option Value} {base : Heap} {tb : List Addr} {f : Addr} {fd : FuncData} {f_is_number : Addr} {fd_is_number : FuncData} (T : Blt mg) (D_is_ways : DefAt K mg "is_ways" s_is_ways ["web", "thing"] f fd) (D_is_number : DefAt K mg "is_number" s_is_number ["thing", "least", "most"] f_is_number fd_is_number) (G_is_number : FnOk P w K mg base CX0 1 f_is_number fd_is_number ["thing", "least", "most"] (sp_is_number K tb)) {c Pt : Addr} (TB : LamX.TabB base mg c Pt) (hcd : fd.code = .ref c) (hPt : Pt ∈ tb) :
    FnOk P w K mg base CX0 5 f fd ["web", "thing"] (sp_is_ways K tb) := by
  refine D_is_ways.ok sc_is_ways (fun vs H Q E h => by
    obtain ⟨v, th, n, ts, o, rfl, W, hok, hlen, hth, hT0, q⟩ := h
    rfl) fun A outer s H vs Q E hr h => ?_
  obtain ⟨v, th, n, ts, o, rfl, W, hok, hlen, hth, hT0, q⟩ := h
  refine ⟨_, pss_cons (ps_if (PW.pt (pw_or (pt_not (pt_val (pe_callB (isiK (K := K)) (by rfl) T.b_isinstance (by decide +kernel) (pa_cons (pv 1) (pa_cons (pe_bltn (v := .ty "tuple") (u := .type "tuple") (by rfl) T.b_tuple (by decide +kernel) rfl) pa_nil))))) (pw_or1 (pt_cmpR op_ne (pe_callB (lenK (K := K)) (by rfl) T.b_len PySem.boot_len (pa_cons (pv 1) pa_nil)) (pe_callB (lenK (K := K)) (by rfl) T.b_len PySem.boot_len (pa_cons (pe_ix (ix_tupK (K := K)) (pv 0) (pe_int) (fun _ _ => rfl)) pa_nil)) (nomark _)))))
     (pss_one (ps_ret (pe_bl)))
     (pss_nil))
     (pss_one (ps_ret (pe_all (k := 1) (vs := [0, 1, 2]) (hr.mono (by decide)) (by rfl) T.b_all (by decide +kernel) TB hcd (gxs_of (XN := nm_is_ways) (xsc := defScope s_is_ways) (N := ["point", "a", "b"]) (src := [none, none, none]) (by decide +kernel)) (RZ.pi_zipA (by rfl) T.b_zip (pa_cons (pe_ix (ix_tupK (K := K)) (pv 0) (pe_int) (fun _ _ => rfl)) (pa_cons (pv 1) pa_nil))) ⟨fun _ _ _ _ _ _ => tgtK (K := K) (n := 2) (pgs_cons (tgtK (K := K) (n := 2) (pgs_cons (pg_name (i := 1) gnd_is_ways_0 rfl (.inl rfl)) (pgs_cons (pg_name (i := 2) gnd_is_ways_0 rfl (.inl rfl)) pgs_nil))) (pgs_cons (pg_name (i := 0) gnd_is_ways_0 rfl (.inl rfl)) pgs_nil)), fun _ _ _ _ _ _ hz => pts_nil, fun _ _ _ _ _ _ hz => pe_and (pe_call G_is_number (hz.mono (by decide)) (by rfl) D_is_number.g D_is_number.F.kp D_is_number.b .nil pass0 (pa_cons (pv 0) (pa_cons (pv 1) (pa_cons (pv 2) pa_nil)))) (pe_one (pe_cmpR (in_seqK (K := K)) (pv 0) (pe_tup (pa_cons (pv 1) (pa_cons (pv 2) pa_nil))) (by rfl)))⟩))), ?_⟩
  obtain ⟨tw, u, rs, rfl, htw, hu, hT⟩ := id W
  have hrl := hT.length
  cases hth with
  | @no _ nm h hn =>
    refine ⟨_, rfl, th, _, _, _, _, rfl, .ty _, h.x, isi_noF h hn, _, rfl, ?_⟩
    exact iteT (iteT (q H .refl))
  | @yes a xs h ht hx =>
    refine ⟨_, rfl, _, _, _, _, true, rfl, .ty _, ht, isi_yes, true, rfl, iteF ?_⟩
    refine ⟨_, rfl, a, _, rfl, .inr h, _, rfl, tw, _, 1, _, rfl, rfl, sqT_of htw, atI_nat (j := 1) rfl, u, _, rfl, .inr (sqT_of hu), rfl, _, rfl, ?_⟩
    refine iteB (fun hb => ?_) (fun hb => ?_)
    · have e : waysO ts (some xs) = false := by
        rw [Bool.eq_false_iff]
        intro z
        have hb : (!decide (V.int (xs.length : Int) = V.int (rs.length : Int))) = true := hb
        rw [hrl, endsB_len z, decide_eq_true rfl] at hb
        cases hb
      have q0 := q H .refl
      rw [e] at q0
      exact q0
    have hl : xs.length = ts.length := by
      have hb : (!decide (V.int (xs.length : Int) = V.int (rs.length : Int))) = false := hb
      rw [decide_int] at hb
      by_cases z : (xs.length : Int) = (rs.length : Int)
      · omega
      · rw [decide_eq_false z] at hb
        cases hb
    refine ⟨_, rfl, tw, _, 1, _, rfl, rfl, sqT_of htw, atI_nat (j := 1) rfl, _, rfl, u, a, rs, xs, rfl, .inr ⟨sqT_of hu, h, hT0 _ hPt, fun H2 htb => ?_⟩⟩
    have k2 := Ke.tabd (hT0 _ hPt) htb
    refine gx_all (walk_zipT (K := K) (a := u) (b := a) (xs := rs) (ys := xs) rfl) (fun i G => Ke H G ∧ ∀ (j : Nat) (t : Int × Int) (x : V), j < i → ts[j]? = some t → xs[j]? = some x → isEnd t x = true) ⟨k2, fun _ _ _ z => absurd z (Nat.not_lt_zero _)⟩ (fun i G _ hG => ⟨sqT_of (hG.1.tup hu), sqT_ke h hG.1⟩) (fun i x G G' hi hG hy => ?_) (fun G hG => ?_)
    · obtain ⟨kG, ho⟩ := hG
      obtain ⟨T1, y1, y2, rfl, nT, rfl, e1, e2⟩ := hy
      have e1 : rs[i]? = some y1 := e1
      have e2 : xs[i]? = some y2 := e2
      obtain ⟨⟨x1, x2⟩, qq, hti, rfl, hq⟩ := hT.get e1
      obtain ⟨ok1, ok2, ok3⟩ := hok _ (List.mem_of_getElem? hti)
      dsimp only at ok1 ok2 ok3
      obtain ⟨nm, hty⟩ := hx y2 (List.mem_of_getElem? e2)
      have kT : Ke H (upd G T1 (.tup [.ref qq, y2])) := kG.trans (Ke.new nT)
      have step : isEnd (x1, x2) y2 = true → ∀ (j : Nat) (t : Int × Int) (x : V), j < i + 1 → ts[j]? = some t → xs[j]? = some x → isEnd t x = true := fun he j t x hj h1 h2 => by
        by_cases ej : j = i
        · subst ej
          rw [hti] at h1
          rw [e2] at h2
          cases h1
          cases h2
          exact he
        · exact ho j t x (by omega) h1 h2
      have stop : isEnd (x1, x2) y2 = false → waysO ts (some xs) = false := fun he => by
        rw [Bool.eq_false_iff]
        intro z
        have := (endsB_iff hl).mp z i _ _ hti e2
        rw [he] at this
        cases this
      refine ⟨T1, _, rfl, sqT_of upd_same, rfl, _, _, rfl, qq, _, rfl, sqT_of (Ke.tup kT hq), rfl, _, _, rfl, _, [], rfl, rfl, _, [], rfl, rfl, rfl, yes_ite ?_⟩
      refine ⟨_, rfl, _, rfl, _, rfl, y2, x1, x2, nm, rfl, hty.ke kT, _, rfl, ?_⟩
      cases y2 with
      | int z =>
        refine iteB (fun hb => ?_) (fun hb => ?_)
        · refine ⟨_, rfl, _, rfl, _, rfl, by show 2 ≤ sizeLine; decide, fun t2 nt2 => ?_⟩
          have kU : Ke H (upd _ t2 (.tup [.int x1, .int x2])) := kT.trans (Ke.new nt2)
          refine ⟨t2, [.int x1, .int x2], rfl, .inr (sqT_of upd_same), rfl, rfl, _, rfl, ?_⟩
          show if (inV (.int z) [.int x1, .int x2]) = false then _ else _
          have e : inV (.int z) [.int x1, .int x2] = isEnd (x1, x2) (.int z) := by
            have := inV_int z [x1, x2]
            refine this.trans ?_
            show decide (z ∈ [x1, x2]) = (decide (z = x1) || decide (z = x2))
            by_cases e1 : z = x1
            · rw [decide_eq_true e1, e1, decide_eq_true List.mem_cons_self]; rfl
            · by_cases e2 : z = x2
              · rw [decide_eq_true e2, e2, decide_eq_true (List.mem_cons_of_mem _ List.mem_cons_self), Bool.or_true]
              · rw [decide_eq_false e1, decide_eq_false e2, decide_eq_false (by simp [e1, e2])]; rfl
          by_cases hf : inV (.int z) [.int x1, .int x2] = false
          · refine (if_pos hf).mpr ?_
            have q0 := q _ kU
            rw [stop (e.symm.trans hf)] at q0
            exact q0
          · refine (if_neg hf).mpr ⟨kU, step ?_⟩
            rw [← e]
            simpa using hf
        · have he : isEnd (x1, x2) (.int z) = false := by
            have hb : (decide (x1 ≤ z) && decide (z ≤ x2)) = false := hb
            show (decide (z = x1) || decide (z = x2)) = false
            rw [Bool.eq_false_iff]
            intro hz
            rw [Bool.or_eq_true, decide_eq_true_eq, decide_eq_true_eq] at hz
            rw [decide_eq_true (by omega), decide_eq_true (by omega)] at hb
            cases hb
          have q0 := q _ kT
          rw [stop he] at q0
          exact ⟨false, rfl, (if_pos rfl).mpr q0⟩
      | _ =>
        have q0 := q _ kT
        rw [stop rfl] at q0
        exact iteF ⟨false, rfl, (if_pos rfl).mpr q0⟩
    · have e : waysO ts (some xs) = true := (endsB_iff hl).mpr fun i t x h1 h2 => hG.2 i t x (by
          have := (List.getElem?_eq_some_iff.mp h1).1
          omega) h1 h2
      have q0 := q G hG.1
      rw [e] at q0
      exact q0
theorem ok_outs_of {P : Program} {w : World} {K : PySem.W.Frag} {mg : Str → Option Value} {base : Heap} {tb : List Addr} {f : Addr} {fd : FuncData} {f_shares_of : Addr} {fd_shares_of : FuncData} (T : Blt mg) (D_outs_of : DefAt K mg "outs_of" s_outs_of ["web", "ways"] f fd) (D_shares_of : DefAt K mg "shares_of" s_shares_of ["points", "holders"] f_shares_of fd_shares_of) (G_shares_of : FnOk P w K mg base CX0 1 f_shares_of fd_shares_of ["points", "holders"] (sp_shares_of K tb)) :
    FnOk P w K mg base CX0 2 f fd ["web", "ways"] (sp_outs_of K tb) := by
  refine D_outs_of.ok sc_outs_of (fun vs H Q E h => by
    obtain ⟨v, n, ts, a, ws, rfl, W, hn0, hn1, ha, hbd, q⟩ := h
    rfl) fun A outer s H vs Q E hr h => ?_
  obtain ⟨v, n, ts, a, ws, rfl, W, hn0, hn1, ha, hbd, q⟩ := h
  refine ⟨_, pss_one (ps_ret (pe_callTy (tupleK (K := K)) (by rfl) T.b_tuple (by decide +kernel) (pa_cons (pe_call G_shares_of (hr.mono (by decide)) (by rfl) D_shares_of.g D_shares_of.F.kp D_shares_of.b .nil pass0 (pa_cons (pe_ix (ix_tupK (K := K)) (pv 0) (pe_int) (fun _ _ => rfl)) (pa_cons (pv 1) pa_nil))) pa_nil))), ?_⟩
  obtain ⟨t, u, rs, rfl, ht, hu, hT⟩ := W
  refine ⟨_, rfl, t, _, 0, _, rfl, rfl, sqT_of ht, atI_nat (j := 0) rfl, _, rfl, n, a, ws, rfl, hn0, hn1, ha, hbd, fun H1 p k1 _ h1 => ?_⟩
  exact ⟨p, _, rfl, .inl ⟨sqL_of h1, fun l nl => q _ l (k1.trans (Ke.new nl)) upd_same⟩⟩
theorem ok_right_ways {P : Program} {w : World} {K : PySem.W.Frag} {mg : Str → Option Value} {base : Heap} {tb : List Addr} {f : Addr} {fd : FuncData} {f_is_ways : Addr} {fd_is_ways : FuncData} {f_outs_of : Addr} {fd_outs_of : FuncData} (T : Blt mg) (D_right_ways : DefAt K mg "right_ways" s_right_ways ["web", "d", "thing"] f fd) (D_is_ways : DefAt K mg "is_ways" s_is_ways ["web", "thing"] f_is_ways fd_is_ways) (G_is_ways : FnOk P w K mg base CX0 5 f_is_ways fd_is_ways ["web", "thing"] (sp_is_ways K tb)) (D_outs_of : DefAt K mg "outs_of" s_outs_of ["web", "ways"] f_outs_of fd_outs_of) (G_outs_of : FnOk P w K mg base CX0 2 f_outs_of fd_outs_of ["web", "ways"] (sp_outs_of K tb)) :
    FnOk P w K mg base CX0 6 f fd ["web", "d", "thing"] (sp_right_ways K tb) := by
  refine D_right_ways.ok sc_right_ways (fun vs H Q E h => by
    obtain ⟨v, th, n, ts, d, o, rfl, W, hn0, hn1, hok, hlen, hth, hT0, q⟩ := h
    rfl) fun A outer s H vs Q E hr h => ?_
  obtain ⟨v, th, n, ts, d, o, rfl, W, hn0, hn1, hok, hlen, hth, hT0, q⟩ := h
  refine ⟨_, pss_one (ps_ret (pe_and (pe_call G_is_ways (hr.mono (by decide)) (by rfl) D_is_ways.g D_is_ways.F.kp D_is_ways.b .nil pass0 (pa_cons (pv 0) (pa_cons (pv 2) pa_nil))) (pe_one (pe_cmpR op_le (pe_callB (maxT (K := K) rfl hr.units) (by rfl) T.b_max (by decide +kernel) (pa_cons (pe_call G_outs_of (hr.mono (by decide)) (by rfl) D_outs_of.g D_outs_of.F.kp D_outs_of.b .nil pass0 (pa_cons (pv 0) (pa_cons (pv 2) pa_nil))) pa_nil)) (pv 1) (nomark _))))), ?_⟩
  refine ⟨_, rfl, _, rfl, v, th, n, ts, o, rfl, W, hok, hlen, hth, hT0, fun H1 k1 => ?_⟩
  refine ⟨_, rfl, iteB (fun hb => ?_) (fun hb => ?_)⟩
  · cases o with
    | none => cases hb
    | some xs =>
      cases hth with
      | @yes a _ h ht hx =>
        obtain ⟨ei, hW⟩ := ends_ints hb
        have h1 := sqT_ke h k1
        rw [ei] at h1
        refine ⟨_, rfl, _, rfl, v, n, ts, a, intsOf xs, rfl, W.ke k1, by omega, hn1, .inr h1, hW.bd hok, fun H2 p k2 hp => ?_⟩
        refine ⟨p, _, rfl, sqT_of hp, by rw [outsL_length]; omega, fun m hm hx => ?_⟩
        refine ⟨_, rfl, _, _, rfl, rfl, ?_⟩
        have q0 := q _ (k1.trans k2)
        have e : rwO n ts d (some xs) = decide (m ≤ d) := by
          have := hW.rw (d := d) hm hx
          rw [← ei] at this
          exact this
        rw [e] at q0
        exact q0
  · have q0 := q _ k1
    have e : rwO n ts d o = false := by unfold rwO; rw [hb, Bool.false_and]
    rw [e] at q0
    exact q0
theorem ok_right_crowded {P : Program} {w : World} {K : PySem.W.Frag} {mg : Str → Option Value} {base : Heap} {tb : List Addr} {f : Addr} {fd : FuncData} {f_ties_within : Addr} {fd_ties_within : FuncData} {f_is_lot : Addr} {fd_is_lot : FuncData} (T : Blt mg) (D_right_crowded : DefAt K mg "right_crowded" s_right_crowded ["web", "d", "thing"] f fd) (D_ties_within : DefAt K mg "ties_within" s_ties_within ["web", "lot"] f_ties_within fd_ties_within) (G_ties_within : FnOk P w K mg base CX0 4 f_ties_within fd_ties_within ["web", "lot"] (sp_ties_within K tb)) (D_is_lot : DefAt K mg "is_lot" s_is_lot ["web", "thing"] f_is_lot fd_is_lot) (G_is_lot : FnOk P w K mg base CX0 3 f_is_lot fd_is_lot ["web", "thing"] (sp_is_lot K tb)) :
    FnOk P w K mg base CX0 5 f fd ["web", "d", "thing"] (sp_right_crowded K tb) := by
  refine D_right_crowded.ok sc_right_crowded (fun vs H Q E h => by
    obtain ⟨v, th, n, ts, d, o, rfl, W, hd0, hd1, hlen, hth, hT0, q⟩ := h
    rfl) fun A outer s H vs Q E hr h => ?_
  obtain ⟨v, th, n, ts, d, o, rfl, W, hd0, hd1, hlen, hth, hT0, q⟩ := h
  refine ⟨_, pss_one (ps_ret (pe_and (pe_call G_is_lot (hr.mono (by decide)) (by rfl) D_is_lot.g D_is_lot.F.kp D_is_lot.b .nil pass0 (pa_cons (pv 0) (pa_cons (pv 2) pa_nil))) (pe_one (pe_cmpR op_gt (pe_call G_ties_within (hr.mono (by decide)) (by rfl) D_ties_within.g D_ties_within.F.kp D_ties_within.b .nil pass0 (pa_cons (pv 0) (pa_cons (pv 2) pa_nil))) (pe_op op_mul (pv 1) (pe_callB (lenK (K := K)) (by rfl) T.b_len PySem.boot_len (pa_cons (pv 2) pa_nil))) (nomark _))))), ?_⟩
  refine ⟨_, rfl, _, rfl, v, th, n, ts, o, rfl, W, hth, ?_⟩
  refine ⟨_, rfl, iteB (fun hb => ?_) (fun hb => ?_)⟩
  · cases hth with
    | @no _ nm h hn => cases hb
    | @yes a xs h ht hx =>
      obtain ⟨hne, hr⟩ := lotO_rising hb
      have ei := rising_ints hr
      have h' : SqT K H a ((intsOf xs).map V.int) := by rw [← ei]; exact h
      refine ⟨_, rfl, _, rfl, v, n, ts, a, intsOf xs, rfl, W, h', hlen, hT0, fun H1 k1 => ?_⟩
      refine ⟨_, rfl, _, rfl, a, _, rfl, .inr (sqT_ke h k1), _, _, rfl, rfl, .inl ⟨by omega, by omega⟩, _, _, rfl, rfl, ?_⟩
      have e : crowdO n ts d (some xs) = decide ((inside (intsOf xs) ts : Int) > d * (xs.length : Int)) := by unfold crowdO; rw [hb, Bool.true_and]
      have q1 := q H1 k1
      rw [e] at q1
      exact q1
  · have q0 := q _ .refl
    have e : crowdO n ts d o = false := by unfold crowdO; rw [hb, Bool.false_and]
    rw [e] at q0
    exact q0
theorem posM : (0 : Int) < 2305843009213693951 := by decide
theorem modM (x : Int) : 0 ≤ x % 2305843009213693951 ∧ x % 2305843009213693951 < 2305843009213693951 := ⟨Int.emod_nonneg _ (by decide), Int.emod_lt_of_pos _ (by decide)⟩
theorem ok__law_mixed {P : Program} {w : World} {K : PySem.W.Frag} {mg : Str → Option Value} {base : Heap} {tb : List Addr} {f : Addr} {fd : FuncData} (T : Blt mg) (D__law_mixed : DefAt K mg "_law_mixed" s_law_mixed ["_law_cell", "_law_k"] f fd) :
    FnOk P w K mg base CX0 1 f fd ["_law_cell", "_law_k"] (sp__law_mixed K tb) := by
  refine D__law_mixed.ok sc__law_mixed (fun vs H Q E h => by
    obtain ⟨c, k, rfl, hk0, hk1, q⟩ := h
    rfl) fun A outer s H vs Q E hr h => ?_
  obtain ⟨c, k, rfl, hk0, hk1, q⟩ := h
  refine ⟨_, pss_cons (ps_set (i := 2) sc__law_mixed.nd rfl (.inl rfl) (pe_op op_mod (pe_op op_add (pe_op op_add (pv 0) (pe_op op_mul (pe_op op_mul (pv 1) (pv 1)) (pe_int))) (pe_int)) (pe_int)))
     (pss_cons (ps_set (i := 2) sc__law_mixed.nd rfl (.inl rfl) (pe_op op_mod (pe_op op_mul (pv 2) (pv 2)) (pe_int)))
     (pss_cons (ps_set (i := 2) sc__law_mixed.nd rfl (.inl rfl) (pe_op op_mod (pe_op op_mul (pe_op op_add (pe_op op_add (pv 2) (pe_op op_mul (pv 1) (pe_int))) (pe_int)) (pe_int)) (pe_int)))
     (pss_one (ps_ret (pe_op op_fdiv (pe_op op_mod (pe_op op_mul (pv 2) (pv 2)) (pe_int)) (pe_int)))))), ?_⟩
  refine ⟨_, rfl, _, rfl, _, rfl, _, _, rfl, rfl, .inl ⟨by omega, by omega⟩, _, _, rfl, rfl, .inr ⟨by decide, by decide⟩, _, _, rfl, rfl, _, _, rfl, rfl, _, _, rfl, rfl, posM, ?_⟩
  obtain ⟨x0, x1⟩ := modM (c + k * k * 40503 + 12345)
  refine ⟨_, rfl, _, rfl, _, _, rfl, rfl, .inl ⟨by omega, by omega⟩, _, _, rfl, rfl, posM, ?_⟩
  obtain ⟨y0, y1⟩ := modM ((c + k * k * 40503 + 12345) % 2305843009213693951 * ((c + k * k * 40503 + 12345) % 2305843009213693951))
  generalize (c + k * k * 40503 + 12345) % 2305843009213693951 * ((c + k * k * 40503 + 12345) % 2305843009213693951) = y at *
  refine ⟨_, rfl, _, rfl, _, _, rfl, rfl, .inl ⟨by omega, by omega⟩, _, _, rfl, rfl, _, _, rfl, rfl, _, _, rfl, rfl, .inl ⟨by omega, by omega⟩, _, _, rfl, rfl, posM, ?_⟩
  obtain ⟨z0, z1⟩ := modM ((y % 2305843009213693951 + k * 7919 + 1) * 48271)
  refine ⟨_, rfl, _, rfl, _, _, rfl, rfl, .inl ⟨by omega, by omega⟩, _, _, rfl, rfl, posM, _, _, rfl, rfl, ⟨by decide, by decide⟩, ?_⟩
  exact q _ (Int.ediv_nonneg (Int.emod_nonneg _ (by decide)) (by decide))
theorem own_list (ns : List Int) : ∃ own : List Int, cutV (ns.map V.int) none (some 60) ++ (List.replicate (Int.toNat (if decide (V.int ((ns.map V.int).length : Int) = V.int 0) = true then 1 else 0)) [V.int 0]).flatten = own.map V.int ∧ 0 < own.length ∧ own.length ≤ 60 := by
  have e : cutV (ns.map V.int) none (some 60) = (ns.take 60).map V.int := by
    rw [show (some (60 : Int)) = some ((60 : Nat) : Int) from rfl, cut_to, List.map_take]
  rw [e]
  cases ns with
  | nil => exact ⟨[0], rfl, by decide, by decide⟩
  | cons x r =>
    have d : decide (V.int (((x :: r).map V.int).length : Int) = V.int 0) = false := decide_eq_false fun z => by
      have z := V.int.inj z
      rw [List.length_map, List.length_cons] at z
      omega
    rw [d]
    refine ⟨(x :: r).take 60, by simp, by simp, by rw [List.length_take]; omega⟩
theorem p1000 : (0 : Int) < 1000 := by decide
theorem ok__law_deck {P : Program} {w : World} {K : PySem.W.Frag} {mg : Str → Option Value} {base : Heap} {tb : List Addr} {f : Addr} {fd : FuncData} {f__law_mixed : Addr} {fd__law_mixed : FuncData} (T : Blt mg) (D__law_deck : DefAt K mg "_law_deck" s_law_deck ["_law_script", "_law_many"] f fd) (D__law_mixed : DefAt K mg "_law_mixed" s_law_mixed ["_law_cell", "_law_k"] f__law_mixed fd__law_mixed) (G__law_mixed : FnOk P w K mg base CX0 1 f__law_mixed fd__law_mixed ["_law_cell", "_law_k"] (sp__law_mixed K tb)) :
    FnOk P w K mg base CX0 2 f fd ["_law_script", "_law_many"] (sp__law_deck K tb) := by
  refine D__law_deck.ok sc__law_deck (fun vs H Q E h => by
    obtain ⟨a, ns, n, rfl, hS, hlen, hn0, hn1, q⟩ := h
    rfl) fun A outer s H vs Q E hr h => ?_
  obtain ⟨a, ns, n, rfl, hS, hlen, hn0, hn1, q⟩ := h
  refine ⟨_, pss_cons (ps_set (i := 2) sc__law_deck.nd rfl (.inl rfl) (pe_op op_cat (pe_callTy (listK (K := K)) (by rfl) T.b_list (by decide +kernel) (pa_cons (pe_slice (sl_listK (K := K)) (pv 0) po_none (po_some (pe_int))) pa_nil)) (pe_op op_rep (pe_lst (pa_cons (pe_int) pa_nil)) (pe_callTy call_int1 (by rfl) T.b_int (by decide +kernel) (pa_cons (pe_cmpR op_eq (pe_callB (lenK (K := K)) (by rfl) T.b_len PySem.boot_len (pa_cons (pv 0) pa_nil)) (pe_int) (nomark _)) pa_nil)))))
     (pss_cons (ps_setLc (i := 4) (own := [("_law_cell", 3)]) rfl sc__law_deck.nd rfl rfl (sw_true rfl rfl rfl (by decide +kernel)) (pi_list (pv 2)) (blkOk_by (own := [("_law_cell", 3)]) (N := nm__law_deck) (sc := defScope s_law_deck) (by decide +kernel)) (fun _ _ _ _ _ => pg_name (i := 3) sc__law_deck.nd rfl (.inl rfl)) (fun _ _ _ _ _ => pts_nil) (fun _ _ _ _ _ => pe_op op_mul (pv 3) (pe_callTy call_int1 (by rfl) T.b_int (by decide +kernel) (pa_cons (pe_cmpR op_ge (pv 3) (pe_op op_pow (pe_int) (pe_int)) (nomark _)) pa_nil))))
     (pss_cons (ps_set (i := 5) sc__law_deck.nd rfl (.inl rfl) (pe_lst pa_nil))
     (pss_cons (ps_for PassesOwn.never rfl (pi_range1 (by rfl) T.b_range (pa_cons (pv 1) pa_nil)) (pg_name (i := 6) sc__law_deck.nd rfl (.inl rfl))
     (pss_cons (ps_set (i := 7) sc__law_deck.nd rfl (.inl rfl) (pe_op op_mod (pv 6) (pe_callB (lenK (K := K)) (by rfl) T.b_len PySem.boot_len (pa_cons (pv 2) pa_nil))))
     (pss_one (ps_if (pt_cmpR op_gt (pe_ix (ix_listK (K := K)) (pv 4) (pv 7) (fun _ _ => rfl)) (pe_int) (nomark _))
     (pss_cons (ps_expr (pe_bm PySem.F.plainAttrs_list PySem.F.slot_list_append PySem.F.type_list_append mt_append (pv 5) (pa_cons (pe_op op_mod (pe_ix (ix_listK (K := K)) (pv 4) (pv 7) (fun _ _ => rfl)) (pe_int)) pa_nil)))
     (pss_one (ps_asg (pe_op op_fdiv (pe_ix (ix_listK (K := K)) (pv 4) (pv 7) (fun _ _ => rfl)) (pe_int)) (pg_sub (pv 4) (pv 7) set_list))))
     (pss_one (ps_expr (pe_bm PySem.F.plainAttrs_list PySem.F.slot_list_append PySem.F.type_list_append mt_append (pv 5) (pa_cons (pe_op op_mod (pe_call G__law_mixed (hr.mono (by decide)) (by rfl) D__law_mixed.g D__law_mixed.F.kp D__law_mixed.b .nil pass0 (pa_cons (pe_ix (ix_listK (K := K)) (pv 2) (pv 7) (fun _ _ => rfl)) (pa_cons (pe_op op_add (pv 6) (pe_int)) pa_nil))) (pe_int)) pa_nil))))))))
     (pss_one (ps_ret (pe_listRev rfl (by rfl) T.b_list (by rfl) T.b_reversed (pv 5))))))), ?_⟩
  -- own
  refine ⟨_, rfl, 60, rfl, a, _, rfl, hS, fun c nc => ?_⟩
  refine ⟨c, _, rfl, .inl (sqL_of upd_same), fun l nl => ?_⟩
  have k1 : Ke H (upd (upd H c (.lst (cutV (ns.map V.int) none (some 60)))) l (.lst (cutV (ns.map V.int) none (some 60)))) := (Ke.new nc).trans (Ke.new nl)
  have hl1 : (upd (upd H c (.lst (cutV (ns.map V.int) none (some 60)))) l (.lst (cutV (ns.map V.int) none (some 60)))) l = some (.lst (cutV (ns.map V.int) none (some 60))) := upd_same
  generalize (upd (upd H c (.lst (cutV (ns.map V.int) none (some 60)))) l (.lst (cutV (ns.map V.int) none (some 60)))) = Ha at *
  have hla : (ns.map V.int).length = ns.length := List.length_map ..
  refine ⟨by decide, fun z nz => ?_⟩
  refine ⟨_, rfl, a, _, rfl, .inl ((k1.trans (Ke.new nz)).seqL hS (fun z => z)), rfl, .inr ⟨_, rfl, ?_⟩⟩
  refine ⟨z, _, _, rfl, rfl, upd_same, by split <;> decide, by split <;> decide, by split <;> decide, fun r nr => ?_⟩
  have k2 : Ke Ha (upd (upd Ha z (.lst [.int 0])) r (.lst (List.replicate (Int.toNat (if decide (V.int ((ns.map V.int).length : Int) = V.int 0) then 1 else 0)) [V.int 0]).flatten)) := (Ke.new nz).trans (Ke.new nr)
  have hcl : (cutV (ns.map V.int) none (some 60)).length ≤ 63 := Nat.le_trans (cutV_length _ _ _) (by omega)
  obtain ⟨own, eown, hown0, hown1⟩ := own_list ns
  refine ⟨l, r, _, _, rfl, rfl, k2.lst hl1, upd_same, ?_, fun o no => ?_⟩
  · rw [← List.length_append, eown, List.length_map]
    have := line_big
    omega
  rw [eown]
  have k3 := (k1.trans k2).trans (Ke.new (S := fun _ => False) (o := .lst (own.map V.int)) no)
  have ho : upd (upd (upd Ha z (.lst [.int 0])) r (.lst (List.replicate (Int.toNat (if decide (V.int ((ns.map V.int).length : Int) = V.int 0) = true then 1 else 0)) [V.int 0]).flatten)) o (.lst (own.map V.int)) o = some (.lst (own.map V.int)) := upd_same
  generalize upd (upd (upd Ha z (.lst [.int 0])) r (.lst (List.replicate (Int.toNat (if decide (V.int ((ns.map V.int).length : Int) = V.int 0) = true then 1 else 0)) [V.int 0]).flatten)) o (.lst (own.map V.int)) = Hb at *
  -- rest
  refine ⟨_, rfl, o, rfl, ⟨_, sqL_of ho⟩, fun D hD => ?_⟩
  refine lc_list (K := K) (a := o) (xs := own.map V.int) (fun i G => ∃ rs : List Int, rs.length = i ∧ G = upd Hb D (.lst (rs.map V.int))) ⟨[], rfl, rfl⟩ (fun i G _ hG => ?_) (fun i x G hx hG => ?_) (fun G hG => ?_)
  · obtain ⟨rs, _, rfl⟩ := hG
    exact sqL_of (by rw [upd_ne (ne_of_none ho hD)]; exact ho)
  · obtain ⟨rs, hrs, rfl⟩ := hG
    obtain ⟨v, hv, rfl⟩ : ∃ v, own[i]? = some v ∧ x = .int v := by
      rw [List.getElem?_map] at hx
      cases e : own[i]? with
      | none => rw [e] at hx; cases hx
      | some v => rw [e] at hx; exact ⟨v, rfl, (Option.some.inj hx).symm⟩
    have hi : i < own.length := (List.getElem?_eq_some_iff.mp hv).1
    refine ⟨rfl, yes_ite ?_⟩
    refine ⟨_, rfl, _, rfl, _, _, rfl, rfl, ⟨by decide, by decide, by decide⟩, _, _, rfl, rfl, .inr ⟨_, rfl, _, _, rfl, rfl, .inr ⟨by split <;> decide, by split <;> decide⟩, _, upd_same, ?_, ?_⟩⟩
    · rw [List.length_map]
      have := line_big
      omega
    · rw [upd_upd]
      exact ⟨rs ++ [_], by rw [List.length_append, hrs]; rfl, by rw [List.map_append]; rfl⟩
  · obtain ⟨rs, hrs, rfl⟩ := hG
    rw [List.length_map] at hrs
    -- the deck
    have k4 := k3.over (o := .lst (rs.map V.int)) (k3.dom _ hD)
    have ho4 : upd Hb D (.lst (rs.map V.int)) o = some (.lst (own.map V.int)) := by rw [upd_ne (ne_of_none ho hD)]; exact ho
    refine ⟨Nat.zero_le _, fun p np => ?_⟩
    obtain ⟨npD, np0⟩ := upd_none np
    have nHD := k3.dom _ hD
    have nHp := k3.dom _ np0
    refine ⟨_, rfl, n, rfl, by omega, by omega, ?_⟩
    refine for_range (n := n.toNat) (fun i σ G => ∃ (y6 y7 : Option V) (ds rs : List Int), σ = [some (.ref a), some (.int n), some (.ref o), none, some (.ref D), some (.ref p), y6, y7] ∧ Ke H G ∧ G o = some (.lst (own.map V.int)) ∧ G D = some (.lst (rs.map V.int)) ∧ rs.length = own.length ∧ G p = some (.lst (ds.map V.int)) ∧ ds.length = i ∧ Dig ds)
      ⟨none, none, [], rs, rfl, k4.over nHp, by rw [upd_ne (ne_of_none ho4 np)]; exact ho4, by rw [upd_ne npD.symm, upd_same], hrs, upd_same, rfl, fun _ z => nomatch z⟩ (fun i σ G hi hG => ?_) (fun σ G hG => ?_)
    · obtain ⟨y6, y7, ds, rs, rfl, kG, go, gD, hrs, gp, hds, hdig⟩ := hG
      have m0 := emod_bds (0 + (i : Int)) (n := own.length) (by omega)
      have hol : ((own.map V.int).length : Int) = own.length := by rw [List.length_map]
      refine ⟨_, rfl, _, rfl, o, _, rfl, .inl (sqL_of go), _, _, rfl, rfl, by rw [hol]; omega, ?_⟩
      rw [hol]
      obtain ⟨v, _, _, ev⟩ := at_int (xs := rs) m0.1 (by rw [hrs]; exact m0.2)
      obtain ⟨u, _, _, eu⟩ := at_int (xs := own) m0.1 m0.2
      have npo : o ≠ p := ne_of_none ho4 np
      refine ⟨_, rfl, _, rfl, D, _, _, _, rfl, rfl, sqL_of gD, ev, _, _, rfl, rfl, _, rfl, ite2 (fun hc => ?_) (fun hc => ?_)⟩
      · have hv : 0 < v := of_decide_eq_true hc
        have d0 := emod_bds v (n := 1000) (by decide)
        refine ⟨_, rfl, .inl ⟨rfl, _, sqL_of gp⟩, _, rfl, _, rfl, D, _, _, _, rfl, rfl, sqL_of gD, ev, _, _, rfl, rfl, p1000, p, _, _, rfl, rfl, gp, ?_, ?_⟩
        · rw [List.length_map]
          have := line_big
          omega
        · have gD2 : upd G p (.lst (ds.map V.int ++ [.int (v % 1000)])) D = some (.lst (rs.map V.int)) := by rw [upd_ne npD.symm]; exact gD
          refine ⟨_, rfl, _, rfl, D, _, _, _, rfl, rfl, sqL_of gD2, ev, _, _, rfl, rfl, ⟨by decide, by decide⟩, _, rfl, _, rfl, D, _, _, _, rfl, rfl, gD2, ix_in m0.1 (by rw [List.length_map, hrs]; exact m0.2), ?_⟩
          refine ⟨_, _, ds ++ [v % 1000], rs.set ((0 + (i : Int)) % own.length).toNat (v / 1000), rfl, (kG.over nHp).over nHD, ?_, ?_, by rw [List.length_set]; exact hrs, ?_, by rw [List.length_append, hds]; rfl, ?_⟩
          · rw [upd_ne (ne_of_none ho hD), upd_ne npo]
            exact go
          · rw [upd_same, List.map_set]
          · rw [upd_ne npD, upd_same, List.map_append]
            rfl
          · intro d hd
            rcases List.mem_append.mp hd with hd | hd
            · exact hdig d hd
            · rw [List.mem_singleton.mp hd]
              exact d0
      · refine ⟨_, rfl, .inl ⟨rfl, _, sqL_of gp⟩, _, rfl, _, rfl, o, _, _, _, rfl, rfl, sqL_of go, eu, _, rfl, _, _, rfl, rfl, _, _, rfl, by omega, by omega, fun rr hr0 => ?_⟩
        have d0 := emod_bds rr (n := 1000) (by decide)
        refine ⟨_, _, rfl, rfl, p1000, p, _, _, rfl, rfl, gp, ?_, ?_⟩
        · rw [List.length_map]
          have := line_big
          omega
        · refine ⟨_, _, ds ++ [rr % 1000], rs, rfl, kG.over nHp, ?_, ?_, hrs, ?_, by rw [List.length_append, hds]; rfl, ?_⟩
          · rw [upd_ne npo]
            exact go
          · rw [upd_ne npD.symm]
            exact gD
          · rw [upd_same, List.map_append]
            rfl
          · intro d hd
            rcases List.mem_append.mp hd with hd | hd
            · exact hdig d hd
            · rw [List.mem_singleton.mp hd]
              exact d0
    · obtain ⟨y6, y7, ds, rs, rfl, kG, go, gD, hrs, gp, hds, hdig⟩ := hG
      refine ⟨_, rfl, p, _, rfl, sqL_of gp, fun e ne => ?_⟩
      exact q e _ (kG.dom _ ne) (kG.trans (Ke.new ne)) ⟨ds.reverse, by rw [upd_same, List.map_reverse], fun d hd => hdig d (List.mem_reverse.mp hd)⟩
theorem ok__law_next {P : Program} {w : World} {K : PySem.W.Frag} {mg : Str → Option Value} {base : Heap} {tb : List Addr} {f : Addr} {fd : FuncData} (T : Blt mg) (D__law_next : DefAt K mg "_law_next" s_law_next ["_law_deck_here"] f fd) :
    FnOk P w K mg base CX0 1 f fd ["_law_deck_here"] (sp__law_next K tb) := by
  refine D__law_next.ok sc__law_next (fun vs H Q E h => by
    obtain ⟨p, rfl, hd, q⟩ := h
    rfl) fun A outer s H vs Q E hr h => ?_
  obtain ⟨p, rfl, hd, q⟩ := h
  refine ⟨_, pss_cons (ps_if (pt_cmpR op_gt (pe_callB (lenK (K := K)) (by rfl) T.b_len PySem.boot_len (pa_cons (pv 0) pa_nil)) (pe_int) (nomark _))
     (pss_one (ps_ret (pe_bm0 PySem.F.plainAttrs_list PySem.F.slot_list_pop PySem.F.type_list_pop mt_pop (pv 0))))
     (pss_nil))
     (pss_one (ps_ret (pe_int))), ?_⟩
  obtain ⟨ds, hp, hg⟩ := id hd
  refine ⟨_, rfl, p, ds.map V.int, rfl, .inl (sqL_of hp), _, _, rfl, rfl, _, rfl, ite2 (fun e => ?_) (fun e => ?_)⟩
  · have hl : 0 < ds.length := by
      have h0 := of_decide_eq_true e
      rw [List.length_map] at h0
      omega
    have hlast : (ds.map V.int)[(ds.map V.int).length - 1]? = some (.int ds[ds.length - 1]) := by
      rw [List.length_map, List.getElem?_map, List.getElem?_eq_getElem (by omega)]
      rfl
    refine ⟨_, rfl, .inl ⟨rfl, _, sqL_of hp⟩, p, ds.map V.int, _, rfl, rfl, hp, hlast, ?_⟩
    have hm : ds[ds.length - 1] ∈ ds := List.getElem_mem _
    refine q _ _ (hg _ hm).1 (hg _ hm).2 ⟨Ke.put hp (fun _ z => nomatch z), ds.dropLast, ?_, fun d h => hg d (List.dropLast_subset _ h)⟩
    rw [upd_same, List.map_dropLast]
  · exact q 0 H (by decide) (by decide) (.refl hd)
theorem tie_ne {a r n : Int} (hn : 2 ≤ n) (a0 : 0 ≤ a) (a1 : a < n) (r0 : 0 ≤ r) (r1 : r < n - 1) : (a + 1 + r) % n ≠ a := by
  intro h
  by_cases c : a + 1 + r < n
  · rw [Int.emod_eq_of_lt (by omega) c] at h
    omega
  · have e : (a + 1 + r) % n = a + 1 + r - n := by
      rw [← Int.sub_emod_right, Int.emod_eq_of_lt (by omega) (by omega)]
    omega
theorem ok__law_tie {P : Program} {w : World} {K : PySem.W.Frag} {mg : Str → Option Value} {base : Heap} {tb : List Addr} {f : Addr} {fd : FuncData} {f__law_next : Addr} {fd__law_next : FuncData} (T : Blt mg) (D__law_tie : DefAt K mg "_law_tie" s_law_tie ["_law_deck_here", "_law_points"] f fd) (D__law_next : DefAt K mg "_law_next" s_law_next ["_law_deck_here"] f__law_next fd__law_next) (G__law_next : FnOk P w K mg base CX0 1 f__law_next fd__law_next ["_law_deck_here"] (sp__law_next K tb)) :
    FnOk P w K mg base CX0 2 f fd ["_law_deck_here", "_law_points"] (sp__law_tie K tb) := by
  refine D__law_tie.ok sc__law_tie (fun vs H Q E h => by
    obtain ⟨p, n, rfl, hd, hn, q⟩ := h
    rfl) fun A outer s H vs Q E hr h => ?_
  obtain ⟨p, n, rfl, hd, hn, q⟩ := h
  refine ⟨_, pss_cons (ps_set (i := 2) sc__law_tie.nd rfl (.inl rfl) (pe_op op_mod (pe_call G__law_next (hr.mono (by decide)) (by rfl) D__law_next.g D__law_next.F.kp D__law_next.b .nil pass0 (pa_cons (pv 0) pa_nil)) (pv 1)))
     (pss_cons (ps_set (i := 3) sc__law_tie.nd rfl (.inl rfl) (pe_op op_mod (pe_op op_add (pe_op op_add (pv 2) (pe_int)) (pe_op op_mod (pe_call G__law_next (hr.mono (by decide)) (by rfl) D__law_next.g D__law_next.F.kp D__law_next.b .nil pass0 (pa_cons (pv 0) pa_nil)) (pe_op op_sub (pv 1) (pe_int)))) (pv 1)))
     (pss_one (ps_ret (pe_tup (pa_cons (pe_callB (call_min2 rfl) (by rfl) T.b_min (by decide +kernel) (pa_cons (pv 2) (pa_cons (pv 3) pa_nil))) (pa_cons (pe_callB (call_max2 rfl) (by rfl) T.b_max (by decide +kernel) (pa_cons (pv 2) (pa_cons (pv 3) pa_nil))) pa_nil)))))), ?_⟩
  refine ⟨_, rfl, p, rfl, hd, fun r1 H1 a0 a1 k1 => ?_⟩
  refine ⟨_, rfl, _, _, rfl, rfl, by omega, ?_⟩
  have b0 : 0 ≤ r1 % n := Int.emod_nonneg _ (by omega)
  have b1 : r1 % n < n := Int.emod_lt_of_pos _ (by omega)
  refine ⟨_, rfl, _, _, rfl, rfl, _, rfl, p, rfl, k1.d, fun r2 H2 c0 c1 k2 => ?_⟩
  refine ⟨_, rfl, _, _, rfl, rfl, _, _, rfl, rfl, by omega, _, _, rfl, rfl, _, rfl, _, _, rfl, rfl, by omega, ?_⟩
  have e0 : 0 ≤ r2 % (n - 1) := Int.emod_nonneg _ (by omega)
  have e1 : r2 % (n - 1) < n - 1 := Int.emod_lt_of_pos _ (by omega)
  have hne := tie_ne hn b0 b1 e0 e1
  have d0 : 0 ≤ (r1 % n + 1 + r2 % (n - 1)) % n := Int.emod_nonneg _ (by omega)
  have d1 : (r1 % n + 1 + r2 % (n - 1)) % n < n := Int.emod_lt_of_pos _ (by omega)
  refine ⟨_, rfl, _, rfl, _, _, rfl, _, rfl, _, rfl, _, _, rfl, by show 2 ≤ sizeLine; decide, fun t ht => ?_⟩
  exact q _ _ t H2 (by split <;> omega) (by split <;> split <;> omega) (by split <;> omega) (k1.trans k2) ht
theorem ok__law_any_web {P : Program} {w : World} {K : PySem.W.Frag} {mg : Str → Option Value} {base : Heap} {tb : List Addr} {f : Addr} {fd : FuncData} {f__law_next : Addr} {fd__law_next : FuncData} {f__law_tie : Addr} {fd__law_tie : FuncData} (T : Blt mg) (D__law_any_web : DefAt K mg "_law_any_web" s_law_any_web ["_law_deck_here", "_law_points", "_law_most"] f fd) (D__law_next : DefAt K mg "_law_next" s_law_next ["_law_deck_here"] f__law_next fd__law_next) (G__law_next : FnOk P w K mg base CX0 1 f__law_next fd__law_next ["_law_deck_here"] (sp__law_next K tb)) (D__law_tie : DefAt K mg "_law_tie" s_law_tie ["_law_deck_here", "_law_points"] f__law_tie fd__law_tie) (G__law_tie : FnOk P w K mg base CX0 2 f__law_tie fd__law_tie ["_law_deck_here", "_law_points"] (sp__law_tie K tb)) :
    FnOk P w K mg base CX0 3 f fd ["_law_deck_here", "_law_points", "_law_most"] (sp__law_any_web K tb) := by
  refine D__law_any_web.ok sc__law_any_web (fun vs H Q E h => by
    obtain ⟨p, n, m, rfl, hd, hn0, hn1, hm0, hm1, q⟩ := h
    rfl) fun A outer s H vs Q E hr h => ?_
  obtain ⟨p, n, m, rfl, hd, hn0, hn1, hm0, hm1, q⟩ := h
  refine ⟨_, pss_cons (ps_set (i := 3) sc__law_any_web.nd rfl (.inl rfl) (pe_lst pa_nil))
     (C8.pss_cut (ps_if (pt_cmpR op_gt (pv 1) (pe_int) (nomark _))
     (pss_one (ps_setLc (i := 3) (own := [("_law_k", 4)]) rfl sc__law_any_web.nd rfl rfl (sw_true rfl rfl rfl (by decide +kernel)) (pi_range1 (by rfl) T.b_range (pa_cons (pe_op op_mod (pe_call G__law_next (hr.mono (by decide)) (by rfl) D__law_next.g D__law_next.F.kp D__law_next.b .nil pass0 (pa_cons (pv 0) pa_nil)) (pe_op op_add (pv 2) (pe_int))) pa_nil)) (blkOk_by (own := [("_law_k", 4)]) (N := nm__law_any_web) (sc := defScope s_law_any_web) (by decide +kernel)) (fun _ _ _ _ _ => pg_name (i := 4) sc__law_any_web.nd rfl (.inl rfl)) (fun _ _ _ _ _ => pts_nil) (fun _ _ _ _ _ => pe_call G__law_tie (hr.mono (by decide)) (by rfl) D__law_tie.g D__law_tie.F.kp D__law_tie.b .nil pass0 (pa_cons (pv 0) (pa_cons (pv 1) pa_nil)))))
     (pss_nil))
     (pss_one (ps_ret (pe_tup (pa_cons (pv 1) (pa_cons (pe_callTy (tupleK (K := K)) (by rfl) T.b_tuple (by decide +kernel) (pa_cons (pv 3) pa_nil)) pa_nil)))))), ?_⟩
  refine ⟨Nat.zero_le _, fun l nl => ?_⟩
  have k0 : Dk p H (upd H l (.lst [])) := (Dk.refl hd).new nl
  refine ⟨fun σ G => ∃ (y : Option V) (l' : Addr) (ts : List (Int × Int)), σ = [some (.ref p), some (.int n), some (.int m), some (.ref l'), y] ∧ Dk p H G ∧ TL G l' ts ∧ (ts.length : Int) ≤ m ∧ TOk n ts ∧ (n = 1 → ts = []), ?_, fun σ G hG => ?_⟩
  · refine ⟨_, rfl, _, _, rfl, rfl, _, rfl, ite2 (fun e => ?_) (fun e => ?_)⟩
    · have hn : 2 ≤ n := by
        have := of_decide_eq_true e
        omega
      refine ⟨_, rfl, p, rfl, k0.d, fun r H1 r0 r1 k1 => ?_⟩
      have e1 := emod_bds r (n := m + 1) (by omega)
      refine ⟨_, rfl, _, _, rfl, rfl, _, _, rfl, rfl, by omega, _, rfl, by omega, by omega, fun D hD => ?_⟩
      have k01 := k0.trans k1
      have nD := k01.k.dom _ hD
      refine lc_range (lo := 0) (n := (r % (m + 1)).toNat) (fun i G => ∃ (rs : List V) (ts : List (Int × Int)), G D = some (.lst rs) ∧ Ties G rs ts ∧ ts.length = i ∧ TOk n ts ∧ Dk p H G) ⟨[], [], upd_same, .nil, rfl, TOk.nil, k01.over hd nD⟩ (fun i G hi hG => ?_) (fun G hG => ?_)
      · obtain ⟨rs, ts, gD, gT, hl, hok, kG⟩ := hG
        refine ⟨rfl, yes_ite ?_⟩
        refine ⟨_, rfl, _, rfl, p, n, rfl, kG.d, hn, fun a b t G1 a0 ab b1 kG1 nt => ?_⟩
        have nDp : D ≠ p := (hd.ne nD).symm
        have gD1 : G1 D = some (.lst rs) := kG1.lst gD nDp
        have gD2 : upd G1 t (.tup [.int a, .int b]) D = some (.lst rs) := by rw [upd_ne (ne_of_none gD1 nt)]; exact gD1
        refine ⟨rs, gD2, ?_, rs ++ [.ref t], ts ++ [(a, b)], upd_same, ((((gT.dk kG1 kG.d).new nt).append (Ties.one upd_same)).put gD2), by rw [List.length_append, hl]; rfl, hok.append (TOk.one a0 ab b1), ((kG.trans kG1).new nt).over hd nD⟩
        rw [gT.length, hl]
        have := line_big
        omega
      · obtain ⟨rs, ts, gD, gT, hl, hok, kG⟩ := hG
        exact ⟨_, D, ts, rfl, kG, ⟨rs, gD, gT⟩, by omega, hok, fun z => absurd z (by omega)⟩
    · exact ⟨_, l, [], rfl, k0, ⟨[], upd_same, .nil⟩, by simpa using hm0, TOk.nil, fun _ => rfl⟩
  · obtain ⟨y, l', ts, rfl, kG, ⟨rs, gl, gT⟩, hlen, hok, h1⟩ := hG
    refine ⟨_, rfl, _, rfl, l', _, rfl, .inl ⟨sqL_of gl, fun u nu => ?_⟩⟩
    refine ⟨by show 2 ≤ sizeLine; decide, fun t nt => ?_⟩
    refine q _ _ ts ((kG.new nu).new nt) ⟨t, u, rs, rfl, upd_same, ?_, (gT.new nu).new nt⟩ hlen hok h1
    rw [upd_ne (upd_none nt).1.symm, upd_same]
theorem ok__law_round {P : Program} {w : World} {K : PySem.W.Frag} {mg : Str → Option Value} {base : Heap} {tb : List Addr} {f : Addr} {fd : FuncData} (T : Blt mg) (D__law_round : DefAt K mg "_law_round" s_law_round ["_law_points"] f fd) :
    FnOk P w K mg base CX0 1 f fd ["_law_points"] (sp__law_round K tb) := by
  refine D__law_round.ok sc__law_round (fun vs H Q E h => by
    obtain ⟨n, rfl, hn0, hn1, q⟩ := h
    rfl) fun A outer s H vs Q E hr h => ?_
  obtain ⟨n, rfl, hn0, hn1, q⟩ := h
  refine ⟨_, pss_one (ps_ret (pe_op op_cat (pe_lc (own := [("_law_k", 1)]) rfl sc__law_round.nd (pi_range1 (by rfl) T.b_range (pa_cons (pe_op op_sub (pv 0) (pe_int)) pa_nil)) (blkOk_by (own := [("_law_k", 1)]) (N := nm__law_round) (sc := defScope s_law_round) (by decide +kernel)) (fun _ _ _ _ _ => pg_name (i := 1) sc__law_round.nd rfl (.inl rfl)) (fun _ _ _ _ _ => pts_nil) (fun _ _ _ _ _ => pe_tup (pa_cons (pv 1) (pa_cons (pe_op op_add (pv 1) (pe_int)) pa_nil)))) (pe_op op_rep (pe_lst (pa_cons (pe_tup (pa_cons (pe_int) (pa_cons (pe_op op_sub (pv 0) (pe_int)) pa_nil))) pa_nil)) (pe_callTy call_int1 (by rfl) T.b_int (by decide +kernel) (pa_cons (pe_cmpR op_gt (pv 0) (pe_int) (nomark _)) pa_nil))))), ?_⟩
  refine ⟨_, rfl, _, _, rfl, rfl, _, rfl, by omega, by omega, fun D hD => ?_⟩
  refine lc_range (lo := 0) (n := (n - 1).toNat) (fun i G => ∃ (rs : List V) (ts : List (Int × Int)), G D = some (.lst rs) ∧ Ties G rs ts ∧ ts.length = i ∧ TOk n ts ∧ Ke H G) ⟨[], [], upd_same, .nil, rfl, TOk.nil, Ke.new hD⟩ (fun i G hi hG => ?_) (fun G hG => ?_)
  · obtain ⟨rs, ts, gD, gT, hl, hok, kG⟩ := hG
    refine ⟨rfl, yes_ite ?_⟩
    refine ⟨_, rfl, _, rfl, _, _, rfl, rfl, by show 2 ≤ sizeLine; decide, fun t nt => ?_⟩
    have gD2 : upd G t (.tup [.int (0 + (i : Int)), .int (0 + (i : Int) + 1)]) D = some (.lst rs) := by rw [upd_ne (ne_of_none gD nt)]; exact gD
    refine ⟨rs, gD2, ?_, rs ++ [.ref t], ts ++ [(0 + (i : Int), 0 + (i : Int) + 1)], upd_same, (((gT.new nt).append (Ties.one upd_same)).put gD2), by rw [List.length_append, hl]; rfl, hok.append (TOk.one (by omega) (by omega) (by omega)), (kG.trans (Ke.new nt)).over hD⟩
    rw [gT.length, hl]
    have := line_big
    omega
  · obtain ⟨rs, ts, gD, gT, hl, hok, kG⟩ := hG
    refine ⟨_, rfl, _, _, rfl, rfl, by show 2 ≤ sizeLine; decide, fun t nt => ⟨by show 1 ≤ sizeLine; decide, fun z nz => ?_⟩⟩
    refine ⟨_, rfl, _, _, rfl, rfl, .inr ⟨_, rfl, ?_⟩⟩
    refine ⟨z, _, _, rfl, rfl, upd_same, by split <;> decide, by split <;> decide, by split <;> (show 1 * _ ≤ sizeLine; decide), fun r nr => ?_⟩
    have k1 : Ke G _ := ((Ke.new (S := fun _ => False) (o := .tup [.int 0, .int (n - 1)]) nt).trans (Ke.new (o := .lst [.ref t]) nz)).trans (Ke.new (o := .lst (List.replicate (Int.toNat (if decide (n > 2) = true then 1 else 0)) [V.ref t]).flatten) nr)
    have ht : upd (upd (upd G t (.tup [.int 0, .int (n - 1)])) z (.lst [.ref t])) r (.lst (List.replicate (Int.toNat (if decide (n > 2) = true then 1 else 0)) [V.ref t]).flatten) t = some (.tup [.int 0, .int (n - 1)]) := by
      rw [upd_ne, upd_ne (upd_none nz).1.symm, upd_same]
      exact fun e => by
        rw [← e, upd_ne (upd_none nz).1.symm, upd_same] at nr
        cases nr
    obtain ⟨us, hus, hul, huo⟩ : ∃ us : List (Int × Int), Ties (upd (upd (upd G t (.tup [.int 0, .int (n - 1)])) z (.lst [.ref t])) r (.lst (List.replicate (Int.toNat (if decide (n > 2) = true then 1 else 0)) [V.ref t]).flatten)) (List.replicate (Int.toNat (if decide (n > 2) = true then 1 else 0)) [V.ref t]).flatten us ∧ us.length ≤ 1 ∧ TOk n us := by
      by_cases h2 : n > 2
      · refine ⟨[(0, n - 1)], ?_, Nat.le_refl _, TOk.one (by decide) (by omega) (by omega)⟩
        have e : (List.replicate (Int.toNat (if decide (n > 2) = true then 1 else 0)) [V.ref t]).flatten = [V.ref t] := by rw [decide_eq_true h2]; rfl
        rw [e] at ht ⊢
        exact Ties.one ht
      · refine ⟨[], ?_, by decide, TOk.nil⟩
        have e : (List.replicate (Int.toNat (if decide (n > 2) = true then 1 else 0)) [V.ref t]).flatten = [] := by rw [decide_eq_false h2]; rfl
        rw [e]
        exact .nil
    have gT1 := gT.ke k1
    have gD1 := k1.lst gD
    have hr : upd (upd (upd G t (.tup [.int 0, .int (n - 1)])) z (.lst [.ref t])) r (.lst (List.replicate (Int.toNat (if decide (n > 2) = true then 1 else 0)) [V.ref t]).flatten) r = some (.lst (List.replicate (Int.toNat (if decide (n > 2) = true then 1 else 0)) [V.ref t]).flatten) := upd_same
    have kH := kG.trans k1
    generalize upd (upd (upd G t (.tup [.int 0, .int (n - 1)])) z (.lst [.ref t])) r (.lst (List.replicate (Int.toNat (if decide (n > 2) = true then 1 else 0)) [V.ref t]).flatten) = Hz at *
    refine ⟨D, r, _, _, rfl, rfl, gD1, hr, ?_, fun l nl => ?_⟩
    · rw [gT1.length, hus.length, hl]
      have := line_big
      omega
    · refine q _ l (ts ++ us) (kH.trans (Ke.new nl)) (kH.dom _ nl) ⟨_, upd_same, (gT1.append hus).new nl⟩ ?_ (hok.append huo)
      rw [List.length_append]
      omega
theorem ok__law_full {P : Program} {w : World} {K : PySem.W.Frag} {mg : Str → Option Value} {base : Heap} {tb : List Addr} {f : Addr} {fd : FuncData} (T : Blt mg) (D__law_full : DefAt K mg "_law_full" s_law_full ["_law_points"] f fd) :
    FnOk P w K mg base CX0 1 f fd ["_law_points"] (sp__law_full K tb) := by
  refine D__law_full.ok sc__law_full (fun vs H Q E h => by
    obtain ⟨n, rfl, hn0, hn1, q⟩ := h
    rfl) fun A outer s H vs Q E hr h => ?_
  obtain ⟨n, rfl, hn0, hn1, q⟩ := h
  refine ⟨_, pss_cons (ps_set (i := 1) sc__law_full.nd rfl (.inl rfl) (pe_lst pa_nil))
     (pss_cons (ps_for PassesOwn.never rfl (pi_range1 (by rfl) T.b_range (pa_cons (pv 0) pa_nil)) (pg_name (i := 2) sc__law_full.nd rfl (.inr rfl))
     (pss_one (ps_set (i := 1) sc__law_full.nd rfl (.inl rfl) (pe_op op_cat (pv 1) (pe_lc (own := [("_law_a", 3)]) rfl sc__law_full.nd (pi_range1 (by rfl) T.b_range (pa_cons (pv 2) pa_nil)) (blkOk_by (own := [("_law_a", 3)]) (N := nm__law_full) (sc := defScope s_law_full) (by decide +kernel)) (fun _ _ _ _ _ => pg_name (i := 3) sc__law_full.nd rfl (.inl rfl)) (fun _ _ _ _ _ => pts_nil) (fun _ _ _ _ _ => pe_tup (pa_cons (pv 3) (pa_cons (pv 2) pa_nil))))))))
     (pss_one (ps_ret (pv 1)))), ?_⟩
  refine ⟨Nat.zero_le _, fun l0 nl0 => ?_⟩
  refine ⟨_, rfl, n, rfl, by omega, by omega, ?_⟩
  refine for_range (n := n.toNat) (fun i σ G => ∃ (y2 y3 : Option V) (l : Addr) (ts : List (Int × Int)), σ = [some (.int n), some (.ref l), y2, y3] ∧ Ke H G ∧ H l = none ∧ TL G l ts ∧ ts.length ≤ 100 * i ∧ TOk n ts)
    ⟨none, none, l0, [], rfl, Ke.new nl0, nl0, ⟨[], upd_same, .nil⟩, Nat.zero_le _, TOk.nil⟩ (fun i σ G hi hG => ?_) (fun σ G hG => ?_)
  · obtain ⟨y2, y3, l, ts, rfl, kG, nl, ⟨rs, gl, gT⟩, hlen, hok⟩ := hG
    refine ⟨_, rfl, _, rfl, _, rfl, by omega, by omega, fun D hD => ?_⟩
    have nHD := kG.dom _ hD
    refine lc_range (lo := 0) (n := (0 + (i : Int)).toNat) (fun j G' => ∃ (qs : List V) (us : List (Int × Int)), G' D = some (.lst qs) ∧ Ties G' qs us ∧ us.length = j ∧ TOk n us ∧ Ke G G') ⟨[], [], upd_same, .nil, rfl, TOk.nil, Ke.new hD⟩ (fun j G' hj hG' => ?_) (fun G' hG' => ?_)
    · obtain ⟨qs, us, gD, gU, hul, huo, kU⟩ := hG'
      refine ⟨rfl, yes_ite ?_⟩
      refine ⟨_, rfl, _, rfl, by show 2 ≤ sizeLine; decide, fun t nt => ?_⟩
      have gD2 : upd G' t (.tup [.int (0 + (j : Int)), .int (0 + (i : Int))]) D = some (.lst qs) := by rw [upd_ne (ne_of_none gD nt)]; exact gD
      refine ⟨qs, gD2, ?_, qs ++ [.ref t], us ++ [(0 + (j : Int), 0 + (i : Int))], upd_same, (((gU.new nt).append (Ties.one upd_same)).put gD2), by rw [List.length_append, hul]; rfl, huo.append (TOk.one (by omega) (by omega) (by omega)), (kU.trans (Ke.new nt)).over hD⟩
      rw [gU.length, hul]
      have := line_big
      omega
    · obtain ⟨qs, us, gD, gU, hul, huo, kU⟩ := hG'
      refine ⟨l, D, _, _, rfl, rfl, kU.lst gl, gD, ?_, fun l2 nl2 => ?_⟩
      · rw [gT.length, gU.length, hul]
        have := line_big
        omega
      · refine ⟨_, _, l2, ts ++ us, rfl, (kG.trans kU).trans (Ke.new nl2), (kG.trans kU).dom _ nl2, ⟨_, upd_same, ((gT.ke kU).append gU).new nl2⟩, ?_, hok.append huo⟩
        rw [List.length_append]
        omega
  · obtain ⟨y2, y3, l, ts, rfl, kG, nl, ht, hlen, hok⟩ := hG
    exact ⟨_, rfl, q _ l ts kG nl ht (by omega) hok⟩
theorem ok__law_tree {P : Program} {w : World} {K : PySem.W.Frag} {mg : Str → Option Value} {base : Heap} {tb : List Addr} {f : Addr} {fd : FuncData} {f__law_next : Addr} {fd__law_next : FuncData} (T : Blt mg) (D__law_tree : DefAt K mg "_law_tree" s_law_tree ["_law_deck_here", "_law_points"] f fd) (D__law_next : DefAt K mg "_law_next" s_law_next ["_law_deck_here"] f__law_next fd__law_next) (G__law_next : FnOk P w K mg base CX0 1 f__law_next fd__law_next ["_law_deck_here"] (sp__law_next K tb)) :
    FnOk P w K mg base CX0 2 f fd ["_law_deck_here", "_law_points"] (sp__law_tree K tb) := by
  refine D__law_tree.ok sc__law_tree (fun vs H Q E h => by
    obtain ⟨p, n, rfl, hd, hn0, hn1, q⟩ := h
    rfl) fun A outer s H vs Q E hr h => ?_
  obtain ⟨p, n, rfl, hd, hn0, hn1, q⟩ := h
  refine ⟨_, pss_one (ps_ret (pe_lc (own := [("_law_k", 2)]) rfl sc__law_tree.nd (pi_range2 (by rfl) T.b_range (pa_cons (pe_int) (pa_cons (pv 1) pa_nil))) (blkOk_by (own := [("_law_k", 2)]) (N := nm__law_tree) (sc := defScope s_law_tree) (by decide +kernel)) (fun _ _ _ _ _ => pg_name (i := 2) sc__law_tree.nd rfl (.inl rfl)) (fun _ _ _ _ _ => pts_nil) (fun _ _ _ _ _ => pe_tup (pa_cons (pe_op op_mod (pe_call G__law_next (hr.mono (by decide)) (by rfl) D__law_next.g D__law_next.F.kp D__law_next.b .nil pass0 (pa_cons (pv 0) pa_nil)) (pv 2)) (pa_cons (pv 2) pa_nil))))), ?_⟩
  refine ⟨_, rfl, 1, n, rfl, ⟨by omega, by omega, by omega, by omega⟩, fun D hD => ?_⟩
  refine lc_range (lo := 1) (n := (n - 1).toNat) (fun i G => ∃ (rs : List V) (ts : List (Int × Int)), G D = some (.lst rs) ∧ Ties G rs ts ∧ ts.length = i ∧ TOk n ts ∧ Dk p H G) ⟨[], [], upd_same, .nil, rfl, TOk.nil, (Dk.refl hd).new hD⟩ (fun i G hi hG => ?_) (fun G hG => ?_)
  · obtain ⟨rs, ts, gD, gT, hl, hok, kG⟩ := hG
    refine ⟨rfl, yes_ite ?_⟩
    refine ⟨_, rfl, p, rfl, kG.d, fun r G1 r0 r1 kG1 => ?_⟩
    have e1 := emod_bds r (n := 1 + (i : Int)) (by omega)
    refine ⟨_, rfl, _, _, rfl, rfl, by omega, _, rfl, by show 2 ≤ sizeLine; decide, fun t nt => ?_⟩
    have nDp : D ≠ p := (hd.ne hD).symm
    have gD1 : G1 D = some (.lst rs) := kG1.lst gD nDp
    have gD2 : upd G1 t (.tup [.int (r % (1 + (i : Int))), .int (1 + (i : Int))]) D = some (.lst rs) := by rw [upd_ne (ne_of_none gD1 nt)]; exact gD1
    refine ⟨rs, gD2, ?_, rs ++ [.ref t], ts ++ [(r % (1 + (i : Int)), 1 + (i : Int))], upd_same, ((((gT.dk kG1 kG.d).new nt).append (Ties.one upd_same)).put gD2), by rw [List.length_append, hl]; rfl, hok.append (TOk.one e1.1 e1.2 (by omega)), ((kG.trans kG1).new nt).over hd hD⟩
    rw [gT.length, hl]
    have := line_big
    omega
  · obtain ⟨rs, ts, gD, gT, hl, hok, kG⟩ := hG
    exact q _ D ts kG hD ⟨rs, gD, gT⟩ (by omega) hok
theorem ok__law_web {P : Program} {w : World} {K : PySem.W.Frag} {mg : Str → Option Value} {base : Heap} {tb : List Addr} {f : Addr} {fd : FuncData} {f__law_next : Addr} {fd__law_next : FuncData} {f__law_any_web : Addr} {fd__law_any_web : FuncData} {f__law_round : Addr} {fd__law_round : FuncData} {f__law_full : Addr} {fd__law_full : FuncData} {f__law_tree : Addr} {fd__law_tree : FuncData} (T : Blt mg) (D__law_web : DefAt K mg "_law_web" s_law_web ["_law_deck_here", "_law_points", "_law_most"] f fd) (D__law_next : DefAt K mg "_law_next" s_law_next ["_law_deck_here"] f__law_next fd__law_next) (G__law_next : FnOk P w K mg base CX0 1 f__law_next fd__law_next ["_law_deck_here"] (sp__law_next K tb)) (D__law_any_web : DefAt K mg "_law_any_web" s_law_any_web ["_law_deck_here", "_law_points", "_law_most"] f__law_any_web fd__law_any_web) (G__law_any_web : FnOk P w K mg base CX0 3 f__law_any_web fd__law_any_web ["_law_deck_here", "_law_points", "_law_most"] (sp__law_any_web K tb)) (D__law_round : DefAt K mg "_law_round" s_law_round ["_law_points"] f__law_round fd__law_round) (G__law_round : FnOk P w K mg base CX0 1 f__law_round fd__law_round ["_law_points"] (sp__law_round K tb)) (D__law_full : DefAt K mg "_law_full" s_law_full ["_law_points"] f__law_full fd__law_full) (G__law_full : FnOk P w K mg base CX0 1 f__law_full fd__law_full ["_law_points"] (sp__law_full K tb)) (D__law_tree : DefAt K mg "_law_tree" s_law_tree ["_law_deck_here", "_law_points"] f__law_tree fd__law_tree) (G__law_tree : FnOk P w K mg base CX0 2 f__law_tree fd__law_tree ["_law_deck_here", "_law_points"] (sp__law_tree K tb)) :
    FnOk P w K mg base CX0 4 f fd ["_law_deck_here", "_law_points", "_law_most"] (sp__law_web K tb) := by
  refine D__law_web.ok sc__law_web (fun vs H Q E h => by
    obtain ⟨p, M, m, rfl, hd, hM0, hM1, hm0, hm1, q⟩ := h
    rfl) fun A outer s H vs Q E hr h => ?_
  obtain ⟨p, M, m, rfl, hd, hM0, hM1, hm0, hm1, q⟩ := h
  refine ⟨_, pss_cons (ps_set (i := 3) sc__law_web.nd rfl (.inl rfl) (pe_op op_mod (pe_call G__law_next (hr.mono (by decide)) (by rfl) D__law_next.g D__law_next.F.kp D__law_next.b .nil pass0 (pa_cons (pv 0) pa_nil)) (pe_int)))
     (pss_cons (ps_set (i := 4) sc__law_web.nd rfl (.inl rfl) (pe_op op_add (pe_int) (pe_op op_mod (pe_call G__law_next (hr.mono (by decide)) (by rfl) D__law_next.g D__law_next.F.kp D__law_next.b .nil pass0 (pa_cons (pv 0) pa_nil)) (pv 1))))
     (pss_cons (ps_if (PW.pt (pw_or (pt_cmpR op_lt (pv 3) (pe_int) (nomark _)) (pw_or1 (pt_cmpR op_eq (pv 4) (pe_int) (nomark _)))))
     (pss_one (ps_ret (pe_call G__law_any_web (hr.mono (by decide)) (by rfl) D__law_any_web.g D__law_any_web.F.kp D__law_any_web.b .nil pass0 (pa_cons (pv 0) (pa_cons (pv 4) (pa_cons (pv 2) pa_nil))))))
     (pss_nil))
     (pss_cons (ps_set (i := 5) sc__law_web.nd rfl (.inl rfl) (pe_callTy (listK (K := K)) (by rfl) T.b_list (by decide +kernel) (pa_cons (pe_ix (ix_tupK (K := K)) (pe_call G__law_any_web (hr.mono (by decide)) (by rfl) D__law_any_web.g D__law_any_web.F.kp D__law_any_web.b .nil pass0 (pa_cons (pv 0) (pa_cons (pv 4) (pa_cons (pe_int) pa_nil)))) (pe_int) (fun _ _ => rfl)) pa_nil)))
     (C8.pss_cut (ps_if (pt_cmpR op_eq (pv 3) (pe_int) (nomark _))
     (pss_one (ps_set (i := 6) sc__law_web.nd rfl (.inl rfl) (pe_op op_cat (pe_call G__law_round (hr.mono (by decide)) (by rfl) D__law_round.g D__law_round.F.kp D__law_round.b .nil pass0 (pa_cons (pv 4) pa_nil)) (pv 5))))
     (pss_one (ps_if (pt_cmpR op_eq (pv 3) (pe_int) (nomark _))
     (pss_one (ps_set (i := 6) sc__law_web.nd rfl (.inl rfl) (pe_op op_cat (pe_call G__law_full (hr.mono (by decide)) (by rfl) D__law_full.g D__law_full.F.kp D__law_full.b .nil pass0 (pa_cons (pe_callB (call_min2 rfl) (by rfl) T.b_min (by decide +kernel) (pa_cons (pv 4) (pa_cons (pe_int) pa_nil))) pa_nil)) (pv 5))))
     (pss_one (ps_if (pt_cmpR op_eq (pv 3) (pe_int) (nomark _))
     (pss_one (ps_set (i := 6) sc__law_web.nd rfl (.inl rfl) (pe_op op_cat (pe_call G__law_tree (hr.mono (by decide)) (by rfl) D__law_tree.g D__law_tree.F.kp D__law_tree.b .nil pass0 (pa_cons (pv 0) (pa_cons (pv 4) pa_nil))) (pv 5))))
     (pss_one (ps_if (pt_cmpR op_eq (pv 3) (pe_int) (nomark _))
     (pss_one (ps_set (i := 6) sc__law_web.nd rfl (.inl rfl) (pe_op op_cat (pe_op op_rep (pe_lst (pa_cons (pe_tup (pa_cons (pe_int) (pa_cons (pe_int) pa_nil))) pa_nil)) (pe_op op_mod (pe_call G__law_next (hr.mono (by decide)) (by rfl) D__law_next.g D__law_next.F.kp D__law_next.b .nil pass0 (pa_cons (pv 0) pa_nil)) (pe_op op_add (pv 2) (pe_int)))) (pv 5))))
     (pss_one (ps_set (i := 6) sc__law_web.nd rfl (.inl rfl) (pe_op op_cat (pe_op op_cat (pe_call G__law_tree (hr.mono (by decide)) (by rfl) D__law_tree.g D__law_tree.F.kp D__law_tree.b .nil pass0 (pa_cons (pv 0) (pa_cons (pv 4) pa_nil))) (pe_call G__law_tree (hr.mono (by decide)) (by rfl) D__law_tree.g D__law_tree.F.kp D__law_tree.b .nil pass0 (pa_cons (pv 0) (pa_cons (pv 4) pa_nil)))) (pe_slice (sl_listK (K := K)) (pv 5) po_none (po_some (pe_op op_mod (pe_call G__law_next (hr.mono (by decide)) (by rfl) D__law_next.g D__law_next.F.kp D__law_next.b .nil pass0 (pa_cons (pv 0) pa_nil)) (pe_int))))))))))))))
     (pss_cons (ps_set (i := 7) sc__law_web.nd rfl (.inl rfl) (pe_op op_mod (pe_call G__law_next (hr.mono (by decide)) (by rfl) D__law_next.g D__law_next.F.kp D__law_next.b .nil pass0 (pa_cons (pv 0) pa_nil)) (pe_callB (call_max2 rfl) (by rfl) T.b_max (by decide +kernel) (pa_cons (pe_int) (pa_cons (pe_callB (lenK (K := K)) (by rfl) T.b_len PySem.boot_len (pa_cons (pv 6) pa_nil)) pa_nil)))))
     (pss_one (ps_ret (pe_tup (pa_cons (pv 4) (pa_cons (pe_callTy (tupleK (K := K)) (by rfl) T.b_tuple (by decide +kernel) (pa_cons (pe_slice (sl_listK (K := K)) (pe_op op_cat (pe_slice (sl_listK (K := K)) (pv 6) (po_some (pv 7)) po_none) (pe_slice (sl_listK (K := K)) (pv 6) po_none (po_some (pv 7)))) po_none (po_some (pv 2))) pa_nil)) pa_nil)))))))))), ?_⟩
  refine ⟨_, rfl, p, rfl, hd, fun r1 H1 a0 a1 k1 => ⟨_, _, rfl, rfl, (by show (0 : Int) < 8; decide), ?_⟩⟩
  refine ⟨_, rfl, p, rfl, k1.d, fun r2 H2 b0 b1 k2 => ⟨_, rfl, _, _, rfl, rfl, by omega, _, _, rfl, rfl, ?_⟩⟩
  have e1 := emod_bds r1 (n := 8) (by decide)
  have e2 := emod_bds r2 (n := M) (by omega)
  have k12 := k1.trans k2
  have hs0 : 1 ≤ 1 + r2 % M := by omega
  have hs1 : 1 + r2 % M ≤ M := by omega
  -- the first way out
  have way1 : ∀ Q' : V → Hp → Prop, (∀ (H' : Hp) (v : V) (ts : List (Int × Int)), Dk p H2 H' → Web H' v (1 + r2 % M) ts → (ts.length : Int) ≤ m → TOk (1 + r2 % M) ts → Q' v H') → sp__law_any_web K tb [.ref p, .int (1 + r2 % M), .int m] H2 Q' E0 := fun Q' h' =>
    ⟨p, _, m, rfl, k12.d, hs0, by omega, hm0, hm1, fun H' v ts kk W l o _ => h' H' v ts kk W l o⟩
  have out1 : sp__law_any_web K tb [.ref p, .int (1 + r2 % M), .int m] H2 Q E0 := way1 Q fun H' v ts kk W l o => q H' v _ ts (k12.trans kk) W hs0 hs1 l o
  refine ⟨_, rfl, _, _, rfl, rfl, _, rfl, ite2 (fun c1 => ?_) (fun c1 => ?_)⟩
  · exact iteT ⟨_, rfl, _, rfl, _, rfl, out1⟩
  refine ⟨_, rfl, rfl, _, rfl, ite2 (fun c2 => ?_) (fun c2 => ?_)⟩
  · exact ⟨_, rfl, _, rfl, _, rfl, out1⟩
  have hs2 : 2 ≤ 1 + r2 % M := by
    have := ne_one c2
    omega
  clear way1 out1 c1 c2
  -- some ties more
  refine ⟨_, rfl, _, rfl, p, _, 4, rfl, k12.d, hs0, by omega, by decide, by decide, fun H3 v ms k3 W3 hml hmo _ => ?_⟩
  obtain ⟨t3, u3, rs3, rfl, ht3, hu3, hT3⟩ := W3
  refine ⟨t3, _, 1, _, rfl, rfl, sqT_of ht3, atI_nat (j := 1) rfl, u3, _, rfl, .inr (sqT_of hu3), fun lm nlm => ?_⟩
  have k4 : Dk p H (upd H3 lm (.lst rs3)) := (k12.trans k3).new nlm
  have hlm : (upd H3 lm (.lst rs3)) lm = some (.lst rs3) := upd_same
  have hTm : Ties (upd H3 lm (.lst rs3)) rs3 ms := hT3.new nlm
  have nHlm : H lm = none := (k12.trans k3).k.dom _ nlm
  have nlmp : lm ≠ p := (hd.ne nHlm).symm
  generalize upd H3 lm (.lst rs3) = H4 at *
  clear nlm hu3 ht3 hT3
  have LB := line_big
  have hrs3 : rs3.length = ms.length := hTm.length
  refine ⟨fun σ G => ∃ (l : Addr) (ts : List (Int × Int)), σ = [some (.ref p), some (.int M), some (.int m), some (.int (r1 % 8)), some (.int (1 + r2 % M)), some (.ref lm), some (.ref l), none] ∧ Dk p H G ∧ H l = none ∧ TL G l ts ∧ TOk (1 + r2 % M) ts ∧ ts.length ≤ 20000, ?_, fun σ G hG => ?_⟩
  · -- the ways
    refine ⟨_, rfl, rfl, _, rfl, ite2 (fun _ => ?_) (fun _ => ?_)⟩
    · refine ⟨_, rfl, _, rfl, hs2, by omega, fun H5 l1 us k5 nl1 hTL hul huo => ?_⟩
      obtain ⟨qs, hl1, hU⟩ := hTL
      have nHl1 := k4.k.dom _ nl1
      refine ⟨_, rfl, l1, lm, _, _, rfl, rfl, hl1, k5.lst hlm, by rw [hU.length, hrs3]; omega, fun o no => ?_⟩
      exact ⟨o, us ++ ms, rfl, (k4.ke k5).new no, (k4.ke k5).k.dom _ no, ⟨_, upd_same, (hU.append (hTm.ke k5)).new no⟩, huo.append hmo, by rw [List.length_append]; omega⟩
    refine ⟨_, rfl, rfl, _, rfl, ite2 (fun _ => ?_) (fun _ => ?_)⟩
    · refine ⟨_, rfl, _, _, rfl, _, rfl, by split <;> omega, by split <;> omega, fun H5 l1 us k5 nl1 hTL hul huo => ?_⟩
      obtain ⟨qs, hl1, hU⟩ := hTL
      refine ⟨_, rfl, l1, lm, _, _, rfl, rfl, hl1, k5.lst hlm, by rw [hU.length, hrs3]; omega, fun o no => ?_⟩
      exact ⟨o, us ++ ms, rfl, (k4.ke k5).new no, (k4.ke k5).k.dom _ no, ⟨_, upd_same, (hU.append (hTm.ke k5)).new no⟩, (huo.mono (by split <;> omega)).append hmo, by rw [List.length_append]; omega⟩
    refine ⟨_, rfl, rfl, _, rfl, ite2 (fun _ => ?_) (fun _ => ?_)⟩
    · refine ⟨_, rfl, _, rfl, p, _, rfl, k4.d, hs0, by omega, fun H5 l1 us k5 nl1 hTL hul huo => ?_⟩
      obtain ⟨qs, hl1, hU⟩ := hTL
      have hTm5 := hTm.dk k5 k4.d
      refine ⟨_, rfl, l1, lm, _, _, rfl, rfl, hl1, k5.lst hlm nlmp, by rw [hU.length, hrs3]; omega, fun o no => ?_⟩
      exact ⟨o, us ++ ms, rfl, (k4.trans k5).new no, (k4.trans k5).k.dom _ no, ⟨_, upd_same, (hU.append hTm5).new no⟩, huo.append hmo, by rw [List.length_append]; omega⟩
    refine ⟨_, rfl, rfl, _, rfl, ite2 (fun _ => ?_) (fun _ => ?_)⟩
    · refine ⟨by show 2 ≤ sizeLine; decide, fun t nt => ⟨by show 1 ≤ sizeLine; decide, fun z nz => ?_⟩⟩
      have k5 : Dk p H4 (upd (upd H4 t (.tup [.int 0, .int 1])) z (.lst [.ref t])) := ((Dk.refl k4.d).new nt).new nz
      have nHz : H z = none := (k4.k.trans (Ke.new nt)).dom _ nz
      have hz5 : (upd (upd H4 t (.tup [.int 0, .int 1])) z (.lst [.ref t])) z = some (.lst [.ref t]) := upd_same
      have ht5 : (upd (upd H4 t (.tup [.int 0, .int 1])) z (.lst [.ref t])) t = some (.tup [.int 0, .int 1]) := by rw [upd_ne (upd_none nz).1.symm, upd_same]
      generalize upd (upd H4 t (.tup [.int 0, .int 1])) z (.lst [.ref t]) = H5 at *
      refine ⟨_, rfl, p, rfl, k5.d, fun r5 H6 c0 c1 k6 => ?_⟩
      have e5 := emod_bds r5 (n := m + 1) (by omega)
      have k56 := k5.trans k6
      refine ⟨_, rfl, _, _, rfl, rfl, _, _, rfl, rfl, by omega, z, _, _, rfl, rfl, k6.lst hz5 (hd.ne nHz).symm, by omega, by omega, by show 1 * _ ≤ sizeLine; omega, fun y ny => ?_⟩
      have hT7 := (hTm.dk k56 k4.d).new (o := .lst (List.replicate (r5 % (m + 1)).toNat [V.ref t]).flatten) ny
      have hR := (Ties.rep (k6.tup k5.d ht5) (r5 % (m + 1)).toNat).new (o := .lst (List.replicate (r5 % (m + 1)).toNat [V.ref t]).flatten) ny
      have hlm7 : upd H6 y (.lst (List.replicate (r5 % (m + 1)).toNat [V.ref t]).flatten) lm = some (.lst rs3) := lst_new ny (k56.lst hlm nlmp)
      have hrl := hR.length
      rw [List.length_replicate] at hrl
      refine ⟨_, rfl, y, lm, _, _, rfl, rfl, upd_same, hlm7, by rw [hrl, hrs3]; omega, fun o no => ?_⟩
      exact ⟨o, List.replicate (r5 % (m + 1)).toNat (0, 1) ++ ms, rfl, ((k4.trans k56).new ny).new no, ((k4.trans k56).new (o := .lst (List.replicate (r5 % (m + 1)).toNat [V.ref t]).flatten) ny).k.dom _ no, ⟨_, upd_same, (hR.append hT7).new no⟩, (TOk.rep (by decide) (by decide) (by omega) _).append hmo, by rw [List.length_append, List.length_replicate]; omega⟩
    · refine ⟨_, rfl, _, rfl, p, _, rfl, k4.d, hs0, by omega, fun H5 l1 us k5 nl1 hTL hul huo => ?_⟩
      obtain ⟨qs, hl1, hU⟩ := hTL
      have nHl1 := k4.k.dom _ nl1
      refine ⟨_, rfl, _, rfl, p, _, rfl, k5.d, hs0, by omega, fun H6 l2 ws k6 nl2 hTL2 hwl hwo => ?_⟩
      obtain ⟨xs2, hl2, hW⟩ := hTL2
      refine ⟨l1, l2, _, _, rfl, rfl, k6.lst hl1 (hd.ne nHl1).symm, hl2, by rw [hU.length, hW.length]; omega, fun o no => ?_⟩
      have k7 := k6.new (o := .lst (qs ++ xs2)) no
      have hUW := ((hU.dk k6 k5.d).append hW).new (o := .lst (qs ++ xs2)) no
      have nHo := ((k4.trans k5).trans k6).k.dom _ no
      have ho : upd H6 o (.lst (qs ++ xs2)) o = some (.lst (qs ++ xs2)) := upd_same
      generalize upd H6 o (.lst (qs ++ xs2)) = H7 at *
      have k57 := k5.trans k7
      refine ⟨_, rfl, _, rfl, p, rfl, k57.d, fun r8 H8 c0 c1 k8 => ?_⟩
      have e8 := emod_bds r8 (n := 2) (by decide)
      refine ⟨_, _, rfl, rfl, (by show (0 : Int) < 2; decide), _, rfl, lm, _, rfl, sqL_of ((k57.trans k8).lst hlm nlmp), fun x nx => ?_⟩
      rw [cut_to' _ e8.1]
      have hTx := ((hTm.dk (k57.trans k8) k4.d).take (r8 % 2).toNat).new (o := .lst (rs3.take (r8 % 2).toNat)) nx
      have hUx := (hUW.dk k8 k57.d).new (o := .lst (rs3.take (r8 % 2).toNat)) nx
      have hox := lst_new (o := .lst (rs3.take (r8 % 2).toNat)) nx (k8.lst ho (hd.ne nHo).symm)
      have hlx := hTx.length
      rw [List.length_take, List.length_take] at hlx
      have hly := hUx.length
      rw [List.length_append, List.length_append] at hly
      refine ⟨o, x, _, _, rfl, rfl, hox, upd_same, by rw [List.length_append, List.length_take]; omega, fun y ny => ?_⟩
      have kz := (k4.trans (k57.trans k8)).new (o := .lst (rs3.take (r8 % 2).toNat)) nx
      refine ⟨y, (us ++ ws) ++ ms.take (r8 % 2).toNat, rfl, kz.new ny, kz.k.dom _ ny, ⟨_, upd_same, (hUx.append hTx).new ny⟩, (huo.append hwo).append (hmo.sub fun t ht => List.mem_of_mem_take ht), ?_⟩
      rw [List.length_append, List.length_append, List.length_take]
      omega
  · -- turned, and cut
    obtain ⟨l, ts, rfl, kG, nl, ⟨qs, hl, hT⟩, hok, hlen⟩ := hG
    have hql : qs.length = ts.length := hT.length
    refine ⟨_, rfl, p, rfl, kG.d, fun r9 H9 c0 c1 k9 => ?_⟩
    have nlp : l ≠ p := (hd.ne nl).symm
    have hl9 := k9.lst hl nlp
    have hT9 := hT.dk k9 kG.d
    refine ⟨_, rfl, l, _, rfl, .inl (sqL_of hl9), _, _, rfl, _, _, rfl, rfl, by split <;> omega, ?_⟩
    have e9 := emod_bds r9 (n := if (qs.length : Int) > 1 then (qs.length : Int) else 1) (by split <;> omega)
    obtain ⟨d, hdd⟩ : ∃ d : Nat, (d : Int) = r9 % (if (qs.length : Int) > 1 then (qs.length : Int) else 1) := ⟨_, Int.toNat_of_nonneg e9.1⟩
    have cf : ∀ xs : List V, cutV xs (some (r9 % (if (qs.length : Int) > 1 then (qs.length : Int) else 1))) none = xs.drop d := fun xs => by rw [← hdd, cut_from]
    have ct : ∀ xs : List V, cutV xs none (some (r9 % (if (qs.length : Int) > 1 then (qs.length : Int) else 1))) = xs.take d := fun xs => by rw [← hdd, cut_to]
    refine ⟨_, rfl, _, rfl, _, rfl, _, rfl, l, _, rfl, sqL_of hl9, fun x nx => ?_⟩
    rw [cf]
    have hlx := lst_new (o := .lst (qs.drop d)) nx hl9
    refine ⟨_, rfl, _, rfl, _, rfl, l, _, rfl, sqL_of hlx, fun y ny => ?_⟩
    rw [ct]
    have hxy := lst_new (o := .lst (qs.take d)) ny (show upd H9 x (.lst (qs.drop d)) x = _ from upd_same)
    refine ⟨x, y, _, _, rfl, rfl, hxy, upd_same, by rw [List.length_drop, List.length_take]; omega, fun z nz => ?_⟩
    refine ⟨_, rfl, _, rfl, z, _, rfl, sqL_of upd_same, fun w nw => ?_⟩
    rw [cut_to' _ hm0]
    refine ⟨w, _, rfl, .inl ⟨sqL_of upd_same, fun u nu => ?_⟩⟩
    refine ⟨by show 2 ≤ sizeLine; decide, fun t nt => ?_⟩
    refine q _ _ _ _ (((((((kG.trans k9).new nx).new ny).new nz).new nw).new nu).new nt) ⟨t, u, _, rfl, upd_same, ?_, ((((((((hT9.drop d).append (hT9.take d)).take m.toNat).new nx).new ny).new nz).new nw).new nu).new nt⟩ hs0 hs1 ?_ (hok.sub fun t ht => ?_)
    · rw [upd_ne (upd_none nt).1.symm, upd_same]
    · rw [List.length_take]
      omega
    · rcases List.mem_append.mp (List.mem_of_mem_take ht) with ht | ht
      · exact List.mem_of_mem_drop ht
      · exact List.mem_of_mem_take ht
theorem ok__law_within {P : Program} {w : World} {K : PySem.W.Frag} {mg : Str → Option Value} {base : Heap} {tb : List Addr} {f : Addr} {fd : FuncData} (T : Blt mg) (D__law_within : DefAt K mg "_law_within" s_law_within ["_law_web_here", "_law_lot_here"] f fd) :
    FnOk P w K mg base CX0 1 f fd ["_law_web_here", "_law_lot_here"] (sp__law_within K tb) := by
  refine D__law_within.ok sc__law_within (fun vs H Q E h => by
    obtain ⟨v, n, ts, a, ls, rfl, W, hl, hlen, q⟩ := h
    rfl) fun A outer s H vs Q E hr h => ?_
  obtain ⟨v, n, ts, a, ls, rfl, W, hl, hlen, q⟩ := h
  refine ⟨_, pss_one (ps_ret (pe_callB (lenK (K := K)) (by rfl) T.b_len PySem.boot_len (pa_cons (pe_lc (own := [("_law_a", 2), ("_law_b", 3)]) rfl sc__law_within.nd (pi_tup (pe_ix (ix_tupK (K := K)) (pv 0) (pe_int) (fun _ _ => rfl))) (blkOk_by (own := [("_law_a", 2), ("_law_b", 3)]) (N := nm__law_within) (sc := defScope s_law_within) (by decide +kernel)) (fun _ _ _ _ _ => tgtK (K := K) (n := 2) (pgs_cons (pg_name (i := 2) sc__law_within.nd rfl (.inl rfl)) (pgs_cons (pg_name (i := 3) sc__law_within.nd rfl (.inl rfl)) pgs_nil))) (fun _ _ _ _ _ => pts_one (PW.pt (pw_and (pt_cmpR (in_seqK (K := K)) (pv 2) (pv 1) (by rfl)) (pw_and1 (pt_cmpR (in_seqK (K := K)) (pv 3) (pv 1) (by rfl)))))) (fun _ _ _ _ _ => pe_int)) pa_nil))), ?_⟩
  obtain ⟨t, u, rs, rfl, ht, hu, hT⟩ := W
  refine ⟨_, rfl, t, _, 1, _, rfl, rfl, sqT_of ht, atI_nat (j := 1) rfl, u, rfl, ⟨_, sqT_of hu⟩, fun D hD => ?_⟩
  have LB := line_big
  refine lc_tup (K := K) (a := u) (xs := rs) (fun i G => ∃ acc : List V, G = upd H D (.lst acc) ∧ acc.length = inside ls (ts.take i)) ⟨[], rfl, by simp [inside]⟩ (fun i G _ hG => ?_) (fun i r G hr hG => ?_) (fun G hG => ?_)
  · obtain ⟨acc, rfl, _⟩ := hG
    exact sqT_of (tup_new hD hu)
  · obtain ⟨acc, rfl, hacc⟩ := hG
    obtain ⟨⟨x, y⟩, r', hti, rfl, hr'⟩ := hT.get hr
    have hs := inside_take (ls := ls) hti
    dsimp only at hs
    refine ⟨r', _, rfl, sqT_of (tup_new hD hr'), rfl, _, _, rfl, _, [], rfl, rfl, rfl, ?_⟩
    refine ⟨_, rfl, _, rfl, a, _, rfl, .inr (sqT_ke hl (Ke.new hD)), rfl, flat_ints ls, _, rfl, ?_⟩
    rw [inV_int]
    refine iteB (fun (e1 : decide (x ∈ ls) = true) => ?_) (fun (e1 : decide (x ∈ ls) = false) => ?_)
    · refine ⟨_, rfl, _, rfl, a, _, rfl, .inr (sqT_ke hl (Ke.new hD)), rfl, flat_ints ls, _, rfl, ?_⟩
      rw [inV_int]
      refine iteB (fun (e2 : decide (y ∈ ls) = true) => ?_) (fun (e2 : decide (y ∈ ls) = false) => ?_)
      · refine ⟨acc, upd_same, ?_, acc ++ [.int 1], upd_upd, ?_⟩
        · rw [hacc]
          have h1 := inside_le ls (ts.take i)
          have h2 := List.length_take_le i ts
          have h3 : (ts.take i).length ≤ ts.length := List.length_take_le' i ts
          omega
        · rw [List.length_append, hacc, hs, e1, e2]
          rfl
      · refine ⟨acc, rfl, ?_⟩
        rw [hs, e1, e2]
        exact hacc
    · refine ⟨acc, rfl, ?_⟩
      rw [hs, e1]
      exact hacc
  · obtain ⟨acc, rfl, hacc⟩ := hG
    rw [hT.length, List.take_length] at hacc
    refine ⟨D, _, rfl, .inl (sqL_of upd_same), ?_⟩
    rw [hacc]
    exact q _ (Ke.new hD)
theorem ok__law_is_int {P : Program} {w : World} {K : PySem.W.Frag} {mg : Str → Option Value} {base : Heap} {tb : List Addr} {f : Addr} {fd : FuncData} (T : Blt mg) (D__law_is_int : DefAt K mg "_law_is_int" s_law_is_int ["_law_thing", "_law_least", "_law_most"] f fd) :
    FnOk P w K mg base CX0 1 f fd ["_law_thing", "_law_least", "_law_most"] (sp__law_is_int K tb) := by
  refine D__law_is_int.ok sc__law_is_int (fun vs H Q E h => by
    obtain ⟨v, lo, hi, n, rfl, hv, q⟩ := h
    rfl) fun A outer s H vs Q E hr h => ?_
  obtain ⟨v, lo, hi, n, rfl, hv, q⟩ := h
  refine ⟨_, pss_one (ps_ret (pe_and (pe_callB (isiK (K := K)) (by rfl) T.b_isinstance (by decide +kernel) (pa_cons (pv 0) (pa_cons (pe_bltn (v := .ty "int") (u := .type "int") (by rfl) T.b_int (by decide +kernel) rfl) pa_nil))) (pe_and (pe_not (pe_callB (isiK (K := K)) (by rfl) T.b_isinstance (by decide +kernel) (pa_cons (pv 0) (pa_cons (pe_bltn (v := .ty "bool") (u := .type "bool") (by rfl) T.b_bool (by decide +kernel) rfl) pa_nil)))) (pe_one (pe_chain op_le op_le (pv 1) (pv 0) (pv 2)))))), ?_⟩
  refine ⟨_, rfl, v, _, _, _, _, rfl, .ty _, hv.x, hv.isi (.inl rfl), _, rfl, ?_⟩
  cases hv with
  | int i =>
    refine iteT ⟨_, rfl, _, _, _, _, false, rfl, .ty _, (TyF.int i).x, (TyF.int (H := H) i).isi (.inr (.inl rfl)), false, rfl, true, rfl, iteT ?_⟩
    refine ⟨_, rfl, _, rfl, _, _, rfl, rfl, _, rfl, iteB (fun e => ⟨_, rfl, _, _, rfl, rfl, ?_⟩) (fun e => ?_)⟩
    · have z : isNum (.int i) lo hi = decide (i ≤ hi) := by show (decide (lo ≤ i) && decide (i ≤ hi)) = _; rw [e, Bool.true_and]
      rw [z] at q
      exact q
    · have z : isNum (.int i) lo hi = false := by show (decide (lo ≤ i) && decide (i ≤ hi)) = _; rw [e, Bool.false_and]
      rw [z] at q
      exact q
  | bl b => exact iteT ⟨_, rfl, _, _, _, _, true, rfl, .ty _, (TyF.bl b).x, (TyF.bl (H := H) b).isi (.inr (.inl rfl)), true, rfl, false, rfl, iteF q⟩
  | non => exact iteF q
  | str x => exact iteF q
  | lst h => exact iteF q
  | tup h => exact iteF q
  | dic h => exact iteF q
  | tf h => exact iteF q
theorem ok__law_is_true {P : Program} {w : World} {K : PySem.W.Frag} {mg : Str → Option Value} {base : Heap} {tb : List Addr} {f : Addr} {fd : FuncData} (T : Blt mg) (D__law_is_true : DefAt K mg "_law_is_true" s_law_is_true ["_law_found", "_law_due"] f fd) :
    FnOk P w K mg base CX0 1 f fd ["_law_found", "_law_due"] (sp__law_is_true K tb) := by
  refine D__law_is_true.ok sc__law_is_true (fun vs H Q E h => by
    obtain ⟨a, b, rfl, q⟩ := h
    rfl) fun A outer s H vs Q E hr h => ?_
  obtain ⟨a, b, rfl, q⟩ := h
  refine ⟨_, pss_cons (ps_if (pt_val (pv 1))
     (pss_one (ps_ret (pe_cmpR op_isBl (pv 0) (pe_bl) (nomark _))))
     (pss_nil))
     (pss_one (ps_ret (pe_cmpR op_isBl (pv 0) (pe_bl) (nomark _)))), ?_⟩
  cases b with
  | true => exact ⟨_, rfl, true, rfl, iteT ⟨_, rfl, a, true, rfl, rfl, q⟩⟩
  | false => exact ⟨_, rfl, false, rfl, iteF ⟨_, rfl, a, false, rfl, rfl, q⟩⟩
theorem ok__law_lot {P : Program} {w : World} {K : PySem.W.Frag} {mg : Str → Option Value} {base : Heap} {tb : List Addr} {f : Addr} {fd : FuncData} {f__law_next : Addr} {fd__law_next : FuncData} (T : Blt mg) (D__law_lot : DefAt K mg "_law_lot" s_law_lot ["_law_deck_here", "_law_points"] f fd) (D__law_next : DefAt K mg "_law_next" s_law_next ["_law_deck_here"] f__law_next fd__law_next) (G__law_next : FnOk P w K mg base CX0 1 f__law_next fd__law_next ["_law_deck_here"] (sp__law_next K tb)) :
    FnOk P w K mg base CX0 2 f fd ["_law_deck_here", "_law_points"] (sp__law_lot K tb) := by
  refine D__law_lot.ok sc__law_lot (fun vs H Q E h => by
    obtain ⟨p, n, rfl, hd, hn0, hn1, q⟩ := h
    rfl) fun A outer s H vs Q E hr h => ?_
  obtain ⟨p, n, rfl, hd, hn0, hn1, q⟩ := h
  refine ⟨_, pss_cons (ps_set (i := 2) sc__law_lot.nd rfl (.inr rfl) (pe_op op_add (pe_op op_add (pe_call G__law_next (hr.mono (by decide)) (by rfl) D__law_next.g D__law_next.F.kp D__law_next.b .nil pass0 (pa_cons (pv 0) pa_nil)) (pe_op op_mul (pe_int) (pe_call G__law_next (hr.mono (by decide)) (by rfl) D__law_next.g D__law_next.F.kp D__law_next.b .nil pass0 (pa_cons (pv 0) pa_nil)))) (pe_op op_mul (pe_int) (pe_call G__law_next (hr.mono (by decide)) (by rfl) D__law_next.g D__law_next.F.kp D__law_next.b .nil pass0 (pa_cons (pv 0) pa_nil)))))
     (pss_cons (ps_setLc (i := 4) (own := [("_law_k", 3)]) rfl sc__law_lot.nd rfl rfl (sw_true rfl rfl rfl (by decide +kernel)) (pi_range1 (by rfl) T.b_range (pa_cons (pv 1) pa_nil)) (blkOk_by (own := [("_law_k", 3)]) (N := nm__law_lot) (sc := defScope s_law_lot) (by decide +kernel)) (fun _ _ _ _ _ => pg_name (i := 3) sc__law_lot.nd rfl (.inl rfl)) (fun _ _ _ _ _ => pts_one (pt_cmpR op_eq (pe_op op_and (pe_op op_shr (pv 2) (pe_op op_mod (pv 3) (pe_int))) (pe_int)) (pe_int) (nomark _))) (fun _ _ _ _ _ => pv 3))
     (C8.pss_cut (ps_if (pt_cmpR (eqDK (K := K) hr.units) (pv 4) (pe_lst pa_nil) (nomark _))
     (pss_one (ps_set (i := 4) sc__law_lot.nd rfl (.inl rfl) (pe_lst (pa_cons (pe_op op_mod (pe_call G__law_next (hr.mono (by decide)) (by rfl) D__law_next.g D__law_next.F.kp D__law_next.b .nil pass0 (pa_cons (pv 0) pa_nil)) (pv 1)) pa_nil))))
     (pss_nil))
     (pss_one (ps_ret (pe_callTy (tupleK (K := K)) (by rfl) T.b_tuple (by decide +kernel) (pa_cons (pv 4) pa_nil)))))), ?_⟩
  refine ⟨_, rfl, p, rfl, hd, fun r1 H1 a0 a1 k1 => ⟨_, rfl, p, rfl, k1.d, fun r2 H2 b0 b1 k2 => ⟨_, _, rfl, rfl, .inl ⟨by decide, by decide⟩, _, _, rfl, rfl, ?_⟩⟩⟩
  refine ⟨_, rfl, p, rfl, k2.d, fun r3 H3 c0 c1 k3 => ⟨_, _, rfl, rfl, .inl ⟨by decide, by decide⟩, _, _, rfl, rfl, ?_⟩⟩
  have k := (k1.trans k2).trans k3
  have LB := line_big
  refine ⟨_, rfl, n, rfl, by omega, by omega, fun D hD => ?_⟩
  have nHD := k.k.dom _ hD
  refine lc_range (lo := 0) (n := n.toNat) (fun i G => ∃ ls : List Int, G = upd H3 D (.lst (ls.map V.int)) ∧ ls.Pairwise (· < ·) ∧ ls.length ≤ i ∧ ∀ x ∈ ls, 0 ≤ x ∧ x < (i : Int)) ⟨[], rfl, .nil, Nat.le_refl _, fun _ z => nomatch z⟩ (fun i G hi hG => ?_) (fun G hG => ?_)
  · obtain ⟨ls, rfl, hp, hl, hx⟩ := hG
    refine ⟨rfl, _, rfl, _, rfl, _, _, rfl, rfl, (by show (0 : Int) < 28; decide), _, _, rfl, rfl, (emod_bds (0 + (i : Int)) (n := 28) (by decide)).1, _, _, rfl, rfl, rfl, _, rfl, iteB (fun _ => ?_) (fun _ => ?_)⟩
    · refine ⟨_, rfl, _, upd_same, by rw [List.length_map]; omega, ls ++ [0 + (i : Int)], by rw [upd_upd, List.map_append]; rfl, ?_, by rw [List.length_append]; exact Nat.succ_le_succ hl, ?_⟩
      · rw [List.pairwise_append]
        refine ⟨hp, List.pairwise_singleton _ _, fun x hm y hy => ?_⟩
        rw [List.mem_singleton.mp hy]
        have := (hx x hm).2
        omega
      · intro x hm
        rcases List.mem_append.mp hm with hm | hm
        · have := hx x hm
          omega
        · rw [List.mem_singleton.mp hm]
          omega
    · exact ⟨ls, rfl, hp, by omega, fun x hm => ⟨(hx x hm).1, by have := (hx x hm).2; omega⟩⟩
  · obtain ⟨ls, rfl, hp, hl, hx⟩ := hG
    have kD := k.over (o := .lst (ls.map V.int)) hd nHD
    refine ⟨fun σ G => ∃ (y2 y3 : Option V) (l : Addr) (ls : List Int), σ = [some (.ref p), some (.int n), y2, y3, some (.ref l)] ∧ Dk p H G ∧ G l = some (.lst (ls.map V.int)) ∧ Lot n ls, ?_, fun σ G hG => ?_⟩
    · refine ⟨_, rfl, Nat.zero_le _, fun z nz => ?_⟩
      have hDz : upd (upd H3 D (.lst (ls.map V.int))) z (.lst []) D = some (.lst (ls.map V.int)) := lst_new nz upd_same
      refine ⟨.list (ls.map PyData.int), .list [], .lst (sqL_of hDz) (dp_ints ls), .lst (sqL_of upd_same) .nil, PySem.W.shaped_ints ls, PySem.W.shaped_ints [], _, rfl, iteB (fun e => ?_) (fun e => ?_)⟩
      · refine ⟨_, rfl, p, rfl, (kD.new nz).d, fun r4 H4 d0 d1 k4 => ?_⟩
        refine ⟨_, rfl, _, _, rfl, rfl, by omega, by show 1 ≤ sizeLine; decide, fun l nl => ?_⟩
        have e4 := emod_bds r4 (n := n) (by omega)
        exact ⟨_, _, l, [r4 % n], rfl, ((kD.new nz).trans k4).new nl, upd_same, Lot.one e4.1 e4.2⟩
      · refine ⟨_, _, D, ls, rfl, kD.new nz, hDz, fun z => ?_, hp, fun x hm => ⟨(hx x hm).1, by have := (hx x hm).2; omega⟩⟩
        rw [z] at e
        cases e
    · obtain ⟨y2, y3, l, ls, rfl, kG, hl, hL⟩ := hG
      refine ⟨_, rfl, l, _, rfl, .inl ⟨sqL_of hl, fun t nt => ?_⟩⟩
      exact q _ t ls (kG.new nt) (kG.k.dom _ nt) upd_same hL
theorem ok__law_odd_things {P : Program} {w : World} {K : PySem.W.Frag} {mg : Str → Option Value} {base : Heap} {tb : List Addr} {f : Addr} {fd : FuncData} (T : Blt mg) (D__law_odd_things : DefAt K mg "_law_odd_things" s_law_odd_things [] f fd) :
    FnOk P w K mg base CX0 1 f fd [] (sp__law_odd_things K tb) := by
  refine D__law_odd_things.ok sc__law_odd_things (fun vs H Q E h => by
    obtain ⟨rfl, q⟩ := h
    rfl) fun A outer s H vs Q E hr h => ?_
  obtain ⟨rfl, q⟩ := h
  refine ⟨_, pss_cons (ps_set (i := 0) sc__law_odd_things.nd rfl (.inl rfl) (pe_lst (pa_cons (pe_non) (pa_cons (pe_bl) (pa_cons (pe_bl) (pa_cons (pe_int) (pa_cons (pe_int) (pa_cons (pe_un un_neg (pe_int)) (pa_cons (pe_int) (pa_cons (pe_str) (pa_cons (pe_str) (pa_cons (pe_str) (pa_cons (pe_tupF pa_nil) (pa_cons (pe_lst pa_nil) (pa_cons (pe_dnewK) (pa_cons (pe_tupF (pa_cons (pe_tupF pa_nil) pa_nil)) (pa_cons (pe_lst (pa_cons (pe_tupF pa_nil) pa_nil)) (pa_cons (pe_tupF (pa_cons (pe_tupF pa_nil) (pa_cons (pe_tupF pa_nil) pa_nil))) (pa_cons (pe_tupF (pa_cons (pe_non) pa_nil)) (pa_cons (pe_tupF (pa_cons (pe_int) pa_nil)) (pa_cons (pe_lst (pa_cons (pe_int) pa_nil)) pa_nil)))))))))))))))))))))
     (pss_one (ps_ret (pe_op op_cat (pv 0) (pe_lst (pa_cons (pe_disp (pps_cons (pe_int) (pe_int) pps_nil) (by rfl) (by rfl) (fun z => by cases z) (by decide)) (pa_cons (pe_disp (pps_cons (pe_str) (pe_tupF pa_nil) pps_nil) (by rfl) (by rfl) (fun z => by cases z) (by decide)) (pa_cons (pe_tupF (pa_cons (pe_int) (pa_cons (pe_int) pa_nil))) (pa_cons (pe_tupF (pa_cons (pe_bl) pa_nil)) (pa_cons (pe_tupF (pa_cons (pe_str) pa_nil)) (pa_cons (pe_tupF (pa_cons (pe_tupF (pa_cons (pe_int) pa_nil)) pa_nil)) (pa_cons (pe_tupF (pa_cons (pe_lst pa_nil) pa_nil)) (pa_cons (pe_tupF (pa_cons (pe_int) (pa_cons (pe_int) (pa_cons (pe_int) pa_nil)))) (pa_cons (pe_lst (pa_cons (pe_int) (pa_cons (pe_int) pa_nil))) (pa_cons (pe_op op_pow (pe_int) (pe_int)) (pa_cons (pe_str) pa_nil))))))))))))))), ?_⟩
  have k2 : Ke H H := .refl
  have hs : Fths H [] := .nil
  refine ⟨_, rfl, ?_⟩
  refine ⟨by show 0 ≤ sizeLine; decide, fun t1 G1 nt1 kk1 h1 => ?_⟩
  replace k2 : Ke H G1 := k2.trans kk1
  replace hs := hs.ke kk1
  have y1 : ∀ x ∈ ([] : List V), ∃ n, TyF G1 x n := fun x hx => by
    cases hx
  replace hs := Fths.cons ⟨_, ThF.yes h1 y1⟩ hs
  refine ⟨by show 0 ≤ sizeLine; decide, fun t2 nt2 => ?_⟩
  have kk2 : Ke G1 (upd G1 t2 (.lst [])) := Ke.new nt2
  have gt2 : (upd G1 t2 (.lst [])) t2 = some (.lst []) := upd_same
  generalize eG2 : upd G1 t2 _ = G2 at *
  clear eG2
  replace k2 : Ke H G2 := k2.trans kk2
  replace hs := hs.ke kk2
  replace hs := Fths.cons (fh_ty (.lst gt2) (by decide)) hs
  refine fun t3 nt3 => ?_
  have kk3 : Ke G2 (upd G2 t3 (.dK [])) := Ke.new nt3
  have gt3 : (upd G2 t3 (.dK [])) t3 = some (.dK []) := upd_same
  generalize eG3 : upd G2 t3 _ = G3 at *
  clear eG3
  replace k2 : Ke H G3 := k2.trans kk3
  replace hs := hs.ke kk3
  replace hs := Fths.cons (fh_ty (.dic gt3) (by decide)) hs
  refine ⟨by show 0 ≤ sizeLine; decide, fun t4 G4 nt4 kk4 h4 => ?_⟩
  replace k2 : Ke H G4 := k2.trans kk4
  replace hs := hs.ke kk4
  have y4 : ∀ x ∈ ([] : List V), ∃ n, TyF G4 x n := fun x hx => by
    cases hx
  replace hs := Fths.cons ⟨_, ThF.yes h4 y4⟩ hs
  have hin := h4
  refine ⟨by show 1 ≤ sizeLine; decide, fun t5 G5 nt5 kk5 h5 => ?_⟩
  replace k2 : Ke H G5 := k2.trans kk5
  replace hs := hs.ke kk5
  have y5 : ∀ x ∈ ([.ref t4] : List V), ∃ n, TyF G5 x n := fun x hx => by
    simp only [List.mem_cons, List.not_mem_nil, or_false] at hx
    rcases hx with rfl
    · exact ⟨_, .tf (TF.ke hin kk5)⟩
  replace hs := Fths.cons ⟨_, ThF.yes h5 y5⟩ hs
  refine ⟨by show 0 ≤ sizeLine; decide, fun t6 G6 nt6 kk6 h6 => ?_⟩
  replace k2 : Ke H G6 := k2.trans kk6
  replace hs := hs.ke kk6
  have y6 : ∀ x ∈ ([] : List V), ∃ n, TyF G6 x n := fun x hx => by
    cases hx
  replace hs := Fths.cons ⟨_, ThF.yes h6 y6⟩ hs
  refine ⟨by show 1 ≤ sizeLine; decide, fun t7 nt7 => ?_⟩
  have kk7 : Ke G6 (upd G6 t7 (.lst [.ref t6])) := Ke.new nt7
  have gt7 : (upd G6 t7 (.lst [.ref t6])) t7 = some (.lst [.ref t6]) := upd_same
  generalize eG7 : upd G6 t7 _ = G7 at *
  clear eG7
  replace k2 : Ke H G7 := k2.trans kk7
  replace hs := hs.ke kk7
  replace hs := Fths.cons (fh_ty (.lst gt7) (by decide)) hs
  refine ⟨by show 0 ≤ sizeLine; decide, fun t8 G8 nt8 kk8 h8 => ?_⟩
  replace k2 : Ke H G8 := k2.trans kk8
  replace hs := hs.ke kk8
  have y8 : ∀ x ∈ ([] : List V), ∃ n, TyF G8 x n := fun x hx => by
    cases hx
  replace hs := Fths.cons ⟨_, ThF.yes h8 y8⟩ hs
  have hg1 := h8
  refine ⟨by show 0 ≤ sizeLine; decide, fun t9 G9 nt9 kk9 h9 => ?_⟩
  replace k2 : Ke H G9 := k2.trans kk9
  replace hs := hs.ke kk9
  have y9 : ∀ x ∈ ([] : List V), ∃ n, TyF G9 x n := fun x hx => by
    cases hx
  replace hs := Fths.cons ⟨_, ThF.yes h9 y9⟩ hs
  have hg2 := h9
  replace hg1 := hg1.ke kk9
  refine ⟨by show 2 ≤ sizeLine; decide, fun t10 G10 nt10 kk10 h10 => ?_⟩
  replace k2 : Ke H G10 := k2.trans kk10
  replace hs := hs.ke kk10
  have y10 : ∀ x ∈ ([.ref t8, .ref t9] : List V), ∃ n, TyF G10 x n := fun x hx => by
    simp only [List.mem_cons, List.not_mem_nil, or_false] at hx
    rcases hx with rfl | rfl
    · exact ⟨_, .tf (hg1.ke kk10)⟩
    · exact ⟨_, .tf (hg2.ke kk10)⟩
  replace hs := Fths.cons ⟨_, ThF.yes h10 y10⟩ hs
  refine ⟨by show 1 ≤ sizeLine; decide, fun t11 G11 nt11 kk11 h11 => ?_⟩
  replace k2 : Ke H G11 := k2.trans kk11
  replace hs := hs.ke kk11
  have y11 : ∀ x ∈ ([.non] : List V), ∃ n, TyF G11 x n := fun x hx => by
    simp only [List.mem_cons, List.not_mem_nil, or_false] at hx
    rcases hx with rfl
    · exact ⟨_, .non⟩
  replace hs := Fths.cons ⟨_, ThF.yes h11 y11⟩ hs
  refine ⟨by show 1 ≤ sizeLine; decide, fun t12 G12 nt12 kk12 h12 => ?_⟩
  replace k2 : Ke H G12 := k2.trans kk12
  replace hs := hs.ke kk12
  have y12 : ∀ x ∈ ([.int 0] : List V), ∃ n, TyF G12 x n := fun x hx => by
    simp only [List.mem_cons, List.not_mem_nil, or_false] at hx
    rcases hx with rfl
    · exact ⟨_, .int 0⟩
  replace hs := Fths.cons ⟨_, ThF.yes h12 y12⟩ hs
  refine ⟨by show 1 ≤ sizeLine; decide, fun t13 nt13 => ?_⟩
  have kk13 : Ke G12 (upd G12 t13 (.lst [.int 0])) := Ke.new nt13
  have gt13 : (upd G12 t13 (.lst [.int 0])) t13 = some (.lst [.int 0]) := upd_same
  generalize eG13 : upd G12 t13 _ = G13 at *
  clear eG13
  replace k2 : Ke H G13 := k2.trans kk13
  replace hs := hs.ke kk13
  replace hs := Fths.cons (fh_ty (.lst gt13) (by decide)) hs
  refine ⟨by show 19 ≤ sizeLine; decide, fun t14 nt14 => ?_⟩
  have kk14 : Ke G13 (upd G13 t14 (.lst [.non, .bl true, .bl false, .int 0, .int 1, .int (-1), .int 7, .str (Str.ofString ""), .str (Str.ofString "0"), .str (Str.ofString "web"), .ref t1, .ref t2, .ref t3, .ref t5, .ref t7, .ref t10, .ref t11, .ref t12, .ref t13])) := Ke.new nt14
  have gt14 : (upd G13 t14 (.lst [.non, .bl true, .bl false, .int 0, .int 1, .int (-1), .int 7, .str (Str.ofString ""), .str (Str.ofString "0"), .str (Str.ofString "web"), .ref t1, .ref t2, .ref t3, .ref t5, .ref t7, .ref t10, .ref t11, .ref t12, .ref t13])) t14 = some (.lst [.non, .bl true, .bl false, .int 0, .int 1, .int (-1), .int 7, .str (Str.ofString ""), .str (Str.ofString "0"), .str (Str.ofString "web"), .ref t1, .ref t2, .ref t3, .ref t5, .ref t7, .ref t10, .ref t11, .ref t12, .ref t13]) := upd_same
  generalize eG14 : upd G13 t14 _ = G14 at *
  clear eG14
  replace k2 : Ke H G14 := k2.trans kk14
  replace hs := hs.ke kk14
  have hL14 : Fths G14 [.non, .bl true, .bl false, .int 0, .int 1, .int (-1), .int 7, .str (Str.ofString ""), .str (Str.ofString "0"), .str (Str.ofString "web"), .ref t1, .ref t2, .ref t3, .ref t5, .ref t7, .ref t10, .ref t11, .ref t12, .ref t13] := (hs |>.cons (fh_ty (.non) (by decide)) |>.cons (fh_ty (.bl true) (by decide)) |>.cons (fh_ty (.bl false) (by decide)) |>.cons (fh_ty (.int 0) (by decide)) |>.cons (fh_ty (.int 1) (by decide)) |>.cons (fh_ty (.int (-1)) (by decide)) |>.cons (fh_ty (.int 7) (by decide)) |>.cons (fh_ty (.str (Str.ofString "")) (by decide)) |>.cons (fh_ty (.str (Str.ofString "0")) (by decide)) |>.cons (fh_ty (.str (Str.ofString "web")) (by decide))).sub fun y hy => by
    simp only [List.mem_cons, List.not_mem_nil, or_false] at hy ⊢
    rcases hy with h | h | h | h | h | h | h | h | h | h | h | h | h | h | h | h | h | h | h <;> simp [h]
  clear hs
  have hs : Fths G14 [] := .nil
  refine ⟨_, rfl, ?_⟩
  refine fun t15 nt15 => ⟨upd_same, [(Sum.inl 0, .int 1)], rfl, by show 1 ≤ 15; decide, ?_⟩
  rw [upd_upd]
  have kk15 : Ke G14 (upd G14 t15 (.dK (mergeK [] [(Sum.inl 0, .int 1)]))) := Ke.new nt15
  have gt15 : (upd G14 t15 (.dK (mergeK [] [(Sum.inl 0, .int 1)]))) t15 = some (.dK (mergeK [] [(Sum.inl 0, .int 1)])) := upd_same
  generalize eG15 : upd G14 t15 _ = G15 at *
  clear eG15
  replace k2 : Ke H G15 := k2.trans kk15
  replace gt14 := Ke.lst kk15 gt14
  replace hs := hs.ke kk15
  replace hL14 := hL14.ke kk15
  replace hs := Fths.cons (fh_ty (.dic gt15) (by decide)) hs
  refine fun d16 nd16 => ⟨by show 0 ≤ sizeLine; decide, fun t16 GA16 np16 kA16 hp16 => ⟨kA16.at_ d16 _ upd_same (fun _ z => nomatch z) (fun z => z), [(Sum.inr "a", .ref t16)], rfl, by show 1 ≤ 15; decide, ?_⟩⟩
  have kk16 : Ke G15 (upd GA16 d16 (.dK (mergeK [] [(Sum.inr "a", .ref t16)]))) := (Kx.trans (Ke.new nd16) kA16).over nd16
  have gd16 : (upd GA16 d16 (.dK (mergeK [] [(Sum.inr "a", .ref t16)]))) d16 = some (.dK (mergeK [] [(Sum.inr "a", .ref t16)])) := upd_same
  generalize eG16 : upd GA16 d16 _ = G16 at *
  clear eG16
  replace k2 : Ke H G16 := k2.trans kk16
  replace gt14 := Ke.lst kk16 gt14
  replace hs := hs.ke kk16
  replace hL14 := hL14.ke kk16
  replace hs := Fths.cons (fh_ty (.dic gd16) (by decide)) hs
  refine ⟨by show 2 ≤ sizeLine; decide, fun t17 G17 nt17 kk17 h17 => ?_⟩
  replace k2 : Ke H G17 := k2.trans kk17
  replace gt14 := Ke.lst kk17 gt14
  replace hs := hs.ke kk17
  replace hL14 := hL14.ke kk17
  have y17 : ∀ x ∈ ([.int 0, .int 0] : List V), ∃ n, TyF G17 x n := fun x hx => by
    simp only [List.mem_cons, List.not_mem_nil, or_false] at hx
    rcases hx with rfl | rfl
    · exact ⟨_, .int 0⟩
    · exact ⟨_, .int 0⟩
  replace hs := Fths.cons ⟨_, ThF.yes h17 y17⟩ hs
  refine ⟨by show 1 ≤ sizeLine; decide, fun t18 G18 nt18 kk18 h18 => ?_⟩
  replace k2 : Ke H G18 := k2.trans kk18
  replace gt14 := Ke.lst kk18 gt14
  replace hs := hs.ke kk18
  replace hL14 := hL14.ke kk18
  have y18 : ∀ x ∈ ([.bl true] : List V), ∃ n, TyF G18 x n := fun x hx => by
    simp only [List.mem_cons, List.not_mem_nil, or_false] at hx
    rcases hx with rfl
    · exact ⟨_, .bl true⟩
  replace hs := Fths.cons ⟨_, ThF.yes h18 y18⟩ hs
  refine ⟨by show 1 ≤ sizeLine; decide, fun t19 G19 nt19 kk19 h19 => ?_⟩
  replace k2 : Ke H G19 := k2.trans kk19
  replace gt14 := Ke.lst kk19 gt14
  replace hs := hs.ke kk19
  replace hL14 := hL14.ke kk19
  have y19 : ∀ x ∈ ([.str (Str.ofString "0")] : List V), ∃ n, TyF G19 x n := fun x hx => by
    simp only [List.mem_cons, List.not_mem_nil, or_false] at hx
    rcases hx with rfl
    · exact ⟨_, .str (Str.ofString "0")⟩
  replace hs := Fths.cons ⟨_, ThF.yes h19 y19⟩ hs
  refine ⟨by show 1 ≤ sizeLine; decide, fun t20 G20 nt20 kk20 h20 => ?_⟩
  replace k2 : Ke H G20 := k2.trans kk20
  replace gt14 := Ke.lst kk20 gt14
  replace hs := hs.ke kk20
  replace hL14 := hL14.ke kk20
  have y20 : ∀ x ∈ ([.int 0] : List V), ∃ n, TyF G20 x n := fun x hx => by
    simp only [List.mem_cons, List.not_mem_nil, or_false] at hx
    rcases hx with rfl
    · exact ⟨_, .int 0⟩
  replace hs := Fths.cons ⟨_, ThF.yes h20 y20⟩ hs
  have hi6 := h20
  refine ⟨by show 1 ≤ sizeLine; decide, fun t21 G21 nt21 kk21 h21 => ?_⟩
  replace k2 : Ke H G21 := k2.trans kk21
  replace gt14 := Ke.lst kk21 gt14
  replace hs := hs.ke kk21
  replace hL14 := hL14.ke kk21
  have y21 : ∀ x ∈ ([.ref t20] : List V), ∃ n, TyF G21 x n := fun x hx => by
    simp only [List.mem_cons, List.not_mem_nil, or_false] at hx
    rcases hx with rfl
    · exact ⟨_, .tf (hi6.ke kk21)⟩
  replace hs := Fths.cons ⟨_, ThF.yes h21 y21⟩ hs
  refine ⟨by show 0 ≤ sizeLine; decide, fun t22 nt22 => ?_⟩
  have kk22 : Ke G21 (upd G21 t22 (.lst [])) := Ke.new nt22
  have gt22 : (upd G21 t22 (.lst [])) t22 = some (.lst []) := upd_same
  generalize eG22 : upd G21 t22 _ = G22 at *
  clear eG22
  replace k2 : Ke H G22 := k2.trans kk22
  replace gt14 := Ke.lst kk22 gt14
  replace hs := hs.ke kk22
  replace hL14 := hL14.ke kk22
  replace hs := Fths.cons (fh_ty (.lst gt22) (by decide)) hs
  refine ⟨by show 1 ≤ sizeLine; decide, fun t23 G23 nt23 kk23 h23 => ?_⟩
  replace k2 : Ke H G23 := k2.trans kk23
  replace gt14 := Ke.lst kk23 gt14
  replace hs := hs.ke kk23
  replace hL14 := hL14.ke kk23
  have y23 : ∀ x ∈ ([.ref t22] : List V), ∃ n, TyF G23 x n := fun x hx => by
    simp only [List.mem_cons, List.not_mem_nil, or_false] at hx
    rcases hx with rfl
    · exact ⟨_, .lst (Ke.lst kk23 gt22)⟩
  replace hs := Fths.cons ⟨_, ThF.yes h23 y23⟩ hs
  refine ⟨by show 3 ≤ sizeLine; decide, fun t24 G24 nt24 kk24 h24 => ?_⟩
  replace k2 : Ke H G24 := k2.trans kk24
  replace gt14 := Ke.lst kk24 gt14
  replace hs := hs.ke kk24
  replace hL14 := hL14.ke kk24
  have y24 : ∀ x ∈ ([.int 0, .int 1, .int 2] : List V), ∃ n, TyF G24 x n := fun x hx => by
    simp only [List.mem_cons, List.not_mem_nil, or_false] at hx
    rcases hx with rfl | rfl | rfl
    · exact ⟨_, .int 0⟩
    · exact ⟨_, .int 1⟩
    · exact ⟨_, .int 2⟩
  replace hs := Fths.cons ⟨_, ThF.yes h24 y24⟩ hs
  refine ⟨by show 2 ≤ sizeLine; decide, fun t25 nt25 => ?_⟩
  have kk25 : Ke G24 (upd G24 t25 (.lst [.int 0, .int 1])) := Ke.new nt25
  have gt25 : (upd G24 t25 (.lst [.int 0, .int 1])) t25 = some (.lst [.int 0, .int 1]) := upd_same
  generalize eG25 : upd G24 t25 _ = G25 at *
  clear eG25
  replace k2 : Ke H G25 := k2.trans kk25
  replace gt14 := Ke.lst kk25 gt14
  replace hs := hs.ke kk25
  replace hL14 := hL14.ke kk25
  replace hs := Fths.cons (fh_ty (.lst gt25) (by decide)) hs
  refine ⟨_, _, rfl, rfl, ⟨by decide, by decide, by decide⟩, by show 11 ≤ sizeLine; decide, fun t26 nt26 => ?_⟩
  have kk26 : Ke G25 (upd G25 t26 (.lst [.ref t15, .ref d16, .ref t17, .ref t18, .ref t19, .ref t21, .ref t23, .ref t24, .ref t25, .int (10 ^ (30 : Int).toNat), .str (Str.ofString "()")])) := Ke.new nt26
  have gt26 : (upd G25 t26 (.lst [.ref t15, .ref d16, .ref t17, .ref t18, .ref t19, .ref t21, .ref t23, .ref t24, .ref t25, .int (10 ^ (30 : Int).toNat), .str (Str.ofString "()")])) t26 = some (.lst [.ref t15, .ref d16, .ref t17, .ref t18, .ref t19, .ref t21, .ref t23, .ref t24, .ref t25, .int (10 ^ (30 : Int).toNat), .str (Str.ofString "()")]) := upd_same
  generalize eG26 : upd G25 t26 _ = G26 at *
  clear eG26
  replace k2 : Ke H G26 := k2.trans kk26
  replace gt14 := Ke.lst kk26 gt14
  replace hs := hs.ke kk26
  replace hL14 := hL14.ke kk26
  have hL26 : Fths G26 [.ref t15, .ref d16, .ref t17, .ref t18, .ref t19, .ref t21, .ref t23, .ref t24, .ref t25, .int (10 ^ (30 : Int).toNat), .str (Str.ofString "()")] := (hs |>.cons (fh_ty (.int (10 ^ (30 : Int).toNat)) (by decide)) |>.cons (fh_ty (.str (Str.ofString "()")) (by decide))).sub fun y hy => by
    simp only [List.mem_cons, List.not_mem_nil, or_false] at hy ⊢
    rcases hy with h | h | h | h | h | h | h | h | h | h | h <;> simp [h]
  clear hs
  have hs : Fths G26 [] := .nil
  refine ⟨t14, t26, _, _, rfl, rfl, gt14, gt26, (by show 30 ≤ sizeLine; decide), fun l3 nl3 => ?_⟩
  exact q _ l3 _ (Kx.trans k2 (Ke.new nl3)) (k2.dom _ nl3) upd_same ((hL14.app hL26).new nl3) (by show 30 ≤ 100; decide)
theorem ok__law_ways {P : Program} {w : World} {K : PySem.W.Frag} {mg : Str → Option Value} {base : Heap} {tb : List Addr} {f : Addr} {fd : FuncData} {f__law_next : Addr} {fd__law_next : FuncData} (T : Blt mg) (D__law_ways : DefAt K mg "_law_ways" s_law_ways ["_law_deck_here", "_law_web_here"] f fd) (D__law_next : DefAt K mg "_law_next" s_law_next ["_law_deck_here"] f__law_next fd__law_next) (G__law_next : FnOk P w K mg base CX0 1 f__law_next fd__law_next ["_law_deck_here"] (sp__law_next K tb)) :
    FnOk P w K mg base CX0 2 f fd ["_law_deck_here", "_law_web_here"] (sp__law_ways K tb) := by
  refine D__law_ways.ok sc__law_ways (fun vs H Q E h => by
    obtain ⟨p, v, n, ts, rfl, hd, W, hlen, q⟩ := h
    rfl) fun A outer s H vs Q E hr h => ?_
  obtain ⟨p, v, n, ts, rfl, hd, W, hlen, q⟩ := h
  refine ⟨_, pss_one (ps_ret (pe_callTy (tupleF (K := K)) (by rfl) T.b_tuple (by decide +kernel) (pa_cons (pe_lc (own := [("_law_tie_here", 2)]) rfl sc__law_ways.nd (pi_tup (pe_ix (ix_tupK (K := K)) (pv 1) (pe_int) (fun _ _ => rfl))) (blkOk_by (own := [("_law_tie_here", 2)]) (N := nm__law_ways) (sc := defScope s_law_ways) (by decide +kernel)) (fun _ _ _ _ _ => pg_name (i := 2) sc__law_ways.nd rfl (.inl rfl)) (fun _ _ _ _ _ => pts_nil) (fun _ _ _ _ _ => pe_ix (ix_tupK (K := K)) (pv 2) (pe_op op_mod (pe_call G__law_next (hr.mono (by decide)) (by rfl) D__law_next.g D__law_next.F.kp D__law_next.b .nil pass0 (pa_cons (pv 0) pa_nil)) (pe_int)) (fun _ _ => rfl))) pa_nil))), ?_⟩
  have LB := line_big
  obtain ⟨t, u, rs, rfl, ht, hu, hT⟩ := W
  refine ⟨_, rfl, t, _, 1, _, rfl, rfl, sqT_of ht, atI_nat (j := 1) rfl, u, rfl, ⟨_, sqT_of hu⟩, fun D hD => ?_⟩
  have hrl := hT.length
  refine lc_tup (K := K) (a := u) (xs := rs) (fun i G => ∃ ws : List Int, Dk p H G ∧ G D = some (.lst (ws.map V.int)) ∧ WOk (ts.take i) ws) ⟨[], (Dk.refl hd).new hD, upd_same, WOk.nil⟩ (fun i G _ hG => ?_) (fun i r G hr hG => ?_) (fun G hG => ?_)
  · obtain ⟨_, k, _⟩ := hG
    exact sqT_of (k.tup hd hu)
  · obtain ⟨ws, kG, gD, hW⟩ := hG
    obtain ⟨⟨x, y⟩, r', hti, rfl, hr'⟩ := hT.get hr
    have nDp : D ≠ p := fun e => by
      subst e
      exact hd.ne hD rfl
    refine ⟨rfl, yes_ite ?_⟩
    refine ⟨_, rfl, _, rfl, p, rfl, kG.d, fun r1 H1 a0 a1 k1 => ?_⟩
    have em := emod_bds r1 (n := 2) (by decide)
    have kk := kG.trans k1
    have key : ∃ w, (w = x ∨ w = y) ∧ atI [V.int x, V.int y] (r1 % 2) = some (.int w) := by
      rcases (show r1 % 2 = 0 ∨ r1 % 2 = 1 by omega) with e | e <;> rw [e]
      · exact ⟨x, .inl rfl, rfl⟩
      · exact ⟨y, .inr rfl, rfl⟩
    obtain ⟨w, hw, eat⟩ := key
    refine ⟨_, _, rfl, rfl, by show (0 : Int) < 2; decide, r', _, _, _, rfl, rfl, sqT_of (kk.tup hd hr'), eat, ?_⟩
    have gD1 := k1.lst gD nDp
    have hwl : ws.length = i := by
      rw [hW.1, List.length_take]
      have := (List.getElem?_eq_some_iff.mp hti).1
      omega
    have hil : i < ts.length := (List.getElem?_eq_some_iff.mp hti).1
    refine ⟨_, gD1, ?_, ws ++ [w], kk.over hd hD, by rw [upd_same, List.map_append]; rfl, ?_⟩
    · rw [List.length_map]
      omega
    · rw [take_next hti]
      exact hW.snoc hw
  · obtain ⟨ws, kG, gD, hW⟩ := hG
    rw [hrl, List.take_length] at hW
    refine ⟨D, _, rfl, sqL_of gD, fun a o na hod => q _ a ws (kG.new na) ⟨o, upd_same, hod⟩ hW⟩
theorem ok__law_outs {P : Program} {w : World} {K : PySem.W.Frag} {mg : Str → Option Value} {base : Heap} {tb : List Addr} {f : Addr} {fd : FuncData} (T : Blt mg) (D__law_outs : DefAt K mg "_law_outs" s_law_outs ["_law_web_here", "_law_ways_here"] f fd) :
    FnOk P w K mg base CX0 1 f fd ["_law_web_here", "_law_ways_here"] (sp__law_outs K tb) := by
  refine D__law_outs.ok sc__law_outs (fun vs H Q E h => by
    obtain ⟨v, n, ts, a, ws, rfl, W, hn0, hn1, ha, q⟩ := h
    rfl) fun A outer s H vs Q E hr h => ?_
  obtain ⟨v, n, ts, a, ws, rfl, W, hn0, hn1, ha, q⟩ := h
  refine ⟨_, pss_one (ps_ret (pe_callTy (tupleK (K := K)) (by rfl) T.b_tuple (by decide +kernel) (pa_cons (pe_lc (own := [("_law_k", 2)]) rfl sc__law_outs.nd (pi_range1 (by rfl) T.b_range (pa_cons (pe_ix (ix_tupK (K := K)) (pv 0) (pe_int) (fun _ _ => rfl)) pa_nil)) (blkOk_by (own := [("_law_k", 2)]) (N := nm__law_outs) (sc := defScope s_law_outs) (by decide +kernel)) (fun _ _ _ _ _ => pg_name (i := 2) sc__law_outs.nd rfl (.inl rfl)) (fun _ _ _ _ _ => pts_nil) (fun _ _ _ _ _ => pe_bmF PySem.F.slot_tuple_count PySem.F.type_tuple_count (mt_tcount (K := K)) (pv 1) (pa_cons (pv 2) pa_nil))) pa_nil))), ?_⟩
  have LB := line_big
  obtain ⟨t, u, rs, rfl, ht, hu, hT⟩ := W
  refine ⟨_, rfl, t, _, 0, _, rfl, rfl, sqT_of ht, atI_nat (j := 0) rfl, n, rfl, by omega, by omega, fun D hD => ?_⟩
  refine lc_range (lo := 0) (n := n.toNat) (fun i G => Ke H G ∧ G D = some (.lst (((upTo i).map fun p => (ws.count p : Int)).map V.int))) ⟨Ke.new hD, upd_same⟩ (fun i G hi hG => ?_) (fun G hG => ?_)
  · obtain ⟨kG, gD⟩ := hG
    refine ⟨rfl, yes_ite ?_⟩
    refine ⟨_, rfl, ⟨a, _, rfl, ha.ke kG⟩, _, rfl, a, ws, _, rfl, rfl, (ha.ke kG).sq, _, gD, by rw [List.length_map, List.length_map, upTo_length]; omega, kG.over hD, ?_⟩
    rw [upd_same, show ((i + 1 : Nat) : Int) = (i : Int) + 1 by omega, upTo_snoc, List.map_append, List.map_append, Int.zero_add]
    rfl
  · obtain ⟨kG, gD⟩ := hG
    rw [show ((n.toNat : Nat) : Int) = n by omega] at gD
    refine ⟨D, _, rfl, .inl ⟨sqL_of gD, fun p np => q _ p (kG.trans (Ke.new np)) upd_same⟩⟩
theorem ok__law_is_ways {P : Program} {w : World} {K : PySem.W.Frag} {mg : Str → Option Value} {base : Heap} {tb : List Addr} {f : Addr} {fd : FuncData} {f__law_is_int : Addr} {fd__law_is_int : FuncData} {f__law_outs : Addr} {fd__law_outs : FuncData} (T : Blt mg) (D__law_is_ways : DefAt K mg "_law_is_ways" s_law_is_ways ["_law_web_here", "_law_d", "_law_thing"] f fd) (D__law_is_int : DefAt K mg "_law_is_int" s_law_is_int ["_law_thing", "_law_least", "_law_most"] f__law_is_int fd__law_is_int) (G__law_is_int : FnOk P w K mg base CX0 1 f__law_is_int fd__law_is_int ["_law_thing", "_law_least", "_law_most"] (sp__law_is_int K tb)) (D__law_outs : DefAt K mg "_law_outs" s_law_outs ["_law_web_here", "_law_ways_here"] f__law_outs fd__law_outs) (G__law_outs : FnOk P w K mg base CX0 1 f__law_outs fd__law_outs ["_law_web_here", "_law_ways_here"] (sp__law_outs K tb)) :
    FnOk P w K mg base CX0 2 f fd ["_law_web_here", "_law_d", "_law_thing"] (sp__law_is_ways K tb) := by
  refine D__law_is_ways.ok sc__law_is_ways (fun vs H Q E h => by
    obtain ⟨v, th, n, ts, d, o, rfl, W, hok, hn0, hn1, hlen, hth, q⟩ := h
    rfl) fun A outer s H vs Q E hr h => ?_
  obtain ⟨v, th, n, ts, d, o, rfl, W, hok, hn0, hn1, hlen, hth, q⟩ := h
  refine ⟨_, pss_cons (ps_if (PW.pt (pw_or (pt_not (pt_val (pe_callB (isiK (K := K)) (by rfl) T.b_isinstance (by decide +kernel) (pa_cons (pv 2) (pa_cons (pe_bltn (v := .ty "tuple") (u := .type "tuple") (by rfl) T.b_tuple (by decide +kernel) rfl) pa_nil))))) (pw_or1 (pt_cmpR op_ne (pe_callB (lenK (K := K)) (by rfl) T.b_len PySem.boot_len (pa_cons (pv 2) pa_nil)) (pe_callB (lenK (K := K)) (by rfl) T.b_len PySem.boot_len (pa_cons (pe_ix (ix_tupK (K := K)) (pv 0) (pe_int) (fun _ _ => rfl)) pa_nil)) (nomark _)))))
     (pss_one (ps_ret (pe_bl)))
     (pss_nil))
     (pss_cons (ps_for PassesOwn.never rfl (RZ.pi_zipA (by rfl) T.b_zip (pa_cons (pe_ix (ix_tupK (K := K)) (pv 0) (pe_int) (fun _ _ => rfl)) (pa_cons (pv 2) pa_nil))) (tgtK (K := K) (n := 2) (pgs_cons (pg_name (i := 3) sc__law_is_ways.nd rfl (.inl rfl)) (pgs_cons (pg_name (i := 4) sc__law_is_ways.nd rfl (.inl rfl)) pgs_nil)))
     (pss_one (ps_if (PW.pt (pw_or (pt_not (pt_val (pe_call G__law_is_int (hr.mono (by decide)) (by rfl) D__law_is_int.g D__law_is_int.F.kp D__law_is_int.b .nil pass0 (pa_cons (pv 4) (pa_cons (pe_int) (pa_cons (pe_op op_sub (pe_ix (ix_tupK (K := K)) (pv 0) (pe_int) (fun _ _ => rfl)) (pe_int)) pa_nil)))))) (pw_or1 (pt_cmpR (notIn_seqK (K := K)) (pv 4) (pv 3) (by rfl)))))
     (pss_one (ps_ret (pe_bl)))
     (pss_nil))))
     (pss_one (ps_ret (pe_cmpR op_le (pe_callB (maxT (K := K) rfl hr.units) (by rfl) T.b_max (by decide +kernel) (pa_cons (pe_call G__law_outs (hr.mono (by decide)) (by rfl) D__law_outs.g D__law_outs.F.kp D__law_outs.b .nil pass0 (pa_cons (pv 0) (pa_cons (pv 2) pa_nil))) pa_nil)) (pv 1) (nomark _))))), ?_⟩
  have LB := line_big
  obtain ⟨tw, u, rs, rfl, htw, hu, hT⟩ := id W
  have hrl := hT.length
  cases hth with
  | @no _ nm h hn =>
    refine ⟨_, rfl, th, _, _, _, _, rfl, .ty _, h.x, isi_noF h hn, _, rfl, ?_⟩
    exact iteT (iteT (q H .refl))
  | @yes a xs h hx =>
    have ht : TyX K H (.ref a) (.type "tuple") := by
      cases (ThF.yes h hx).k (K := K) with
      | yes _ ht _ => exact ht
    refine ⟨_, rfl, _, _, _, _, true, rfl, .ty _, ht, isi_yes, true, rfl, iteF ?_⟩
    refine ⟨_, rfl, a, _, rfl, .inr h.sq, _, rfl, tw, _, 1, _, rfl, rfl, sqT_of htw, atI_nat (j := 1) rfl, u, _, rfl, .inr (sqT_of hu), rfl, _, rfl, ?_⟩
    refine iteB (fun hb => ?_) (fun hb => ?_)
    · have e : rwO n ts d (some xs) = false := by
        have : waysO ts (some xs) = false := by
          rw [Bool.eq_false_iff]
          intro z
          have hb : (!decide (V.int (xs.length : Int) = V.int (rs.length : Int))) = true := hb
          rw [hrl, endsB_len z, decide_eq_true rfl] at hb
          cases hb
        unfold rwO
        rw [this, Bool.false_and]
      have q0 := q H .refl
      rw [e] at q0
      exact q0
    have hl : xs.length = ts.length := by
      have hb : (!decide (V.int (xs.length : Int) = V.int (rs.length : Int))) = false := hb
      rw [decide_int] at hb
      by_cases z : (xs.length : Int) = (rs.length : Int)
      · omega
      · rw [decide_eq_false z] at hb
        cases hb
    refine ⟨_, rfl, tw, _, 1, _, rfl, rfl, sqT_of htw, atI_nat (j := 1) rfl, _, rfl, ?_⟩
    refine ⟨u, a, rs, xs, rfl, .inr ⟨sqT_of hu, h.sq, ?_⟩⟩
    have bad : ∀ (j : Nat) (t : Int × Int) (x : V), ts[j]? = some t → xs[j]? = some x → isEnd t x = false → rwO n ts d (some xs) = false := fun j t x h1 h2 he => by
      have : waysO ts (some xs) = false := by
        rw [Bool.eq_false_iff]
        intro z
        have := (endsB_iff hl).mp z j _ _ h1 h2
        rw [he] at this
        cases this
      unfold rwO
      rw [this, Bool.false_and]
    refine for_it (walk_zipT (K := K) (a := u) (b := a) (xs := rs) (ys := xs) rfl) (fun i σ G => ∃ (y3 y4 : Option V), σ = [some (.ref tw), some (.int d), some (.ref a), y3, y4] ∧ Ke H G ∧ ∀ (j : Nat) (t : Int × Int) (x : V), j < i → ts[j]? = some t → xs[j]? = some x → isEnd t x = true) ⟨_, _, rfl, .refl, fun _ _ _ z => absurd z (Nat.not_lt_zero _)⟩ (fun i σ G _ hG => ?_) (fun i y σ G G' hi hG hy => ?_) (fun σ G hG => ?_)
    · obtain ⟨_, _, _, kG, _⟩ := hG
      exact ⟨sqT_of (kG.tup hu), (h.ke kG).sq⟩
    · obtain ⟨y3, y4, rfl, kG, ho⟩ := hG
      obtain ⟨T1, y1, y2, rfl, nT, rfl, e1, e2⟩ := hy
      have e1 : rs[i]? = some y1 := e1
      have e2 : xs[i]? = some y2 := e2
      obtain ⟨⟨x1, x2⟩, qq, hti, rfl, hq⟩ := hT.get e1
      obtain ⟨ok1, ok2, ok3⟩ := hok _ (List.mem_of_getElem? hti)
      dsimp only at ok1 ok2 ok3
      obtain ⟨nm, hty⟩ := hx y2 (List.mem_of_getElem? e2)
      have kT : Ke H (upd G T1 (.tup [.ref qq, y2])) := kG.trans (Ke.new nT)
      refine ⟨T1, _, rfl, sqT_of upd_same, rfl, _, _, rfl, _, _, rfl, rfl, ?_⟩
      refine ⟨_, rfl, _, rfl, tw, _, 0, _, rfl, rfl, sqT_of (kT.tup htw), atI_nat (j := 0) rfl, _, _, rfl, rfl, y2, 0, n - 1, nm, rfl, hty.ke kT, _, rfl, ?_⟩
      cases hb : isNum y2 0 (n - 1) with
      | false =>
        have he : isEnd (x1, x2) y2 = false := by
          cases y2 with
          | int z =>
            rcases hz : isEnd (x1, x2) (.int z) with _ | _
            · rfl
            · have hz : (decide (z = x1) || decide (z = x2)) = true := hz
              rw [Bool.or_eq_true, decide_eq_true_eq, decide_eq_true_eq] at hz
              have hb : (decide (0 ≤ z) && decide (z ≤ n - 1)) = false := hb
              rw [decide_eq_true (by omega), decide_eq_true (by omega)] at hb
              cases hb
          | _ => rfl
        have q0 := q _ kT
        rw [bad i _ _ hti e2 he] at q0
        exact iteT (iteT q0)
      | true =>
        refine iteF ?_
        cases y2 with
        | int z =>
          refine ⟨_, rfl, _, rfl, qq, _, rfl, .inr (sqT_of (kT.tup hq)), rfl, rfl, _, rfl, ?_⟩
          refine iteB (fun hc => ?_) (fun hc => ?_)
          · have q0 := q _ kT
            have hc : (!inV (V.int z) ([x1, x2].map V.int)) = true := hc
            rw [inV_int] at hc
            have hc : z ∉ [x1, x2] := by simpa using hc
            have he : isEnd (x1, x2) (.int z) = false := by
              show (decide (z = x1) || decide (z = x2)) = false
              rw [decide_eq_false (fun e => hc (by rw [e]; exact List.mem_cons_self)), decide_eq_false (fun e => hc (by rw [e]; exact List.mem_cons_of_mem _ List.mem_cons_self))]
              rfl
            rw [bad i _ _ hti e2 he] at q0
            exact q0
          · refine ⟨_, _, rfl, kT, fun j t x hj h1 h2 => ?_⟩
            by_cases ej : j = i
            · subst ej
              rw [hti] at h1
              rw [e2] at h2
              cases h1
              cases h2
              have hc : (!inV (V.int z) ([x1, x2].map V.int)) = false := hc
              rw [inV_int] at hc
              have hd' : decide (z ∈ [x1, x2]) = true := by
                cases hd : decide (z ∈ [x1, x2]) with
                | true => rfl
                | false => rw [hd] at hc; cases hc
              have hc : z ∈ [x1, x2] := of_decide_eq_true hd'
              show (decide (z = x1) || decide (z = x2)) = true
              rw [Bool.or_eq_true, decide_eq_true_eq, decide_eq_true_eq]
              simp only [List.mem_cons, List.not_mem_nil, or_false] at hc
              exact hc
            · exact ho j t x (by omega) h1 h2
        | _ => cases hb
    · obtain ⟨y3, y4, rfl, kG, ho⟩ := hG
      have he : endsB ts xs = true := (endsB_iff hl).mpr fun j t x h1 h2 => ho j t x (by have := (List.getElem?_eq_some_iff.mp h1).1; omega) h1 h2
      obtain ⟨exs, hW⟩ := ends_ints he
      generalize intsOf xs = ws at exs hW
      subst exs
      refine ⟨_, rfl, _, rfl, .ref tw, n, ts, a, ws, rfl, W.ke kG, by omega, hn1, h.ke kG, fun H2 p k2 hp => ?_⟩
      have hol : (outsL n ws).length = n.toNat := by unfold outsL; rw [List.length_map, upTo_length]
      refine ⟨p, outsL n ws, rfl, sqT_of hp, by omega, fun m hm hmx => ?_⟩
      refine ⟨_, rfl, _, _, rfl, rfl, ?_⟩
      have e := hW.rw (n := n) (d := d) hm hmx
      show Q (V.bl (decide (m ≤ d))) H2
      rw [← e]
      exact q _ (kG.trans k2)
theorem ok__law_is_crowded {P : Program} {w : World} {K : PySem.W.Frag} {mg : Str → Option Value} {base : Heap} {tb : List Addr} {f : Addr} {fd : FuncData} {f__law_within : Addr} {fd__law_within : FuncData} {f__law_is_int : Addr} {fd__law_is_int : FuncData} (T : Blt mg) (D__law_is_crowded : DefAt K mg "_law_is_crowded" s_law_is_crowded ["_law_web_here", "_law_d", "_law_thing"] f fd) (D__law_within : DefAt K mg "_law_within" s_law_within ["_law_web_here", "_law_lot_here"] f__law_within fd__law_within) (G__law_within : FnOk P w K mg base CX0 1 f__law_within fd__law_within ["_law_web_here", "_law_lot_here"] (sp__law_within K tb)) (D__law_is_int : DefAt K mg "_law_is_int" s_law_is_int ["_law_thing", "_law_least", "_law_most"] f__law_is_int fd__law_is_int) (G__law_is_int : FnOk P w K mg base CX0 1 f__law_is_int fd__law_is_int ["_law_thing", "_law_least", "_law_most"] (sp__law_is_int K tb)) :
    FnOk P w K mg base CX0 2 f fd ["_law_web_here", "_law_d", "_law_thing"] (sp__law_is_crowded K tb) := by
  refine D__law_is_crowded.ok sc__law_is_crowded (fun vs H Q E h => by
    obtain ⟨v, th, n, ts, d, o, rfl, W, hd0, hd1, hlen, hth, q⟩ := h
    rfl) fun A outer s H vs Q E hr h => ?_
  obtain ⟨v, th, n, ts, d, o, rfl, W, hd0, hd1, hlen, hth, q⟩ := h
  refine ⟨_, pss_cons (ps_if (PW.pt (pw_or (pt_not (pt_val (pe_callB (isiK (K := K)) (by rfl) T.b_isinstance (by decide +kernel) (pa_cons (pv 2) (pa_cons (pe_bltn (v := .ty "tuple") (u := .type "tuple") (by rfl) T.b_tuple (by decide +kernel) rfl) pa_nil))))) (pw_or1 (pt_cmpR (op_eq0 (K := K) hr.units) (pv 2) (pe_tup pa_nil) (nomark _)))))
     (pss_one (ps_ret (pe_bl)))
     (pss_nil))
     (pss_cons (ps_set (i := 3) sc__law_is_crowded.nd rfl (.inl rfl) (pe_int))
     (pss_cons (ps_for PassesOwn.never rfl (pi_tup (pv 2)) (pg_name (i := 4) sc__law_is_crowded.nd rfl (.inl rfl))
     (pss_cons (ps_if (pt_not (pt_val (pe_call G__law_is_int (hr.mono (by decide)) (by rfl) D__law_is_int.g D__law_is_int.F.kp D__law_is_int.b .nil pass0 (pa_cons (pv 4) (pa_cons (pv 3) (pa_cons (pe_op op_sub (pe_ix (ix_tupK (K := K)) (pv 0) (pe_int) (fun _ _ => rfl)) (pe_int)) pa_nil))))))
     (pss_one (ps_ret (pe_bl)))
     (pss_nil))
     (pss_one (ps_set (i := 3) sc__law_is_crowded.nd rfl (.inl rfl) (pe_op op_add (pv 4) (pe_int))))))
     (pss_one (ps_ret (pe_cmpR op_gt (pe_call G__law_within (hr.mono (by decide)) (by rfl) D__law_within.g D__law_within.F.kp D__law_within.b .nil pass0 (pa_cons (pv 0) (pa_cons (pv 2) pa_nil))) (pe_op op_mul (pv 1) (pe_callB (lenK (K := K)) (by rfl) T.b_len PySem.boot_len (pa_cons (pv 2) pa_nil))) (nomark _)))))), ?_⟩
  have LB := line_big
  obtain ⟨tw, u, rs, rfl, htw, hu, hT⟩ := id W
  cases hth with
  | @no _ nm h hn =>
    refine ⟨_, rfl, th, _, _, _, _, rfl, .ty _, h.x, isi_noF h hn, _, rfl, ?_⟩
    exact iteT (iteT (q H .refl))
  | @yes a xs h ht hx =>
    refine ⟨_, rfl, _, _, _, _, true, rfl, .ty _, ht, isi_yes, true, rfl, iteF ?_⟩
    refine ⟨_, rfl, by show 0 ≤ sizeLine; decide, fun z nz => ?_⟩
    have kz : Ke H (upd H z (.tup [])) := Ke.new nz
    refine ⟨a, z, xs, rfl, rfl, sqT_ke h kz, sqT_of upd_same, _, rfl, iteB (fun hb => ?_) (fun hb => ?_)⟩
    · have q0 := q _ kz
      cases xs with
      | nil => exact q0
      | cons x r => cases hb
    have hne : xs ≠ [] := fun z => by rw [z] at hb; cases hb
    have ebad : rising n 0 xs = false → crowdO n ts d (some xs) = false := fun e => by
      unfold crowdO
      rw [show lotO n (some xs) = rising n 0 xs by cases xs with | nil => exact absurd rfl hne | cons x r => rfl, e, Bool.false_and]
    refine ⟨_, rfl, a, rfl, ⟨_, sqT_ke h kz⟩, ?_⟩
    refine for_tup (K := K) (a := a) (xs := xs) (fun i σ G => ∃ (lo : Int) (y : Option V), σ = [some (.ref tw), some (.int d), some (.ref a), some (.int lo), y] ∧ G = upd H z (.tup []) ∧ rising n 0 xs = rising n lo (xs.drop i)) ⟨0, none, rfl, rfl, rfl⟩ (fun i σ G _ hG => ?_) (fun i x σ G hxi hG => ?_) (fun σ G hG => ?_)
    · obtain ⟨lo, y, _, rfl, _⟩ := hG
      exact sqT_ke h kz
    · obtain ⟨lo, y, rfl, rfl, hr⟩ := hG
      have hi : i < xs.length := (List.getElem?_eq_some_iff.mp hxi).1
      have hd : xs.drop i = x :: xs.drop (i + 1) := by
        rw [List.drop_eq_getElem_cons hi]
        congr 1
        exact Option.some.inj ((List.getElem?_eq_getElem hi).symm.trans hxi)
      rw [hd] at hr
      obtain ⟨nm, hty⟩ := hx x (List.mem_of_getElem? hxi)
      refine ⟨_, rfl, _, rfl, _, rfl, tw, _, 0, _, rfl, rfl, sqT_of (kz.tup htw), atI_nat (j := 0) rfl, _, _, rfl, rfl, x, lo, n - 1, nm, rfl, hty.ke kz, _, rfl, ?_⟩
      cases x with
      | int j =>
        have hr2 : rising n 0 xs = (isNum (.int j) lo (n - 1) && rising n (j + 1) (xs.drop (i + 1))) := hr
        cases hb : isNum (.int j) lo (n - 1) with
        | false =>
          rw [hb, Bool.false_and] at hr2
          have q0 := q _ kz
          rw [ebad hr2] at q0
          exact iteT q0
        | true =>
          rw [hb, Bool.true_and] at hr2
          exact iteF ⟨_, rfl, _, _, rfl, rfl, j + 1, _, rfl, rfl, hr2⟩
      | _ =>
        have hr2 : rising n 0 xs = false := hr
        have q0 := q _ kz
        rw [ebad hr2] at q0
        exact iteT q0
    · obtain ⟨lo, y, rfl, rfl, hr⟩ := hG
      rw [List.drop_of_length_le (Nat.le_refl _)] at hr
      have hr2 : rising n 0 xs = true := hr
      have ei := rising_ints hr2
      have h' : SqT K H a ((intsOf xs).map V.int) := by rw [← ei]; exact h
      refine ⟨_, rfl, _, rfl, .ref tw, n, ts, a, intsOf xs, rfl, W.ke kz, sqT_ke h' kz, hlen, fun H2 k2 => ?_⟩
      refine ⟨_, rfl, _, rfl, a, _, rfl, .inr (sqT_ke h (kz.trans k2)), _, _, rfl, rfl, .inl ⟨by omega, by omega⟩, _, _, rfl, rfl, ?_⟩
      have q0 := q _ (kz.trans k2)
      have e : crowdO n ts d (some xs) = decide ((inside (intsOf xs) ts : Int) > d * (xs.length : Int)) := by
        unfold crowdO
        rw [show lotO n (some xs) = rising n 0 xs by cases xs with | nil => exact absurd rfl hne | cons x r => rfl, hr2, Bool.true_and]
      rw [e] at q0
      exact q0
theorem ok__law_bent_ways {P : Program} {w : World} {K : PySem.W.Frag} {mg : Str → Option Value} {base : Heap} {tb : List Addr} {f : Addr} {fd : FuncData} {f__law_next : Addr} {fd__law_next : FuncData} (T : Blt mg) (D__law_bent_ways : DefAt K mg "_law_bent_ways" s_law_bent_ways ["_law_deck_here", "_law_web_here", "_law_ways_here"] f fd) (D__law_next : DefAt K mg "_law_next" s_law_next ["_law_deck_here"] f__law_next fd__law_next) (G__law_next : FnOk P w K mg base CX0 1 f__law_next fd__law_next ["_law_deck_here"] (sp__law_next K tb)) :
    FnOk P w K mg base CX0 2 f fd ["_law_deck_here", "_law_web_here", "_law_ways_here"] (sp__law_bent_ways K tb) := by
  refine D__law_bent_ways.ok sc__law_bent_ways (fun vs H Q E h => by
    obtain ⟨p, t, u, w, n, rs, ts, ws, rfl, hd, ht, hu, hT, hok, hw, hW, hl, hn0, hn1, q⟩ := h
    rfl) fun A outer s H vs Q E hr h => ?_
  obtain ⟨p, t, u, w, n, rs, ts, ws, rfl, hd, ht, hu, hT, hok, hw, hW, hl, hn0, hn1, q⟩ := h
  refine ⟨_, pss_cons (ps_set (i := 4) sc__law_bent_ways.nd rfl (.inl rfl) (pe_lst (pa_cons (pv 2) (pa_cons (pe_callTy (listK (K := K)) (by rfl) T.b_list (by decide +kernel) (pa_cons (pv 2) pa_nil)) (pa_cons (pe_op (catF (K := K)) (pv 2) (pe_tupF (pa_cons (pe_int) pa_nil))) (pa_cons (pe_slice (sl_tupF (K := K)) (pv 2) (po_some (pe_int)) po_none) (pa_cons (pe_op (catF (K := K)) (pv 2) (pe_tupF (pa_cons (pe_non) pa_nil))) (pa_cons (pe_tupF (pa_cons (pv 2) pa_nil)) (pa_cons (pe_callTy (tupleF (K := K)) (by rfl) T.b_tuple (by decide +kernel) (pa_cons (pe_lc (own := [("_law_own", 3)]) rfl sc__law_bent_ways.nd (pi_tup (pv 2)) (blkOk_by (own := [("_law_own", 3)]) (N := nm__law_bent_ways) (sc := defScope s_law_bent_ways) (by decide +kernel)) (fun _ _ _ _ _ => pg_name (i := 3) sc__law_bent_ways.nd rfl (.inl rfl)) (fun _ _ _ _ _ => pts_nil) (fun _ _ _ _ _ => pe_lst (pa_cons (pv 3) pa_nil))) pa_nil)) pa_nil)))))))))
     (C8.pss_cut (ps_if (pt_cmpR (neDK (K := K) hr.units) (pv 2) (pe_tupF pa_nil) (nomark _))
     (pss_cons (ps_set (i := 5) sc__law_bent_ways.nd rfl (.inl rfl) (pe_op op_mod (pe_call G__law_next (hr.mono (by decide)) (by rfl) D__law_next.g D__law_next.F.kp D__law_next.b .nil pass0 (pa_cons (pv 0) pa_nil)) (pe_callB (lenK (K := K)) (by rfl) T.b_len PySem.boot_len (pa_cons (pv 2) pa_nil))))
     (pss_cons (ps_for PassesOwn.never rfl (pi_list (pe_lst (pa_cons (pe_op op_sub (pe_callB (sumT (K := K) rfl) (by rfl) T.b_sum (by decide +kernel) (pa_cons (pe_ix (ix_tupK (K := K)) (pe_ix (ix_tupK (K := K)) (pv 1) (pe_int) (fun _ _ => rfl)) (pv 5) (fun _ _ => rfl)) pa_nil)) (pe_ix (ix_tupK (K := K)) (pv 2) (pv 5) (fun _ _ => rfl))) (pa_cons (pe_op op_mod (pe_call G__law_next (hr.mono (by decide)) (by rfl) D__law_next.g D__law_next.F.kp D__law_next.b .nil pass0 (pa_cons (pv 0) pa_nil)) (pe_ix (ix_tupK (K := K)) (pv 1) (pe_int) (fun _ _ => rfl))) (pa_cons (pe_bl) (pa_cons (pe_bl) (pa_cons (pe_non) (pa_cons (pe_callTy call_str_int (by rfl) T.b_str (by decide +kernel) (pa_cons (pe_ix (ix_tupK (K := K)) (pv 2) (pv 5) (fun _ _ => rfl)) pa_nil)) (pa_cons (pe_ix (ix_tupK (K := K)) (pv 1) (pe_int) (fun _ _ => rfl)) pa_nil))))))))) (pg_name (i := 6) sc__law_bent_ways.nd rfl (.inl rfl))
     (pss_one (ps_expr (pe_bm PySem.F.plainAttrs_list PySem.F.slot_list_append PySem.F.type_list_append mt_append (pv 4) (pa_cons (pe_op (catF (K := K)) (pe_op (catF (K := K)) (pe_slice (sl_tupF (K := K)) (pv 2) po_none (po_some (pv 5))) (pe_tupF (pa_cons (pv 6) pa_nil))) (pe_slice (sl_tupF (K := K)) (pv 2) (po_some (pe_op op_add (pv 5) (pe_int))) po_none)) pa_nil)))))
     (pss_one (ps_for PassesOwn.never rfl (pi_list (pe_lst (pa_cons (pe_un un_neg (pe_int)) (pa_cons (pe_tupF (pa_cons (pe_ix (ix_tupK (K := K)) (pv 2) (pv 5) (fun _ _ => rfl)) pa_nil)) (pa_cons (pe_ix (ix_tupK (K := K)) (pe_ix (ix_tupK (K := K)) (pv 1) (pe_int) (fun _ _ => rfl)) (pv 5) (fun _ _ => rfl)) (pa_cons (pe_op op_pow (pe_int) (pe_int)) (pa_cons (pe_op op_sub (pe_ix (ix_tupK (K := K)) (pv 2) (pv 5) (fun _ _ => rfl)) (pe_ix (ix_tupK (K := K)) (pv 1) (pe_int) (fun _ _ => rfl))) pa_nil))))))) (pg_name (i := 6) sc__law_bent_ways.nd rfl (.inl rfl))
     (pss_one (ps_expr (pe_bm PySem.F.plainAttrs_list PySem.F.slot_list_append PySem.F.type_list_append mt_append (pv 4) (pa_cons (pe_op (catF (K := K)) (pe_op (catF (K := K)) (pe_slice (sl_tupF (K := K)) (pv 2) po_none (po_some (pv 5))) (pe_tupF (pa_cons (pv 6) pa_nil))) (pe_slice (sl_tupF (K := K)) (pv 2) (po_some (pe_op op_add (pv 5) (pe_int))) po_none)) pa_nil))))))))
     (pss_nil))
     (pss_one (ps_ret (pv 4)))), ?_⟩
  have LB := line_big
  have LZ := sizeLine_eq
  have hwl : ws.length = ts.length := hW.1
  have hwm : (ws.map V.int).length = ws.length := List.length_map _
  have cl : ∀ lo hi, (cutV (ws.map V.int) lo hi).length ≤ 60 := fun lo hi => by have := cutV_length (ws.map V.int) lo hi; omega
  have tyI : ∀ G : Hp, ∀ x ∈ ws.map V.int, ∃ n, TyF G x n := fun G x hx => by
    obtain ⟨i, _, rfl⟩ := List.mem_map.mp hx
    exact ⟨_, .int i⟩
  have tyC : ∀ (G : Hp) lo hi, ∀ x ∈ cutV (ws.map V.int) lo hi, ∃ n, TyF G x n := fun G lo hi x hx => tyI G x (cutV_mem hx)
  refine ⟨_, rfl, _, rfl, w, _, rfl, .inr hw.sq, fun t1 nt1 => ?_⟩
  have k1 : Ke H (upd H t1 (.lst (ws.map V.int))) := Ke.new nt1
  have gt1 : (upd H t1 (.lst (ws.map V.int))) t1 = some (.lst (ws.map V.int)) := upd_same
  generalize upd H t1 _ = G1 at *
  refine ⟨_, rfl, by show 1 ≤ sizeLine; decide, fun t2 G2 nt2 k2 h2 => ⟨w, t2, _, _, rfl, rfl, hw.ke (k1.trans k2), h2, by show (ws.map V.int).length + 1 ≤ sizeLine; omega, fun t3 G3 k3 h3 => ?_⟩⟩
  have kk3 : Ke H G3 := (k1.trans k2).trans k3
  refine ⟨_, rfl, _, rfl, w, _, rfl, hw.ke kk3, fun t4 G4 k4 h4 => ?_⟩
  have kk4 : Ke H G4 := kk3.trans k4
  refine ⟨_, rfl, by show 1 ≤ sizeLine; decide, fun t5 G5 nt5 k5 h5 => ⟨w, t5, _, _, rfl, rfl, hw.ke (kk4.trans k5), h5, by show (ws.map V.int).length + 1 ≤ sizeLine; omega, fun t6 G6 k6 h6 => ?_⟩⟩
  have kk6 : Ke H G6 := (kk4.trans k5).trans k6
  refine ⟨_, rfl, by show 1 ≤ sizeLine; decide, fun t7 G7 nt7 k7 h7 => ?_⟩
  have kk7 : Ke H G7 := kk6.trans k7
  refine ⟨_, rfl, w, rfl, ⟨_, (hw.ke kk7).sq⟩, fun D hD => ?_⟩
  refine lc_tup (K := K) (a := w) (xs := ws.map V.int) (fun i G => ∃ zs : List V, Ke G7 G ∧ G D = some (.lst zs) ∧ zs.length = i ∧ ∀ x ∈ zs, ∃ n, TyF G x n) ⟨[], Ke.new hD, upd_same, rfl, fun _ z => nomatch z⟩ (fun i G _ hG => ?_) (fun i x G hxi hG => ?_) (fun G hG => ?_)
  · obtain ⟨_, kG, _⟩ := hG
    exact ((hw.ke kk7).ke kG).sq
  · obtain ⟨zs, kG, gD, hzl, hzs⟩ := hG
    have hi : i < (ws.map V.int).length := (List.getElem?_eq_some_iff.mp hxi).1
    refine ⟨rfl, yes_ite ?_⟩
    refine ⟨_, rfl, by show 1 ≤ sizeLine; decide, fun tt ntt => ?_⟩
    have kt := kG.trans (Ke.new (o := .lst [x]) ntt)
    refine ⟨zs, lst_new ntt gD, by omega, zs ++ [.ref tt], kt.over hD, upd_same, by rw [List.length_append, hzl]; rfl, fun y hy => ?_⟩
    rcases List.mem_append.mp hy with h | h
    · obtain ⟨nm, hn⟩ := hzs y h
      exact ⟨nm, (hn.ke (Ke.new ntt)).put (lst_new ntt gD)⟩
    · rw [List.mem_singleton.mp h]
      exact ⟨_, .put (.lst upd_same) (lst_new ntt gD)⟩
  obtain ⟨zs, kG, gD, hzl, hzs⟩ := hG
  refine ⟨D, zs, rfl, sqL_of gD, fun t8 o8 nt8 od8 => ⟨by show 7 ≤ sizeLine; decide, fun l nl => ?_⟩⟩
  have m8 : Ke G (upd G t8 (.frz o8 (.tup zs))) := Ke.new nt8
  have h8 : TF (upd G t8 (.frz o8 (.tup zs))) t8 zs := ⟨o8, upd_same, od8⟩
  generalize upd G t8 _ = G8 at *
  have m9 : Ke G8 (upd G8 l (.lst [.ref w, .ref t1, .ref t3, .ref t4, .ref t6, .ref t7, .ref t8])) := Ke.new nl
  have gl : (upd G8 l (.lst [.ref w, .ref t1, .ref t3, .ref t4, .ref t6, .ref t7, .ref t8])) l = some (.lst [.ref w, .ref t1, .ref t3, .ref t4, .ref t6, .ref t7, .ref t8]) := upd_same
  have nl8 := nl
  generalize upd G8 l _ = G9 at *
  have n7 : Ke G7 G9 := (kG.trans m8).trans m9
  have n6 : Ke G6 G9 := k7.trans n7
  have n4 : Ke G4 G9 := (k5.trans k6).trans n6
  have n3 : Ke G3 G9 := k4.trans n4
  have n1 : Ke G1 G9 := (k2.trans k3).trans n3
  have n0 : Ke H G9 := k1.trans n1
  have nlH : H l = none := ((kk7.trans kG).trans m8).dom _ nl8
  have hX : Fths G9 [.ref w, .ref t1, .ref t3, .ref t4, .ref t6, .ref t7, .ref t8] := by
    refine .cons ⟨_, .yes (hw.ke n0) (tyI _)⟩ (.cons (fh_ty (.lst (n1.lst gt1)) (by decide)) (.cons ⟨_, .yes (h3.ke n3) fun x hx => ?_⟩ (.cons ⟨_, .yes (h4.ke n4) (tyC _ _ _)⟩ (.cons ⟨_, .yes (h6.ke n6) fun x hx => ?_⟩ (.cons ⟨_, .yes (h7.ke n7) fun x hx => ?_⟩ (.cons ⟨_, .yes (h8.ke m9) fun x hx => ?_⟩ .nil))))))
    · rcases List.mem_append.mp hx with h | h
      · exact tyI _ x h
      · rw [List.mem_singleton.mp h]; exact ⟨_, .int 0⟩
    · rcases List.mem_append.mp hx with h | h
      · exact tyI _ x h
      · rw [List.mem_singleton.mp h]; exact ⟨_, .non⟩
    · rw [List.mem_singleton.mp hx]; exact ⟨_, .tf (hw.ke n0)⟩
    · exact (hzs x hx).imp fun _ z => z.ke (m8.trans m9)
  clear h3 h4 h6 h7 h8 hzs
  generalize eX : [V.ref w, .ref t1, .ref t3, .ref t4, .ref t6, .ref t7, .ref t8] = X at *
  have hXl : X.length = 7 := by rw [← eX]; rfl
  clear eX
  have kd9 : Dk p H G9 := (Dk.refl hd).ke n0
  refine ⟨fun σ G => ∃ (y3 y5 y6 : Option V) (X : List V), σ = [some (.ref p), some (.ref t), some (.ref w), y3, some (.ref l), y5, y6] ∧ Dk p H G ∧ G l = some (.lst X) ∧ Fths G X ∧ X.length ≤ 40, ?_, fun σ G hG => ?_⟩
  rotate_left
  · obtain ⟨y3, y5, y6, X, rfl, kG, gG, hG, hGl⟩ := hG
    exact ⟨_, rfl, q _ l X kG nlH gG hG (by omega)⟩
  refine ⟨_, rfl, by show 0 ≤ sizeLine; decide, fun e1 Ge ne1 ke he => ?_⟩
  refine ⟨_, _, .tup ((hw.ke (n0.trans ke)).sq) (dp_ints ws), .tup he.sq .nil, shaped_tints ws, rfl, ?_⟩
  rw [eqv_tup0]
  refine ⟨_, rfl, iteB (fun hb => ?_) (fun _ => ⟨_, _, _, X, rfl, kd9.ke ke, ke.lst gl, hX.ke ke, by omega⟩)⟩
  have hne : ws ≠ [] := fun z => by rw [z] at hb; cases hb
  have hpos : 0 < ws.length := List.length_pos_iff.mpr hne
  clear hb
  have kde := kd9.ke ke
  refine ⟨_, rfl, p, rfl, kde.d, fun r1 Ga r10 r11 ka => ⟨_, rfl, w, _, rfl, .inr ((hw.dk (kde.trans ka) hd).sq), _, _, rfl, rfl, by rw [List.length_map]; omega, ?_⟩⟩
  have ea := emod_bds r1 (n := ((ws.map V.int).length : Int)) (by rw [List.length_map]; omega)
  obtain ⟨at_, hat⟩ : ∃ x : Int, x = r1 % ((ws.map V.int).length : Int) := ⟨_, rfl⟩
  dsimp -proj -iota only
  rw [← hat] at ea ⊢
  rw [List.length_map] at ea
  obtain ⟨y, hy, hya, hyv⟩ := at_int (xs := ws) (i := at_) ea.1 ea.2
  have kda := kde.trans ka
  have hyb : 0 ≤ y ∧ y < n := by
    obtain ⟨i, hi⟩ := List.getElem?_of_mem hy
    have hil := (List.getElem?_eq_some_iff.mp hi).1
    have hti : ts[i]? = some ts[i] := List.getElem?_eq_getElem (by omega)
    have ok1 := hok _ (List.mem_of_getElem? hti)
    rcases hW.2 i _ _ hti hi with h | h <;> omega
  have hlog : y.natAbs.log2 < 1920 := by have := Nat.log2_le_self y.natAbs; omega
  have hta := kda.tup hd ht
  have hua := kda.tup hd hu
  have hTa := hT.dk kda hd
  have hwa := hw.dk kda hd
  have gla := ka.lst (ke.lst gl) (hd.ne nlH).symm
  have hXa := (hX.ke ke).dk ka kde.d
  obtain ⟨eq_, heq1, heq2⟩ := hTa.at_ (m := at_) ea.1 (by omega)
  refine ⟨_, rfl, t, _, 1, _, rfl, rfl, sqT_of hta, atI_nat (j := 1) rfl, _, rfl, u, _, at_, _, rfl, rfl, sqT_of hua, heq1, eq_, [_, _], rfl, sqT_of heq2, _, rfl, _, rfl, w, _, _, _, rfl, rfl, hwa.sq, hyv, _, _, rfl, rfl, ?_⟩
  generalize ([(ts.getD at_.toNat (0, 0)).1, (ts.getD at_.toNat (0, 0)).2] : List Int).sum = sm
  refine ⟨_, rfl, p, rfl, kda.d, fun r2 Gb r20 r21 kb => ?_⟩
  have kdb := kda.trans kb
  have htb := kdb.tup hd ht
  have hwb := hw.dk kdb hd
  refine ⟨_, rfl, t, _, 0, _, rfl, rfl, sqT_of htb, atI_nat (j := 0) rfl, _, _, rfl, rfl, by show (0 : Int) < n; omega, ?_⟩
  refine ⟨_, rfl, _, rfl, w, _, _, _, rfl, rfl, hwb.sq, hyv, _, rfl, hlog, _, rfl, t, _, 0, _, rfl, rfl, sqT_of htb, atI_nat (j := 0) rfl, by show 7 ≤ sizeLine; decide, fun lo1 nlo1 => ?_⟩
  have nlo1l : lo1 ≠ l := fun z => by rw [z, kb.lst gla (hd.ne nlH).symm] at nlo1; cases nlo1
  have gl1 := lst_new (o := .lst [.int (sm - y), .int (r2 % n), .bl true, .bl false, .non, .str (Str.ofString (toString y)), .int n]) nlo1 (kb.lst gla (hd.ne nlH).symm)
  have hX1 := (hXa.dk kb kda.d).new (o := .lst [.int (sm - y), .int (r2 % n), .bl true, .bl false, .non, .str (Str.ofString (toString y)), .int n]) nlo1
  have k1d := kdb.new (o := .lst [.int (sm - y), .int (r2 % n), .bl true, .bl false, .non, .str (Str.ofString (toString y)), .int n]) nlo1
  have glo1 : (upd Gb lo1 (.lst [.int (sm - y), .int (r2 % n), .bl true, .bl false, .non, .str (Str.ofString (toString y)), .int n])) lo1 = some (.lst [.int (sm - y), .int (r2 % n), .bl true, .bl false, .non, .str (Str.ofString (toString y)), .int n]) := upd_same
  have hoA : ∀ G : Hp, ∀ x ∈ [V.int (sm - y), .int (r2 % n), .bl true, .bl false, .non, .str (Str.ofString (toString y)), .int n], ∃ nm, TyF G x nm := fun G x hx => by
    simp only [List.mem_cons, List.not_mem_nil, or_false] at hx
    rcases hx with rfl | rfl | rfl | rfl | rfl | rfl | rfl
    · exact ⟨_, .int _⟩
    · exact ⟨_, .int _⟩
    · exact ⟨_, .bl _⟩
    · exact ⟨_, .bl _⟩
    · exact ⟨_, .non⟩
    · exact ⟨_, .str _⟩
    · exact ⟨_, .int _⟩
  generalize upd Gb lo1 _ = G10 at *
  replace hoA := hoA G10
  generalize eos : [V.int (sm - y), .int (r2 % n), .bl true, .bl false, .non, .str (Str.ofString (toString y)), .int n] = os at *
  have hol : os.length = 7 := by rw [← eos]; rfl
  clear eos
  refine ⟨lo1, rfl, ⟨_, sqL_of glo1⟩, ?_⟩
  refine for_list (K := K) (a := lo1) (xs := os) (fun i σ G => ∃ (y3 y6 : Option V) (X : List V), σ = [some (.ref p), some (.ref t), some (.ref w), y3, some (.ref l), some (.int at_), y6] ∧ Dk p H G ∧ G l = some (.lst X) ∧ Fths G X ∧ X.length = 7 + i ∧ G lo1 = some (.lst os) ∧ ∀ x ∈ os, ∃ n, TyF G x n) ⟨_, _, X, rfl, k1d, gl1, hX1, hXl, glo1, hoA⟩ (fun i σ G _ hG => ?_) (fun i x σ G hxi hG => ?_) (fun σ G hG => ?_)
  · obtain ⟨_, _, _, _, _, _, _, _, g, _⟩ := hG
    exact sqL_of g
  · obtain ⟨y3, y6, X, rfl, kG, glG, hxG, hxl, g2G, hoG⟩ := hG
    have hi : i < 7 := by rw [← hol]; exact (List.getElem?_eq_some_iff.mp hxi).1
    have hwG := hw.dk kG hd
    refine ⟨_, rfl, .inl ⟨rfl, _, sqL_of glG⟩, ?_⟩
    refine ⟨_, rfl, _, rfl, _, rfl, w, _, rfl, hwG, fun c5 E1 kf1 hc5 => ?_⟩
    refine ⟨_, rfl, by show 1 ≤ sizeLine; decide, fun t5 E2 nt5 kf2 h5 => ?_⟩
    have bl1 := cl none (some at_)
    have bl2 := cl (some (at_ + 1)) none
    refine ⟨c5, t5, _, _, rfl, rfl, hc5.ke kf2, h5, Nat.le_trans (Nat.add_le_add bl1 (Nat.le_refl 1)) (by omega), fun e5 E3 kf3 he5 => ?_⟩
    have kA : Ke G E3 := (kf1.trans kf2).trans kf3
    refine ⟨_, rfl, _, rfl, _, _, rfl, rfl, _, rfl, w, _, rfl, hwG.ke kA, fun c6 E4 kf4 hc6 => ?_⟩
    refine ⟨e5, c6, _, _, rfl, rfl, he5.ke kf4, hc6, by rw [List.length_append]; exact Nat.le_trans (Nat.add_le_add (Nat.add_le_add bl1 (Nat.le_refl 1)) bl2) (by omega), fun e6 E5 kf5 he6 => ?_⟩
    have kB : Ke G E5 := (kA.trans kf4).trans kf5
    have glF := Ke.lst kB glG
    refine ⟨l, _, _, rfl, rfl, glF, by omega, ?_⟩
    refine ⟨_, _, _, rfl, (kG.ke kB).over hd nlH, upd_same, ((hxG.ke kB).app (.cons ⟨_, .yes he6 fun y hy => ?_⟩ .nil)).put glF, by rw [List.length_append, hxl]; rfl, by rw [upd_ne nlo1l]; exact Ke.lst kB g2G, fun y hy => (hoG y hy).imp fun _ z => (z.ke kB).put glF⟩
    rcases List.mem_append.mp hy with hy | hy
    · rcases List.mem_append.mp hy with hy | hy
      · exact tyC _ _ _ y hy
      · rw [List.mem_singleton.mp hy]
        exact (hoG x (List.mem_of_getElem? hxi)).imp fun _ z => z.ke kB
    · exact tyC _ _ _ y hy
  obtain ⟨y3, y6, X2, rfl, kG, gl_, hX_, hXl_, _, _⟩ := hG
  rw [hol] at hXl_
  have htG := kG.tup hd ht
  have huG := kG.tup hd hu
  have hTG := hT.dk kG hd
  have hwG := hw.dk kG hd
  obtain ⟨ep, hep1, hep2⟩ := hTG.at_ (m := at_) ea.1 (by omega)
  refine ⟨_, rfl, _, rfl, _, rfl, w, _, _, _, rfl, rfl, hwG.sq, hyv, by show 1 ≤ sizeLine; decide, fun tq Gq nq kq hq => ?_⟩
  refine ⟨_, rfl, t, _, 1, _, rfl, rfl, sqT_of (kq.tup htG), atI_nat (j := 1) rfl, _, rfl, u, _, at_, _, rfl, rfl, sqT_of (kq.tup huG), hep1, _, _, rfl, rfl, ⟨by decide, by decide, by decide⟩, _, rfl, _, rfl, w, _, _, _, rfl, rfl, (hwG.ke kq).sq, hyv, _, rfl, t, _, 0, _, rfl, rfl, sqT_of (kq.tup htG), atI_nat (j := 0) rfl, _, _, rfl, rfl, by show 5 ≤ sizeLine; decide, fun lo2 nlo2 => ?_⟩
  have hep3 := kq.tup hep2
  have nlo2l : lo2 ≠ l := fun z => by rw [z, kq.lst gl_] at nlo2; cases nlo2
  have k2n : Ke Gq (upd Gq lo2 (.lst [.int (-1), .ref tq, .ref ep, .int (10 ^ (20 : Int).toNat), .int (y - n)])) := Ke.new nlo2
  have gl2 := k2n.lst (kq.lst gl_)
  have hX2 := (hX_.ke kq).ke k2n
  have k2d := (kG.ke kq).ke k2n
  have glo2 : (upd Gq lo2 (.lst [.int (-1), .ref tq, .ref ep, .int (10 ^ (20 : Int).toNat), .int (y - n)])) lo2 = some (.lst [.int (-1), .ref tq, .ref ep, .int (10 ^ (20 : Int).toNat), .int (y - n)]) := upd_same
  have hoB : ∀ x ∈ ([V.int (-1), .ref tq, .ref ep, .int (10 ^ (20 : Int).toNat), .int (y - n)] : List V), ∃ nm, TyF (upd Gq lo2 (.lst [.int (-1), .ref tq, .ref ep, .int (10 ^ (20 : Int).toNat), .int (y - n)])) x nm := fun x hx => by
    simp only [List.mem_cons, List.not_mem_nil, or_false] at hx
    rcases hx with rfl | rfl | rfl | rfl | rfl
    · exact ⟨_, .int _⟩
    · exact ⟨_, .tf (hq.ke k2n)⟩
    · exact ⟨_, .tup (k2n.tup hep3)⟩
    · exact ⟨_, .int _⟩
    · exact ⟨_, .int _⟩
  generalize upd Gq lo2 _ = G11 at *
  generalize eos2 : ([V.int (-1), .ref tq, .ref ep, .int (10 ^ (20 : Int).toNat), .int (y - n)] : List V) = os2 at *
  have hol2 : os2.length = 5 := by rw [← eos2]; rfl
  clear eos2
  refine ⟨lo2, rfl, ⟨_, sqL_of glo2⟩, ?_⟩
  refine for_list (K := K) (a := lo2) (xs := os2) (fun i σ G => ∃ (y3 y6 : Option V) (X : List V), σ = [some (.ref p), some (.ref t), some (.ref w), y3, some (.ref l), some (.int at_), y6] ∧ Dk p H G ∧ G l = some (.lst X) ∧ Fths G X ∧ X.length = 14 + i ∧ G lo2 = some (.lst os2) ∧ ∀ x ∈ os2, ∃ n, TyF G x n) ⟨_, _, X2, rfl, k2d, gl2, hX2, hXl_, glo2, hoB⟩ (fun i σ G _ hG => ?_) (fun i x σ G hxi hG => ?_) (fun σ G hG => ?_)
  · obtain ⟨_, _, _, _, _, _, _, _, g, _⟩ := hG
    exact sqL_of g
  · obtain ⟨y3, y6, X, rfl, kG, glG, hxG, hxl, g2G, hoG⟩ := hG
    have hi : i < 5 := by rw [← hol2]; exact (List.getElem?_eq_some_iff.mp hxi).1
    have hwG := hw.dk kG hd
    refine ⟨_, rfl, .inl ⟨rfl, _, sqL_of glG⟩, ?_⟩
    refine ⟨_, rfl, _, rfl, _, rfl, w, _, rfl, hwG, fun c5 E1 kf1 hc5 => ?_⟩
    refine ⟨_, rfl, by show 1 ≤ sizeLine; decide, fun t5 E2 nt5 kf2 h5 => ?_⟩
    have bl1 := cl none (some at_)
    have bl2 := cl (some (at_ + 1)) none
    refine ⟨c5, t5, _, _, rfl, rfl, hc5.ke kf2, h5, Nat.le_trans (Nat.add_le_add bl1 (Nat.le_refl 1)) (by omega), fun e5 E3 kf3 he5 => ?_⟩
    have kA : Ke G E3 := (kf1.trans kf2).trans kf3
    refine ⟨_, rfl, _, rfl, _, _, rfl, rfl, _, rfl, w, _, rfl, hwG.ke kA, fun c6 E4 kf4 hc6 => ?_⟩
    refine ⟨e5, c6, _, _, rfl, rfl, he5.ke kf4, hc6, by rw [List.length_append]; exact Nat.le_trans (Nat.add_le_add (Nat.add_le_add bl1 (Nat.le_refl 1)) bl2) (by omega), fun e6 E5 kf5 he6 => ?_⟩
    have kB : Ke G E5 := (kA.trans kf4).trans kf5
    have glF := Ke.lst kB glG
    refine ⟨l, _, _, rfl, rfl, glF, by omega, ?_⟩
    refine ⟨_, _, _, rfl, (kG.ke kB).over hd nlH, upd_same, ((hxG.ke kB).app (.cons ⟨_, .yes he6 fun y hy => ?_⟩ .nil)).put glF, by rw [List.length_append, hxl]; rfl, by rw [upd_ne nlo2l]; exact Ke.lst kB g2G, fun y hy => (hoG y hy).imp fun _ z => (z.ke kB).put glF⟩
    rcases List.mem_append.mp hy with hy | hy
    · rcases List.mem_append.mp hy with hy | hy
      · exact tyC _ _ _ y hy
      · rw [List.mem_singleton.mp hy]
        exact (hoG x (List.mem_of_getElem? hxi)).imp fun _ z => z.ke kB
    · exact tyC _ _ _ y hy
  obtain ⟨y3, y6, X, rfl, kG2, glG, hXG, hXlG, _, _⟩ := hG
  rw [hol2] at hXlG
  exact ⟨_, _, _, X, rfl, kG2, glG, hXG, by omega⟩
theorem ok__law_bent_lots {P : Program} {w : World} {K : PySem.W.Frag} {mg : Str → Option Value} {base : Heap} {tb : List Addr} {f : Addr} {fd : FuncData} {f__law_next : Addr} {fd__law_next : FuncData} (T : Blt mg) (D__law_bent_lots : DefAt K mg "_law_bent_lots" s_law_bent_lots ["_law_deck_here", "_law_web_here", "_law_lot_here"] f fd) (D__law_next : DefAt K mg "_law_next" s_law_next ["_law_deck_here"] f__law_next fd__law_next) (G__law_next : FnOk P w K mg base CX0 1 f__law_next fd__law_next ["_law_deck_here"] (sp__law_next K tb)) :
    FnOk P w K mg base CX0 2 f fd ["_law_deck_here", "_law_web_here", "_law_lot_here"] (sp__law_bent_lots K tb) := by
  refine D__law_bent_lots.ok sc__law_bent_lots (fun vs H Q E h => by
    obtain ⟨p, t, u, a, n, ls, rfl, hd, ht, ha, hL, hn0, hn1, q⟩ := h
    rfl) fun A outer s H vs Q E hr h => ?_
  obtain ⟨p, t, u, a, n, ls, rfl, hd, ht, ha, hL, hn0, hn1, q⟩ := h
  refine ⟨_, pss_cons (ps_set (i := 3) sc__law_bent_lots.nd rfl (.inl rfl) (pe_op op_mod (pe_call G__law_next (hr.mono (by decide)) (by rfl) D__law_next.g D__law_next.F.kp D__law_next.b .nil pass0 (pa_cons (pv 0) pa_nil)) (pe_callB (lenK (K := K)) (by rfl) T.b_len PySem.boot_len (pa_cons (pv 2) pa_nil))))
     (pss_cons (ps_set (i := 4) sc__law_bent_lots.nd rfl (.inl rfl) (pe_lst (pa_cons (pv 2) (pa_cons (pe_callTy (listK (K := K)) (by rfl) T.b_list (by decide +kernel) (pa_cons (pv 2) pa_nil)) (pa_cons ((pe_revT (K := K)) (pv 2)) (pa_cons (pe_op (catU (K := K)) (pe_slice (sl_tupU (K := K)) (pv 2) po_none (po_some (pv 3))) (pe_slice (sl_tupU (K := K)) (pv 2) (po_some (pe_op op_add (pv 3) (pe_int))) po_none)) (pa_cons (pe_op (catU (K := K)) (pv 2) (pe_slice (sl_tupU (K := K)) (pv 2) (po_some (pe_un un_neg (pe_int))) po_none)) (pa_cons (pe_op (catU (K := K)) (pe_slice (sl_tupU (K := K)) (pv 2) po_none (po_some (pe_int))) (pv 2)) (pa_cons (pe_op (catU (K := K)) (pv 2) (pe_tup (pa_cons (pe_ix (ix_tupK (K := K)) (pv 1) (pe_int) (fun _ _ => rfl)) pa_nil))) (pa_cons (pe_tup (pa_cons (pv 2) pa_nil)) pa_nil))))))))))
     (pss_cons (ps_for PassesOwn.never rfl (pi_list (pe_lst (pa_cons (pe_bl) (pa_cons (pe_bl) (pa_cons (pe_non) (pa_cons (pe_callTy call_str_int (by rfl) T.b_str (by decide +kernel) (pa_cons (pe_ix (ix_tupK (K := K)) (pv 2) (pv 3) (fun _ _ => rfl)) pa_nil)) (pa_cons (pe_un un_neg (pe_int)) (pa_cons (pe_op op_sub (pe_ix (ix_tupK (K := K)) (pv 2) (pv 3) (fun _ _ => rfl)) (pe_ix (ix_tupK (K := K)) (pv 1) (pe_int) (fun _ _ => rfl))) (pa_cons (pe_tup (pa_cons (pe_ix (ix_tupK (K := K)) (pv 2) (pv 3) (fun _ _ => rfl)) pa_nil)) (pa_cons (pe_op op_mod (pe_call G__law_next (hr.mono (by decide)) (by rfl) D__law_next.g D__law_next.F.kp D__law_next.b .nil pass0 (pa_cons (pv 0) pa_nil)) (pe_ix (ix_tupK (K := K)) (pv 1) (pe_int) (fun _ _ => rfl))) pa_nil)))))))))) (pg_name (i := 5) sc__law_bent_lots.nd rfl (.inl rfl))
     (pss_one (ps_expr (pe_bm PySem.F.plainAttrs_list PySem.F.slot_list_append PySem.F.type_list_append mt_append (pv 4) (pa_cons (pe_op (catU (K := K)) (pe_op (catU (K := K)) (pe_slice (sl_tupU (K := K)) (pv 2) po_none (po_some (pv 3))) (pe_tup (pa_cons (pv 5) pa_nil))) (pe_slice (sl_tupU (K := K)) (pv 2) (po_some (pe_op op_add (pv 3) (pe_int))) po_none)) pa_nil)))))
     (pss_one (ps_ret (pe_op op_cat (pv 4) (pe_lst (pa_cons (pe_tupRg rfl (by rfl) T.b_tuple (prg_1 (by rfl) T.b_range (pe_ix (ix_tupK (K := K)) (pv 1) (pe_int) (fun _ _ => rfl)))) (pa_cons (pe_tupRg rfl (by rfl) T.b_tuple (prg_1 (by rfl) T.b_range (pe_op op_add (pe_ix (ix_tupK (K := K)) (pv 1) (pe_int) (fun _ _ => rfl)) (pe_int)))) (pa_cons (pe_tupRg rfl (by rfl) T.b_tuple (prg_2 (by rfl) T.b_range (pe_un un_neg (pe_int)) (pe_ix (ix_tupK (K := K)) (pv 1) (pe_int) (fun _ _ => rfl)))) pa_nil))))))))), ?_⟩
  have ht0 := ht
  have LB := line_big
  have LS := sizeLine_eq
  have tyL : ∀ G : Hp, Ths G (ls.map V.int) := fun G => Ths.ints ls
  have hll : (ls.length : Int) ≤ n := by have := hL.length; omega
  have hlm : (ls.map V.int).length ≤ 60 := by rw [List.length_map]; omega
  have hpos : 0 < ls.length := List.length_pos_iff.mpr hL.ne
  have cl : ∀ lo hi, (cutV (ls.map V.int) lo hi).length ≤ 60 := fun lo hi => by have := cutV_length (ls.map V.int) lo hi; omega
  have k2 : Dk p H H := Dk.refl hd
  have hs : Ths H [] := .nil
  refine ⟨_, rfl, p, rfl, hd, fun r1 Ga r10 r11 ka => ?_⟩
  replace ha := ka.tup hd ha
  replace ht := ka.tup hd ht
  replace hs := hs.dk ka hd
  replace k2 := k2.trans ka
  refine ⟨_, rfl, a, _, rfl, .inr (sqT_of ha), _, _, rfl, rfl, by rw [List.length_map]; omega, ?_⟩
  have ea := emod_bds r1 (n := ((ls.map V.int).length : Int)) (by rw [List.length_map]; omega)
  obtain ⟨at_, hat⟩ : ∃ x : Int, x = r1 % ((ls.map V.int).length : Int) := ⟨_, rfl⟩
  dsimp -proj -iota only
  rw [← hat] at ea ⊢
  obtain ⟨y, hy, hya, hyv⟩ := at_int (xs := ls) (i := at_) ea.1 (by rw [List.length_map] at ea; exact ea.2)
  have hyr := hL.ok y hy
  have hlog : y.natAbs.log2 < 1920 := by have := Nat.log2_le_self y.natAbs; omega
  replace hs := Ths.cons (x := .ref a) ((tyL _).tup ha) hs
  refine ⟨_, rfl, _, rfl, a, _, rfl, .inr (sqT_of ha), fun t1 nt1 => ?_⟩
  replace k2 := k2.new (o := .lst (ls.map V.int)) nt1
  have gt1 : (upd Ga t1 (.lst (ls.map V.int))) t1 = some (.lst (ls.map V.int)) := upd_same
  replace ha := tup_new (o := .lst (ls.map V.int)) nt1 ha
  replace ht := tup_new (o := .lst (ls.map V.int)) nt1 ht
  replace hs := hs.new (o := .lst (ls.map V.int)) nt1
  generalize eG1 : upd Ga t1 _ = G1 at *
  clear eG1
  replace hs := Ths.cons (x := .ref t1) (th_lst gt1) hs
  refine ⟨_, rfl, a, _, rfl, sqT_of ha, fun t2 nt2 => ?_⟩
  replace k2 := k2.new (o := .tup (ls.map V.int).reverse) nt2
  have gt2 : (upd G1 t2 (.tup (ls.map V.int).reverse)) t2 = some (.tup (ls.map V.int).reverse) := upd_same
  replace ha := tup_new (o := .tup (ls.map V.int).reverse) nt2 ha
  replace ht := tup_new (o := .tup (ls.map V.int).reverse) nt2 ht
  replace hs := hs.new (o := .tup (ls.map V.int).reverse) nt2
  generalize eG2 : upd G1 t2 _ = G2 at *
  clear eG2
  replace hs := Ths.cons (x := .ref t2) ((tyL _).rev.tup gt2) hs
  refine ⟨_, rfl, _, rfl, _, rfl, a, _, rfl, ha, fun t3 G3 kk3 gt3 => ?_⟩
  replace k2 := k2.ke kk3
  replace ha := kk3.tup ha
  replace ht := kk3.tup ht
  replace hs := hs.ke kk3
  refine ⟨_, rfl, _, rfl, _, _, rfl, rfl, _, rfl, a, _, rfl, ha, fun t4 G4 kk4 gt4 => ?_⟩
  replace k2 := k2.ke kk4
  replace ha := kk4.tup ha
  replace ht := kk4.tup ht
  replace gt3 := kk4.tup gt3
  replace hs := hs.ke kk4
  have b1 := cl none (some at_)
  have b2 := cl (some (at_ + 1)) none
  refine ⟨t3, t4, _, _, rfl, rfl, gt3, gt4, by omega, fun t5 G5 kk5 gt5 => ?_⟩
  replace k2 := k2.ke kk5
  replace ha := kk5.tup ha
  replace ht := kk5.tup ht
  replace gt3 := kk5.tup gt3
  replace hs := hs.ke kk5
  replace hs := Ths.cons (x := .ref t5) (((tyL _).cut.app (tyL _).cut).tup gt5) hs
  refine ⟨_, rfl, _, rfl, _, rfl, _, rfl, a, _, rfl, ha, fun t6 G6 kk6 gt6 => ?_⟩
  replace k2 := k2.ke kk6
  replace ha := kk6.tup ha
  replace ht := kk6.tup ht
  replace hs := hs.ke kk6
  have b3 := cl (some (-1)) none
  refine ⟨a, t6, _, _, rfl, rfl, ha, gt6, by omega, fun t7 G7 kk7 gt7 => ?_⟩
  replace k2 := k2.ke kk7
  replace ha := kk7.tup ha
  replace ht := kk7.tup ht
  replace hs := hs.ke kk7
  replace hs := Ths.cons (x := .ref t7) (((tyL _).app (tyL _).cut).tup gt7) hs
  refine ⟨_, rfl, _, rfl, a, _, rfl, ha, fun t8 G8 kk8 gt8 => ?_⟩
  replace k2 := k2.ke kk8
  replace ha := kk8.tup ha
  replace ht := kk8.tup ht
  replace hs := hs.ke kk8
  have b4 := cl none (some 1)
  refine ⟨_, rfl, t8, a, _, _, rfl, rfl, gt8, ha, by omega, fun t9 G9 kk9 gt9 => ?_⟩
  replace k2 := k2.ke kk9
  replace ha := kk9.tup ha
  replace ht := kk9.tup ht
  replace hs := hs.ke kk9
  replace hs := Ths.cons (x := .ref t9) (((tyL _).cut.app (tyL _)).tup gt9) hs
  refine ⟨_, rfl, _, rfl, t, _, 0, _, rfl, rfl, sqT_of ht, atI_nat (j := 0) rfl, by show 1 ≤ sizeLine; decide, fun t10 nt10 => ?_⟩
  replace k2 := k2.new (o := .tup [.int n]) nt10
  have gt10 : (upd G9 t10 (.tup [.int n])) t10 = some (.tup [.int n]) := upd_same
  replace ha := tup_new (o := .tup [.int n]) nt10 ha
  replace ht := tup_new (o := .tup [.int n]) nt10 ht
  replace hs := hs.new (o := .tup [.int n]) nt10
  generalize eG10 : upd G9 t10 _ = G10 at *
  clear eG10
  refine ⟨a, t10, _, _, rfl, rfl, ha, gt10, by show (ls.map V.int).length + 1 ≤ sizeLine; omega, fun t11 G11 kk11 gt11 => ?_⟩
  replace k2 := k2.ke kk11
  replace ha := kk11.tup ha
  replace ht := kk11.tup ht
  replace hs := hs.ke kk11
  replace hs := Ths.cons (x := .ref t11) (((tyL _).app (.cons (th_int n) .nil)).tup gt11) hs
  refine ⟨_, rfl, by show 1 ≤ sizeLine; decide, fun t12 nt12 => ?_⟩
  replace k2 := k2.new (o := .tup [.ref a]) nt12
  have gt12 : (upd G11 t12 (.tup [.ref a])) t12 = some (.tup [.ref a]) := upd_same
  replace ha := tup_new (o := .tup [.ref a]) nt12 ha
  replace ht := tup_new (o := .tup [.ref a]) nt12 ht
  replace hs := hs.new (o := .tup [.ref a]) nt12
  generalize eG12 : upd G11 t12 _ = G12 at *
  clear eG12
  replace hs := Ths.cons (x := .ref t12) ((Ths.cons ((tyL _).tup ha) .nil).tup gt12) hs
  refine ⟨by show 8 ≤ sizeLine; decide, fun l nl => ?_⟩
  have nlH : H l = none := k2.k.dom _ nl
  have nlp : l ≠ p := (hd.ne nlH).symm
  replace k2 := k2.new (o := .lst [.ref a, .ref t1, .ref t2, .ref t5, .ref t7, .ref t9, .ref t11, .ref t12]) nl
  have gl : (upd G12 l (.lst [.ref a, .ref t1, .ref t2, .ref t5, .ref t7, .ref t9, .ref t11, .ref t12])) l = some (.lst [.ref a, .ref t1, .ref t2, .ref t5, .ref t7, .ref t9, .ref t11, .ref t12]) := upd_same
  replace ha := tup_new (o := .lst [.ref a, .ref t1, .ref t2, .ref t5, .ref t7, .ref t9, .ref t11, .ref t12]) nl ha
  replace ht := tup_new (o := .lst [.ref a, .ref t1, .ref t2, .ref t5, .ref t7, .ref t9, .ref t11, .ref t12]) nl ht
  replace hs := hs.new (o := .lst [.ref a, .ref t1, .ref t2, .ref t5, .ref t7, .ref t9, .ref t11, .ref t12]) nl
  generalize eG13 : upd G12 l _ = G13 at *
  clear eG13
  have hx : Ths G13 [.ref a, .ref t1, .ref t2, .ref t5, .ref t7, .ref t9, .ref t11, .ref t12] := hs.sub fun y hy => by
    simp only [List.mem_cons, List.not_mem_nil, or_false] at hy ⊢
    rcases hy with h | h | h | h | h | h | h | h <;> simp [h]
  clear hs
  generalize eX : [V.ref a, V.ref t1, V.ref t2, V.ref t5, V.ref t7, V.ref t9, V.ref t11, V.ref t12] = X0 at *
  have hX0 : X0.length = 8 := by rw [← eX]; rfl
  clear eX
  refine ⟨_, rfl, _, rfl, a, _, _, _, rfl, rfl, sqT_of ha, hyv, _, rfl, hlog, _, rfl, _, rfl, _, rfl, a, _, _, _, rfl, rfl, sqT_of ha, hyv, _, rfl, t, _, 0, _, rfl, rfl, sqT_of ht, atI_nat (j := 0) rfl, _, _, rfl, rfl, _, rfl, _, rfl, a, _, _, _, rfl, rfl, sqT_of ha, hyv, by show 1 ≤ sizeLine; decide, fun t14 nt14 => ?_⟩
  replace k2 := k2.new (o := .tup [.int y]) nt14
  have gt14 : (upd G13 t14 (.tup [.int y])) t14 = some (.tup [.int y]) := upd_same
  replace gl := lst_new (o := .tup [.int y]) nt14 gl
  replace ha := tup_new (o := .tup [.int y]) nt14 ha
  replace ht := tup_new (o := .tup [.int y]) nt14 ht
  replace hx := hx.new (o := .tup [.int y]) nt14
  generalize eG14 : upd G13 t14 _ = G14 at *
  clear eG14
  refine ⟨_, rfl, p, rfl, k2.d, fun r2 Gb r20 r21 kb => ?_⟩
  replace gl := kb.lst gl (nlp)
  replace ha := kb.tup k2.d ha
  replace ht := kb.tup k2.d ht
  replace gt14 := kb.tup k2.d gt14
  replace hx := hx.dk kb k2.d
  replace k2 := k2.trans kb
  refine ⟨_, rfl, t, _, 0, _, rfl, rfl, sqT_of ht, atI_nat (j := 0) rfl, _, _, rfl, rfl, by show (0 : Int) < n; omega, ?_⟩
  have ho : Ths Gb [.bl true, .bl false, .non, .str (Str.ofString (toString y)), .int (-1), .int (y - n), .ref t14, .int (r2 % n)] := .cons (th_bl _) <| .cons (th_bl _) <| .cons th_non <| .cons (th_str _) <| .cons (th_int _) <| .cons (th_int _) <| .cons ((Ths.cons (th_int _) .nil).tup gt14) <| .cons (th_int _) .nil
  refine ⟨by show 8 ≤ sizeLine; decide, fun t15 nt15 => ?_⟩
  have nl4 : t15 ≠ l := fun z => by rw [z, gl] at nt15; cases nt15
  replace k2 := k2.new (o := .lst [.bl true, .bl false, .non, .str (Str.ofString (toString y)), .int (-1), .int (y - n), .ref t14, .int (r2 % n)]) nt15
  have gt15 : (upd Gb t15 (.lst [.bl true, .bl false, .non, .str (Str.ofString (toString y)), .int (-1), .int (y - n), .ref t14, .int (r2 % n)])) t15 = some (.lst [.bl true, .bl false, .non, .str (Str.ofString (toString y)), .int (-1), .int (y - n), .ref t14, .int (r2 % n)]) := upd_same
  replace gl := lst_new (o := .lst [.bl true, .bl false, .non, .str (Str.ofString (toString y)), .int (-1), .int (y - n), .ref t14, .int (r2 % n)]) nt15 gl
  replace ha := tup_new (o := .lst [.bl true, .bl false, .non, .str (Str.ofString (toString y)), .int (-1), .int (y - n), .ref t14, .int (r2 % n)]) nt15 ha
  replace ht := tup_new (o := .lst [.bl true, .bl false, .non, .str (Str.ofString (toString y)), .int (-1), .int (y - n), .ref t14, .int (r2 % n)]) nt15 ht
  replace hx := hx.new (o := .lst [.bl true, .bl false, .non, .str (Str.ofString (toString y)), .int (-1), .int (y - n), .ref t14, .int (r2 % n)]) nt15
  replace ho := ho.new (o := .lst [.bl true, .bl false, .non, .str (Str.ofString (toString y)), .int (-1), .int (y - n), .ref t14, .int (r2 % n)]) nt15
  generalize eG15 : upd Gb t15 _ = G15 at *
  clear eG15
  generalize eO : [V.bl true, V.bl false, V.non, V.str (Str.ofString (toString y)), V.int (-1), V.int (y - n), V.ref t14, V.int (r2 % n)] = os at *
  have hol : os.length = 8 := by rw [← eO]; rfl
  clear eO
  refine ⟨t15, rfl, ⟨_, sqL_of gt15⟩, ?_⟩
  refine for_list (K := K) (a := t15) (xs := os) (fun i σ G => ∃ (y5 : Option V) (X : List V), σ = [some (.ref p), some (.ref t), some (.ref a), some (.int at_), some (.ref l), y5] ∧ Dk p H G ∧ G a = some (.tup (ls.map V.int)) ∧ G l = some (.lst X) ∧ Ths G X ∧ X.length = 8 + i ∧ G t15 = some (.lst os) ∧ Ths G os) ⟨_, X0, rfl, k2, ha, gl, hx, hX0, gt15, ho⟩ (fun i σ G _ hG => ?_) (fun i x σ G hxi hG => ?_) (fun σ G hG => ?_)
  · obtain ⟨_, _, _, _, _, _, _, _, g, _⟩ := hG
    exact sqL_of g
  · obtain ⟨y5, X, rfl, kG, huG, glG, hxG, hxl, g2G, hoG⟩ := hG
    have hi : i < 8 := by rw [← hol]; exact (List.getElem?_eq_some_iff.mp hxi).1
    refine ⟨_, rfl, .inl ⟨rfl, _, sqL_of glG⟩, ?_⟩
    refine ⟨_, rfl, _, rfl, _, rfl, a, _, rfl, huG, fun c5 E1 kf1 hc5 => ?_⟩
    refine ⟨_, rfl, by show 1 ≤ sizeLine; decide, fun t5 nt5 => ?_⟩
    have kf2 : Ke G (upd E1 t5 (.tup [x])) := kf1.trans (Ke.new nt5)
    have bl1 := cl none (some at_)
    have bl2 := cl (some (at_ + 1)) none
    refine ⟨c5, t5, _, _, rfl, rfl, tup_new nt5 hc5, upd_same, Nat.le_trans (Nat.add_le_add bl1 (Nat.le_refl 1)) (by omega), fun e5 E2 kf3 he5 => ?_⟩
    replace kf2 : Ke G E2 := kf2.trans kf3
    refine ⟨_, rfl, _, rfl, _, _, rfl, rfl, _, rfl, a, _, rfl, Ke.tup kf2 huG, fun c6 E3 kf4 hc6 => ?_⟩
    replace kf2 : Ke G E3 := kf2.trans kf4
    refine ⟨e5, c6, _, _, rfl, rfl, kf4.tup he5, hc6, by rw [List.length_append]; exact Nat.le_trans (Nat.add_le_add (Nat.add_le_add bl1 (Nat.le_refl 1)) bl2) (by omega), fun e6 E4 kf5 he6 => ?_⟩
    replace kf2 : Ke G E4 := kf2.trans kf5
    have glF := Ke.lst kf2 glG
    have hoF := hoG.ke kf2
    refine ⟨l, _, _, rfl, rfl, glF, by omega, ?_⟩
    exact ⟨_, _, rfl, (kG.ke kf2).over hd nlH, by rw [upd_ne (ne_of (Ke.tup kf2 huG) glF (fun z => nomatch z))]; exact Ke.tup kf2 huG, upd_same, ((hxG.ke kf2).app (.cons (((((tyL E4).cut.app (.cons (hoF.all x (List.mem_of_getElem? hxi)) .nil)).app (tyL E4).cut)).tup he6) .nil)).put glF, by rw [List.length_append, hxl]; rfl, by rw [upd_ne nl4]; exact Ke.lst kf2 g2G, hoF.put glF⟩
  obtain ⟨y5, X, rfl, kG, huG, glG, hxG, hxl, _, _⟩ := hG
  rw [hol] at hxl
  have htG := kG.tup hd ht0
  have rg1 : RgOk 0 n := RgOk.of_le (by omega) (by omega) (by omega) (by omega)
  have rg2 : RgOk 0 (n + 1) := RgOk.of_le (by omega) (by omega) (by omega) (by omega)
  have rg3 : RgOk (-1) n := ⟨by omega, by omega, by omega, by omega, by omega⟩
  refine ⟨_, rfl, _, rfl, t, _, 0, _, rfl, rfl, sqT_of htG, atI_nat (j := 0) rfl, n, rfl, rg1, fun u1 nu1 => ?_⟩
  refine ⟨_, rfl, t, _, 0, _, rfl, rfl, sqT_of (tup_new nu1 htG), atI_nat (j := 0) rfl, _, _, rfl, rfl, n + 1, rfl, rg2, fun u2 nu2 => ?_⟩
  refine ⟨_, rfl, _, rfl, t, _, 0, _, rfl, rfl, sqT_of (tup_new nu2 (tup_new nu1 htG)), atI_nat (j := 0) rfl, -1, n, rfl, rfl, rg3, fun u3 nu3 => ⟨by show 3 ≤ sizeLine; decide, fun l2 nl2 => ?_⟩⟩
  have q1 := ((Ths.rg (H := upd G u1 (.tup (rgV 0 n))) 0 n).tup upd_same)
  have hf : Ths (upd (upd (upd (upd G u1 (.tup (rgV 0 n))) u2 (.tup (rgV 0 (n + 1)))) u3 (.tup (rgV (-1) n))) l2 (.lst [.ref u1, .ref u2, .ref u3])) [.ref u1, .ref u2, .ref u3] := .cons ((Ths.rg 0 n).tup (tup_new nl2 (tup_new nu3 (tup_new nu2 upd_same)))) (.cons ((Ths.rg 0 (n + 1)).tup (tup_new nl2 (tup_new nu3 upd_same))) (.cons ((Ths.rg (-1) n).tup (tup_new nl2 upd_same)) .nil))
  have kF : Ke G (upd (upd (upd (upd G u1 (.tup (rgV 0 n))) u2 (.tup (rgV 0 (n + 1)))) u3 (.tup (rgV (-1) n))) l2 (.lst [.ref u1, .ref u2, .ref u3])) := (((Ke.new nu1).trans (Ke.new nu2)).trans (Ke.new nu3)).trans (Ke.new nl2)
  refine ⟨l, l2, _, _, rfl, rfl, kF.lst glG, upd_same, by show X.length + 3 ≤ sizeLine; omega, fun l3 nl3 => ?_⟩
  have kH := kG.ke kF
  exact q _ l3 _ (kH.new nl3) (kH.k.dom _ nl3) upd_same (((hxG.ke kF).app hf).new nl3) (by rw [List.length_append]; show X.length + 3 ≤ 100; omega)
theorem ok_law {P : Program} {w : World} {K : PySem.W.Frag} {mg : Str → Option Value} {base : Heap} {tb : List Addr} {f : Addr} {fd : FuncData} {f_right_ways : Addr} {fd_right_ways : FuncData} {f_right_crowded : Addr} {fd_right_crowded : FuncData} {f__law_deck : Addr} {fd__law_deck : FuncData} {f__law_web : Addr} {fd__law_web : FuncData} {f__law_within : Addr} {fd__law_within : FuncData} {f__law_is_true : Addr} {fd__law_is_true : FuncData} {f__law_lot : Addr} {fd__law_lot : FuncData} {f__law_odd_things : Addr} {fd__law_odd_things : FuncData} {f__law_ways : Addr} {fd__law_ways : FuncData} {f__law_outs : Addr} {fd__law_outs : FuncData} {f__law_is_ways : Addr} {fd__law_is_ways : FuncData} {f__law_is_crowded : Addr} {fd__law_is_crowded : FuncData} {f__law_bent_ways : Addr} {fd__law_bent_ways : FuncData} {f__law_bent_lots : Addr} {fd__law_bent_lots : FuncData} (T : Blt mg) (D_law : DefAt K mg "law" s_law ["_law_script"] f fd) (D_right_ways : DefAt K mg "right_ways" s_right_ways ["web", "d", "thing"] f_right_ways fd_right_ways) (G_right_ways : FnOk P w K mg base CX0 6 f_right_ways fd_right_ways ["web", "d", "thing"] (sp_right_ways K tb)) (D_right_crowded : DefAt K mg "right_crowded" s_right_crowded ["web", "d", "thing"] f_right_crowded fd_right_crowded) (G_right_crowded : FnOk P w K mg base CX0 5 f_right_crowded fd_right_crowded ["web", "d", "thing"] (sp_right_crowded K tb)) (D__law_deck : DefAt K mg "_law_deck" s_law_deck ["_law_script", "_law_many"] f__law_deck fd__law_deck) (G__law_deck : FnOk P w K mg base CX0 2 f__law_deck fd__law_deck ["_law_script", "_law_many"] (sp__law_deck K tb)) (D__law_web : DefAt K mg "_law_web" s_law_web ["_law_deck_here", "_law_points", "_law_most"] f__law_web fd__law_web) (G__law_web : FnOk P w K mg base CX0 4 f__law_web fd__law_web ["_law_deck_here", "_law_points", "_law_most"] (sp__law_web K tb)) (D__law_within : DefAt K mg "_law_within" s_law_within ["_law_web_here", "_law_lot_here"] f__law_within fd__law_within) (G__law_within : FnOk P w K mg base CX0 1 f__law_within fd__law_within ["_law_web_here", "_law_lot_here"] (sp__law_within K tb)) (D__law_is_true : DefAt K mg "_law_is_true" s_law_is_true ["_law_found", "_law_due"] f__law_is_true fd__law_is_true) (G__law_is_true : FnOk P w K mg base CX0 1 f__law_is_true fd__law_is_true ["_law_found", "_law_due"] (sp__law_is_true K tb)) (D__law_lot : DefAt K mg "_law_lot" s_law_lot ["_law_deck_here", "_law_points"] f__law_lot fd__law_lot) (G__law_lot : FnOk P w K mg base CX0 2 f__law_lot fd__law_lot ["_law_deck_here", "_law_points"] (sp__law_lot K tb)) (D__law_odd_things : DefAt K mg "_law_odd_things" s_law_odd_things [] f__law_odd_things fd__law_odd_things) (G__law_odd_things : FnOk P w K mg base CX0 1 f__law_odd_things fd__law_odd_things [] (sp__law_odd_things K tb)) (D__law_ways : DefAt K mg "_law_ways" s_law_ways ["_law_deck_here", "_law_web_here"] f__law_ways fd__law_ways) (G__law_ways : FnOk P w K mg base CX0 2 f__law_ways fd__law_ways ["_law_deck_here", "_law_web_here"] (sp__law_ways K tb)) (D__law_outs : DefAt K mg "_law_outs" s_law_outs ["_law_web_here", "_law_ways_here"] f__law_outs fd__law_outs) (G__law_outs : FnOk P w K mg base CX0 1 f__law_outs fd__law_outs ["_law_web_here", "_law_ways_here"] (sp__law_outs K tb)) (D__law_is_ways : DefAt K mg "_law_is_ways" s_law_is_ways ["_law_web_here", "_law_d", "_law_thing"] f__law_is_ways fd__law_is_ways) (G__law_is_ways : FnOk P w K mg base CX0 2 f__law_is_ways fd__law_is_ways ["_law_web_here", "_law_d", "_law_thing"] (sp__law_is_ways K tb)) (D__law_is_crowded : DefAt K mg "_law_is_crowded" s_law_is_crowded ["_law_web_here", "_law_d", "_law_thing"] f__law_is_crowded fd__law_is_crowded) (G__law_is_crowded : FnOk P w K mg base CX0 2 f__law_is_crowded fd__law_is_crowded ["_law_web_here", "_law_d", "_law_thing"] (sp__law_is_crowded K tb)) (D__law_bent_ways : DefAt K mg "_law_bent_ways" s_law_bent_ways ["_law_deck_here", "_law_web_here", "_law_ways_here"] f__law_bent_ways fd__law_bent_ways) (G__law_bent_ways : FnOk P w K mg base CX0 2 f__law_bent_ways fd__law_bent_ways ["_law_deck_here", "_law_web_here", "_law_ways_here"] (sp__law_bent_ways K tb)) (D__law_bent_lots : DefAt K mg "_law_bent_lots" s_law_bent_lots ["_law_deck_here", "_law_web_here", "_law_lot_here"] f__law_bent_lots fd__law_bent_lots) (G__law_bent_lots : FnOk P w K mg base CX0 2 f__law_bent_lots fd__law_bent_lots ["_law_deck_here", "_law_web_here", "_law_lot_here"] (sp__law_bent_lots K tb)) :
    FnOk P w K mg base CX0 7 f fd ["_law_script"] (sp_law K tb) := by
  refine D_law.ok sc_law (fun vs H Q E h => by
    obtain ⟨a, ns, rfl, hS, hlen, hTb, q⟩ := h
    rfl) fun A outer s H vs Q E hr h => ?_
  obtain ⟨a, ns, rfl, hS, hlen, hTb, q⟩ := h
  refine ⟨_, pss_cons (ps_set (i := 1) sc_law.nd rfl (.inl rfl) (pe_call G__law_deck (hr.mono (by decide)) (by rfl) D__law_deck.g D__law_deck.F.kp D__law_deck.b .nil pass0 (pa_cons (pv 0) (pa_cons (pe_int) pa_nil))))
     (pss_cons (ps_for PassesOwn.never rfl (pi_range1 (by rfl) T.b_range (pa_cons (pe_int) pa_nil)) (pg_name (i := 2) sc_law.nd rfl (.inl rfl))
     (pss_cons (ps_set (i := 3) sc_law.nd rfl (.inl rfl) (pe_call G__law_web (hr.mono (by decide)) (by rfl) D__law_web.g D__law_web.F.kp D__law_web.b .nil pass0 (pa_cons (pv 1) (pa_cons (pe_int) (pa_cons (pe_int) pa_nil)))))
     (pss_cons (ps_set (i := 4) sc_law.nd rfl (.inl rfl) (pe_call G__law_ways (hr.mono (by decide)) (by rfl) D__law_ways.g D__law_ways.F.kp D__law_ways.b .nil pass0 (pa_cons (pv 1) (pa_cons (pv 3) pa_nil))))
     (pss_cons (ps_set (i := 5) sc_law.nd rfl (.inl rfl) (pe_callB (maxT (K := K) rfl hr.units) (by rfl) T.b_max (by decide +kernel) (pa_cons (pe_call G__law_outs (hr.mono (by decide)) (by rfl) D__law_outs.g D__law_outs.F.kp D__law_outs.b .nil pass0 (pa_cons (pv 3) (pa_cons (pv 4) pa_nil))) pa_nil)))
     (pss_cons (ps_for PassesOwn.never rfl (pi_list (pe_op op_cat (pe_call G__law_bent_ways (hr.mono (by decide)) (by rfl) D__law_bent_ways.g D__law_bent_ways.F.kp D__law_bent_ways.b .nil pass0 (pa_cons (pv 1) (pa_cons (pv 3) (pa_cons (pv 4) pa_nil)))) (pe_call0 G__law_odd_things (hr.mono (by decide)) (by rfl) D__law_odd_things.g D__law_odd_things.F.kp D__law_odd_things.b .nil pass0))) (pg_name (i := 6) sc_law.nd rfl (.inl rfl))
     (pss_one (ps_for PassesOwn.never rfl (pi_list (pe_lst (pa_cons (pv 5) (pa_cons (pe_callB (call_max2 rfl) (by rfl) T.b_max (by decide +kernel) (pa_cons (pe_int) (pa_cons (pe_op op_sub (pv 5) (pe_int)) pa_nil))) (pa_cons (pe_int) pa_nil))))) (pg_name (i := 7) sc_law.nd rfl (.inl rfl))
     (pss_one (ps_if (pt_not (pt_val (pe_call G__law_is_true (hr.mono (by decide)) (by rfl) D__law_is_true.g D__law_is_true.F.kp D__law_is_true.b .nil pass0 (pa_cons (pe_call G_right_ways (hr.mono (by decide)) (by rfl) D_right_ways.g D_right_ways.F.kp D_right_ways.b .nil pass0 (pa_cons (pv 3) (pa_cons (pv 7) (pa_cons (pv 6) pa_nil)))) (pa_cons (pe_call G__law_is_ways (hr.mono (by decide)) (by rfl) D__law_is_ways.g D__law_is_ways.F.kp D__law_is_ways.b .nil pass0 (pa_cons (pv 3) (pa_cons (pv 7) (pa_cons (pv 6) pa_nil)))) pa_nil)))))
     (pss_one (ps_ret (pe_bl)))
     (pss_nil))))))
     (pss_cons (ps_set (i := 8) sc_law.nd rfl (.inl rfl) (pe_call G__law_lot (hr.mono (by decide)) (by rfl) D__law_lot.g D__law_lot.F.kp D__law_lot.b .nil pass0 (pa_cons (pv 1) (pa_cons (pe_ix (ix_tupK (K := K)) (pv 3) (pe_int) (fun _ _ => rfl)) pa_nil))))
     (pss_one (ps_for PassesOwn.never rfl (pi_list (pe_op op_cat (pe_call G__law_bent_lots (hr.mono (by decide)) (by rfl) D__law_bent_lots.g D__law_bent_lots.F.kp D__law_bent_lots.b .nil pass0 (pa_cons (pv 1) (pa_cons (pv 3) (pa_cons (pv 8) pa_nil)))) (pe_call0 G__law_odd_things (hr.mono (by decide)) (by rfl) D__law_odd_things.g D__law_odd_things.F.kp D__law_odd_things.b .nil pass0))) (pg_name (i := 6) sc_law.nd rfl (.inl rfl))
     (pss_one (ps_for PassesOwn.never rfl (pi_list (pe_lst (pa_cons (pe_int) (pa_cons (pe_op op_fdiv (pe_call G__law_within (hr.mono (by decide)) (by rfl) D__law_within.g D__law_within.F.kp D__law_within.b .nil pass0 (pa_cons (pv 3) (pa_cons (pv 8) pa_nil))) (pe_callB (lenK (K := K)) (by rfl) T.b_len PySem.boot_len (pa_cons (pv 8) pa_nil))) (pa_cons (pe_callB (call_max2 rfl) (by rfl) T.b_max (by decide +kernel) (pa_cons (pe_int) (pa_cons (pe_op op_fdiv (pe_op op_sub (pe_call G__law_within (hr.mono (by decide)) (by rfl) D__law_within.g D__law_within.F.kp D__law_within.b .nil pass0 (pa_cons (pv 3) (pa_cons (pv 8) pa_nil))) (pe_int)) (pe_callB (lenK (K := K)) (by rfl) T.b_len PySem.boot_len (pa_cons (pv 8) pa_nil))) pa_nil))) pa_nil))))) (pg_name (i := 7) sc_law.nd rfl (.inl rfl))
     (pss_one (ps_if (pt_not (pt_val (pe_call G__law_is_true (hr.mono (by decide)) (by rfl) D__law_is_true.g D__law_is_true.F.kp D__law_is_true.b .nil pass0 (pa_cons (pe_call G_right_crowded (hr.mono (by decide)) (by rfl) D_right_crowded.g D_right_crowded.F.kp D_right_crowded.b .nil pass0 (pa_cons (pv 3) (pa_cons (pv 7) (pa_cons (pv 6) pa_nil)))) (pa_cons (pe_call G__law_is_crowded (hr.mono (by decide)) (by rfl) D__law_is_crowded.g D__law_is_crowded.F.kp D__law_is_crowded.b .nil pass0 (pa_cons (pv 3) (pa_cons (pv 7) (pa_cons (pv 6) pa_nil)))) pa_nil)))))
     (pss_one (ps_ret (pe_bl)))
     (pss_nil)))))))))))))
     (pss_one (ps_ret (pe_bl)))), ?_⟩
  have LB := line_big
  have LZ := sizeLine_eq
  refine ⟨_, rfl, a, ns, 500, rfl, hS, hlen, by decide, by decide, fun p G0 np k0 hd => ?_⟩
  have hT0 : Tabs tb G0 := hTb.kx k0
  refine ⟨2, rfl, by decide, by decide, ?_⟩
  refine for_range (lo := 0) (n := 2) (fun i σ G => ∃ (y2 y3 y4 y5 y6 y7 y8 : Option V), σ = [some (.ref a), some (.ref p), y2, y3, y4, y5, y6, y7, y8] ∧ Dk p G0 G) ⟨_, _, _, _, _, _, _, rfl, Dk.refl hd⟩ (fun i σ G hi hG => ?_) (fun σ G hG => ?_)
  · obtain ⟨y2, y3, y4, y5, y6, y7, y8, rfl, kG⟩ := hG
    refine ⟨_, rfl, p, 8, 10, rfl, kG.d, by decide, by decide, by decide, by decide, fun H1 v n ts k1 W1 hn0 hn1 hl hok => ?_⟩
    have d1 := k1.d
    have hl' : ts.length ≤ 10 := by omega
    obtain ⟨t, u, rs, rfl, ht1, hu1, hT1⟩ := id W1
    refine ⟨_, rfl, _, rfl, p, .ref t, n, ts, rfl, d1, W1, by omega, fun H2 w ws k2 hw hW => ?_⟩
    have d2 := k2.d
    have hwl : ws.length = ts.length := hW.1
    have kG2 := (kG.trans k1).trans k2
    have W2 := W1.dk k2 d1
    refine ⟨_, rfl, _, rfl, .ref t, n, ts, w, ws, rfl, W2, by omega, by omega, hw, fun H3 po k3 hpo => ?_⟩
    have hol : (outsL n ws).length = n.toNat := by unfold outsL; rw [List.length_map, upTo_length]
    refine ⟨po, outsL n ws, rfl, sqT_of hpo, by omega, fun m hm hmx => ?_⟩
    have hmr : 0 ≤ m ∧ m ≤ 10 := by
      unfold outsL at hm
      obtain ⟨x, _, rfl⟩ := List.mem_map.mp hm
      have := List.count_le_length (a := x) (l := ws)
      omega
    have kG3 := kG2.ke k3
    have d3 := kG3.d
    have k13 : Dk p H1 H3 := k2.ke k3
    have W3 := W2.ke k3
    have hw3 := hw.ke k3
    refine ⟨_, rfl, _, rfl, _, rfl, p, t, u, w, n, rs, ts, ws, rfl, d3, k13.tup d1 ht1, k13.tup d1 hu1, hT1.dk k13 d1, hok, hw3, hW, by omega, by omega, by omega, fun H4 l xs k4 nl gl hx hxl => ⟨rfl, fun H5 l2 xs2 k5 nl2 gl2 hx2 hxl2 => ⟨l, l2, _, _, rfl, rfl, k5.lst gl, gl2, by omega, fun l3 nl3 => ?_⟩⟩⟩
    have k6 : Ke H4 (upd H5 l3 (.lst (xs ++ xs2))) := k5.trans (Ke.new nl3)
    have gl3 : (upd H5 l3 (.lst (xs ++ xs2))) l3 = some (.lst (xs ++ xs2)) := upd_same
    have hx6 : Fths (upd H5 l3 (.lst (xs ++ xs2))) (xs ++ xs2) := ((hx.ke k5).app hx2).new nl3
    generalize upd H5 l3 _ = H6 at *
    generalize xs ++ xs2 = X at *
    have k36 : Dk p H3 H6 := k4.ke k6
    have kG6 := kG3.trans k36
    have W6 := W3.dk k36 d3
    refine ⟨l3, rfl, ⟨_, sqL_of gl3⟩, ?_⟩
    refine for_list (K := K) (a := l3) (xs := X) (fun j σ G => ∃ (y2 y6 y7 y8 : Option V), σ = [some (.ref a), some (.ref p), y2, some (.ref t), some (.ref w), some (.int m), y6, y7, y8] ∧ Ke H6 G) ⟨_, _, _, _, rfl, .refl⟩ (fun j σ G _ hG => ?_) (fun j x σ G hxi hG => ?_) (fun σ G hG => ?_)
    · obtain ⟨_, _, _, _, _, kk⟩ := hG
      exact sqL_of (kk.lst gl3)
    · obtain ⟨z2, z6, z7, z8, rfl, kk⟩ := hG
      obtain ⟨o, ho⟩ := hx6.all x (List.mem_of_getElem? hxi)
      refine ⟨_, rfl, _, rfl, _, _, rfl, rfl, _, _, rfl, by show 3 ≤ sizeLine; decide, fun l9 nl9 => ?_⟩
      refine ⟨l9, rfl, ⟨_, sqL_of upd_same⟩, ?_⟩
      refine for_list (K := K) (a := l9) (xs := [V.int m, .int (if m - 1 > 0 then m - 1 else 0), .int 120]) (fun j σ G' => ∃ (y2 y7 y8 : Option V), σ = [some (.ref a), some (.ref p), y2, some (.ref t), some (.ref w), some (.int m), some x, y7, y8] ∧ Ke H6 G' ∧ G' l9 = some (.lst [V.int m, .int (if m - 1 > 0 then m - 1 else 0), .int 120])) ⟨_, _, _, rfl, kk.trans (Ke.new nl9), upd_same⟩ (fun j σ G' _ hG' => ?_) (fun j w' σ G' hw' hG' => ?_) (fun σ G' hG' => ?_)
      · obtain ⟨_, _, _, _, _, g9⟩ := hG'
        exact sqL_of g9
      · obtain ⟨z2, z7, z8, rfl, kG', g9⟩ := hG'
        obtain ⟨d, rfl⟩ : ∃ d : Int, w' = .int d := by
          have := List.mem_of_getElem? hw'
          simp only [List.mem_cons, List.not_mem_nil, or_false] at this
          rcases this with h | h | h <;> exact ⟨_, h⟩
        refine ⟨_, rfl, _, rfl, _, rfl, .ref t, x, n, ts, d, o, rfl, W6.ke kG', by omega, by omega, hok, by omega, (ho.ke kG').k, hT0.dk (kG6.ke kG'), fun Gx kx => ?_⟩
        have kkx := kG'.trans kx
        refine ⟨_, rfl, _, rfl, _, rfl, .ref t, x, n, ts, d, o, rfl, W6.ke kkx, hok, by omega, by omega, by omega, ho.ke kkx, fun Gy ky => ?_⟩
        refine ⟨_, _, rfl, _, rfl, ?_⟩
        refine iteB (fun hb => ?_) (fun _ => ⟨_, _, _, rfl, kkx.trans ky, Ke.lst (kx.trans ky) g9⟩)
        have hb : (!decide (rwO n ts d o = rwO n ts d o)) = true := hb
        rw [decide_eq_true rfl] at hb
        cases hb
      · obtain ⟨z2, z7, z8, rfl, kG', _⟩ := hG'
        exact ⟨_, _, _, _, rfl, kG'⟩
    obtain ⟨z2, z6, z7, z8, rfl, kC⟩ := hG
    have kGC := kG6.ke kC
    have dC := kGC.d
    have k1C : Dk p H1 G := (k13.trans k36).ke kC
    have htC := k1C.tup d1 ht1
    have WC := W6.ke kC
    clear hx hx2 hx6 gl gl2 gl3
    refine ⟨_, rfl, _, rfl, t, _, 0, _, rfl, rfl, sqT_of htC, atI_nat (j := 0) rfl, p, n, rfl, dC, by omega, by omega, fun H7 lo ls k7 nlo glo hL => ?_⟩
    have d7 := k7.d
    have hll := hL.length
    have hpos : 0 < ls.length := List.length_pos_iff.mpr hL.ne
    have W7 := WC.dk k7 dC
    have kG7 := kGC.trans k7
    refine ⟨_, rfl, _, rfl, _, rfl, p, t, u, lo, n, ls, rfl, d7, k7.tup dC htC, glo, hL, by omega, by omega, fun H8 l xs k8 nl gl hx hxl => ⟨rfl, fun H9 l2 xs2 k9 nl2 gl2 hx2 hxl2 => ⟨l, l2, _, _, rfl, rfl, k9.lst gl, gl2, by omega, fun l3 nl3 => ?_⟩⟩⟩
    have kA : Ke H8 (upd H9 l3 (.lst (xs ++ xs2))) := k9.trans (Ke.new nl3)
    have gl3 : (upd H9 l3 (.lst (xs ++ xs2))) l3 = some (.lst (xs ++ xs2)) := upd_same
    have hxA : ∀ x ∈ xs ++ xs2, ∃ o, ∀ G, Ke (upd H9 l3 (.lst (xs ++ xs2))) G → ThG K G x o := fun x hm => by
      rcases List.mem_append.mp hm with h | h
      · obtain ⟨o, ho⟩ := hx.all x h
        exact ⟨o, fun G k => (ho.ke (kA.trans k)).g⟩
      · obtain ⟨o, ho⟩ := hx2.all x h
        exact ⟨o, fun G k => (ho.ke (Kx.trans (Ke.new nl3) k)).k⟩
    have gloA : (upd H9 l3 (.lst (xs ++ xs2))) lo = some (.tup (ls.map V.int)) := kA.tup (k8.tup d7 glo)
    generalize upd H9 l3 _ = HA at *
    generalize xs ++ xs2 = X at *
    have kGA := (kG7.trans k8).ke kA
    have WA := (W7.dk k8 d7).ke kA
    refine ⟨l3, rfl, ⟨_, sqL_of gl3⟩, ?_⟩
    refine for_list (K := K) (a := l3) (xs := X) (fun j σ G => ∃ (y2 y6 y7 : Option V), σ = [some (.ref a), some (.ref p), y2, some (.ref t), some (.ref w), some (.int m), y6, y7, some (.ref lo)] ∧ Ke HA G) ⟨_, _, _, rfl, .refl⟩ (fun j σ G _ hG => ?_) (fun j x σ G hxi hG => ?_) (fun σ G hG => ?_)
    · obtain ⟨_, _, _, _, kk⟩ := hG
      exact sqL_of (kk.lst gl3)
    · obtain ⟨z2, z6, z7, rfl, kk⟩ := hG
      obtain ⟨o, ho⟩ := hxA x (List.mem_of_getElem? hxi)
      have hins := inside_le ls ts
      have hlm : (ls.map V.int).length = ls.length := List.length_map _
      refine ⟨_, rfl, _, rfl, .ref t, n, ts, lo, ls, rfl, WA.ke kk, sqT_of (kk.tup gloA), by omega, fun Hb kb => ?_⟩
      have kkb := kk.trans kb
      refine ⟨_, rfl, lo, _, rfl, .inr (sqT_of (Ke.tup kkb gloA)), _, _, rfl, rfl, ⟨by omega, by omega⟩, ?_⟩
      refine ⟨_, rfl, _, rfl, .ref t, n, ts, lo, ls, rfl, WA.ke kkb, sqT_of (Ke.tup kkb gloA), by omega, fun Hc kc => ?_⟩
      have kkc := kkb.trans kc
      refine ⟨_, _, rfl, rfl, _, rfl, lo, _, rfl, .inr (sqT_of (Ke.tup kkc gloA)), _, _, rfl, rfl, ⟨by omega, by omega⟩, _, _, rfl, by show 3 ≤ sizeLine; decide, fun l9 nl9 => ?_⟩
      obtain ⟨A, hA⟩ : ∃ y : Int, y = (inside ls ts : Int) / ((ls.map V.int).length : Int) := ⟨_, rfl⟩
      obtain ⟨B, hB⟩ : ∃ y : Int, y = (if ((inside ls ts : Int) - 1) / ((ls.map V.int).length : Int) > 0 then ((inside ls ts : Int) - 1) / ((ls.map V.int).length : Int) else 0) := ⟨_, rfl⟩
      dsimp -proj -iota only
      rw [← hA, ← hB]
      have hAr : 0 ≤ A ∧ A ≤ 10 := by
        have h1 : 0 ≤ (inside ls ts : Int) / ((ls.map V.int).length : Int) := Int.ediv_nonneg (by omega) (by omega)
        have h2 : (inside ls ts : Int) / ((ls.map V.int).length : Int) ≤ inside ls ts := Int.ediv_le_self _ (by omega)
        rw [hA]
        omega
      have hBr : 0 ≤ B ∧ B ≤ 10 := by
        rw [hB]
        split
        · rename_i hgt
          have h3 : 0 ≤ (inside ls ts : Int) - 1 := by
            by_cases z : 0 ≤ (inside ls ts : Int) - 1
            · exact z
            · have : ((inside ls ts : Int) - 1) / ((ls.map V.int).length : Int) < 0 := Int.ediv_neg_of_neg_of_pos (by omega) (by omega)
              omega
          have h2 : ((inside ls ts : Int) - 1) / ((ls.map V.int).length : Int) ≤ (inside ls ts : Int) - 1 := Int.ediv_le_self _ h3
          omega
        · omega
      clear hA hB
      refine ⟨l9, rfl, ⟨_, sqL_of upd_same⟩, ?_⟩
      refine for_list (K := K) (a := l9) (xs := [V.int 0, .int A, .int B]) (fun j σ G' => ∃ (y2 y7 : Option V), σ = [some (.ref a), some (.ref p), y2, some (.ref t), some (.ref w), some (.int m), some x, y7, some (.ref lo)] ∧ Ke HA G' ∧ G' l9 = some (.lst [V.int 0, .int A, .int B])) ⟨_, _, rfl, kkc.trans (Ke.new nl9), upd_same⟩ (fun j σ G' _ hG' => ?_) (fun j w' σ G' hw' hG' => ?_) (fun σ G' hG' => ?_)
      · obtain ⟨_, _, _, _, g9⟩ := hG'
        exact sqL_of g9
      · obtain ⟨z2, z7, rfl, kG', g9⟩ := hG'
        obtain ⟨d, rfl, dd0, dd1⟩ : ∃ d : Int, w' = .int d ∧ 0 ≤ d ∧ d ≤ 10 := by
          have := List.mem_of_getElem? hw'
          simp only [List.mem_cons, List.not_mem_nil, or_false] at this
          rcases this with h | h | h
          · exact ⟨_, h, by omega, by omega⟩
          · exact ⟨_, h, hAr.1, hAr.2⟩
          · exact ⟨_, h, hBr.1, hBr.2⟩
        refine ⟨_, rfl, _, rfl, _, rfl, .ref t, x, n, ts, d, o, rfl, WA.ke kG', dd0, by omega, by omega, ho _ kG', hT0.dk (kGA.ke kG'), fun Gx kx => ?_⟩
        have kkx := kG'.trans kx
        refine ⟨_, rfl, _, rfl, _, rfl, .ref t, x, n, ts, d, o, rfl, WA.ke kkx, dd0, by omega, by omega, ho _ kkx, fun Gy ky => ?_⟩
        refine ⟨_, _, rfl, _, rfl, ?_⟩
        refine iteB (fun hb => ?_) (fun _ => ⟨_, _, rfl, kkx.trans ky, Ke.lst (kx.trans ky) g9⟩)
        have hb : (!decide (crowdO n ts d o = crowdO n ts d o)) = true := hb
        rw [decide_eq_true rfl] at hb
        cases hb
      · obtain ⟨z2, z7, rfl, kG', _⟩ := hG'
        exact ⟨_, _, _, rfl, kG'⟩
    · obtain ⟨z2, z6, z7, rfl, kk⟩ := hG
      exact ⟨_, _, _, _, _, _, _, rfl, kGA.ke kk⟩
  · exact q _
/-! ### the head -/
def d_is_number : He.DefD := ⟨("is_number", none), "is_number", "is_number", defArgs s_is_number, defBody s_is_number, defScope s_is_number, [], []⟩
def d_is_rising : He.DefD := ⟨("is_rising", none), "is_rising", "is_rising", defArgs s_is_rising, defBody s_is_rising, defScope s_is_rising, [], []⟩
def d_shares_of : He.DefD := ⟨("shares_of", none), "shares_of", "shares_of", defArgs s_shares_of, defBody s_shares_of, defScope s_shares_of, [], []⟩
def d_ties_within : He.DefD := ⟨("ties_within", none), "ties_within", "ties_within", defArgs s_ties_within, defBody s_ties_within, defScope s_ties_within, [], []⟩
def d_is_lot : He.DefD := ⟨("is_lot", none), "is_lot", "is_lot", defArgs s_is_lot, defBody s_is_lot, defScope s_is_lot, [], []⟩
def d_right_ways : He.DefD := ⟨("right_ways", none), "right_ways", "right_ways", defArgs s_right_ways, defBody s_right_ways, defScope s_right_ways, [], []⟩
def d_is_ways : He.DefD := ⟨("is_ways", none), "is_ways", "is_ways", defArgs s_is_ways, defBody s_is_ways, defScope s_is_ways, [], []⟩
def d_right_crowded : He.DefD := ⟨("right_crowded", none), "right_crowded", "right_crowded", defArgs s_right_crowded, defBody s_right_crowded, defScope s_right_crowded, [], []⟩
def d_outs_of : He.DefD := ⟨("outs_of", none), "outs_of", "outs_of", defArgs s_outs_of, defBody s_outs_of, defScope s_outs_of, [], []⟩
def d_law_mixed : He.DefD := ⟨("_law_mixed", none), "_law_mixed", "_law_mixed", defArgs s_law_mixed, defBody s_law_mixed, defScope s_law_mixed, [], []⟩
def d_law_deck : He.DefD := ⟨("_law_deck", none), "_law_deck", "_law_deck", defArgs s_law_deck, defBody s_law_deck, defScope s_law_deck, [], []⟩
def d_law_next : He.DefD := ⟨("_law_next", none), "_law_next", "_law_next", defArgs s_law_next, defBody s_law_next, defScope s_law_next, [], []⟩
def d_law_tie : He.DefD := ⟨("_law_tie", none), "_law_tie", "_law_tie", defArgs s_law_tie, defBody s_law_tie, defScope s_law_tie, [], []⟩
def d_law_any_web : He.DefD := ⟨("_law_any_web", none), "_law_any_web", "_law_any_web", defArgs s_law_any_web, defBody s_law_any_web, defScope s_law_any_web, [], []⟩
def d_law_round : He.DefD := ⟨("_law_round", none), "_law_round", "_law_round", defArgs s_law_round, defBody s_law_round, defScope s_law_round, [], []⟩
def d_law_full : He.DefD := ⟨("_law_full", none), "_law_full", "_law_full", defArgs s_law_full, defBody s_law_full, defScope s_law_full, [], []⟩
def d_law_tree : He.DefD := ⟨("_law_tree", none), "_law_tree", "_law_tree", defArgs s_law_tree, defBody s_law_tree, defScope s_law_tree, [], []⟩
def d_law_web : He.DefD := ⟨("_law_web", none), "_law_web", "_law_web", defArgs s_law_web, defBody s_law_web, defScope s_law_web, [], []⟩
def d_law_within : He.DefD := ⟨("_law_within", none), "_law_within", "_law_within", defArgs s_law_within, defBody s_law_within, defScope s_law_within, [], []⟩
def d_law_is_int : He.DefD := ⟨("_law_is_int", none), "_law_is_int", "_law_is_int", defArgs s_law_is_int, defBody s_law_is_int, defScope s_law_is_int, [], []⟩
def d_law_is_true : He.DefD := ⟨("_law_is_true", none), "_law_is_true", "_law_is_true", defArgs s_law_is_true, defBody s_law_is_true, defScope s_law_is_true, [], []⟩
def d_law_lot : He.DefD := ⟨("_law_lot", none), "_law_lot", "_law_lot", defArgs s_law_lot, defBody s_law_lot, defScope s_law_lot, [], []⟩
def d_law_odd_things : He.DefD := ⟨("_law_odd_things", none), "_law_odd_things", "_law_odd_things", defArgs s_law_odd_things, defBody s_law_odd_things, defScope s_law_odd_things, [], []⟩
def d_law_ways : He.DefD := ⟨("_law_ways", none), "_law_ways", "_law_ways", defArgs s_law_ways, defBody s_law_ways, defScope s_law_ways, [], []⟩
def d_law_outs : He.DefD := ⟨("_law_outs", none), "_law_outs", "_law_outs", defArgs s_law_outs, defBody s_law_outs, defScope s_law_outs, [], []⟩
def d_law_is_ways : He.DefD := ⟨("_law_is_ways", none), "_law_is_ways", "_law_is_ways", defArgs s_law_is_ways, defBody s_law_is_ways, defScope s_law_is_ways, [], []⟩
def d_law_is_crowded : He.DefD := ⟨("_law_is_crowded", none), "_law_is_crowded", "_law_is_crowded", defArgs s_law_is_crowded, defBody s_law_is_crowded, defScope s_law_is_crowded, [], []⟩
def d_law_bent_ways : He.DefD := ⟨("_law_bent_ways", none), "_law_bent_ways", "_law_bent_ways", defArgs s_law_bent_ways, defBody s_law_bent_ways, defScope s_law_bent_ways, [], []⟩
def d_law_bent_lots : He.DefD := ⟨("_law_bent_lots", none), "_law_bent_lots", "_law_bent_lots", defArgs s_law_bent_lots, defBody s_law_bent_lots, defScope s_law_bent_lots, [], []⟩
def d_law : He.DefD := ⟨("law", none), "law", "law", defArgs s_law, defBody s_law, defScope s_law, [], []⟩
def fn : List He.DefD := [d_is_number, d_is_rising, d_shares_of, d_ties_within, d_is_lot, d_right_ways, d_is_ways, d_right_crowded, d_outs_of, d_law_mixed, d_law_deck, d_law_next, d_law_tie, d_law_any_web, d_law_round, d_law_full, d_law_tree, d_law_web, d_law_within, d_law_is_int, d_law_is_true, d_law_lot, d_law_odd_things, d_law_ways, d_law_outs, d_law_is_ways, d_law_is_crowded, d_law_bent_ways, d_law_bent_lots, d_law]
def fa : List He.Fa := [.glo "is_number", .glo "is_rising", .glo "shares_of", .glo "ties_within", .glo "is_lot", .glo "right_ways", .glo "is_ways", .glo "right_crowded", .glo "outs_of", .glo "_law_mixed", .glo "_law_deck", .glo "_law_next", .glo "_law_tie", .glo "_law_any_web", .glo "_law_round", .glo "_law_full", .glo "_law_tree", .glo "_law_web", .glo "_law_within", .glo "_law_is_int", .glo "_law_is_true", .glo "_law_lot", .glo "_law_odd_things", .glo "_law_ways", .glo "_law_outs", .glo "_law_is_ways", .glo "_law_is_crowded", .glo "_law_bent_ways", .glo "_law_bent_lots", .glo "law", .free "all", .free "bool", .free "int", .free "isinstance", .free "len", .free "list", .free "max", .free "min", .free "range", .free "reversed", .free "str", .free "sum", .free "tuple", .free "zip"]
def tf : List He.Defn := [("ties_within", none), ("is_ways", none)]
abbrev R : PySem.W.OpenRow := PySem.W.OpenLaw.row PySem.Challenge.rw_fewforests_k50_ways_bent
abbrev hk : PySem.W.Hook := He.hookX 4 fa fn [] tf (fun _ => true)
def ob (s : PySem.W.SharedT) : He.AlX := He.obsX 4 fa fn [] tf (fun _ => true) (HandSHeadRun.getT s)
theorem ob_eq (s : PySem.W.SharedT) : ob s = hk.obs s.abs := He.obsX_eq (HandSHeadRun.getT_eq s)
def loose : List PySem.Str := "is_number" :: "is_rising" :: "shares_of" :: "ties_within" :: "is_lot" :: "right_ways" :: "is_ways" :: "right_crowded" :: "outs_of" :: "_law_mixed" :: "_law_deck" :: "_law_next" :: "_law_tie" :: "_law_any_web" :: "_law_round" :: "_law_full" :: "_law_tree" :: "_law_web" :: "_law_within" :: "_law_is_int" :: "_law_is_true" :: "_law_lot" :: "_law_odd_things" :: "_law_ways" :: "_law_outs" :: "_law_is_ways" :: "_law_is_crowded" :: "_law_bent_ways" :: "_law_bent_lots" :: []
theorem run (w : World) : HandSHeadRun.RunEq R (PySem.W.view R.prog [34]) hk ob 3000 loose w := by
  intro os
  kernel_rfl
theorem lawAt {w : World} {K : PySem.W.Frag} {h : Heap} {mg : Str → Option Value} {f : Addr} (X : K.In h) (G : h.Ns mainGlobals mg) (hfa : mg ("law" : Str) = some (.ref f)) (c : He.SaysX fa fn [] tf (fun _ => true) w h K) :
    LamX.LawAtS PySem.Challenge.rw_fewforests_k50_ways_bent w K CX0 7 63 "_law_script" mg f h := by
  have cd : He.SaysD fa fn K := c.t.d
  obtain ⟨fd_is_number, F_is_number⟩ := cd.def_ 0 (d := d_is_number) rfl
  have g_is_number := He.glo_ok X G (cd.fact 0 (f := .glo "is_number") rfl)
  have D_is_number : DefAt K mg "is_number" s_is_number ["thing", "least", "most"] _ fd_is_number := ⟨F_is_number, g_is_number, FunD.bindsN F_is_number fun _ _ _ _ _ _ us hl => match us, hl with | [_, _, _], _ => rfl⟩
  obtain ⟨fd_is_rising, F_is_rising⟩ := cd.def_ 1 (d := d_is_rising) rfl
  have g_is_rising := He.glo_ok X G (cd.fact 1 (f := .glo "is_rising") rfl)
  have D_is_rising : DefAt K mg "is_rising" s_is_rising ["thing", "most"] _ fd_is_rising := ⟨F_is_rising, g_is_rising, FunD.bindsN F_is_rising fun _ _ _ _ _ _ us hl => match us, hl with | [_, _], _ => rfl⟩
  obtain ⟨fd_shares_of, F_shares_of⟩ := cd.def_ 2 (d := d_shares_of) rfl
  have g_shares_of := He.glo_ok X G (cd.fact 2 (f := .glo "shares_of") rfl)
  have D_shares_of : DefAt K mg "shares_of" s_shares_of ["points", "holders"] _ fd_shares_of := ⟨F_shares_of, g_shares_of, FunD.bindsN F_shares_of fun _ _ _ _ _ _ us hl => match us, hl with | [_, _], _ => rfl⟩
  obtain ⟨fd_ties_within, F_ties_within⟩ := cd.def_ 3 (d := d_ties_within) rfl
  have g_ties_within := He.glo_ok X G (cd.fact 3 (f := .glo "ties_within") rfl)
  have D_ties_within : DefAt K mg "ties_within" s_ties_within ["web", "lot"] _ fd_ties_within := ⟨F_ties_within, g_ties_within, FunD.bindsN F_ties_within fun _ _ _ _ _ _ us hl => match us, hl with | [_, _], _ => rfl⟩
  obtain ⟨fd_is_lot, F_is_lot⟩ := cd.def_ 4 (d := d_is_lot) rfl
  have g_is_lot := He.glo_ok X G (cd.fact 4 (f := .glo "is_lot") rfl)
  have D_is_lot : DefAt K mg "is_lot" s_is_lot ["web", "thing"] _ fd_is_lot := ⟨F_is_lot, g_is_lot, FunD.bindsN F_is_lot fun _ _ _ _ _ _ us hl => match us, hl with | [_, _], _ => rfl⟩
  obtain ⟨fd_right_ways, F_right_ways⟩ := cd.def_ 5 (d := d_right_ways) rfl
  have g_right_ways := He.glo_ok X G (cd.fact 5 (f := .glo "right_ways") rfl)
  have D_right_ways : DefAt K mg "right_ways" s_right_ways ["web", "d", "thing"] _ fd_right_ways := ⟨F_right_ways, g_right_ways, FunD.bindsN F_right_ways fun _ _ _ _ _ _ us hl => match us, hl with | [_, _, _], _ => rfl⟩
  obtain ⟨fd_is_ways, F_is_ways⟩ := cd.def_ 6 (d := d_is_ways) rfl
  have g_is_ways := He.glo_ok X G (cd.fact 6 (f := .glo "is_ways") rfl)
  have D_is_ways : DefAt K mg "is_ways" s_is_ways ["web", "thing"] _ fd_is_ways := ⟨F_is_ways, g_is_ways, FunD.bindsN F_is_ways fun _ _ _ _ _ _ us hl => match us, hl with | [_, _], _ => rfl⟩
  obtain ⟨fd_right_crowded, F_right_crowded⟩ := cd.def_ 7 (d := d_right_crowded) rfl
  have g_right_crowded := He.glo_ok X G (cd.fact 7 (f := .glo "right_crowded") rfl)
  have D_right_crowded : DefAt K mg "right_crowded" s_right_crowded ["web", "d", "thing"] _ fd_right_crowded := ⟨F_right_crowded, g_right_crowded, FunD.bindsN F_right_crowded fun _ _ _ _ _ _ us hl => match us, hl with | [_, _, _], _ => rfl⟩
  obtain ⟨fd_outs_of, F_outs_of⟩ := cd.def_ 8 (d := d_outs_of) rfl
  have g_outs_of := He.glo_ok X G (cd.fact 8 (f := .glo "outs_of") rfl)
  have D_outs_of : DefAt K mg "outs_of" s_outs_of ["web", "ways"] _ fd_outs_of := ⟨F_outs_of, g_outs_of, FunD.bindsN F_outs_of fun _ _ _ _ _ _ us hl => match us, hl with | [_, _], _ => rfl⟩
  obtain ⟨fd__law_mixed, F__law_mixed⟩ := cd.def_ 9 (d := d_law_mixed) rfl
  have g__law_mixed := He.glo_ok X G (cd.fact 9 (f := .glo "_law_mixed") rfl)
  have D__law_mixed : DefAt K mg "_law_mixed" s_law_mixed ["_law_cell", "_law_k"] _ fd__law_mixed := ⟨F__law_mixed, g__law_mixed, FunD.bindsN F__law_mixed fun _ _ _ _ _ _ us hl => match us, hl with | [_, _], _ => rfl⟩
  obtain ⟨fd__law_deck, F__law_deck⟩ := cd.def_ 10 (d := d_law_deck) rfl
  have g__law_deck := He.glo_ok X G (cd.fact 10 (f := .glo "_law_deck") rfl)
  have D__law_deck : DefAt K mg "_law_deck" s_law_deck ["_law_script", "_law_many"] _ fd__law_deck := ⟨F__law_deck, g__law_deck, FunD.bindsN F__law_deck fun _ _ _ _ _ _ us hl => match us, hl with | [_, _], _ => rfl⟩
  obtain ⟨fd__law_next, F__law_next⟩ := cd.def_ 11 (d := d_law_next) rfl
  have g__law_next := He.glo_ok X G (cd.fact 11 (f := .glo "_law_next") rfl)
  have D__law_next : DefAt K mg "_law_next" s_law_next ["_law_deck_here"] _ fd__law_next := ⟨F__law_next, g__law_next, FunD.bindsN F__law_next fun _ _ _ _ _ _ us hl => match us, hl with | [_], _ => rfl⟩
  obtain ⟨fd__law_tie, F__law_tie⟩ := cd.def_ 12 (d := d_law_tie) rfl
  have g__law_tie := He.glo_ok X G (cd.fact 12 (f := .glo "_law_tie") rfl)
  have D__law_tie : DefAt K mg "_law_tie" s_law_tie ["_law_deck_here", "_law_points"] _ fd__law_tie := ⟨F__law_tie, g__law_tie, FunD.bindsN F__law_tie fun _ _ _ _ _ _ us hl => match us, hl with | [_, _], _ => rfl⟩
  obtain ⟨fd__law_any_web, F__law_any_web⟩ := cd.def_ 13 (d := d_law_any_web) rfl
  have g__law_any_web := He.glo_ok X G (cd.fact 13 (f := .glo "_law_any_web") rfl)
  have D__law_any_web : DefAt K mg "_law_any_web" s_law_any_web ["_law_deck_here", "_law_points", "_law_most"] _ fd__law_any_web := ⟨F__law_any_web, g__law_any_web, FunD.bindsN F__law_any_web fun _ _ _ _ _ _ us hl => match us, hl with | [_, _, _], _ => rfl⟩
  obtain ⟨fd__law_round, F__law_round⟩ := cd.def_ 14 (d := d_law_round) rfl
  have g__law_round := He.glo_ok X G (cd.fact 14 (f := .glo "_law_round") rfl)
  have D__law_round : DefAt K mg "_law_round" s_law_round ["_law_points"] _ fd__law_round := ⟨F__law_round, g__law_round, FunD.bindsN F__law_round fun _ _ _ _ _ _ us hl => match us, hl with | [_], _ => rfl⟩
  obtain ⟨fd__law_full, F__law_full⟩ := cd.def_ 15 (d := d_law_full) rfl
  have g__law_full := He.glo_ok X G (cd.fact 15 (f := .glo "_law_full") rfl)
  have D__law_full : DefAt K mg "_law_full" s_law_full ["_law_points"] _ fd__law_full := ⟨F__law_full, g__law_full, FunD.bindsN F__law_full fun _ _ _ _ _ _ us hl => match us, hl with | [_], _ => rfl⟩
  obtain ⟨fd__law_tree, F__law_tree⟩ := cd.def_ 16 (d := d_law_tree) rfl
  have g__law_tree := He.glo_ok X G (cd.fact 16 (f := .glo "_law_tree") rfl)
  have D__law_tree : DefAt K mg "_law_tree" s_law_tree ["_law_deck_here", "_law_points"] _ fd__law_tree := ⟨F__law_tree, g__law_tree, FunD.bindsN F__law_tree fun _ _ _ _ _ _ us hl => match us, hl with | [_, _], _ => rfl⟩
  obtain ⟨fd__law_web, F__law_web⟩ := cd.def_ 17 (d := d_law_web) rfl
  have g__law_web := He.glo_ok X G (cd.fact 17 (f := .glo "_law_web") rfl)
  have D__law_web : DefAt K mg "_law_web" s_law_web ["_law_deck_here", "_law_points", "_law_most"] _ fd__law_web := ⟨F__law_web, g__law_web, FunD.bindsN F__law_web fun _ _ _ _ _ _ us hl => match us, hl with | [_, _, _], _ => rfl⟩
  obtain ⟨fd__law_within, F__law_within⟩ := cd.def_ 18 (d := d_law_within) rfl
  have g__law_within := He.glo_ok X G (cd.fact 18 (f := .glo "_law_within") rfl)
  have D__law_within : DefAt K mg "_law_within" s_law_within ["_law_web_here", "_law_lot_here"] _ fd__law_within := ⟨F__law_within, g__law_within, FunD.bindsN F__law_within fun _ _ _ _ _ _ us hl => match us, hl with | [_, _], _ => rfl⟩
  obtain ⟨fd__law_is_int, F__law_is_int⟩ := cd.def_ 19 (d := d_law_is_int) rfl
  have g__law_is_int := He.glo_ok X G (cd.fact 19 (f := .glo "_law_is_int") rfl)
  have D__law_is_int : DefAt K mg "_law_is_int" s_law_is_int ["_law_thing", "_law_least", "_law_most"] _ fd__law_is_int := ⟨F__law_is_int, g__law_is_int, FunD.bindsN F__law_is_int fun _ _ _ _ _ _ us hl => match us, hl with | [_, _, _], _ => rfl⟩
  obtain ⟨fd__law_is_true, F__law_is_true⟩ := cd.def_ 20 (d := d_law_is_true) rfl
  have g__law_is_true := He.glo_ok X G (cd.fact 20 (f := .glo "_law_is_true") rfl)
  have D__law_is_true : DefAt K mg "_law_is_true" s_law_is_true ["_law_found", "_law_due"] _ fd__law_is_true := ⟨F__law_is_true, g__law_is_true, FunD.bindsN F__law_is_true fun _ _ _ _ _ _ us hl => match us, hl with | [_, _], _ => rfl⟩
  obtain ⟨fd__law_lot, F__law_lot⟩ := cd.def_ 21 (d := d_law_lot) rfl
  have g__law_lot := He.glo_ok X G (cd.fact 21 (f := .glo "_law_lot") rfl)
  have D__law_lot : DefAt K mg "_law_lot" s_law_lot ["_law_deck_here", "_law_points"] _ fd__law_lot := ⟨F__law_lot, g__law_lot, FunD.bindsN F__law_lot fun _ _ _ _ _ _ us hl => match us, hl with | [_, _], _ => rfl⟩
  obtain ⟨fd__law_odd_things, F__law_odd_things⟩ := cd.def_ 22 (d := d_law_odd_things) rfl
  have g__law_odd_things := He.glo_ok X G (cd.fact 22 (f := .glo "_law_odd_things") rfl)
  have D__law_odd_things : DefAt K mg "_law_odd_things" s_law_odd_things [] _ fd__law_odd_things := ⟨F__law_odd_things, g__law_odd_things, FunD.bindsN F__law_odd_things fun _ _ _ _ _ _ us hl => match us, hl with | [], _ => rfl⟩
  obtain ⟨fd__law_ways, F__law_ways⟩ := cd.def_ 23 (d := d_law_ways) rfl
  have g__law_ways := He.glo_ok X G (cd.fact 23 (f := .glo "_law_ways") rfl)
  have D__law_ways : DefAt K mg "_law_ways" s_law_ways ["_law_deck_here", "_law_web_here"] _ fd__law_ways := ⟨F__law_ways, g__law_ways, FunD.bindsN F__law_ways fun _ _ _ _ _ _ us hl => match us, hl with | [_, _], _ => rfl⟩
  obtain ⟨fd__law_outs, F__law_outs⟩ := cd.def_ 24 (d := d_law_outs) rfl
  have g__law_outs := He.glo_ok X G (cd.fact 24 (f := .glo "_law_outs") rfl)
  have D__law_outs : DefAt K mg "_law_outs" s_law_outs ["_law_web_here", "_law_ways_here"] _ fd__law_outs := ⟨F__law_outs, g__law_outs, FunD.bindsN F__law_outs fun _ _ _ _ _ _ us hl => match us, hl with | [_, _], _ => rfl⟩
  obtain ⟨fd__law_is_ways, F__law_is_ways⟩ := cd.def_ 25 (d := d_law_is_ways) rfl
  have g__law_is_ways := He.glo_ok X G (cd.fact 25 (f := .glo "_law_is_ways") rfl)
  have D__law_is_ways : DefAt K mg "_law_is_ways" s_law_is_ways ["_law_web_here", "_law_d", "_law_thing"] _ fd__law_is_ways := ⟨F__law_is_ways, g__law_is_ways, FunD.bindsN F__law_is_ways fun _ _ _ _ _ _ us hl => match us, hl with | [_, _, _], _ => rfl⟩
  obtain ⟨fd__law_is_crowded, F__law_is_crowded⟩ := cd.def_ 26 (d := d_law_is_crowded) rfl
  have g__law_is_crowded := He.glo_ok X G (cd.fact 26 (f := .glo "_law_is_crowded") rfl)
  have D__law_is_crowded : DefAt K mg "_law_is_crowded" s_law_is_crowded ["_law_web_here", "_law_d", "_law_thing"] _ fd__law_is_crowded := ⟨F__law_is_crowded, g__law_is_crowded, FunD.bindsN F__law_is_crowded fun _ _ _ _ _ _ us hl => match us, hl with | [_, _, _], _ => rfl⟩
  obtain ⟨fd__law_bent_ways, F__law_bent_ways⟩ := cd.def_ 27 (d := d_law_bent_ways) rfl
  have g__law_bent_ways := He.glo_ok X G (cd.fact 27 (f := .glo "_law_bent_ways") rfl)
  have D__law_bent_ways : DefAt K mg "_law_bent_ways" s_law_bent_ways ["_law_deck_here", "_law_web_here", "_law_ways_here"] _ fd__law_bent_ways := ⟨F__law_bent_ways, g__law_bent_ways, FunD.bindsN F__law_bent_ways fun _ _ _ _ _ _ us hl => match us, hl with | [_, _, _], _ => rfl⟩
  obtain ⟨fd__law_bent_lots, F__law_bent_lots⟩ := cd.def_ 28 (d := d_law_bent_lots) rfl
  have g__law_bent_lots := He.glo_ok X G (cd.fact 28 (f := .glo "_law_bent_lots") rfl)
  have D__law_bent_lots : DefAt K mg "_law_bent_lots" s_law_bent_lots ["_law_deck_here", "_law_web_here", "_law_lot_here"] _ fd__law_bent_lots := ⟨F__law_bent_lots, g__law_bent_lots, FunD.bindsN F__law_bent_lots fun _ _ _ _ _ _ us hl => match us, hl with | [_, _, _], _ => rfl⟩
  obtain ⟨fd_law, F_law⟩ := cd.def_ 29 (d := d_law) rfl
  have g_law := He.glo_ok X G (cd.fact 29 (f := .glo "law") rfl)
  have D_law : DefAt K mg "law" s_law ["_law_script"] _ fd_law := ⟨F_law, g_law, FunD.bindsN F_law fun _ _ _ _ _ _ us hl => match us, hl with | [_], _ => rfl⟩
  have T : Blt mg := ⟨He.free_ok X G (cd.fact 30 (f := .free "all") rfl), He.free_ok X G (cd.fact 31 (f := .free "bool") rfl), He.free_ok X G (cd.fact 32 (f := .free "int") rfl), He.free_ok X G (cd.fact 33 (f := .free "isinstance") rfl), He.free_ok X G (cd.fact 34 (f := .free "len") rfl), He.free_ok X G (cd.fact 35 (f := .free "list") rfl), He.free_ok X G (cd.fact 36 (f := .free "max") rfl), He.free_ok X G (cd.fact 37 (f := .free "min") rfl), He.free_ok X G (cd.fact 38 (f := .free "range") rfl), He.free_ok X G (cd.fact 39 (f := .free "reversed") rfl), He.free_ok X G (cd.fact 40 (f := .free "str") rfl), He.free_ok X G (cd.fact 41 (f := .free "sum") rfl), He.free_ok X G (cd.fact 42 (f := .free "tuple") rfl), He.free_ok X G (cd.fact 43 (f := .free "zip") rfl)⟩
  cases hfa.symm.trans g_law
  obtain ⟨cc_ties_within, hcd_ties_within⟩ := code_at F_ties_within
  obtain ⟨cc_is_ways, hcd_is_ways⟩ := code_at F_is_ways
  have bl := FunD.bindsA (ps := ["_law_script"]) F_law fun _ _ _ _ _ _ us hl => match us, hl with | [_], _ => rfl
  refine ⟨fd_law, tf.map (He.cT K), sp_law K (tf.map fun p => (He.cT K p).2), fun p hp => ?_, fun p hp => ?_, fun p hp => ?_, fun s v => bl s [v] rfl, fun H a ns hl hbits hH hS => ?_, fun base KB GB hTB => ?_⟩
  · obtain ⟨d, hd, rfl⟩ := List.mem_map.mp hp
    exact c.empty d hd
  · obtain ⟨d, hd, rfl⟩ := List.mem_map.mp hp
    exact c.out d hd
  · obtain ⟨d, hd, rfl⟩ := List.mem_map.mp hp
    exact PySem.W.codeHd_of_K X (c.hd d hd)
  · exact law_start hl hbits (fun P hP => by
      obtain ⟨d, hd, rfl⟩ := List.mem_map.mp hP
      exact ⟨#[], hH _ (List.mem_map.mpr ⟨d, hd, rfl⟩), trivial⟩) hS
  · have G_is_number := ok_is_number (P := PySem.Challenge.rw_fewforests_k50_ways_bent.prog) (w := w) (base := base) (tb := tf.map fun p => (He.cT K p).2) T D_is_number
    have G_is_rising := ok_is_rising (P := PySem.Challenge.rw_fewforests_k50_ways_bent.prog) (w := w) (base := base) (tb := tf.map fun p => (He.cT K p).2) T D_is_rising D_is_number G_is_number
    have G_shares_of := ok_shares_of (P := PySem.Challenge.rw_fewforests_k50_ways_bent.prog) (w := w) (base := base) (tb := tf.map fun p => (He.cT K p).2) T D_shares_of
    have G_ties_within := ok_ties_within (P := PySem.Challenge.rw_fewforests_k50_ways_bent.prog) (w := w) (base := base) (tb := tf.map fun p => (He.cT K p).2) T D_ties_within (hTB (He.cT K ("ties_within", none)) (List.mem_map.mpr ⟨("ties_within", none), by decide, rfl⟩)) (code_is F_ties_within hcd_ties_within) (List.mem_map.mpr ⟨("ties_within", none), by decide, rfl⟩)
    have G_is_lot := ok_is_lot (P := PySem.Challenge.rw_fewforests_k50_ways_bent.prog) (w := w) (base := base) (tb := tf.map fun p => (He.cT K p).2) T D_is_lot D_is_rising G_is_rising
    have G_is_ways := ok_is_ways (P := PySem.Challenge.rw_fewforests_k50_ways_bent.prog) (w := w) (base := base) (tb := tf.map fun p => (He.cT K p).2) T D_is_ways D_is_number G_is_number (hTB (He.cT K ("is_ways", none)) (List.mem_map.mpr ⟨("is_ways", none), by decide, rfl⟩)) (code_is F_is_ways hcd_is_ways) (List.mem_map.mpr ⟨("is_ways", none), by decide, rfl⟩)
    have G_outs_of := ok_outs_of (P := PySem.Challenge.rw_fewforests_k50_ways_bent.prog) (w := w) (base := base) (tb := tf.map fun p => (He.cT K p).2) T D_outs_of D_shares_of G_shares_of
    have G_right_ways := ok_right_ways (P := PySem.Challenge.rw_fewforests_k50_ways_bent.prog) (w := w) (base := base) (tb := tf.map fun p => (He.cT K p).2) T D_right_ways D_is_ways G_is_ways D_outs_of G_outs_of
    have G_right_crowded := ok_right_crowded (P := PySem.Challenge.rw_fewforests_k50_ways_bent.prog) (w := w) (base := base) (tb := tf.map fun p => (He.cT K p).2) T D_right_crowded D_ties_within G_ties_within D_is_lot G_is_lot
    have G__law_mixed := ok__law_mixed (P := PySem.Challenge.rw_fewforests_k50_ways_bent.prog) (w := w) (base := base) (tb := tf.map fun p => (He.cT K p).2) T D__law_mixed
    have G__law_deck := ok__law_deck (P := PySem.Challenge.rw_fewforests_k50_ways_bent.prog) (w := w) (base := base) (tb := tf.map fun p => (He.cT K p).2) T D__law_deck D__law_mixed G__law_mixed
    have G__law_next := ok__law_next (P := PySem.Challenge.rw_fewforests_k50_ways_bent.prog) (w := w) (base := base) (tb := tf.map fun p => (He.cT K p).2) T D__law_next
    have G__law_tie := ok__law_tie (P := PySem.Challenge.rw_fewforests_k50_ways_bent.prog) (w := w) (base := base) (tb := tf.map fun p => (He.cT K p).2) T D__law_tie D__law_next G__law_next
    have G__law_any_web := ok__law_any_web (P := PySem.Challenge.rw_fewforests_k50_ways_bent.prog) (w := w) (base := base) (tb := tf.map fun p => (He.cT K p).2) T D__law_any_web D__law_next G__law_next D__law_tie G__law_tie
    have G__law_round := ok__law_round (P := PySem.Challenge.rw_fewforests_k50_ways_bent.prog) (w := w) (base := base) (tb := tf.map fun p => (He.cT K p).2) T D__law_round
    have G__law_full := ok__law_full (P := PySem.Challenge.rw_fewforests_k50_ways_bent.prog) (w := w) (base := base) (tb := tf.map fun p => (He.cT K p).2) T D__law_full
    have G__law_tree := ok__law_tree (P := PySem.Challenge.rw_fewforests_k50_ways_bent.prog) (w := w) (base := base) (tb := tf.map fun p => (He.cT K p).2) T D__law_tree D__law_next G__law_next
    have G__law_web := ok__law_web (P := PySem.Challenge.rw_fewforests_k50_ways_bent.prog) (w := w) (base := base) (tb := tf.map fun p => (He.cT K p).2) T D__law_web D__law_next G__law_next D__law_any_web G__law_any_web D__law_round G__law_round D__law_full G__law_full D__law_tree G__law_tree
    have G__law_within := ok__law_within (P := PySem.Challenge.rw_fewforests_k50_ways_bent.prog) (w := w) (base := base) (tb := tf.map fun p => (He.cT K p).2) T D__law_within
    have G__law_is_int := ok__law_is_int (P := PySem.Challenge.rw_fewforests_k50_ways_bent.prog) (w := w) (base := base) (tb := tf.map fun p => (He.cT K p).2) T D__law_is_int
    have G__law_is_true := ok__law_is_true (P := PySem.Challenge.rw_fewforests_k50_ways_bent.prog) (w := w) (base := base) (tb := tf.map fun p => (He.cT K p).2) T D__law_is_true
    have G__law_lot := ok__law_lot (P := PySem.Challenge.rw_fewforests_k50_ways_bent.prog) (w := w) (base := base) (tb := tf.map fun p => (He.cT K p).2) T D__law_lot D__law_next G__law_next
    have G__law_odd_things := ok__law_odd_things (P := PySem.Challenge.rw_fewforests_k50_ways_bent.prog) (w := w) (base := base) (tb := tf.map fun p => (He.cT K p).2) T D__law_odd_things
    have G__law_ways := ok__law_ways (P := PySem.Challenge.rw_fewforests_k50_ways_bent.prog) (w := w) (base := base) (tb := tf.map fun p => (He.cT K p).2) T D__law_ways D__law_next G__law_next
    have G__law_outs := ok__law_outs (P := PySem.Challenge.rw_fewforests_k50_ways_bent.prog) (w := w) (base := base) (tb := tf.map fun p => (He.cT K p).2) T D__law_outs
    have G__law_is_ways := ok__law_is_ways (P := PySem.Challenge.rw_fewforests_k50_ways_bent.prog) (w := w) (base := base) (tb := tf.map fun p => (He.cT K p).2) T D__law_is_ways D__law_is_int G__law_is_int D__law_outs G__law_outs
    have G__law_is_crowded := ok__law_is_crowded (P := PySem.Challenge.rw_fewforests_k50_ways_bent.prog) (w := w) (base := base) (tb := tf.map fun p => (He.cT K p).2) T D__law_is_crowded D__law_within G__law_within D__law_is_int G__law_is_int
    have G__law_bent_ways := ok__law_bent_ways (P := PySem.Challenge.rw_fewforests_k50_ways_bent.prog) (w := w) (base := base) (tb := tf.map fun p => (He.cT K p).2) T D__law_bent_ways D__law_next G__law_next
    have G__law_bent_lots := ok__law_bent_lots (P := PySem.Challenge.rw_fewforests_k50_ways_bent.prog) (w := w) (base := base) (tb := tf.map fun p => (He.cT K p).2) T D__law_bent_lots D__law_next G__law_next
    have G_law := ok_law (P := PySem.Challenge.rw_fewforests_k50_ways_bent.prog) (w := w) (base := base) (tb := tf.map fun p => (He.cT K p).2) T D_law D_right_ways G_right_ways D_right_crowded G_right_crowded D__law_deck G__law_deck D__law_web G__law_web D__law_within G__law_within D__law_is_true G__law_is_true D__law_lot G__law_lot D__law_odd_things G__law_odd_things D__law_ways G__law_ways D__law_outs G__law_outs D__law_is_ways G__law_is_ways D__law_is_crowded G__law_is_crowded D__law_bent_ways G__law_bent_ways D__law_bent_lots G__law_bent_lots
    exact G_law
end FF
open PySem PySem.W PySem.Calls PyProof.Rows
theorem PySem.Challenge.cw_fewforests_k50_ways_bent_holds : PySem.Challenge.rw_fewforests_k50_ways_bent.Holds := by
  w_on; o_law
  refine HandSHeadRun.head_any (r := OpenLaw.row PySem.Challenge.rw_fewforests_k50_ways_bent) (q := view (OpenLaw.row PySem.Challenge.rw_fewforests_k50_ways_bent).prog [34]) (H := FF.hk) (ob := FF.ob) (M := 3000) (loose := FF.loose) (d := HandSHeadRun.topDef (OpenLaw.row PySem.Challenge.rw_fewforests_k50_ways_bent).prog 34) (kwd := []) FF.ob_eq
    (by kernel_rfl) (fun s => by kernel_rfl) FF.run (by kernel_rfl) (by kernel_rfl) (by kernel_rfl) (by rfl) (by first | assumption | decide +kernel) (by decide +kernel) ⟨rfl, rfl, rfl, rfl, rfl, by decide +kernel⟩ ?hw ?hc
  case hw => w_witness2
  case hc =>
    refine LamX.walk_ofTsE (l := PySem.Challenge.rw_fewforests_k50_ways_bent) (n := 63) (k := 7) (x := "_law_script") (CX := fun _ => L2.CX0) rfl (by decide) (by kernel_rfl) ⟨rfl, by decide, by decide⟩ ?F (fun _ _ _ _ _ z => z)
    intro w mg fa h Y G hmg0
    obtain ⟨K, KX, c⟩ := Y
    have hmg : mg ("law" : PySem.Str) = some (.ref fa) := by
      have e : (HandSHeadRun.topDef (OpenLaw.row PySem.Challenge.rw_fewforests_k50_ways_bent).prog 34).name = ("law" : PySem.Str) := by kernel_rfl
      rw [← e]
      exact hmg0
    exact ⟨K, KX, FF.lawAt KX G hmg c⟩
